/-
  Package msg: takeNums, numbers that no count precedes.
-/
import Derived.Test.YtnbjlhbaeghihaaMsgC
import Derived.Laws.OwnMore
namespace Go.Proofs.Ytnbjlhbaeghihaa
open Go.RowKit
open Go.Lib (uvarint uvarint_small uvarint_big uvarint_length64 uvarint_pos byteCells)
open Leb (dec decT decL takeNs takeTs encT encN encL encNs encTs)
open Msg (numOf lowOf highOf form chk enc dm)

theorem set_at {l : List Nat} {c x : Nat} (h : l.length < c) :
    (nums l ++ List.replicate (c - l.length) (Value.int .u64 0)).set l.length (Value.int .u64 (x : Int)) = nums (l ++ [x]) ++ List.replicate (c - (l.length + 1)) (Value.int .u64 0) := by
  obtain ⟨d, hd⟩ : ∃ d, c - l.length = d + 1 := ⟨c - l.length - 1, by omega⟩
  have h2 : c - (l.length + 1) = d := by omega
  have h3 : (nums l).length = l.length := by simp [nums]
  rw [hd, h2, List.replicate_succ, nums_snoc, List.append_assoc, List.set_append_right _ _ (by omega), h3, Nat.sub_self]
  rfl

set_option maxHeartbeats 2000000 in
set_option maxRecDepth 100000 in
theorem mTakeNums_any (l : List UInt8) (hl : l.length ≤ 1099511627776) (c : Nat) (hc : c ≤ 1048576) (w : World) :
    Calls Try.prog 26 #[.string ⟨l.toArray⟩, .int .i64 c] w fun e w' => ListEnd nums (takeNs c l) e w' ∧ Below w.heap.size w w' := by
  obtain ⟨i0, hi, hz0, hz1, hz2⟩ := info_parts infoU64
  obtain ⟨w1, hrun, hown, hgr⟩ := run_make_full (P := Try.prog) w w.heap.size 22 41 i0 (.int .u64 0) 1 Try.underlying22 hi hz0 hz1 .i64 .i64 c (by rw [hz2]; omega) (by unfold maxLen; omega) (Nat.le_refl _)
  have hmc : (madeCells (Value.int .u64 0).cells (c * 1)).toList = List.replicate c (Value.int .u64 0) := by
    rw [Nat.mul_one]
    exact toList_madeCells_one _ _
  rw [hmc] at hown
  have hb0 : Below w.heap.size w w1 := (Below.refl _ w).grown hgr (Nat.le_refl _) (fun k h => by cases h)
  clear hmc hgr hi hz0 hz1 hz2
  go_enter Try.func26, Try.ntmps26
  go_wp2
  clear hrun
  go_loopw [0, 14] (fun vs vi wr => ∃ (xs : List Nat) (r : List UInt8), xs.length ≤ c ∧ vi = .int .i64 xs.length ∧ vs = .string ⟨r.toArray⟩ ∧ r.length ≤ l.length ∧ Hid (takeNs c l = ahead xs (takeNs (c - xs.length) r)) ∧
      wr.ownsRow w.heap.size 41 1 (.slice (some ⟨w.heap.size, 0, none⟩) c c) c (nums xs ++ List.replicate (c - xs.length) (Value.int .u64 0)) ∧ Below w.heap.size w wr)
    (fun _ vi _ => c - (intOf vi).toNat)
  case atStart => exact ⟨[], l, Nat.zero_le _, rfl, rfl, Nat.le_refl _, Lib.hid (by rw [ahead_nil]; rfl), by simpa [nums] using hown, hb0⟩
  case round =>
    obtain ⟨xs, r, hj, rfl, rfl, hrl, Ht, hown1, hb1⟩ := hrel
    by_cases hlt : xs.length < c
    · have hlt2 : (xs.length : Int) < (c : Int) := by omega
      have H := takeUint_list r (by omega) wr
      have Hst := fun x => Lib.hid (set_at (x := x) hlt)
      obtain ⟨d, hd⟩ : ∃ d, c - xs.length = d + 1 := ⟨c - xs.length - 1, by omega⟩
      have hd2 : c - (xs.length + 1) = d := by omega
      have hx2 : (nums xs).length = xs.length := by simp [nums]
      cases hdec : dec r with
      | none =>
        rw [hdec] at H
        go_wp2_with fail
        refine H.mono ?_
        rintro e w2 ⟨rfl, hb2⟩
        simp only [uintRes]
        have hown2 := own_below hown1 hb2
        have c0 : w2.cell? ⟨w.heap.size, xs.length, none⟩ = some (.int .u64 0) := by
          rw [hown2.cellAt _ (by omega), List.getElem?_append_right (by omega), hx2, Nat.sub_self, hd]
          rfl
        have f0 := hown2.frozenAt xs.length
        have hb3 := hb1.trans (hb2.mono hb1.size)
        have hres : takeNs c l = none := by rw [Ht.out, hd, ahead_numNo hdec]
        clear H hb2 hb1 hown1 Hst hd hd2 hx2 hdec Ht
        go_wp2
        go_ret3
        exact ⟨by rw [hres]; rfl, hb3.setCell (p := ⟨w.heap.size, xs.length, none⟩) (Nat.le_refl _) _⟩
      | some p =>
        obtain ⟨x, r'⟩ := p
        rw [hdec] at H
        have hrl2 := Leb.dec_lt hdec
        go_wp2_with fail
        refine H.mono ?_
        rintro e w2 ⟨rfl, hb2⟩
        simp only [uintRes]
        have hown2 := own_below hown1 hb2
        have c0 : w2.cell? ⟨w.heap.size, xs.length, none⟩ = some (.int .u64 0) := by
          rw [hown2.cellAt _ (by omega), List.getElem?_append_right (by omega), hx2, Nat.sub_self, hd]
          rfl
        have f0 := hown2.frozenAt xs.length
        have hown3 := (hown2.stored xs.length (.int .u64 (x : Int))).1
        rw [(Hst x).out] at hown3
        have hb3 := (hb1.trans (hb2.mono hb1.size)).setCell (p := ⟨w.heap.size, xs.length, none⟩) (Nat.le_refl _) (.int .u64 (x : Int))
        have Ht2 := Lib.hid (show takeNs c l = ahead (xs ++ [x]) (takeNs (c - (xs.length + 1)) r') by rw [Ht.out, hd, hd2, ahead_num hdec])
        clear H hb2 hb1 hown1 hown2 Hst hd hd2 hx2 hdec Ht
        go_wp2
        go_roundw
        case rel =>
          refine ⟨xs ++ [x], r', by rw [List.length_append, List.length_singleton]; omega, by rw [List.length_append, List.length_singleton]; go_num, rfl, by omega, ?_, ?_, hb3⟩
          · rw [List.length_append, List.length_singleton]
            exact Ht2
          · rw [List.length_append, List.length_singleton]
            exact hown3
        case measure => simp [intOf]; omega
    · obtain rfl : xs.length = c := by omega
      have hres : takeNs xs.length l = some (xs, r) := by
        rw [Ht.out, Nat.sub_self]
        simp [takeNs, ahead]
      rw [Nat.sub_self, List.replicate_zero, List.append_nil] at hown1
      have hrd := Kit.Rd.of_own hown1
      clear Ht hown1 hown
      go_wp2
      go_ret3
      exact ⟨by rw [hres]; exact ⟨_, rfl, hrd⟩, hb1⟩
end Go.Proofs.Ytnbjlhbaeghihaa
