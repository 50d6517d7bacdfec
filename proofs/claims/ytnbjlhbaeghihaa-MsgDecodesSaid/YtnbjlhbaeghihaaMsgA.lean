/-
  Package msg, the small functions: whether a count of texts fits a shape, and the bytes ahead of a message's texts.
-/
import Derived.Test.YtnbjlhbaeghihaaMsgS
import Derived.Test.YtnbjlhbaeghihaaWalksH
namespace Go.Proofs.Ytnbjlhbaeghihaa
open Go.RowKit
open Go.Lib (uvarint uvarint_small uvarint_big uvarint_length64 uvarint_pos byteCells)
open Leb (dec decT decL takeNs takeTs encT encN encL encNs encTs)
open Msg (numOf lowOf highOf form chk enc dm)

set_option maxHeartbeats 2000000 in
set_option maxRecDepth 100000 in
theorem has_any (a b c n : Int) (w : World) :
    Calls Try.prog 20 #[.agg #[.int .i64 a, .int .i64 b, .int .i64 c], .int .i64 n] w fun e w' => e = .returned (.bool (decide (b ≤ n ∧ n ≤ c))) ∧ Below w.heap.size w w' := by
  by_cases h1 : b ≤ n
  · by_cases h2 : n ≤ c
    · rw [decide_eq_true (show b ≤ n ∧ n ≤ c from ⟨h1, h2⟩)]
      go_enter Try.func20, Try.ntmps20
      go_wp2
      go_ret
      refine ⟨rfl, ?_⟩
      go_grown
    · rw [decide_eq_false (show ¬ (b ≤ n ∧ n ≤ c) from fun h => h2 h.2)]
      go_enter Try.func20, Try.ntmps20
      go_wp2
      go_ret
      refine ⟨rfl, ?_⟩
      go_grown
  · rw [decide_eq_false (show ¬ (b ≤ n ∧ n ≤ c) from fun h => h1 h.1)]
    go_enter Try.func20, Try.ntmps20
    go_wp2
    go_ret
    refine ⟨rfl, ?_⟩
    go_grown

theorem encNs_len5 : ∀ (l : List Nat), (∀ x ∈ l, x < 18446744073709551616) → (encNs l).length ≤ 10 * l.length
  | [], _ => by simp [encNs]
  | x :: l, h => by
    have h1 := encNs_len5 l (fun y hy => h y (by simp [hy]))
    have h2 := uvarint_length64 (h x (by simp))
    simp only [encNs, List.length_append, List.length_cons]
    omega
theorem snoc_nums {ns : List Nat} {k : Nat} (hlt : k < ns.length) (p : List UInt8) : p ++ encNs (ns.take (k + 1)) = (p ++ encNs (ns.take k)) ++ uvarint ns[k] := by
  rw [List.take_succ_eq_append_getElem hlt, Leb.encNs_append, List.append_assoc]
  simp [encNs]
theorem take_len5 {ns : List Nat} {k : Nat} (hl : ns.length ≤ 5) (hx : ∀ x ∈ ns, x < 18446744073709551616) : (encNs (ns.take k)).length ≤ 50 := by
  have h := encNs_len5 (ns.take k) (fun x h => hx x (List.mem_of_mem_take h))
  rw [List.length_take] at h
  omega

set_option maxHeartbeats 2000000 in
set_option maxRecDepth 100000 in
theorem head_any (k : Nat) (hk : k < 8) (ns : List Nat) (hx : ∀ x ∈ ns, x < 18446744073709551616) (hl : ns.length ≤ 5) (vn vt : Value) (w : World) (hv : Kit.Rd w vn (nums ns)) :
    Calls Try.prog 16 #[.agg #[.int .i64 k, vn, vt]] w fun e w' => e = .returned (.string ⟨(uvarint k ++ encNs ns).toArray⟩) ∧ Below w.heap.size w w' := by
  obtain ⟨a, cap, rfl⟩ := hv.form
  have hll : (nums ns).length = ns.length := by simp [nums]
  rw [hll] at hv ⊢
  clear hll
  have hku : IntKind.u64.wrap (k : Int) = (k : Int) := by rw [IntKind.wrap_u64]; omega
  have H1 := fun w => putUint_any k (by omega) w
  have hul := uvarint_length64 (show k < 18446744073709551616 by omega)
  have hup := uvarint_pos k
  have hfr := Bld.fresh (w.alloc (.cells #[.int .i64 k, .slice a ns.length cap, vt] 25))
  rw [World.size_alloc] at hfr
  have hc0 : Below w.heap.size w ((w.alloc (.cells #[.int .i64 k, .slice a ns.length cap, vt] 25)).alloc (.cells #[.pointer none, .slice none 0 0] 59)) := ((Below.refl _ w).alloc (Nat.le_refl _) _).alloc (by simp) _
  have hq : ((w.alloc (.cells #[.int .i64 k, .slice a ns.length cap, vt] 25)).alloc (.cells #[.pointer none, .slice none 0 0] 59)).cell? ⟨w.heap.size, 1, none⟩ = some (.slice a ns.length cap) := by go_cell
  go_enter Try.func16, Try.ntmps16
  go_wp2_with fail
  refine (H1 _).mono ?_
  rintro e w1 ⟨rfl, hb1⟩
  have hf1 := hfr.below hb1
  have hq1 := (hb1.cell (p := ⟨w.heap.size, 1, none⟩) (by simp <;> omega)).trans hq
  have hc1 := hc0.trans (hb1.mono hc0.size)
  clear hfr hq hb1 H1 hc0
  go_wp2_with fail
  refine (writeString_any _ _ _ _ _ hf1 (by simp only [List.length_nil]; omega) (by have := hf1.lt; omega)).mono ?_
  rintro e w2 ⟨rfl, hf2, hb2⟩
  rw [List.nil_append] at hf2
  have hq2 := (hb2.cell (p := ⟨w.heap.size, 1, none⟩) (by simp <;> omega)).trans hq1
  have hc2 := hc1.trans (hb2.mono (by omega))
  clear hf1 hq1 hb2 hc1
  go_wp2
  go_loopw [14] (fun vi wr => ∃ j : Nat, j ≤ ns.length ∧ vi = .int .i64 j ∧ Bld (w.heap.size + 1) (w.heap.size + 1) (uvarint k ++ encNs (ns.take j)) wr ∧ Below w.heap.size w wr)
    (fun vi _ => ns.length - (intOf vi).toNat)
  case atStart => exact ⟨0, Nat.zero_le _, rfl, by simpa [encNs] using hf2, hc2⟩
  case round =>
    obtain ⟨j, hj, rfl, hf3, hc3⟩ := hrel
    by_cases hlt : j < ns.length
    · obtain ⟨ad, rfl, hc⟩ := (hv.below hc3).at_ (k := j) (u := .int .u64 (ns[j] : Nat)) (by simp [nums, hlt])
      have Hsn := Lib.hid (snoc_nums hlt (uvarint k))
      have hul2 := uvarint_length64 (hx _ (List.getElem_mem hlt))
      have H := putUint_any ns[j] (hx _ (List.getElem_mem hlt)) wr
      have htl := take_len5 (k := j) hl hx
      have htot : (uvarint k ++ encNs (ns.take j)).length ≤ 60 := by rw [List.length_append]; omega
      generalize uvarint k ++ encNs (ns.take j) = pre at *
      go_wp2_with fail
      refine H.mono ?_
      rintro e w4 ⟨rfl, hb4⟩
      have hf4 := hf3.below hb4
      have hc4 := hc3.trans (hb4.mono hc3.size)
      clear H hf3 hc3 hb4 hc
      go_wp2_with fail
      refine (writeString_any _ _ _ _ _ hf4 (by omega) (by have := hf4.lt; omega)).mono ?_
      rintro e w5 ⟨rfl, hf5, hb5⟩
      have hc5 := hc4.trans (hb5.mono (by omega))
      clear hf4 hc4 hb5
      go_wp2
      go_roundw
      case rel =>
        refine ⟨j + 1, by omega, by go_num, ?_, hc5⟩
        rw [Hsn.out]
        exact hf5
      case measure => simp [intOf]; omega
    · obtain rfl : j = ns.length := by omega
      have hne : uvarint k ++ encNs (ns.take ns.length) ≠ [] := by
        intro h
        have := congrArg List.length h
        rw [List.length_append] at this
        simp only [List.length_nil] at this
        omega
      rw [List.take_length] at hf3 hne
      go_wp2_with fail
      refine (bldString_any _ _ _ _ hf3 hne).mono ?_
      rintro e w4 ⟨rfl, hb4⟩
      have hc4 := hc3.trans (hb4.mono (by omega))
      go_wp2
      go_ret
      exact ⟨rfl, hc4⟩
end Go.Proofs.Ytnbjlhbaeghihaa
