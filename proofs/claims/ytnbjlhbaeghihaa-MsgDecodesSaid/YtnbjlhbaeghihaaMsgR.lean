/-
  The document's own answer for messages: the numbers and texts of a kind, the bytes, whether it may be.
-/
import Derived.Test.YtnbjlhbaeghihaaMsgF
namespace Go.Proofs.Ytnbjlhbaeghihaa
open Go.RowKit
open Go.Lib (uvarint uvarint_small uvarint_big uvarint_length64 uvarint_pos byteCells)
open Leb (dec decT decL takeNs takeTs encT encN encL encNs encTs)
open Msg (numOf lowOf highOf form chk enc dm)

set_option maxHeartbeats 2000000 in
set_option maxRecDepth 100000 in
theorem rNum_any (n : Nat) (hn : n < 8) (w : World) : Calls Try.prog 22 #[.int .i64 n] w fun e w' => e = .returned (.int .i64 (numOf n : Nat)) ∧ Below w.heap.size w w' := by
  rcases Msg.eight hn with rfl | rfl | rfl | rfl | rfl | rfl | rfl | rfl
  all_goals
    go_enter Try.func22, Try.ntmps22
    go_wp2
    go_ret
    refine ⟨rfl, ?_⟩
    go_grown

set_option maxHeartbeats 2000000 in
set_option maxRecDepth 100000 in
theorem rLow_any (n : Nat) (hn : n < 8) (w : World) : Calls Try.prog 23 #[.int .i64 n] w fun e w' => e = .returned (.int .i64 (lowOf n : Nat)) ∧ Below w.heap.size w w' := by
  rcases Msg.eight hn with rfl | rfl | rfl | rfl | rfl | rfl | rfl | rfl
  all_goals
    go_enter Try.func23, Try.ntmps23
    go_wp2
    go_ret
    refine ⟨rfl, ?_⟩
    go_grown

set_option maxHeartbeats 2000000 in
set_option maxRecDepth 100000 in
theorem rHigh_any (n : Nat) (hn : n < 8) (w : World) : Calls Try.prog 24 #[.int .i64 n] w fun e w' => e = .returned (.int .i64 (highOf n : Nat)) ∧ Below w.heap.size w w' := by
  rcases Msg.eight hn with rfl | rfl | rfl | rfl | rfl | rfl | rfl | rfl
  all_goals
    go_enter Try.func24, Try.ntmps24
    go_wp2
    go_ret
    refine ⟨rfl, ?_⟩
    go_grown

set_option maxHeartbeats 4000000 in
set_option maxRecDepth 100000 in
theorem rLaid_any (n : Nat) (hn : n < 8) (ns : List Nat) (hx : ∀ x ∈ ns, x < 18446744073709551616) (hl : ns.length ≤ 5) (ts : List (List UInt8)) (hts : (encL ts).length + 10 ≤ 140737488355328)
    (vn vt : Value) (w : World) (hv : Kit.Rd w vn (nums ns)) (hvt : Kit.Rd w vt (strsL ts)) :
    Calls Try.prog 18 #[.agg #[.int .i64 n, vn, vt]] w fun e w' => e = .returned (.string ⟨(enc n ns ts).toArray⟩) ∧ Below w.heap.size w w' := by
  have HP := fun wx (h : Below w.heap.size w wx) => rPutListL_any ts hts vt wx (hvt.below h)
  obtain ⟨a, cap, rfl⟩ := hv.form
  rw [show (nums ns).length = ns.length by simp [nums]] at hv ⊢
  have hku : IntKind.u64.wrap (n : Int) = (n : Int) := by rw [IntKind.wrap_u64]; omega
  have H1 := fun w => rPutUint_any n (by omega) w
  have hul := uvarint_length64 (show n < 18446744073709551616 by omega)
  have T0 := Three.new w (.int .i64 n) (.slice a ns.length cap) vt 25
  have c0 : Below w.heap.size w (w.alloc (.cells #[.int .i64 n, .slice a ns.length cap, vt] 25)) := (Below.refl _ w).alloc (Nat.le_refl _) _
  clear hvt
  go_enter Try.func18, Try.ntmps18
  go_wp2_with fail
  refine (H1 _).mono ?_
  rintro e w1 ⟨rfl, hb1⟩
  have T1 := T0.below hb1
  have c1 := c0.trans (hb1.mono c0.size)
  clear T0 c0 hb1 H1
  go_wp2
  go_loopw [3, 4] (fun vs vi wr => ∃ j : Nat, j ≤ ns.length ∧ vi = .int .i64 j ∧ vs = .string ⟨(uvarint n ++ encNs (ns.take j)).toArray⟩ ∧ Three 25 wr w.heap.size (.int .i64 n) (.slice a ns.length cap) vt ∧ Below w.heap.size w wr)
    (fun _ vi _ => ns.length - (intOf vi).toNat)
  case atStart => exact ⟨0, Nat.zero_le _, rfl, by simp [encNs], T1, c1⟩
  case round =>
    obtain ⟨j, hj, rfl, rfl, T2, c2⟩ := hrel
    obtain ⟨-, ⟨p0, p1, p2⟩, -⟩ := T2.parts
    by_cases hlt : j < ns.length
    · obtain ⟨ad, rfl, hc⟩ := (hv.below c2).at_ (k := j) (u := .int .u64 (ns[j] : Nat)) (by simp [nums, hlt])
      have Hsn := Lib.hid (snoc_nums hlt (uvarint n))
      have hul2 := uvarint_length64 (hx _ (List.getElem_mem hlt))
      have H := rPutUint_any ns[j] (hx _ (List.getElem_mem hlt)) wr
      have htl := take_len5 (k := j) hl hx
      have htot : (uvarint n ++ encNs (ns.take j)).length ≤ 60 := by rw [List.length_append]; omega
      generalize uvarint n ++ encNs (ns.take j) = pre at *
      have hl2 : ¬ 9223372036854775807 < pre.length + (uvarint ns[j]).length := by omega
      go_wp2_with fail
      refine H.mono ?_
      rintro e w3 ⟨rfl, hb3⟩
      have c3 := c2.trans (hb3.mono c2.size)
      have T3 := T2.below hb3
      clear H c2 hb3 T2 p0 p1 p2
      go_wp2
      go_roundw
      case rel =>
        refine ⟨j + 1, by omega, by go_num, ?_, T3, c3⟩
        rw [Hsn.out, Kit.cat_bytes]
      case measure => simp [intOf]; omega
    · obtain rfl : j = ns.length := by omega
      have htl := take_len5 (k := ns.length) hl hx
      have hres : enc n ns ts = (uvarint n ++ encNs (ns.take ns.length)) ++ encL ts := by rw [List.take_length]; rfl
      have htot : (uvarint n ++ encNs (ns.take ns.length)).length ≤ 60 := by rw [List.length_append]; omega
      have Hr := Lib.hid hres
      clear hres
      generalize uvarint n ++ encNs (ns.take ns.length) = pre at *
      have hl2 : ¬ 9223372036854775807 < pre.length + (encL ts).length := by omega
      go_wp2_with fail
      refine (HP _ c2).mono ?_
      rintro e w3 ⟨rfl, hb3⟩
      have c3 := c2.trans (hb3.mono c2.size)
      clear c2 hb3 T2 p0 p1 p2 HP
      go_wp2
      go_ret
      exact ⟨by rw [Hr.out]; exact congrArg Ending.returned (congrArg Value.string (Kit.cat_bytes pre ⟨(encL ts).toArray⟩)), c3⟩
end Go.Proofs.Ytnbjlhbaeghihaa
