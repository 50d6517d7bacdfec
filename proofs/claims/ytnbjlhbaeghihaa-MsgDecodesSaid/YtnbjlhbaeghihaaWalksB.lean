/-
  What package wire's PutList does, and the document's own answers for lists.
-/
import Derived.Test.YtnbjlhbaeghihaaWalksA
namespace Go.Proofs.Ytnbjlhbaeghihaa
open Go.RowKit
open Go.Lib (uvarint uvarint_small uvarint_big uvarint_length64 uvarint_pos byteCells)
open Leb (encT encN encNs encL encTs)

theorem part_le {l : List Nat} (k : Nat) : (uvarint l.length ++ encNs (l.take k)).length ≤ (encN l).length := by
  have h1 : encNs l = encNs (l.take k) ++ encNs (l.drop k) := by rw [← Leb.encNs_append, List.take_append_drop]
  unfold encN
  rw [h1]
  simp only [List.length_append]
  omega
theorem snoc_num {l : List Nat} {k : Nat} (hlt : k < l.length) : uvarint l.length ++ encNs (l.take (k + 1)) = (uvarint l.length ++ encNs (l.take k)) ++ uvarint l[k] := by
  rw [List.take_succ_eq_append_getElem hlt, Leb.encNs_append, List.append_assoc]
  simp [encNs]
def bys (l : List ByteArray) : List (List UInt8) := l.map fun s => s.data.toList
theorem bys_take (l : List ByteArray) (k : Nat) : bys (l.take k) = (bys l).take k := by simp [bys]
theorem partL_le {l : List ByteArray} (k : Nat) : (uvarint l.length ++ encTs (bys (l.take k))).length ≤ (encL (bys l)).length := by
  have h1 : encTs (bys l) = encTs (bys (l.take k)) ++ encTs ((bys l).drop k) := by rw [← Leb.encTs_append, bys_take, List.take_append_drop]
  unfold encL
  rw [h1]
  simp only [List.length_append, bys, List.length_map]
  omega
theorem snoc_text {l : List ByteArray} {k : Nat} (hlt : k < l.length) : uvarint l.length ++ encTs (bys (l.take (k + 1))) = (uvarint l.length ++ encTs (bys (l.take k))) ++ encT l[k].data.toList := by
  rw [List.take_succ_eq_append_getElem hlt]
  simp only [bys, List.map_append, List.map_cons, List.map_nil]
  rw [Leb.encTs_append, List.append_assoc]
  simp [encTs]
theorem len_le (l : List ByteArray) : l.length ≤ (encL (bys l)).length := by
  have := Leb.encTs_length (bys l)
  have h : (bys l).length = l.length := by simp [bys]
  unfold encL
  rw [List.length_append]
  omega

set_option maxHeartbeats 1000000 in
set_option maxRecDepth 100000 in
theorem putList_any (l : List ByteArray) (hl : (encL (bys l)).length + 10 ≤ 140737488355328) (v : Value) (w : World) (hv : Kit.Rd w v (strs l)) :
    Calls Try.prog 17 #[v] w fun e w' => e = .returned (.string ⟨(encL (bys l)).toArray⟩) ∧ Below w.heap.size w w' := by
  obtain ⟨a, cap, rfl⟩ := hv.form
  have hll : (strs l).length = l.length := by simp [strs]
  rw [hll] at hv ⊢
  clear hll
  have hlm := len_le l
  have H := addUint_any w.heap.size 0 l.length (by omega) (.slice none 0 0) [] w (World.ownsRow_nil _ _ _ _) (Nat.le_refl _) (by omega)
  go_enter Try.func17, Try.ntmps17
  go_wp2_with fail
  refine H.mono ?_
  rintro e w1 ⟨v1, rfl, hown1, hb1⟩
  clear H
  go_wp2
  go_loopw [3, 12] (fun vb vi wr => ∃ k : Nat, k ≤ l.length ∧ vi = .int .i64 k ∧ wr.ownsRow w.heap.size 5 1 vb (uvarint l.length ++ encTs (bys (l.take k))).length (byteCells (uvarint l.length ++ encTs (bys (l.take k)))) ∧ Below w.heap.size w wr)
    (fun _ vi _ => l.length - (intOf vi).toNat)
  case atStart => exact ⟨0, Nat.zero_le _, rfl, by simpa [encTs, bys] using hown1, hb1⟩
  case round =>
    obtain ⟨k, hk, rfl, hown2, hb2⟩ := hrel
    by_cases hlt : k < l.length
    · obtain ⟨ad, rfl, hc⟩ := (hv.below hb2).at_ (k := k) (u := .string l[k]) (by simp [strs, hlt])
      have hle1 := partL_le (l := l) (k + 1)
      have Hsn := Lib.hid (snoc_text hlt)
      rw [snoc_text hlt] at hle1
      have hte : (encT l[k].data.toList).length = (uvarint l[k].size).length + l[k].size := by
        unfold encT
        rw [List.length_append, Kit.size_list]
      rw [List.length_append, hte] at hle1
      have H := fun vb (h : wr.ownsRow w.heap.size 5 1 vb (uvarint l.length ++ encTs (bys (l.take k))).length (byteCells (uvarint l.length ++ encTs (bys (l.take k))))) => addText_any w.heap.size _ l[k] vb _ wr h hb2.size (by omega)
      clear hle1 hte
      go_wp2_with fail
      refine (H _ hown2).mono ?_
      rintro e w3 ⟨v3, rfl, hown3, hb3⟩
      clear H
      go_wp2
      go_roundw
      case rel =>
        refine ⟨k + 1, by omega, by go_num, ?_, hb2.trans hb3⟩
        rw [Hsn.out, Lib.byteCells_append, List.length_append]
        exact hown3
      case measure => simp [intOf]; omega
    · obtain rfl : k = l.length := by omega
      have hcv := conv_any hown2
      go_wp2
      go_ret
      exact ⟨Kit.ret_str (by simp [encL, bys]), hb2⟩

set_option maxHeartbeats 1000000 in
set_option maxRecDepth 100000 in
theorem rPutList_any (l : List ByteArray) (hl : (encL (bys l)).length + 10 ≤ 140737488355328) (v : Value) (w : World) (hv : Kit.Rd w v (strs l)) :
    Calls Try.prog 38 #[v] w fun e w' => e = .returned (.string ⟨(encL (bys l)).toArray⟩) ∧ Below w.heap.size w w' := by
  obtain ⟨a, cap, rfl⟩ := hv.form
  have hll : (strs l).length = l.length := by simp [strs]
  rw [hll] at hv ⊢
  clear hll
  have hlm := len_le l
  have H := rPutUint_any l.length (by omega) w
  go_enter Try.func38, Try.ntmps38
  go_wp2_with fail
  refine H.mono ?_
  rintro e w1 ⟨rfl, hb1⟩
  clear H
  go_wp2
  go_loopw [3, 4] (fun vb vi wr => ∃ k : Nat, k ≤ l.length ∧ vi = .int .i64 k ∧ vb = .string ⟨(uvarint l.length ++ encTs (bys (l.take k))).toArray⟩ ∧ Below w.heap.size w wr)
    (fun _ vi _ => l.length - (intOf vi).toNat)
  case atStart => exact ⟨0, Nat.zero_le _, rfl, by simp [encTs, bys], hb1⟩
  case round =>
    obtain ⟨k, hk, rfl, rfl, hb2⟩ := hrel
    by_cases hlt : k < l.length
    · obtain ⟨ad, rfl, hc⟩ := (hv.below hb2).at_ (k := k) (u := .string l[k]) (by simp [strs, hlt])
      have hle1 := partL_le (l := l) (k + 1)
      have Hsn := Lib.hid (snoc_text hlt)
      rw [snoc_text hlt] at hle1
      have hte : (encT l[k].data.toList).length = (uvarint l[k].size).length + l[k].size := by
        unfold encT
        rw [List.length_append, Kit.size_list]
      rw [List.length_append] at hle1
      have hup := uvarint_pos l[k].size
      have H := rPutText_any l[k] (by rw [hte] at hle1; omega) wr
      clear hte hup
      generalize uvarint l.length ++ encTs (bys (l.take k)) = pre at *
      generalize encT l[k].data.toList = te at *
      have hl2 : ¬ 9223372036854775807 < pre.length + te.length := by omega
      clear hle1
      go_wp2_with fail
      refine H.mono ?_
      rintro e w3 ⟨rfl, hb3⟩
      clear H
      go_wp2
      go_roundw
      case rel =>
        refine ⟨k + 1, by omega, by go_num, ?_, hb2.trans (hb3.mono hb2.size)⟩
        rw [Hsn.out, Kit.cat_bytes]
      case measure => simp [intOf]; omega
    · obtain rfl : k = l.length := by omega
      go_wp2
      go_ret
      exact ⟨Kit.ret_str (by simp [encL, bys]), hb2⟩
end Go.Proofs.Ytnbjlhbaeghihaa
