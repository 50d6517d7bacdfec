/-
  What the document's own Nums, Texts and Begins do, where the laws want them; and the fixed calls.
-/
import Derived.Test.YtelinafecnepgaaWalksB
import Derived.Test.YtelinafecnepgaaWalksG
namespace Go.Proofs.Ytelinafecnepgaa
open Go.RowKit
open Go.Lib (uvarint uvarint_small uvarint_big uvarint_length64 uvarint_pos byteCells)
open Leb (dec decFrom decC decT decN decL takeNs takeTs encT encN encL encNs encTs)

set_option maxHeartbeats 1000000 in
set_option maxRecDepth 100000 in
theorem nums_same (l : List Nat) (hl : l.length ≤ 9223372036854775807) (u v : Value) (w : World) (hu : Kit.Rd w u (nums l)) (hv : Kit.Rd w v (nums l)) :
    Calls Try.prog 27 #[u, v] w fun e w' => e = .returned (.bool true) ∧ Below w.heap.size w w' := by
  obtain ⟨a, cap, rfl⟩ := hu.form
  obtain ⟨b, cap2, rfl⟩ := hv.form
  have hll : (nums l).length = l.length := by simp [nums]
  rw [hll] at hu hv ⊢
  clear hll
  go_enter Try.func27, Try.ntmps27
  go_wp2
  go_loopw [5] (fun vi wr => ∃ k : Nat, k ≤ l.length ∧ vi = .int .i64 k ∧ Below w.heap.size w wr) (fun vi _ => l.length - (intOf vi).toNat)
  case atStart => exact ⟨0, Nat.zero_le _, rfl, Below.refl _ _⟩
  case round =>
    obtain ⟨k, hk, rfl, hb⟩ := hrel
    by_cases hlt : k < l.length
    · obtain ⟨ad, rfl, hc⟩ := (hu.below hb).at_ (k := k) (u := .int .u64 (l[k] : Nat)) (by simp [nums, hlt])
      obtain ⟨bd, rfl, hd⟩ := (hv.below hb).at_ (k := k) (u := .int .u64 (l[k] : Nat)) (by simp [nums, hlt])
      have hlt2 : (k : Int) < (l.length : Int) := by omega
      go_wp2
      go_quiet (fail)
      go_wp2
      go_roundw
      case rel => exact ⟨k + 1, by omega, by go_num, below_drewN hb _⟩
      case measure => simp [intOf]; omega
    · go_wp2
      go_ret
      exact ⟨rfl, hb⟩

set_option maxHeartbeats 1000000 in
set_option maxRecDepth 100000 in
theorem texts_same (l : List (List UInt8)) (hl : l.length ≤ 9223372036854775807) (u v : Value) (w : World) (hu : Kit.Rd w u (strsL l)) (hv : Kit.Rd w v (strsL l)) :
    Calls Try.prog 28 #[u, v] w fun e w' => e = .returned (.bool true) ∧ Below w.heap.size w w' := by
  obtain ⟨a, cap, rfl⟩ := hu.form
  obtain ⟨b, cap2, rfl⟩ := hv.form
  have hll : (strsL l).length = l.length := by simp [strsL]
  rw [hll] at hu hv ⊢
  clear hll
  go_enter Try.func28, Try.ntmps28
  go_wp2
  go_loopw [5] (fun vi wr => ∃ k : Nat, k ≤ l.length ∧ vi = .int .i64 k ∧ Below w.heap.size w wr) (fun vi _ => l.length - (intOf vi).toNat)
  case atStart => exact ⟨0, Nat.zero_le _, rfl, Below.refl _ _⟩
  case round =>
    obtain ⟨k, hk, rfl, hb⟩ := hrel
    by_cases hlt : k < l.length
    · obtain ⟨ad, rfl, hc⟩ := (hu.below hb).at_ (k := k) (u := .string ⟨l[k].toArray⟩) (by simp [strsL, hlt])
      obtain ⟨bd, rfl, hd⟩ := (hv.below hb).at_ (k := k) (u := .string ⟨l[k].toArray⟩) (by simp [strsL, hlt])
      have hlt2 : (k : Int) < (l.length : Int) := by omega
      go_wp2
      go_quiet (fail)
      go_wp2
      go_roundw
      case rel => exact ⟨k + 1, by omega, by go_num, below_drewN hb _⟩
      case measure => simp [intOf]; omega
    · go_wp2
      go_ret
      exact ⟨rfl, hb⟩

set_option maxHeartbeats 1000000 in
set_option maxRecDepth 100000 in
theorem begins_no (s t : List UInt8) (h : ∀ r, s ≠ t ++ r) (w : World) :
    Calls Try.prog 29 #[.string ⟨s.toArray⟩, .string ⟨t.toArray⟩] w fun e w' => e = .returned (.bool false) ∧ Below w.heap.size w w' := by
  have hq : ((⟨s.toArray⟩ : ByteArray).extract 0 t.length).data.toList = s.take t.length := take_of s t.length
  have hne : t.length ≤ s.length → s.take t.length ≠ t := by
    intro hl he
    refine h (s.drop t.length) ?_
    conv => rhs; rw [← he]
    rw [List.length_take, Nat.min_eq_left hl, List.take_append_drop]
  clear h
  by_cases hl : t.length ≤ s.length
  · have hne2 := hne hl
    have hl2 : (t.length : Int) ≤ (s.length : Int) := by omega
    clear hne
    go_enter Try.func29, Try.ntmps29
    have hbe : (((⟨s.toArray⟩ : ByteArray).extract 0 t.length).toList == t) = false := by
      rw [toList_take]
      simpa using hne2
    clear hne2 hq
    go_wp2
    go_ret
    exact ⟨rfl, Below.refl _ _⟩
  · go_enter Try.func29, Try.ntmps29
    clear hne hq
    go_wp2
    go_ret
    exact ⟨rfl, Below.refl _ _⟩

theorem uv300 : uvarint 300 = [172, 2] := by
  rw [uvarint_big (by decide), uvarint_small (by decide)]
  decide
theorem uv_small {n : Nat} (h : n < 128) : uvarint n = [n.toUInt8] := uvarint_small h
theorem uv128 : uvarint 128 = [128, 1] := by
  rw [uvarint_big (by decide), uvarint_small (by decide)]
  decide
theorem enc_ab : encT [97, 98] = [2, 97, 98] := by
  unfold encT
  rw [uv_small (by decide)]
  rfl
theorem enc_1_128 : encN [1, 128] = [2, 1, 128, 1] := by
  simp only [encN, encNs]
  rw [uv128, uv_small (by decide), uv_small (show 1 < 128 by decide)]
  rfl
theorem enc_empty : encL (bys [⟨#[]⟩]) = [1, 0] := by
  simp only [encL, encTs, bys, List.map_cons, List.map_nil, encT]
  rw [uv_small (by decide), uv_small (by decide)]
  rfl

set_option maxHeartbeats 2000000 in
set_option maxRecDepth 100000 in
theorem fixed_any (w : World) : Calls Try.prog 10 #[] w fun e w' => e = .returned (.bool true) ∧ Below w.heap.size w w' := by
  have d1 : dec [172, 2, 122] = some (300, [122]) := by decide
  have d2 : dec [128, 0] = none := by decide
  have d3 : dec [128] = none := by decide
  have d4 : dec [255, 255, 255, 255, 255, 255, 255, 255, 255, 2] = none := by decide
  have H1 := fun w => takeUint_any ⟨#[172, 2, 122]⟩ (by decide) w
  have H2 := fun w => takeUint_any ⟨#[128, 0]⟩ (by decide) w
  have H3 := fun w => takeUint_any ⟨#[128]⟩ (by decide) w
  have H4 := fun w => takeUint_any ⟨#[255, 255, 255, 255, 255, 255, 255, 255, 255, 2]⟩ (by decide) w
  rw [show dec (⟨#[172, 2, 122]⟩ : ByteArray).data.toList = some (300, [122]) from d1] at H1
  rw [show dec (⟨#[128, 0]⟩ : ByteArray).data.toList = none from d2] at H2
  rw [show dec (⟨#[128]⟩ : ByteArray).data.toList = none from d3] at H3
  rw [show dec (⟨#[255, 255, 255, 255, 255, 255, 255, 255, 255, 2]⟩ : ByteArray).data.toList = none from d4] at H4
  have H5 : ∀ w, Calls Try.prog 11 #[.int .u64 300] w fun e w' => e = .returned (.string ⟨#[172, 2]⟩) ∧ Below w.heap.size w w' := fun w => by
    have h := putUint_any 300 (by decide) w
    rw [uv300] at h
    exact h
  have H6 : ∀ w, Calls Try.prog 13 #[.string ⟨#[97, 98]⟩] w fun e w' => e = .returned (.string ⟨#[2, 97, 98]⟩) ∧ Below w.heap.size w w' := fun w => by
    have h := putText_any ⟨#[97, 98]⟩ (by decide) w
    rw [show encT (⟨#[97, 98]⟩ : ByteArray).data.toList = [2, 97, 98] from enc_ab] at h
    exact h
  have H7 : ∀ v w, Kit.Rd w v (nums [1, 128]) → Calls Try.prog 15 #[v] w fun e w' => e = .returned (.string ⟨#[2, 1, 128, 1]⟩) ∧ Below w.heap.size w w' := fun v w hv => by
    have h := putNums_any [1, 128] (by decide) (by rw [enc_1_128]; decide) v w hv
    rw [enc_1_128] at h
    exact h
  have H8 : ∀ v w, Kit.Rd w v (strs [⟨#[]⟩]) → Calls Try.prog 17 #[v] w fun e w' => e = .returned (.string ⟨#[1, 0]⟩) ∧ Below w.heap.size w w' := fun v w hv => by
    have h := putList_any [⟨#[]⟩] (by rw [enc_empty]; decide) v w hv
    rw [enc_empty] at h
    exact h
  clear d1 d2 d3 d4
  go_enter Try.func10, Try.ntmps10
  go_wp2_with fail
  refine (H1 w).mono ?_
  rintro e w1 ⟨rfl, hb1⟩
  simp only [uintRes]
  go_wp2_with fail
  refine (H2 w1).mono ?_
  rintro e w2 ⟨rfl, hb2⟩
  simp only [uintRes]
  go_wp2_with fail
  refine (H3 w2).mono ?_
  rintro e w3 ⟨rfl, hb3⟩
  simp only [uintRes]
  go_wp2_with fail
  refine (H4 w3).mono ?_
  rintro e w4 ⟨rfl, hb4⟩
  simp only [uintRes]
  have hb := ((hb1.trans (hb2.mono hb1.size)).trans (hb3.mono (hb1.trans (hb2.mono hb1.size)).size))
  have hb' := hb.trans (hb4.mono hb.size)
  clear hb hb1 hb2 hb3 hb4 H1 H2 H3 H4
  go_wp2_with fail
  refine (H5 w4).mono ?_
  rintro e w5 ⟨rfl, hb5⟩
  have hbb := hb'.trans (hb5.mono hb'.size)
  clear hb' hb5 H5
  go_wp2_with fail
  refine (H6 w5).mono ?_
  rintro e w6 ⟨rfl, hb6⟩
  have hbc := hbb.trans (hb6.mono hbb.size)
  clear hbb hb6 H6
  go_wp2_with fail
  refine (H7 _ _ ?_).mono ?_
  · exact ⟨_, _, rfl, .inr ⟨_, rfl, fun j u hj => by
      match j, hj with
      | 0, hj => simp [nums] at hj; subst hj; simp [Addr.add]
      | 1, hj => simp [nums] at hj; subst hj; simp [Addr.add]⟩⟩
  rintro e w7 ⟨rfl, hb7⟩
  have hbd := (hbc.alloc hbc.size _).trans (hb7.mono (hbc.alloc hbc.size _).size)
  clear hbc hb7 H7
  go_wp2_with fail
  refine (H8 _ _ ?_).mono ?_
  · exact ⟨_, _, rfl, .inr ⟨_, rfl, fun j u hj => by
      match j, hj with
      | 0, hj => simp [strs] at hj; subst hj; simp [Addr.add]⟩⟩
  rintro e w8 ⟨rfl, hb8⟩
  have hbe := (hbd.alloc hbd.size _).trans (hb8.mono (hbd.alloc hbd.size _).size)
  clear hbd hb8 H8
  go_wp2
  go_ret
  exact ⟨rfl, hbe⟩

end Go.Proofs.Ytelinafecnepgaa
