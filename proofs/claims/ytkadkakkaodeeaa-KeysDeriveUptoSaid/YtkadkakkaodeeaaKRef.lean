/-
  The document's own Derive.
-/
import Derived.Test.YtkadkakkaodeeaaKeyC
import Derived.Test.YtkadkakkaodeeaaFew
namespace Go.Proofs.Ytkadkakkaodeeaa.Kya
open Go.RowKit
open Go.Lib (uvarint uvarint_length64)
open Ideal Ida Ref3

theorem few_derive : ∀ (l : List Nat) (O : Or) (k : Nat), (O.derive k l).rows.length ≤ O.rows.length + l.length ∧ (O.derive k l).met = O.met ∧ (O.derive k l).bads ≤ O.bads + l.length
  | [], _, _ => ⟨Nat.le_refl _, rfl, Nat.le_refl _⟩
  | n :: l, O, k => by
    have h1 := few_ask O (qm k (kt n))
    have h2 := few_derive l (O.ask (qm k (kt n))) (O.val (qm k (kt n)))
    simp only [List.length_cons]
    show ((O.ask (qm k (kt n))).derive (O.val (qm k (kt n))) l).rows.length ≤ _ ∧ ((O.ask (qm k (kt n))).derive (O.val (qm k (kt n))) l).met = O.met ∧ ((O.ask (qm k (kt n))).derive (O.val (qm k (kt n))) l).bads ≤ _
    exact ⟨by omega, h2.2.1.trans h1.2.1, by omega⟩

set_option maxRecDepth 100000 in
set_option maxHeartbeats 2000000 in
theorem rderive_any {K : Nat → Prop} {q : Nat} {w : World} {O : Or} (h : Ref K w q O) (hB : On K w) (k : Nat) (l : List Nat) (hl : O.rows.length + l.length < 4294967296 ∧ O.met.length < 4294967296 ∧ O.bads + l.length < 4294967296) (hx : ∀ x ∈ l, x < 18446744073709551616) (v : Value) (hv : Kit.Rd w v (nums l)) (ho : l ≠ [] → ∀ b, v.ownBlock = some b → K b) :
    Calls Try.prog 14 #[rptr q, .int .u64 (k : Int), v] w fun e w' => e = .returned (.int .u64 (O.key k l : Int)) ∧ Ref K w' q (O.derive k l) ∧ Fr K w w' := by
  obtain ⟨a, cap, rfl⟩ := hv.form
  have hll : (nums l).length = l.length := by simp [nums]
  rw [hll] at hv ho ⊢
  clear hll
  have Ho := Lib.hid ho
  have HB := Lib.hid hB
  have Hl := Lib.hid hl
  have hlb : l.length < 4294967296 := by omega
  clear ho hB hl
  go_enter Try.func14, Try.ntmps14
  go_wp2
  go_loopw [1, 7] (fun vk vi wr => ∃ i : Nat, i ≤ l.length ∧ vi = .int .i64 (i : Int) ∧ vk = .int .u64 (O.key k (l.take i) : Int) ∧ Ref K wr q (O.derive k (l.take i)) ∧ Fr K w wr) (fun _ vi _ => l.length - (intOf vi).toNat)
  case atStart => exact ⟨0, Nat.zero_le _, rfl, rfl, h, Kit.But.refl _ w⟩
  case round =>
    obtain ⟨i, hi, rfl, rfl, h2, hb2⟩ := hrel
    clear h
    by_cases hlt : i < l.length
    · have hlt2 : (i : Int) < (l.length : Int) := by omega
      obtain ⟨ad, rfl, hc⟩ := (hv.but hb2 (fun b hb hk => hk (Ho.out (by intro e; rw [e] at hlt; exact absurd hlt (by simp)) b hb))).at_ (k := i) (u := .int .u64 (l[i] : Nat)) (by simp [nums, hlt])
      have hln := few_derive (l.take i) O k
      have hti : (l.take i).length = i := by rw [List.length_take]; omega
      have hf : Few (O.derive k (l.take i)) := by
        have := Hl.out
        exact ⟨by omega, by rw [hln.2.1]; omega, by omega⟩
      have HT := fun w => rPutUint_any l[i] (hx _ (List.getElem_mem hlt)) w
      have HM := fun w' (h : Ref K w' q (O.derive k (l.take i))) hB => Ref3.mac_any h hB hf (O.key k (l.take i)) (kt l[i])
      have e1 : O.key k (l.take (i + 1)) = _ := (congrArg (O.key k) (List.take_succ_eq_append_getElem hlt)).trans (Or.key_snoc _ _ _ _)
      have e2 : O.derive k (l.take (i + 1)) = _ := (congrArg (O.derive k) (List.take_succ_eq_append_getElem hlt)).trans (Or.derive_snoc _ _ _ _)
      have E1 := Lib.hid e1
      have E2 := Lib.hid e2
      have Hx := Lib.hid hx
      have hk : (⟨#[107, 101, 121]⟩ : ByteArray) ++ ⟨(uvarint l[i]).toArray⟩ = kt l[i] := by
        unfold kt
        apply ByteArray.ext
        simp
      have hs : (⟨(uvarint l[i]).toArray⟩ : ByteArray).size ≤ 10 := by rw [Kit.size_mk]; exact uvarint_length64 (hx _ (List.getElem_mem hlt))
      generalize (⟨(uvarint l[i]).toArray⟩ : ByteArray) = t at *
      have ht : (9223372036854775807 < (3 : Int) + (t.size : Int)) = False := by simp; omega
      have ht2 : (9223372036854775807 < 3 + t.size) = False := by simp; omega
      rw [← hk] at HM
      have HK := Lib.hid hk
      generalize kt l[i] = tt at *
      generalize l[i] = n at *
      generalize O.key k (l.take i) = ki at *
      generalize O.derive k (l.take i) = Oi at *
      clear e1 e2 hln hti hx hf hk hs
      go_wp2_with fail
      refine (HT _).mono ?_
      rintro e w3 ⟨rfl, hb3⟩
      have h3 := h2.below hb3
      have hb4 := hb2.trans (fr_of hb3)
      have HMM := HM _ h3 (on_of HB.out hb4.size)
      clear HT HM h2 hb3 hb2 h3
      go_wp2_with fail
      refine HMM.mono ?_
      rintro e w4 ⟨rfl, h4, hb5⟩
      have hb6 := hb4.trans hb5
      have hx := Hx.out
      clear HMM hb4 hb5
      go_wp2
      go_roundw
      case rel => exact ⟨i + 1, by omega, by go_num, by rw [E1.out, ← HK.out], by rw [E2.out, ← HK.out]; exact h4, hb6⟩
      case measure => simp [intOf]; omega
    · obtain rfl : i = l.length := by omega
      rw [List.take_length] at h2 ⊢
      have hd1 : decide ((l.length : Int) < (l.length : Int)) = false := by rw [decide_eq_false_iff_not]; omega
      clear hlt
      go_wp2
      go_ret
      exact ⟨rfl, h2, hb2⟩
end Go.Proofs.Ytkadkakkaodeeaa.Kya
