/-
  Package keys: Text, Derive, Volume; the laws' played and fixed calls.
-/
import Derived.Test.YtkadkakkaodeeaaKey
import Derived.Test.YtkadkakkaodeeaaIdJ
namespace Go.Proofs.Ytkadkakkaodeeaa
open Go.RowKit Go.Maps
open Go.Lib (uvarint uvarint_length64)
open Ideal

namespace Kya
open Ida
set_option maxRecDepth 100000 in
set_option maxHeartbeats 1000000 in
theorem text_any (n : Nat) (hn : n < 18446744073709551616) (w : World) :
    Calls Try.prog 20 #[.int .u64 (n : Int)] w fun e w' => e = .returned (.string (kt n)) ∧ Below w.heap.size w w' := by
  have H := putUint_any n hn w
  have hk : (⟨#[107, 101, 121]⟩ : ByteArray) ++ ⟨(uvarint n).toArray⟩ = kt n := by
    unfold kt
    apply ByteArray.ext
    simp
  have hs : (⟨(uvarint n).toArray⟩ : ByteArray).size ≤ 10 := by rw [Kit.size_mk]; exact uvarint_length64 hn
  generalize (⟨(uvarint n).toArray⟩ : ByteArray) = t at *
  have ht : (9223372036854775807 < (3 : Int) + (t.size : Int)) = False := by simp; omega
  have ht2 : (9223372036854775807 < 3 + t.size) = False := by simp; omega
  rw [← hk]
  clear hk
  go_enter Try.func20, Try.ntmps20
  go_wp2_with fail
  refine H.mono ?_
  rintro e w1 ⟨rfl, hb⟩
  go_wp2
  go_ret
  exact ⟨rfl, hb⟩

set_option maxRecDepth 100000 in
set_option maxHeartbeats 2000000 in
theorem derive_any {L : Lay} {O : Or} {w : World} (h : Orc w L O) (k : Nat) (hk : k < 18446744073709551616) (l : List Nat) (hl : O.rows.length + l.length < 1152921504606846976) (hx : ∀ x ∈ l, x < 18446744073709551616) (v : Value) (hv : Kit.Rd w v (nums l)) (ho : l ≠ [] → ∀ b, v.ownBlock = some b → ¬ L.own b) :
    Calls Try.prog 13 #[ptr L, .int .u64 (k : Int), v] w fun e w' => e = .returned (.int .u64 (O.key k l : Int)) ∧ Orc w' L (O.derive k l) ∧ Kit.But L.own w w' := by
  obtain ⟨a, cap, rfl⟩ := hv.form
  have hll : (nums l).length = l.length := by simp [nums]
  rw [hll] at hv ho ⊢
  clear hll
  have Hf := Lib.hid h.2
  have Ho := Lib.hid ho
  have Hk := Lib.hid hk
  clear hk ho
  go_enter Try.func13, Try.ntmps13
  go_wp2
  go_loopw [1, 11] (fun vk vi wr => ∃ i : Nat, i ≤ l.length ∧ vi = .int .i64 (i : Int) ∧ vk = .int .u64 (O.key k (l.take i) : Int) ∧ Orc wr L (O.derive k (l.take i)) ∧ Kit.But L.own w wr) (fun _ vi _ => l.length - (intOf vi).toNat)
  case atStart => exact ⟨0, Nat.zero_le _, rfl, rfl, h, Kit.But.refl _ w⟩
  case round =>
    obtain ⟨i, hi, rfl, rfl, h2, hb2⟩ := hrel
    clear h
    by_cases hlt : i < l.length
    · have hlt2 : (i : Int) < (l.length : Int) := by omega
      obtain ⟨ad, rfl, hc⟩ := (hv.but hb2 (Ho.out (by intro e; rw [e] at hlt; exact absurd hlt (by simp)))).at_ (k := i) (u := .int .u64 (l[i] : Nat)) (by simp [nums, hlt])
      have hln := Or.len_derive (l.take i) O k
      have hti : (l.take i).length = i := by rw [List.length_take]; omega
      have hfi := (Or.fine_derive (l.take i) O k Hf.out Hk.out (by omega)).2
      have HT := fun w => text_any l[i] (hx _ (List.getElem_mem hlt)) w
      have HM := fun w' (h : Orc w' L (O.derive k (l.take i))) => o_mac h (by omega) (O.key k (l.take i)) hfi (kt l[i]) (by have := kt_size (hx _ (List.getElem_mem hlt)); unfold maxLen; omega)
      have e1 : O.key k (l.take (i + 1)) = _ := (congrArg (O.key k) (List.take_succ_eq_append_getElem hlt)).trans (Or.key_snoc _ _ _ _)
      have e2 : O.derive k (l.take (i + 1)) = _ := (congrArg (O.derive k) (List.take_succ_eq_append_getElem hlt)).trans (Or.derive_snoc _ _ _ _)
      have E1 := Lib.hid e1
      have E2 := Lib.hid e2
      have Hx := Lib.hid hx
      generalize kt l[i] = t at *
      generalize l[i] = n at *
      generalize O.key k (l.take i) = ki at *
      generalize O.derive k (l.take i) = Oi at *
      clear e1 e2 hln hti hfi hx
      go_wp2_with fail
      refine (HT _).mono ?_
      rintro e w3 ⟨rfl, hb3⟩
      have h3 := h2.below hb3
      have hb4 := hb2.trans (Kit.But.of_below hb3 (Nat.le_refl _) _)
      have HMM := HM _ h3
      clear HT HM h2 hb3 hb2 h3
      go_wp2_with fail
      refine HMM.mono ?_
      rintro e w4 ⟨rfl, h4, hb5⟩
      have hb6 := hb4.trans hb5
      have hx := Hx.out
      clear HMM hb4 hb5
      go_wp2
      go_roundw
      case rel => exact ⟨i + 1, by omega, by go_num, by rw [E1.out], by rw [E2.out]; exact h4, hb6⟩
      case measure => simp [intOf]; omega
    · obtain rfl : i = l.length := by omega
      rw [List.take_length] at h2 ⊢
      have hd1 : decide ((l.length : Int) < (l.length : Int)) = false := by rw [decide_eq_false_iff_not]; omega
      clear hlt
      go_wp2
      go_ret
      exact ⟨rfl, h2, hb2⟩

/-- A literal of numbers, and an oracle that was there ahead of it. -/
theorem lit_sl (w : World) (l : List Nat) (T : TypeId) : Kit.Rd (w.alloc (.cells (nums l).toArray T)) (.slice (some ⟨w.heap.size, 0, none⟩) (nums l).length (nums l).length) (nums l) := Kit.Sl.rd (laid_sl w l T)
theorem lit_off {w : World} {L : Lay} {O : Or} (h : Orc w L O) (n c : Nat) : ∀ b, (Value.slice (some ⟨w.heap.size, 0, none⟩) n c).ownBlock = some b → ¬ L.own b := by
  intro b hb ho
  simp only [Value.ownBlock, Option.some.injEq] at hb
  subst hb
  exact Nat.lt_irrefl _ (h.lt ho)
theorem alloc_but (w : World) (S : Nat → Prop) (o : Obj) : Kit.But S w (w.alloc o) := (Kit.But.refl S w).alloc o

set_option maxRecDepth 100000 in
set_option maxHeartbeats 1000000 in
theorem volume_any {L : Lay} {O : Or} {w : World} (h : Orc w L O) (k : Nat) (hk : k < 18446744073709551616) (a b c : Nat) (ha : a < 18446744073709551616) (hb : b < 18446744073709551616) (hc : c < 18446744073709551616) (hn : O.rows.length + 3 < 1152921504606846976) :
    Calls Try.prog 15 #[ptr L, .int .u64 (k : Int), .int .u64 (a : Int), .int .u64 (b : Int), .int .u64 (c : Int)] w fun e w' => e = .returned (.int .u64 (O.key k [a, b, c] : Int)) ∧ Orc w' L (O.derive k [a, b, c]) ∧ Kit.But L.own w w' := by
  have H := derive_any (h.alloc (.cells (nums [a, b, c]).toArray 24)) k hk [a, b, c] hn (by intro x hx; simp at hx; omega) _ (lit_sl w [a, b, c] 24) (fun _ => lit_off h _ _)
  have c0 := alloc_but w L.own (.cells (nums [a, b, c]).toArray 24)
  generalize O.key k [a, b, c] = v at *
  generalize O.derive k [a, b, c] = O2 at *
  clear h hk ha hb hc hn
  go_enter Try.func15, Try.ntmps15
  go_wp2_with fail
  refine H.mono ?_
  rintro e w1 ⟨rfl, h1, b1⟩
  have b2 := c0.trans b1
  go_wp2
  go_ret
  exact ⟨rfl, h1, b2⟩
end Kya
end Go.Proofs.Ytkadkakkaodeeaa
