/-
  Package disk: padded, has, Sectors, Size, Pending, Safe; the document's Zeros.
-/
import Derived.Test.YtgjejofdmfpdjaaDskM
import Derived.Test.YtgjejofdmfpdjaaShelf
namespace Go.Proofs.Ytgjejofdmfpdjaa
open Go.RowKit
namespace Dsk

def cellsP (x : Wr) : List Value := [.int .i64 (x.at_ : Int), .string x.text]
abbrev Mem := Has 62 72 2 cellsP
abbrev MemAt := At 62 72 2 cellsP

theorem rep_zeros (n : Nat) : (⟨(Lib.repeatL (⟨#[0]⟩ : ByteArray).data.toList n).toArray⟩ : ByteArray) = zeros n := by
  have h : ∀ n, Lib.repeatL [(0 : UInt8)] n = List.replicate n 0 := by
    intro n
    induction n with
    | zero => rfl
    | succ n ih => simp [Lib.repeatL, List.replicate_succ] at ih ⊢; exact ih
  show (⟨(Lib.repeatL [(0 : UInt8)] n).toArray⟩ : ByteArray) = zeros n
  rw [h]
  rfl

set_option maxHeartbeats 1000000 in
theorem padded_any (t : ByteArray) (n : Nat) (ht : t.size ≤ n) (hn : n ≤ 512) (w : World) :
    Calls Try.prog 38 #[.string t, .int .i64 (n : Int)] w fun e w' => e = .returned (.string (pad t n)) ∧ Below w.heap.size w w' := by
  have H := fun w => Try.strings_Repeat ⟨#[0]⟩ (n - t.size) w (by omega) (by show 1 * (n - t.size) ≤ _; omega)
  rw [rep_zeros] at H
  have e1 : IntKind.i64.wrap ((n : Int) - (t.size : Int)) = ((n - t.size : Nat) : Int) := by rw [IntKind.wrap_i64]; omega
  have e2 : pad t n = t ++ zeros (n - t.size) := rfl
  have z2 : t.size + (zeros (n - t.size)).size ≤ 140737488355328 := by rw [zeros_size]; omega
  generalize zeros (n - t.size) = zs at *
  go_enter Try.func38, Try.ntmps38
  go_wp2_with fail
  refine (H _).mono ?_
  rintro e w1 ⟨rfl, hb⟩
  go_wp2_with fail
  go_ret
  exact ⟨by rw [e2]; rfl, hb⟩

set_option maxHeartbeats 1000000 in
theorem has_any {w : World} {p : Nat} {K : Nat → Prop} {D : Dk} (h : Mem w p K D) (a : Int) :
    Calls Try.prog 44 #[.pointer (some ⟨p, 0, none⟩), .int .i64 a] w fun e w' => e = .returned (.bool (D.there a)) ∧ w' = w := by
  obtain ⟨g, sc, pv, h⟩ := h
  have c1 := h.c1
  have e : D.there a = (decide (0 ≤ a) && decide (a < (D.safe.length : Int))) := rfl
  rw [e]
  by_cases h1 : 0 ≤ a <;> by_cases h2 : a < (D.safe.length : Int)
  all_goals go_enter Try.func44, Try.ntmps44
  all_goals go_wp2
  all_goals go_ret
  all_goals exact ⟨by simp [h1, h2], rfl⟩

set_option maxHeartbeats 1000000 in
theorem sectors_any {w : World} {p : Nat} {K : Nat → Prop} {D : Dk} (h : Mem w p K D) :
    Calls Try.prog 31 #[.pointer (some ⟨p, 0, none⟩)] w fun e w' => e = .returned (.int .i64 (D.safe.length : Int)) ∧ Below w.heap.size w w' := by
  obtain ⟨g, sc, pv, h⟩ := h
  have c1 := h.c1
  go_enter Try.func31, Try.ntmps31
  go_wp2
  go_ret
  exact ⟨rfl, Below.refl _ _⟩

set_option maxHeartbeats 1000000 in
theorem size_any {w : World} {p : Nat} {K : Nat → Prop} {D : Dk} (h : Mem w p K D) :
    Calls Try.prog 26 #[.pointer (some ⟨p, 0, none⟩)] w fun e w' => e = .returned (.int .i64 (D.size : Int)) ∧ Below w.heap.size w w' := by
  obtain ⟨g, sc, pv, h⟩ := h
  have c0 := h.c0
  go_enter Try.func26, Try.ntmps26
  go_wp2
  go_ret
  exact ⟨rfl, Below.refl _ _⟩

set_option maxHeartbeats 1000000 in
theorem safe_any {w : World} {p : Nat} {K : Nat → Prop} {D : Dk} (h : Mem w p K D) (a : Int) :
    Calls Try.prog 64 #[.pointer (some ⟨p, 0, none⟩), .int .i64 a] w fun e w' => e = .returned (.tuple #[.string (D.safeOf a).1, .bool (D.safeOf a).2]) ∧ Below w.heap.size w w' := by
  have H := fun w (h : Mem w p K D) => has_any h a
  have Hh := h
  obtain ⟨g, sc, pv, h⟩ := h
  have c1 := h.c1
  by_cases ht : D.there a = true
  · obtain ⟨h1, h2⟩ := Dk.there_iff.1 ht
    obtain ⟨k, rfl⟩ : ∃ k : Nat, a = (k : Int) := ⟨a.toNat, by omega⟩
    have hk : k < D.safe.length := by omega
    have cg := h.safeAt hk
    have e : D.safeOf (k : Int) = (D.safe.getD k ⟨#[]⟩, true) := by unfold Dk.safeOf; rw [if_pos ht]; rfl
    rw [e]
    rw [ht] at H
    clear e h1
    generalize D.safe.getD k ⟨#[]⟩ = tx at *
    go_enter Try.func64, Try.ntmps64
    go_wp2_with fail
    refine (H _ Hh).mono ?_
    rintro e w1 ⟨rfl, rfl⟩
    go_wp2
    go_ret2
    exact ⟨rfl, Below.refl _ _⟩
  · have hf : D.there a = false := by simpa using ht
    have e : D.safeOf a = (⟨#[]⟩, false) := by unfold Dk.safeOf; rw [if_neg ht]
    rw [e]
    rw [hf] at H
    go_enter Try.func64, Try.ntmps64
    go_wp2_with fail
    refine (H _ Hh).mono ?_
    rintro e w1 ⟨rfl, rfl⟩
    go_wp2
    go_ret2
    exact ⟨rfl, Below.refl _ _⟩
end Dsk
end Go.Proofs.Ytgjejofdmfpdjaa
