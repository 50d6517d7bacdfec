/-
  The laws' arguments, opened: numbers to be drawn, calls, two texts with their keys.
-/
import Derived.Test.YtbhdcocgghaifaaIdG
import Derived.SizedLaws
namespace Go.Proofs.Ytbhdcocgghaifaa
open Go.RowKit Go.ChangeShapes Go.WideShapes Go.ChangeAt
open Ideal

namespace Ida
section
variable {H : Type} {enc : TypeId × Value → H} {w : World}
theorem bytes_num : Try.prog.bytesOf 22 = 8 := by kernel_rfl
theorem open_draws2 {fuel : Nat} {cs : List Value} {x : DataW H × List MemPlace} (h : DataW.trod enc Try.prog w 0 (fun _ => true) true fuel 30 cs = some x) :
    ∃ (v : Value) (l : List Nat), cs = [v] ∧ Kit.Sl w v (nums l) ∧ (∀ x ∈ l, x < 18446744073709551616) ∧ ((∀ n ∈ DataW.weights Try.prog 30 x.1, n ≤ reachBytes) → l.length * 8 ≤ reachBytes) ∧ l.length ≤ Rows.uptoBulk x.1 := by
  rcases _root_.Go.ChangeShapes.open_ints Try.underlying30 Try.underlying22 cellsU64 h with ⟨rfl, rfl⟩ | ⟨a, len, cap, zs, rfl, _, hl, hm, hz, rfl, hc, hwz⟩
  · exact ⟨_, [], rfl, .inl ⟨rfl, rfl⟩, by simp, by simp, by simp⟩
  · simp only [if_true] at hz
    have hwz' : ∀ n ∈ zs, 0 ≤ n ∧ n ≤ 18446744073709551615 := fun n hn => bounds_u64 (hwz n hn)
    have hlen : ((zs.take len).map Int.toNat).length = len := by simp; omega
    refine ⟨_, (zs.take len).map Int.toNat, rfl, .inr ⟨a, cap, ?_, ?_⟩, ?_, fun hw => ?_, ?_⟩
    · have : (nums ((zs.take len).map Int.toNat)).length = len := by simp [nums]; omega
      rw [this]
    · intro j u hj
      have hjl : j < len := by
        have := (List.getElem?_eq_some_iff.1 hj).1
        simp [nums] at this
        omega
      rw [hc j (by omega)]
      have hjz : j < zs.length := by omega
      have hw := hwz' zs[j] (List.getElem_mem hjz)
      simp [nums, List.getElem?_take_of_lt hjl, List.getElem?_eq_getElem hjz] at hj
      subst hj
      simp only [List.getD, List.getElem?_eq_getElem hjz, Option.getD_some]
      congr 2
      omega
    · intro n hn
      obtain ⟨z, hz1, rfl⟩ := List.mem_map.1 hn
      have := hwz' z (List.mem_of_mem_take hz1)
      omega
    · have h1 := hw (((lits (H := H) .u64 (zs.take len)).length + (lits (H := H) .u64 (zs.drop len)).length) * 8) (by simp [DataW.weights, Try.underlying30, bytes_num])
      rw [hlen]
      have h2 : (lits (H := H) .u64 (zs.take len)).length = len := by simp [lits]; omega
      rw [h2] at h1
      have : len * 8 ≤ (len + (lits (H := H) .u64 (zs.drop len)).length) * 8 := Nat.mul_le_mul_right 8 (by omega)
      omega
    · rw [hlen]
      have := bulk_lits (H := H) .u64 (zs.take len)
      simp only [Rows.uptoBulk]
      have hzl : (zs.take len).length = len := by simp; omega
      omega
theorem open_draws {fuel : Nat} {cs : List Value} {x : DataW H × List MemPlace} (h : DataW.trod enc Try.prog w 0 (fun _ => true) true fuel 30 cs = some x) :
    ∃ (v : Value) (l : List Nat), cs = [v] ∧ Kit.Sl w v (nums l) ∧ (∀ x ∈ l, x < 18446744073709551616) ∧ ((∀ n ∈ DataW.weights Try.prog 30 x.1, n ≤ reachBytes) → l.length * 8 ≤ reachBytes) := by
  obtain ⟨v, l, h1, h2, h3, h4, -⟩ := open_draws2 h
  exact ⟨v, l, h1, h2, h3, h4⟩

theorem one_int : Try.prog.cellsOf 3 = 1 := by kernel_rfl
theorem nat_of {n : Int} (h : 0 ≤ n ∧ n ≤ 18446744073709551615) : ∃ k : Nat, n = (k : Int) ∧ k < 18446744073709551616 := ⟨n.toNat, by omega, by omega⟩
theorem some_at {α : Type} {l : List α} {n j : Nat} (hl : l.length = n) (hj : j < n) : ∃ y, l[j]? = some y := ⟨l[j]'(by omega), List.getElem?_eq_getElem (by omega)⟩
theorem list_of {α : Type} {P : Nat → α → Prop} : ∀ n : Nat, (∀ i, i < n → ∃ c, P i c) → ∃ l : List α, l.length = n ∧ ∀ i c, l[i]? = some c → P i c
  | 0, _ => ⟨[], rfl, by simp⟩
  | n + 1, h => by
    obtain ⟨l, hl, hp⟩ := list_of n (fun i hi => h i (by omega))
    obtain ⟨c, hc⟩ := h n (by omega)
    refine ⟨l ++ [c], by simp [hl], fun i x hx => ?_⟩
    rcases Nat.lt_or_ge i n with hi | hi
    · rw [List.getElem?_append_left (by omega)] at hx
      exact hp i x hx
    · rw [List.getElem?_append_right (by omega), hl] at hx
      have : i - n = 0 := by
        rcases Nat.eq_zero_or_pos (i - n) with h0 | h0
        · exact h0
        · rw [List.getElem?_eq_none (by simp; omega)] at hx
          cases hx
      have hin : i = n := by omega
      subst hin
      simp at hx
      subst hx
      exact hc
end
end Ida
end Go.Proofs.Ytbhdcocgghaifaa
