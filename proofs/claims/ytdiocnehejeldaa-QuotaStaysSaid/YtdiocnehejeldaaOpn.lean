/-
  Generic: what openers of arguments share.
-/
import Derived.Test.YtdiocnehejeldaaArgs
import Derived.SizedLaws
namespace Go.Proofs.Ytdiocnehejeldaa
open Go.RowKit Go.ChangeShapes Go.WideShapes Go.ChangeAt

namespace Ida
theorem one_int : Try.prog.cellsOf 3 = 1 := by kernel_rfl
theorem nat_of {n : Int} (h : 0 ≤ n ∧ n ≤ 18446744073709551615) : ∃ k : Nat, n = (k : Int) ∧ k < 18446744073709551616 := ⟨n.toNat, by omega, by omega⟩
theorem some_at {α : Type} {l : List α} {n j : Nat} (hl : l.length = n) (hj : j < n) : ∃ y, l[j]? = some y := ⟨l[j]'(by omega), List.getElem?_eq_getElem (by omega)⟩
theorem list_of {α : Type} {P : Nat → α → Prop} : ∀ n : Nat, (∀ i, i < n → ∃ c, P i c) → ∃ l : List α, l.length = n ∧ ∀ i c, l[i]? = some c → P i c
  | 0, _ => ⟨[], rfl, by simp⟩
  | n + 1, h => by
    obtain ⟨l, hl, hp⟩ := list_of n (fun i hi => h i (by omega))
    obtain ⟨c, hc⟩ := h n (by omega)
    refine ⟨l ++ [c], by simp [hl], fun i x hx => ?_⟩
    rcases Nat.lt_or_ge i n with hi | hi
    · rw [List.getElem?_append_left (by omega)] at hx
      exact hp i x hx
    · rw [List.getElem?_append_right (by omega), hl] at hx
      have : i - n = 0 := by
        rcases Nat.eq_zero_or_pos (i - n) with h0 | h0
        · exact h0
        · rw [List.getElem?_eq_none (by simp; omega)] at hx
          cases hx
      have hin : i = n := by omega
      subst hin
      simp at hx
      subst hx
      exact hc
end Ida
end Go.Proofs.Ytdiocnehejeldaa
