/-
  What follows of crashes, plainly: all kept is a flush, nothing kept is what was safe, what is read is safe behind a flush.
-/
import Derived.Test.YtolanlnabdbolaaDskP
namespace Go.Proofs.Ytolanlnabdbolaa
open Go.RowKit
namespace Dsk

theorem safe_is {D : Dk} {i : Nat} (h : i < D.safe.length) : D.safeOf (i : Int) = (D.safe.getD i ⟨#[]⟩, true) := by
  unfold Dk.safeOf
  rw [if_pos (Dk.there_iff.2 (by omega))]
  rfl
theorem flush_is {D : Dk} {i : Nat} (h : i < D.safe.length) : D.flush.read (i : Int) = (D.flush.safe.getD i ⟨#[]⟩, true) := by
  have e : D.flush.there (i : Int) = true := Dk.there_iff.2 (by show 0 ≤ (i : Int) ∧ (i : Int) < ((after _ _ _ _).length : Int); rw [after_length]; omega)
  unfold Dk.read
  rw [if_pos e]
  rfl
theorem cut_full {t o : ByteArray} {n : Nat} (ht : t.size = n) (ho : o.size = n) : cut t o n = t := by
  unfold cut
  subst ht
  rw [ho]
  simp
theorem cut_zero (t o : ByteArray) : cut t o 0 = o := by simp [cut]
theorem set_same (l : List ByteArray) (a : Nat) : l.set a (l.getD a ⟨#[]⟩) = l := by
  apply List.ext_getElem?
  intro i
  rw [List.getElem?_set]
  split
  · rename_i h
    subst h
    by_cases hl : a < l.length
    · rw [if_pos hl, List.getD_eq_getElem?_getD, List.getElem?_eq_getElem hl]
      rfl
    · rw [if_neg hl, List.getElem?_eq_none (by omega)]
  · rfl
theorem flushed {D : Dk} (h : D.ok) {a : Nat} (ha : a < D.safe.length) : ∀ k, k ≤ D.pend.length → (after (fun _ => D.size) D.pend D.safe k).getD a ⟨#[]⟩ = last D.pend (D.safe.getD a ⟨#[]⟩) (a : Int) k
  | 0, _ => rfl
  | k + 1, hk => by
    have ih := flushed h ha k (by omega)
    obtain ⟨x, hx⟩ : ∃ x, D.pend[k]? = some x := ⟨_, List.getElem?_eq_getElem (by omega)⟩
    have hxo := h.pendAt hx
    have hl : x.at_ < (after (fun _ => D.size) D.pend D.safe k).length := by rw [after_length]; exact hxo.1
    have ho : ((after (fun _ => D.size) D.pend D.safe k).getD x.at_ ⟨#[]⟩).size = D.size := by
      rw [List.getD_eq_getElem?_getD, List.getElem?_eq_getElem hl]
      exact h.after (fun _ => Nat.le_refl _) k _ (List.getElem_mem hl)
    rw [after_succ hx, cut_full hxo.2 ho]
    by_cases e : x.at_ = a
    · rw [last_hit hx (by omega), e]
      subst e
      rw [List.getD_eq_getElem?_getD, List.getElem?_set_self hl]
      rfl
    · rw [last_miss hx (by omega), getD_set_ne e]
      exact ih
theorem read_is {D : Dk} (h : D.ok) {i : Nat} (hi : i < D.safe.length) : D.read (i : Int) = (D.flush.safe.getD i ⟨#[]⟩, true) := by
  unfold Dk.read
  rw [if_pos (Dk.there_iff.2 (by omega))]
  have := flushed h hi D.pend.length (Nat.le_refl _)
  exact congrArg (fun x => (x, true)) this.symm
theorem none_kept (size : Nat) (p : List Wr) (s : List ByteArray) : ∀ k, after (Dk.keepOf [] size) p s k = s
  | 0 => rfl
  | k + 1 => by
    have ih := none_kept size p s k
    rw [after]
    split
    · exact ih
    · rw [ih]
      rw [show Dk.keepOf [] size k = 0 from rfl, cut_zero, set_same]
theorem none_is {D : Dk} {i : Nat} (h : i < D.safe.length) : (D.crash []).read (i : Int) = (D.safe.getD i ⟨#[]⟩, true) := by
  have e : (D.crash []).safe = D.safe := none_kept _ _ _ _
  unfold Dk.read
  rw [if_pos (Dk.there_iff.2 (by rw [e]; omega)), e]
  rfl
end Dsk
end Go.Proofs.Ytolanlnabdbolaa
