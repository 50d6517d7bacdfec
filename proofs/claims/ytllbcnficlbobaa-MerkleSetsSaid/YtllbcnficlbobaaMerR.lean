/-
  A leaf set anew, plainly: the tree so told is the tree of the leaves with that one, and asks for nothing more.
-/
import Derived.Test.YtllbcnficlbobaaMerN
import Derived.Test.YtllbcnficlbobaaMerQ
namespace Go.Proofs.Ytllbcnficlbobaa
open Go.RowKit
open Ideal Ida Mer

namespace Mera
open Ideal.Or
theorem getD_set (l : List Nat) (j c x : Nat) (hj : j < l.length) : (l.set j c).getD x 0 = if j = x then c else l.getD x 0 := by
  rw [List.getD_eq_getElem?_getD, List.getElem?_set, List.getD_eq_getElem?_getD]
  by_cases h : j = x
  · subst h
    rw [if_pos rfl, if_pos rfl, if_pos hj]
    rfl
  · rw [if_neg h, if_neg h]
theorem upT_set (l : List Nat) (m j c : Nat) (hl : l.length = 2 * m) (hj : j < l.length) : upT (l.set j c) = (upT l).set (j / 2) (joinT j c (l.getD (sib j) 0)) := by
  apply List.ext_getElem
  · simp
  · intro x hx1 hx2
    have hxm : x < m := by simp [hl] at hx1; omega
    rw [List.getElem_set, upT_at (by simp [hl]; omega)]
    rw [getD_set _ _ _ _ hj, getD_set _ _ _ _ hj]
    by_cases h : j / 2 = x
    · rw [if_pos h]
      unfold joinT sib
      by_cases he : j % 2 = 0
      · have e1 : j = 2 * x := by omega
        rw [if_pos he, if_pos he, if_pos e1, if_neg (by omega)]
        rw [e1]
      · have e1 : j = 2 * x + 1 := by omega
        rw [if_neg he, if_neg he, if_neg (by omega), if_pos e1]
        rw [e1]
        rfl
    · rw [if_neg h, if_neg (by omega), if_neg (by omega), upT_at (by rw [hl]; omega)]
theorem botT_set (ls : List ByteArray) (n i : Nat) (s : ByteArray) (ls' : List ByteArray) (h : ∀ j, j < n → ls'.getD j .empty = if i = j then s else ls.getD j .empty) : botT ls' n = (botT ls n).set i (leafT s) := by
  apply List.ext_getElem
  · simp
  · intro x hx1 hx2
    have hxn : x < n := by simpa using hx1
    rw [List.getElem_set, botT_at hxn, botT_at hxn, h x hxn]
    by_cases e : i = x
    · rw [if_pos e, if_pos e]
    · rw [if_neg e, if_neg e]
theorem mem_set_or {α : Type} {l : List α} {i : Nat} {a x : α} (h : x ∈ l.set i a) : x ∈ l ∨ x = a := List.mem_or_eq_of_mem_set h

/-- The whole of it. -/
theorem sets_all {O : Or} (ls : List ByteArray) {d : Nat} (hd : d ≤ 8) (s : ByteArray) (i : Nat) (hi : i < 2 ^ d) (ls' : List ByteArray) (hls : ∀ j, j < 2 ^ d → ls'.getD j .empty = if i = j then s else ls.getD j .empty) (F : Or) (hF : F = setO (O.built ls d) (O.tree ls d) i s d) (U : List (List Nat)) (hU : U = setL (O.built ls d) (O.tree ls d) i s) :
    F.built ls' d = F ∧ F.tree ls' d = U ∧ (F.ask (qh (leafT s))).climb (F.val (qh (leafT s))) i (path U i) = ((F.lv ls' d d).2.getD 0 0, F) ∧ F.fits U = (true, F) := by
  subst hU
  have htl : (O.tree ls d).length = d + 1 := tree_length ls d
  have hpl : (path (O.tree ls d) i).length = d := by rw [path_length, htl]; rfl
  have hFe : F = (((O.built ls d).ask (qh (leafT s))).climb ((O.built ls d).val (qh (leafT s))) i (path (O.tree ls d) i)).2 := by
    rw [hF]
    unfold setO
    rw [List.take_of_length_le (by omega)]
  have hE1 : Ext ((O.built ls d).ask (qh (leafT s))) F := by rw [hFe]; exact ext_climb _ _ _ _
  obtain ⟨hA, hlv⟩ := built_known (F := F) ls d ((ext_ask _).trans hE1)
  obtain ⟨hv0, hk0⟩ := val_ext hE1
  have ht : ∀ k, k ≤ d → (O.tree ls d).getD k [] = F.pl ls d k := fun k hk => by rw [tree_at hk, hlv k hk]
  -- what is told level by level
  have hc0 : setT (O.built ls d) (O.tree ls d) i s 0 = F.H (leafT s) := by rw [← hv0]; rfl
  have hcs : ∀ k, k < d → setT (O.built ls d) (O.tree ls d) i s (k + 1) = F.H (joinT (i / 2 ^ k) (setT (O.built ls d) (O.tree ls d) i s k) ((F.pl ls d k).getD (sib (i / 2 ^ k)) 0)) ∧ F.Knows (joinT (i / 2 ^ k) (setT (O.built ls d) (O.tree ls d) i s k) ((F.pl ls d k).getD (sib (i / 2 ^ k)) 0)) := by
    intro k hk
    have hkp : k < (path (O.tree ls d) i).length := by omega
    have hpk := path_at (t := O.tree ls d) (i := i) (k := k) (by omega)
    rw [ht k (by omega)] at hpk
    have hct := climb_take hkp ((O.built ls d).ask (qh (leafT s))) ((O.built ls d).val (qh (leafT s))) i
    rw [hpk] at hct
    have hE2 : Ext (((O.built ls d).ask (qh (leafT s))).climb ((O.built ls d).val (qh (leafT s))) i ((path (O.tree ls d) i).take (k + 1))).2 F := by
      have h2 := climb_append ((path (O.tree ls d) i).take (k + 1)) ((path (O.tree ls d) i).drop (k + 1)) ((O.built ls d).ask (qh (leafT s))) ((O.built ls d).val (qh (leafT s))) i
      rw [List.take_append_drop] at h2
      rw [hFe, h2]
      exact ext_climb _ _ _ _
    rw [hct] at hE2
    have := val_ext hE2
    refine ⟨?_, this.2⟩
    unfold setT
    rw [hct]
    exact this.1
  obtain ⟨c, hc⟩ : ∃ c, c = setT (O.built ls d) (O.tree ls d) i s := ⟨_, rfl⟩
  rw [← hc] at hc0 hcs
  -- the levels
  have hp : ∀ k, k ≤ d → F.pl ls' d k = (F.pl ls d k).set (i / 2 ^ k) (c k) := by
    intro k
    induction k with
    | zero =>
      intro _
      simp only [pl]
      rw [botT_set ls (2 ^ d) i s ls' hls, List.map_set, hc0, Nat.pow_zero, Nat.div_one]
    | succ k ih =>
      intro hk
      have h2 := pl_length (F := F) ls d k (by omega)
      rw [pow_even (by omega)] at h2
      have hj : i / 2 ^ k < (F.pl ls d k).length := by rw [h2, ← pow_even (by omega)]; exact div_pow_lt hi (by omega)
      simp only [pl]
      rw [ih (by omega), upT_set _ _ _ _ h2 hj, List.map_set, (hcs k (by omega)).1, Nat.div_div_eq_div_mul, Nat.pow_succ]
  have hK : AllKnown F ls' d := by
    refine ⟨fun t ht => ?_, fun k hk t ht => ?_⟩
    · rw [botT_set ls (2 ^ d) i s ls' hls] at ht
      rcases mem_set_or ht with h | rfl
      · exact hA.1 _ h
      · exact hk0
    · have h2 := pl_length (F := F) ls d k (by omega)
      rw [pow_even (by omega)] at h2
      have hj : i / 2 ^ k < (F.pl ls d k).length := by rw [h2, ← pow_even (by omega)]; exact div_pow_lt hi (by omega)
      rw [hp k (by omega), upT_set _ _ _ _ h2 hj] at ht
      rcases mem_set_or ht with h | rfl
      · exact hA.2 k hk _ h
      · exact (hcs k hk).2
  obtain ⟨hb, htr⟩ := built_of_known hK
  have hUt : F.tree ls' d = setL (O.built ls d) (O.tree ls d) i s := by
    rw [htr]
    unfold setL
    rw [htl]
    apply List.map_congr_left
    intro k hk
    have := List.mem_range.1 hk
    rw [hp k (by omega), ht k (by omega), hc]
  have hpath : path (setL (O.built ls d) (O.tree ls d) i s) i = path (O.tree ls d) i := by
    rw [← hUt]
    unfold path
    rw [tree_length, tree_length]
    apply List.map_congr_left
    intro k hk
    have hk := List.mem_range.1 hk
    have h2 := pl_length (F := F) ls d k (by omega)
    rw [pow_even (by omega)] at h2
    have hj : i / 2 ^ k < (F.pl ls d k).length := by rw [h2, ← pow_even (by omega)]; exact div_pow_lt hi (by omega)
    rw [ht k (by omega), tree_at (by omega), lv_known hK k (by omega)]
    simp only
    rw [hp k (by omega), getD_set _ _ _ _ hj, if_neg]
    unfold sib
    split <;> omega
  refine ⟨hb, hUt, ?_, ?_⟩
  · obtain ⟨e1, e2⟩ := ask_known hk0
    rw [e1, e2, hpath]
    have hcu := climb_up (F := F) (path (O.tree ls d) i) ((O.built ls d).ask (qh (leafT s))) ((O.built ls d).val (qh (leafT s))) i (by rw [← hFe]; exact Ext.refl F)
    rw [hv0] at hcu
    rw [climb_known _ _ _ hcu.2, ← hcu.1, lv_known hK d (Nat.le_refl _)]
    simp only
    rw [hp d (Nat.le_refl _)]
    have hl1 := pl_length (F := F) ls d d (Nat.le_refl _)
    rw [Nat.sub_self, Nat.pow_zero] at hl1
    have hdi : i / 2 ^ d = 0 := Nat.div_eq_of_lt hi
    rw [hdi, getD_set _ _ _ _ (by omega), if_pos rfl, hc]
    unfold setT
    rw [List.take_of_length_le (by omega), hv0]
  · rw [← hUt]
    unfold fits
    rw [if_pos (tree_shaped ls' hd)]
    apply cmp_known
    intro x hx
    unfold fitL at hx
    obtain ⟨k, hk, hx⟩ := List.mem_flatMap.1 hx
    have hk := List.mem_range.1 hk
    rw [tree_length] at hk
    rw [tree_at (by omega), tree_at (by omega), lv_known hK k (by omega), lv_known hK (k + 1) (by omega)] at hx
    simp only [pl] at hx
    obtain ⟨j, hj, rfl⟩ := List.getElem_of_mem hx
    simp only [List.getElem_zip, List.getElem_map]
    exact ⟨hK.2 k (by omega) _ (List.getElem_mem _), trivial⟩
end Mera
end Go.Proofs.Ytllbcnficlbobaa
