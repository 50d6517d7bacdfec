/-
  What the laws share: values met ahead; a law's tree, whether it is built; the root read.
-/
import Derived.Test.YtllbcnficlbobaaMerM
namespace Go.Proofs.Ytllbcnficlbobaa
open Go.RowKit
open Ideal Ida Mer

namespace Ideal.Or
def meets (O : Or) : List Nat → Or
  | [] => O
  | v :: r => (O.meet v).meets r
theorem meets_snoc (a : List Nat) (v : Nat) : ∀ O : Or, O.meets (a ++ [v]) = (O.meets a).meet v := by
  induction a with
  | nil => intro O; rfl
  | cons x a ih => intro O; exact ih _
theorem meets_inv (a : List Nat) : ∀ O : Or, O.Inv → (O.meets a).Inv := by
  induction a with
  | nil => intro O h; exact h
  | cons x a ih => intro O h; exact ih _ (inv_meet h _)
theorem meets_rows (a : List Nat) : ∀ O : Or, (O.meets a).rows = O.rows := by
  induction a with
  | nil => intro O; rfl
  | cons x a ih => intro O; exact (ih _).trans (rows_meet _)
/-- May a tree be built? -/
def may (dd : Int) (ls : List ByteArray) : Prop := 0 ≤ dd ∧ dd ≤ 8 ∧ ls.length ≤ 2 ^ dd.toNat
end Ideal.Or
namespace Mera
theorem leaf_fits {t : ByteArray} (h : t.size ≤ 140737488351232) : t.size + 4 ≤ maxLen := by
  have : maxLen = 9223372036854775807 := rfl
  omega
/-- The root of a tree in memory. -/
theorem root_at {S : Nat → Prop} {w : World} {a : Option Addr} {n cap : Nat} {O : Or} {ls : List ByteArray} {d : Nat} (h : Kit.Tr S w (.slice a n cap) (O.tree ls d)) : ∃ ad la lc, a = some ad ∧ w.cell? (ad.add d) = some (.slice (some la) 1 lc) ∧ w.cell? la = some (.int .u64 ((O.lv ls d d).2.getD 0 0 : Nat)) ∧ la.block < w.heap.size ∧ (ad.add d).block < w.heap.size := by
  obtain ⟨ad, la, lc, rfl, hc, -, ho⟩ := h.at_ (k := d) (by simp)
  have hl : ((O.tree ls d).getD d []).length = 1 := by rw [Or.tree_at (Nat.le_refl d), Or.lv_length _ _ _ (Nat.le_refl d), Nat.sub_self]
  have hl2 : ((O.lv ls d d).2).length = 1 := by rw [Or.lv_length _ _ _ (Nat.le_refl d), Nat.sub_self]
  rw [hl] at hc ho
  rw [Or.tree_at (Nat.le_refl d)] at ho
  obtain ⟨lb, rfl, hcb⟩ := ho.at_ (nums_at (k := 0) (by omega))
  rw [add_zero'] at hcb
  exact ⟨ad, lb, lc, rfl, hc, hcb, World.block_lt_of_cell? _ _ hcb, World.block_lt_of_cell? _ _ hc⟩
theorem arg_off {M : Lay} {w w1 : World} {v : Value} {xs : List Value} (h : Kit.Off (fun _ => False) w v xs) (hw : ∀ i, M.own i → w.heap.size ≤ i) (c : Below w.heap.size w w1) : Kit.Off M.own w1 v xs :=
  (h.weak (fun i hi ho => by have := hw i ho; omega)).below c
theorem tree_off {M : Lay} {w w1 : World} {O : Or} {v : Value} {t : List (List Nat)} (h0 : Orc w M O) (h : Kit.Tr (· < w.heap.size) w1 v t) : Kit.Tr M.own w1 v t := h.weak (fun _ _ hi => h0.lt hi)
theorem built_fine {O : Or} (h : O.fine) (ls : List ByteArray) {d : Nat} (hd : d ≤ 8) (hn : O.rows.length + 1024 < 1152921504606846976) : ∀ k x, x ∈ (O.tree ls d).getD k [] → x < 18446744073709551616 := by
  intro k x hx
  by_cases hk : k ≤ d
  · rw [Or.tree_at hk] at hx
    exact (Or.lv_fine h ls hd hn k hk).2 x hx
  · rw [List.getD_eq_getElem?_getD, List.getElem?_eq_none (by simp; omega)] at hx
    simp at hx
theorem tree0 {O : Or} {ls : List ByteArray} {d : Nat} : ((O.tree ls d).getD 0 []).length = 2 ^ d := by
  rw [Or.tree_at (Nat.zero_le _), Or.lv_length _ _ _ (Nat.zero_le _), Nat.sub_zero]
end Mera
end Go.Proofs.Ytllbcnficlbobaa
