/-
  Package merkle: over.
-/
import Derived.Test.YtllbcnficlbobaaMerC
namespace Go.Proofs.Ytllbcnficlbobaa
open Go.RowKit Go.Shelf
open Ideal Ida Mer

attribute [local go_sem] Oper.semAt_some

namespace Ideal.Or
theorem draws_cmp (a : List (ByteArray × Nat)) : ∀ O : Or, (O.cmp a).2.draws = O.draws := by
  induction a with
  | nil => intro O; rfl
  | cons x a ih =>
    intro O
    obtain ⟨t, v⟩ := x
    simp only [cmp]
    split
    · exact (ih _).trans (draws_ask1 _ _)
    · exact draws_ask1 _ _
end Ideal.Or
theorem wrap_succ {n : Nat} (h : n < 1000000) : wrap64 ((n : Int) + 1) = ((n + 1 : Nat) : Int) := by unfold wrap64; omega
namespace Mera
/-- What lies there between two rounds. -/
structure OvI (O : Or) (L : Lay) (w : World) (vu : Value) (k : Nat) (O1 : Or) (W : World) : Prop where
  orc : Orc W L O1
  dr : O1.draws = O.draws
  but : Kit.But L.own w W
  bo : Boxed W w.heap.size 26 (ptr L)
  bl : Boxed W (w.heap.size + 1) 22 vu
  br : Boxed W (w.heap.size + 1 + 1) 4 (.bool false)
  bi : Boxed W (w.heap.size + 1 + 1 + 1) 3 (.int .i64 (k : Int))
  size : w.heap.size + 6 ≤ W.heap.size
section
variable {O O1 : Or} {L : Lay} {w W W' : World} {vu : Value} {k : Nat}
theorem OvI.grown (h0 : Orc w L O) {row : Option Nat} (h : OvI O L w vu k O1 W) (hg : W.grownBy W' row) (hr : ∀ r, row = some r → w.heap.size + 6 ≤ r ∧ ∃ o : Obj, W.heap[r]? = some o ∧ o.isCells = false) : OvI O L w vu k O1 W' := by
  have hb : Below (w.heap.size + 6) W W' := (Below.refl _ W).grown hg h.size (fun k hk => (hr k hk).1)
  exact ⟨h.orc.far h0 h.dr (hb.mono (by omega)), h.dr, h.but.low (hb.mono (by omega)), (hb.block _ (by omega)).trans h.bo, (hb.block _ (by omega)).trans h.bl, (hb.block _ (by omega)).trans h.br, (hb.block _ (by omega)).trans h.bi, Nat.le_trans h.size hg.size⟩
theorem OvI.move {O2 : Or} (h0 : Orc w L O) (h : OvI O L w vu k O1 W) (b : Kit.But L.own W W') (h2 : Orc W' L O2) (hd : O2.draws = O1.draws) : OvI O L w vu k O2 W' := by
  have hn : ∀ j, ¬ L.own (w.heap.size + j) := fun j ho => by have := h0.lt ho; omega
  have hz := h.size
  exact ⟨h2, hd.trans h.dr, h.but.trans b, (b.block _ (by omega) (hn 0)).trans h.bo, (b.block _ (by omega) (hn 1)).trans h.bl, (b.block _ (by omega) (hn 2)).trans h.br, (b.block _ (by omega) (hn 3)).trans h.bi, Nat.le_trans hz b.size⟩
theorem OvI.count (h0 : Orc w L O) (h : OvI O L w vu k O1 W) (j : Nat) : OvI O L w vu j O1 (W.setCell ⟨w.heap.size + 1 + 1 + 1, 0, none⟩ (.int .i64 (j : Int))) := by
  have hz := h.size
  have hb : Below (w.heap.size + 1 + 1 + 1) W (W.setCell ⟨w.heap.size + 1 + 1 + 1, 0, none⟩ (.int .i64 (j : Int))) := (Below.refl _ W).setCell (p := ⟨w.heap.size + 1 + 1 + 1, 0, none⟩) (Nat.le_refl _) _
  exact ⟨h.orc.far h0 h.dr (hb.mono (by omega)), h.dr, h.but.low (hb.mono (by omega)), (hb.block _ (by omega)).trans h.bo, (hb.block _ (by omega)).trans h.bl, (hb.block _ (by omega)).trans h.br, h.bi.set _, Nat.le_trans hz hb.size⟩
theorem OvI.no (h0 : Orc w L O) (h : OvI O L w vu k O1 W) : OvI O L w vu k O1 (W.setCell ⟨w.heap.size + 1 + 1, 0, none⟩ (.bool false)) := by
  have hz := h.size
  have hb : Below (w.heap.size + 1 + 1) W (W.setCell ⟨w.heap.size + 1 + 1, 0, none⟩ (.bool false)) := (Below.refl _ W).setCell (p := ⟨w.heap.size + 1 + 1, 0, none⟩) (Nat.le_refl _) _
  exact ⟨h.orc.far h0 h.dr (hb.mono (by omega)), h.dr, h.but.low (hb.mono (by omega)), (hb.block _ (by omega)).trans h.bo, (hb.block _ (by omega)).trans h.bl, h.br.set _, (heap_setCell_other W ⟨w.heap.size + 1 + 1, 0, none⟩ _ _ (by simp)).trans h.bi, Nat.le_trans hz hb.size⟩
/-- What stays while a round's values are fetched. -/
structure OvS (L : Lay) (w : World) (vu : Value) (k : Nat) (w' : World) : Prop where
  but : Kit.But L.own w w'
  bo : Boxed w' w.heap.size 26 (ptr L)
  bl : Boxed w' (w.heap.size + 1) 22 vu
  bi : Boxed w' (w.heap.size + 1 + 1 + 1) 3 (.int .i64 (k : Int))
  off : ∀ i, L.own i → i < w.heap.size
theorem OvS.move (h : OvS L w vu k W) (b : Kit.But L.own W W') : OvS L w vu k W' := by
  have hn : ∀ j, ¬ L.own (w.heap.size + j) := fun j ho => by have := h.off _ ho; omega
  exact ⟨h.but.trans b, (b.block _ h.bo.lt (hn 0)).trans h.bo, (b.block _ h.bl.lt (hn 1)).trans h.bl, (b.block _ h.bi.lt (hn 3)).trans h.bi, h.off⟩
theorem OvS.cells (h : OvS L w vu k W) {ad au : Addr} {l up : List Nat} {n cap nu cu x : Nat} (hv : Kit.Off L.own w (.slice (some ad) n cap) (nums l)) (hu : Kit.Off L.own w (.slice (some au) nu cu) (nums up)) (h0 : 2 * x < l.length) (h1 : 2 * x + 1 < l.length) (h2 : k < up.length) :
    W.cell? ⟨w.heap.size, 0, none⟩ = some (ptr L) ∧ W.cell? ⟨w.heap.size + 1, 0, none⟩ = some vu ∧ W.cell? ⟨w.heap.size + 1 + 1 + 1, 0, none⟩ = some (.int .i64 (k : Int)) ∧ W.cell? (ad.add (2 * x)) = some (.int .u64 (l.getD (2 * x) 0 : Nat)) ∧ W.cell? ⟨(ad.add (2 * x)).block, (ad.add (2 * x)).off + 1, none⟩ = some (.int .u64 (l.getD (2 * x + 1) 0 : Nat)) ∧ W.cell? (au.add k) = some (.int .u64 (up.getD k 0 : Nat)) := by
  obtain ⟨a1, e1, g1⟩ := (hv.but h.but).at_ (nums_at h0)
  obtain ⟨a2, e2, g2⟩ := (hv.but h.but).at_ (nums_at h1)
  obtain ⟨a3, e3, g3⟩ := (hu.but h.but).at_ (nums_at h2)
  cases e1
  cases e2
  cases e3
  rw [← Go.Deep.add_add] at g2
  exact ⟨h.bo.cell, h.bl.cell, h.bi.cell, g1, g2, g3⟩
end
theorem zip_snoc {ts : List ByteArray} {up : List Nat} (t : ByteArray) (h : ts.length < up.length) : (ts ++ [t]).zip up = ts.zip up ++ [(t, up.getD ts.length 0)] := by
  induction ts generalizing up with
  | nil =>
    cases up with
    | nil => simp at h
    | cons u up => simp
  | cons s ts ih =>
    cases up with
    | nil => simp at h
    | cons u up =>
      have := ih (up := up) (by simpa using h)
      simp only [List.cons_append, List.zip_cons_cons, this, List.length_cons, List.getD_cons_succ]
theorem zip_take_prefix (a : List ByteArray) (b : List Nat) (k : Nat) : ∃ r, a.zip b = (a.take k).zip b ++ r := by
  induction a generalizing b k with
  | nil => exact ⟨[], by simp⟩
  | cons x a ih =>
    cases k with
    | zero => exact ⟨_, by simp; rfl⟩
    | succ k =>
      cases b with
      | nil => exact ⟨[], by simp⟩
      | cons y b =>
        obtain ⟨r, hr⟩ := ih b k
        exact ⟨r, by simp [hr]⟩
theorem firsts_take {l : List Nat} {m k : Nat} (hl : l.length = 2 * m) (h : k ≤ m) : (firsts m k h).map (fun x => pairT l x.val) = (upT l).take k := by
  have h1 : (firsts m k h).map (fun x => pairT l x.val) = ((firsts m k h).map Fin.val).map (pairT l) := by rw [List.map_map]; rfl
  rw [h1, firsts_val]
  unfold upT
  rw [← List.map_take, List.take_range, show min k (l.length / 2) = k by omega]
  rfl
end Mera
end Go.Proofs.Ytllbcnficlbobaa
