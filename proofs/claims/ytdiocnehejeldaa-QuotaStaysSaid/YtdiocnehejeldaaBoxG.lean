/-
  Generic: a block of cells (a struct, an array) in a world: what it reads as, and what leaves it as it is.
-/
import Derived.Test.YtdiocnehejeldaaTab
import Derived.Handy
import Derived.Lib.Builder
namespace Go.Proofs.Ytdiocnehejeldaa
open Go.RowKit

/-- A block that holds these cells. -/
def Box (b : Nat) (w : World) (cs : Array Value) (T : TypeId) : Prop := w.heap[b]? = some (.cells cs T (0, 0))
section
variable {b : Nat} {w w' : World} {cs : Array Value} {T : TypeId}
theorem Box.heap (h : Box b w cs T) : w.heap[b]? = some (.cells cs T (0, 0)) := h
theorem Box.lt (h : Box b w cs T) : b < w.heap.size := by
  rcases Nat.lt_or_ge b w.heap.size with h' | h'
  · exact h'
  · have h : w.heap[b]? = some (.cells cs T (0, 0)) := h
    simp [Array.getElem?_eq_none h'] at h
theorem Box.cell (h : Box b w cs T) {j : Nat} {u : Value} (hj : cs[j]? = some u) : w.cell? ⟨b, j, none⟩ = some u := by
  rw [Lib.cell_of_heap h]
  exact hj
theorem Box.frozen (h : Box b w cs T) (j : Nat) : w.frozen? ⟨b, j, none⟩ = false := Lib.frozen_of_heap h j
theorem Box.new (w : World) (cs : Array Value) (T : TypeId) : Box w.heap.size (w.alloc (.cells cs T)) cs T := (MapKept.heap_alloc w _).1
theorem Box.kept (h : Box b w cs T) (hb : w'.heap[b]? = w.heap[b]?) : Box b w' cs T := hb.trans h
theorem Box.below (h : Box b w cs T) (hb : Below w.heap.size w w') : Box b w' cs T := h.kept (hb.block b h.lt)
theorem Box.low {B : Nat} (h : Box b w cs T) (hb : Below B w w') (hB : b < B) : Box b w' cs T := h.kept (hb.block b hB)
theorem Box.but {S : Nat → Prop} (h : Box b w cs T) (hb : Kit.But S w w') (hS : ¬ S b) : Box b w' cs T := h.kept (hb.block b h.lt hS)
theorem Box.alloc (h : Box b w cs T) (o : Obj) : Box b (w.alloc o) cs T := h.below ((Below.refl _ w).alloc (Nat.le_refl _) o)
theorem Box.drew (h : Box b w cs T) : Box b w.drew cs T := h
theorem Box.set (h : Box b w cs T) (j : Nat) (u : Value) : Box b (w.setCell ⟨b, j, none⟩ u) (cs.setIfInBounds j u) T := heap_setCell_same w b j cs T u h
theorem Box.set_off (h : Box b w cs T) {p : Addr} (hp : b ≠ p.block) (u : Value) : Box b (w.setCell p u) cs T := h.kept (heap_setCell_other w p b u hp)
theorem Box.grown {row : Option Nat} (h : Box b w cs T) (hg : w.grownBy w' row) (hr : ∀ k, row = some k → b ≠ k) : Box b w' cs T := h.kept (hg.block _ h.lt (fun e => hr _ e.symm rfl))
end
theorem below_lit (w : World) (o : Obj) : Below w.heap.size w (w.alloc o) := (Below.refl _ w).alloc (Nat.le_refl _) o
end Go.Proofs.Ytdiocnehejeldaa
