/-
  Generic: a slice value that reads as a list (nil let in).
-/
import Derived.Test.YtdiocnehejeldaaTab
import Derived.Laws.AppendOwnNone
import Derived.Lib.SliceRun
namespace Go.Proofs.Ytdiocnehejeldaa
open Go.RowKit

/-- A slice as it came in, or was made: nil, or with an address. -/
def Kit.Sl (w : World) (v : Value) (xs : List Value) : Prop :=
  (v = .slice none 0 0 ∧ xs = []) ∨ ∃ ad cap, v = .slice (some ad) xs.length cap ∧ ∀ j u, xs[j]? = some u → w.cell? (ad.add j) = some u
theorem Kit.Sl.rd {w : World} {v : Value} {xs : List Value} (h : Kit.Sl w v xs) : Kit.Rd w v xs := by
  rcases h with ⟨rfl, rfl⟩ | ⟨ad, cap, rfl, h⟩
  · exact Kit.Rd.nil_ w
  · exact ⟨some ad, cap, rfl, .inr ⟨ad, rfl, h⟩⟩
theorem Kit.Sl.below {w w' : World} {v : Value} {xs : List Value} (h : Kit.Sl w v xs) (hb : Below w.heap.size w w') : Kit.Sl w' v xs := by
  rcases h with h | ⟨ad, cap, rfl, h⟩
  · exact .inl h
  · exact .inr ⟨ad, cap, rfl, fun j u hu => by
      have h1 := h j u hu
      rw [hb.cell (World.block_lt_of_cell? _ _ h1)]
      exact h1⟩
theorem Kit.Sl.of_own {w : World} {B : Nat} {e : TypeId} {v : Value} {n : Nat} {xs : List Value} (h : w.ownsRow B e 1 v n xs) : Kit.Sl w v xs := by
  have hl : xs.length = n := by simpa using h.1
  rcases h.2 with ⟨rfl, rfl⟩ | ⟨g, cap, cur, rfl, _⟩
  · exact .inl ⟨rfl, List.eq_nil_of_length_eq_zero hl⟩
  · exact .inr ⟨_, cap, by rw [hl], h.cells (g := g) rfl⟩

end Go.Proofs.Ytdiocnehejeldaa
