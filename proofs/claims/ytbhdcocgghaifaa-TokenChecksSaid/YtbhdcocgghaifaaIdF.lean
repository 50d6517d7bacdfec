/-
  The laws' played: an oracle behind some calls.
-/
import Derived.Test.YtbhdcocgghaifaaIdE
import Derived.Deep.Slices
namespace Go.Proofs.Ytbhdcocgghaifaa
open Go.RowKit Go.Maps
open Ideal

namespace Ida
/-- A slice that reads as calls. -/
def Cls (w : World) (v : Value) (cl : List Cl) : Prop :=
  ∃ a cap, v = .slice a cl.length cap ∧ (cl = [] ∨ ∃ ad : Addr, a = some ad ∧ ∀ i c, cl[i]? = some c → ∀ j u, (callCells c)[j]? = some u → w.cell? (ad.add (i * 6 + j)) = some u)
theorem Cls.below {w w' : World} {v : Value} {cl : List Cl} (h : Cls w v cl) (hb : Below w.heap.size w w') : Cls w' v cl := by
  obtain ⟨a, cap, rfl, h⟩ := h
  refine ⟨a, cap, rfl, ?_⟩
  rcases h with h | ⟨ad, rfl, hc⟩
  · exact .inl h
  · exact .inr ⟨ad, rfl, fun i c hi j u hu => by
      have h1 := hc i c hi j u hu
      rw [hb.cell (World.block_lt_of_cell? _ _ h1)]
      exact h1⟩

/-- A call's six cells, as a walk meets them. -/
theorem Cls.at_ {w : World} {a : Option Addr} {n cap k : Nat} {cl : List Cl} (h : Cls w (.slice a n cap) cl) {c : Cl} (hk : cl[k]? = some c) : ∃ ad : Addr, a = some ad ∧
    w.cell? (ad.add (k * 6)) = some (.int .i64 c.d) ∧ w.cell? ⟨(ad.add (k * 6)).block, (ad.add (k * 6)).off + 1, none⟩ = some (.int .u64 (c.key : Int)) ∧ w.cell? ⟨(ad.add (k * 6)).block, (ad.add (k * 6)).off + 2, none⟩ = some (.int .u64 (c.nonce : Int)) ∧
    w.cell? ⟨(ad.add (k * 6)).block, (ad.add (k * 6)).off + 3, none⟩ = some (.int .u64 (c.h : Int)) ∧ w.cell? ⟨(ad.add (k * 6)).block, (ad.add (k * 6)).off + 4, none⟩ = some (.string c.a) ∧ w.cell? ⟨(ad.add (k * 6)).block, (ad.add (k * 6)).off + 5, none⟩ = some (.string c.b) := by
  obtain ⟨a', cap', he, h⟩ := h
  injection he with h1 h2 h3
  subst h1
  rcases h with rfl | ⟨ad, rfl, hc⟩
  · cases hk
  · have hcc := hc k c hk
    have step : ∀ j, (ad.add (k * 6)).add j = ad.add (k * 6 + j) := fun j => Go.Deep.add_add _ _ _
    refine ⟨ad, rfl, hcc 0 _ rfl, ?_, ?_, ?_, ?_, ?_⟩
    · have := hcc 1 _ rfl; rw [← step] at this; exact this
    · have := hcc 2 _ rfl; rw [← step] at this; exact this
    · have := hcc 3 _ rfl; rw [← step] at this; exact this
    · have := hcc 4 _ rfl; rw [← step] at this; exact this
    · have := hcc 5 _ rfl; rw [← step] at this; exact this

end Ida
end Go.Proofs.Ytbhdcocgghaifaa
