/-
  Generic: results that lie in cells; an oracle kept over what came since.
-/
import Derived.Test.YtbhdcocgghaifaaBox
import Derived.Laws.ResultCell
namespace Go.Proofs.Ytbhdcocgghaifaa
open Go.RowKit
open Ideal Ida

theorem results_tmp_cell {fn : Func} {p u : Tmp} {ty : TypeId} (h : fn.results = #[.tmp u, .cell p ty]) (tmps : Array Value) (P : Program) (w : World) :
    (results fn tmps).run P w = ((asAddr (tmps.getD p undef)).run P w).andThen fun a w₁ => ((loadVar ty a).run P w₁).andThen fun v w₂ => .ok (.tuple #[tmps.getD u undef, v]) w₂ := by
  simp only [results, h]
  simp [Sem.run_bind, Result.andThen]
theorem results_one_cell {fn : Func} {p : Tmp} {ty : TypeId} (h : fn.results = #[.cell p ty]) (tmps : Array Value) (P : Program) (w : World) :
    (results fn tmps).run P w = ((asAddr (tmps.getD p undef)).run P w).andThen fun a w₁ => ((loadVar ty a).run P w₁) := by
  simp only [results, h]
  simp [Sem.run_bind, Result.andThen]
theorem but_alloc (w : World) (S : Nat → Prop) (o : Obj) : Kit.But S w (w.alloc o) := (Kit.But.refl S w).alloc o

namespace Ideal.Or
theorem draws_ask (O : Or) (x : Row) : (O.ask x).draws = O.draws := by
  unfold ask
  split <;> rfl
end Ideal.Or

namespace Ida
/-- An oracle stays where nothing turned but what came since. -/
theorem Orc.kept_new {w0 w1 w' : World} {L : Lay} {O0 O1 : Or} (h : Orc w1 L O1) (h0 : Orc w0 L O0) (hd : O1.draws = O0.draws) (hk : ∀ i, i < w0.heap.size → w'.heap[i]? = w1.heap[i]?) : Orc w' L O1 := by
  refine ⟨h.1.kept (fun i hi => hk i (h0.lt hi)) ?_, h.2⟩
  have r1 : Kit.Rd w1 L.dv (nums O1.draws) := h.1.dr
  have r0 : Kit.Rd w0 L.dv (nums O0.draws) := h0.1.dr
  show Kit.Rd w' L.dv (nums O1.draws)
  rw [← hd] at r0
  obtain ⟨a, cap, e1, h1⟩ := r1
  obtain ⟨a', cap', e2, h2⟩ := r0
  refine ⟨a, cap, e1, ?_⟩
  rcases h1 with h1 | ⟨ad, rfl, hc⟩
  · exact .inl h1
  · refine .inr ⟨ad, rfl, fun j x hx => ?_⟩
    rw [e1] at e2
    simp only [Value.slice.injEq] at e2
    obtain ⟨rfl, -, rfl⟩ := e2
    rcases h2 with h2 | ⟨ad', e3, hc'⟩
    · rw [h2] at hx
      cases hx
    · obtain rfl := Option.some.inj e3
      rw [World.cell?_of_block (w := w1) (hk _ (World.block_lt_of_cell? _ _ (hc' j x hx)))]
      exact hc j x hx
end Ida

end Go.Proofs.Ytbhdcocgghaifaa
