/-
  Generic: results that lie in cells.
-/
import Derived.Test.YtjjpmmokgcfkdaaBoxG
import Derived.Laws.ResultCell
namespace Go.Proofs.Ytjjpmmokgcfkdaa
open Go.RowKit

theorem results_tmp_cell {fn : Func} {p u : Tmp} {ty : TypeId} (h : fn.results = #[.tmp u, .cell p ty]) (tmps : Array Value) (P : Program) (w : World) :
    (results fn tmps).run P w = ((asAddr (tmps.getD p undef)).run P w).andThen fun a w₁ => ((loadVar ty a).run P w₁).andThen fun v w₂ => .ok (.tuple #[tmps.getD u undef, v]) w₂ := by
  simp only [results, h]
  simp [Sem.run_bind, Result.andThen]
theorem results_one_cell {fn : Func} {p : Tmp} {ty : TypeId} (h : fn.results = #[.cell p ty]) (tmps : Array Value) (P : Program) (w : World) :
    (results fn tmps).run P w = ((asAddr (tmps.getD p undef)).run P w).andThen fun a w₁ => ((loadVar ty a).run P w₁) := by
  simp only [results, h]
  simp [Sem.run_bind, Result.andThen]
theorem but_alloc (w : World) (S : Nat → Prop) (o : Obj) : Kit.But S w (w.alloc o) := (Kit.But.refl S w).alloc o

end Go.Proofs.Ytjjpmmokgcfkdaa
