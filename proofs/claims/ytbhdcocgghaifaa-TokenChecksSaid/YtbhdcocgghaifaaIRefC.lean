/-
  The document's own oracle: draw.
-/
import Derived.Test.YtbhdcocgghaifaaIRefB
import Derived.Deep.RegionLaw
namespace Go.Proofs.Ytbhdcocgghaifaa.Ref3
open Go.RowKit
open Ideal Ida

theorem infoRow : (Try.prog.info? 74).map (fun i => (i.size, i.bytes)) = some (6, 64) := by kernel_rfl
theorem infoRowZ : ∃ i z, Try.prog.info? 74 = some i ∧ i.zero = some z ∧ i.size = 6 ∧ i.bytes = 64 ∧ z.cells.size = 6 := by
  have h : (Try.prog.info? 74).map (fun i => (i.size, i.bytes, i.zero.map (·.cells.size))) = some (6, 64, some 6) := by kernel_rfl
  cases hi : Try.prog.info? 74 with
  | none => rw [hi] at h; cases h
  | some i =>
    rw [hi] at h
    simp only [Option.map_some, Option.some.injEq, Prod.mk.injEq] at h
    obtain ⟨h1, h2, h3⟩ := h
    cases hz : i.zero with
    | none => rw [hz] at h3; cases h3
    | some z =>
      rw [hz] at h3
      exact ⟨i, z, rfl, hz, h1, h2, by simpa using h3⟩

section
variable {K : Nat → Prop} {q : Nat} {w w' : World} {dv rv mv : Value} {O : Or}
theorem own_apart {B : Nat} {e e' : TypeId} {z z' : Nat} {v v' : Value} {n n' : Nat} {xs xs' : List Value} (h : w.ownsRow B e z v n xs) (h' : w.ownsRow B e' z' v' n' xs') (hne : e ≠ e') : v.ownBlock = none ∨ v.ownBlock ≠ v'.ownBlock := by
  rcases h.2 with ⟨rfl, _⟩ | ⟨g, cap, cur, rfl, _, hg, _⟩
  · exact .inl rfl
  · right
    rcases h'.2 with ⟨rfl, _⟩ | ⟨g', cap', cur', rfl, _, hg', _⟩
    · simp [Value.ownBlock]
    · intro he
      simp only [Value.ownBlock, Option.some.injEq] at he
      subst he
      rw [hg] at hg'
      simp only [Option.some.injEq, Obj.cells.injEq] at hg'
      exact hne hg'.2.1
theorem own_set {B : Nat} {e T : TypeId} {z : Nat} {v : Value} {n : Nat} {xs : List Value} {cs : Array Value} (h : w.ownsRow B e z v n xs) (hq : w.heap[q]? = some (.cells cs T (0, 0))) (hne : e ≠ T) (j : Nat) (u : Value) : (w.setCell ⟨q, j, none⟩ u).ownsRow B e z v n xs := by
  refine h.kept (row := some q) ⟨rfl, rfl, rfl, by simp [World.setCell], fun k _ hk => Below.heap_setCell _ _ _ _ (fun e => hk (by simp [e]))⟩ ?_
  rcases h.2 with ⟨rfl, _⟩ | ⟨g, cap, cur, rfl, _, hg, _⟩
  · exact .inl rfl
  · right
    intro he
    simp only [Value.ownBlock, Option.some.injEq] at he
    subst he
    rw [hg] at hq
    simp only [Option.some.injEq, Obj.cells.injEq] at hq
    exact hne hq.2.1
/-- What an append hands back is not one of K's blocks. -/
theorem off_new {v : Value} {g n c : Nat} (ho : ∀ g, v.ownBlock = some g → ¬ K g) (hat : v.ownBlock = some g ∨ g = w.heap.size) (hK : On K w) : ∀ k, (Value.slice (some ⟨g, 0, none⟩) n c).ownBlock = some k → ¬ K k := by
  intro k hk hKk
  simp only [Value.ownBlock, Option.some.injEq] at hk
  subst hk
  rcases hat with hat | hat
  · exact ho _ hat hKk
  · have := hK _ hKk
    omega
/-- One thing bad more. -/
theorem At.bad (h : At K w q dv rv mv O) : At K (w.setCell ⟨q, 3, none⟩ (.int .i64 ((O.bads : Int) + 1))) q dv rv mv { O with bads := O.bads + 1 } :=
  ⟨heap_setCell_same w q 3 _ _ _ h.box, h.low, own_set h.dr h.box (by decide) _ _, own_set h.rs h.box (by decide) _ _, own_set h.mt h.box (by decide) _ _, h.ne, h.fine, h.od, h.orw, h.om⟩
/-- A row more. -/
theorem At.more (h : At K w q dv rv mv O) {r : Row} (hr : r.h < 18446744073709551616) {rv' : Value} (hg : w.grownBy w' rv.ownBlock) (ho : w'.ownsRow 0 74 6 rv' (O.rows.length + 1) (O.rows.flatMap rowCells ++ rowCells r)) (hoff : ∀ g, rv'.ownBlock = some g → ¬ K g) :
    At K (w'.setCell ⟨q, 1, none⟩ rv') q dv rv' mv { O with rows := O.rows ++ [r] } := by
  have hq : w'.heap[q]? = some (.cells #[dv, rv, mv, .int .i64 (O.bads : Int)] 60 (0, 0)) := by
    refine (hg.block q h.lt ?_).trans h.box
    rcases h.rs.2 with ⟨rfl, _⟩ | ⟨g, cap, cur, rfl, _, hgg, _⟩
    · simp [Value.ownBlock]
    · intro he
      simp only [Value.ownBlock, Option.some.injEq] at he
      subst he
      have := hgg.symm.trans h.box
      simp only [Option.some.injEq, Obj.cells.injEq] at this
      exact absurd this.2.1 (by decide)
  have hd := h.dr.kept hg (own_apart h.dr h.rs (by decide))
  have hm := h.mt.kept hg (own_apart h.mt h.rs (by decide))
  refine ⟨heap_setCell_same w' q 1 _ _ _ hq, h.low, own_set hd hq (by decide) _ _, ?_, own_set hm hq (by decide) _ _, h.ne, ⟨h.fine.1, ?_⟩, h.od, hoff, h.om⟩
  · have := own_set ho hq (by decide) 1 rv'
    rw [show (O.rows ++ [r]).length = O.rows.length + 1 by simp, show (O.rows ++ [r]).flatMap rowCells = O.rows.flatMap rowCells ++ rowCells r by simp]
    exact this
  · intro x hx
    rcases List.mem_append.1 hx with hx | hx
    · exact h.fine.2 x hx
    · rw [List.mem_singleton.1 hx]
      exact hr
/-- What was met more. -/
theorem At.meets (h : At K w q dv rv mv O) {v : Nat} {g cap : Nat} (hg : w.grownBy w' mv.ownBlock) (ho : w'.ownsRow 0 22 1 (.slice (some ⟨g, 0, none⟩) (O.met.length + 1) cap) (O.met.length + 1) (nums O.met ++ [.int .u64 (v : Int)])) (hat : mv.ownBlock = some g ∨ g = w.heap.size) (hoff : ∀ k, (Value.slice (some ⟨g, 0, none⟩) (O.met.length + 1) cap).ownBlock = some k → ¬ K k) :
    At K (w'.setCell ⟨q, 2, none⟩ (.slice (some ⟨g, 0, none⟩) (O.met.length + 1) cap)) q dv rv (.slice (some ⟨g, 0, none⟩) (O.met.length + 1) cap) { O with met := O.met ++ [v] } := by
  have hq : w'.heap[q]? = some (.cells #[dv, rv, mv, .int .i64 (O.bads : Int)] 60 (0, 0)) := by
    refine (hg.block q h.lt ?_).trans h.box
    rcases h.mt.2 with ⟨rfl, _⟩ | ⟨g, cap, cur, rfl, _, hgg, _⟩
    · simp [Value.ownBlock]
    · intro he
      simp only [Value.ownBlock, Option.some.injEq] at he
      subst he
      have := hgg.symm.trans h.box
      simp only [Option.some.injEq, Obj.cells.injEq] at this
      exact absurd this.2.1 (by decide)
  have hd : w'.ownsRow 0 22 1 dv O.draws.length (nums O.draws) := by
    refine h.dr.kept hg ?_
    cases hb : dv.ownBlock with
    | none => exact .inl rfl
    | some k => exact .inr (fun e => h.ne k hb e.symm)
  have hr := h.rs.kept hg (own_apart h.rs h.mt (by decide))
  refine ⟨heap_setCell_same w' q 2 _ _ _ hq, h.low, own_set hd hq (by decide) _ _, own_set hr hq (by decide) _ _, ?_, ?_, h.fine, h.od, h.orw, hoff⟩
  · have := own_set ho hq (by decide) 2 (.slice (some ⟨g, 0, none⟩) (O.met.length + 1) cap)
    rw [show (O.met ++ [v]).length = O.met.length + 1 by simp, nums_snoc]
    exact this
  · intro k hk he
    simp only [Value.ownBlock, Option.some.injEq] at he
    subst he
    rcases hat with hat | hat
    · exact h.ne g hk hat
    · have := (h.dr.lt g hk).2
      omega
end

end Go.Proofs.Ytbhdcocgghaifaa.Ref3
