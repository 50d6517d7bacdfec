/-
  The laws' arguments: draws, calls and a key; three numbers. The first one in memory.
-/
import Derived.Test.YtkadkakkaodeeaaKeyB
import Derived.Test.YtkadkakkaodeeaaNums
import Derived.Deep.RegionHeld3
import Derived.Deep.DeepCutAuto
namespace Go.Proofs.Ytkadkakkaodeeaa.Kya
open Go.RowKit Go.ChangeShapes Go.WideShapes Go.ChangeAt
open Ideal Ida

section
variable {H : Type} {enc : TypeId × Value → H} {w : World}
theorem one_sl : Try.prog.cellsOf 22 = 1 := by kernel_rfl
theorem one_cl : Try.prog.cellsOf 23 = 1 := by kernel_rfl
theorem cells_case : Try.prog.cellsOf 26 = 3 := by kernel_rfl
theorem open_case {v : Value} {d : DataW H} {p : List MemPlace} {r : Reach} {b0 : Nat} (hv : Value.okWide Try.prog w r b0 26 v) (h : DataW.Trod enc Try.prog w 0 (fun _ => true) true 26 v d p) :
    ∃ (dv cv : Value) (l : List Nat) (cl : List Cl) (key : Nat), v = .agg #[dv, cv, .int .u64 (key : Int)] ∧ Kit.Sl w dv (nums l) ∧ (∀ x ∈ l, x < 18446744073709551616) ∧ Cls w cv cl ∧ (∀ c ∈ cl, CallFine c) ∧ key < 18446744073709551616 ∧
      ((∀ n ∈ DataW.weights Try.prog 26 d, n ≤ reachBytes) → l.length * 8 ≤ reachBytes) ∧ l.length ≤ Rows.uptoBulk d := by
  obtain ⟨cs, rfl, hsz⟩ := okWide_struct Try.underlying26 hv
  rw [cells_case] at hsz
  obtain ⟨fuel, hf⟩ := h
  obtain ⟨ys, m, _, hx, _, hyl, hg⟩ := DataW.trod_struct Try.underlying26 hf
  obtain ⟨cs⟩ := cs
  match cs, hsz with
  | [c0, c1, c2], _ =>
    match ys, hyl with
    | [y0, y1, y2], _ =>
      have t0 : DataW.trod enc Try.prog w 0 (fun _ => true) true m 22 (([c0, c1, c2].drop 0).take (Try.prog.cellsOf 22)) = some y0 := hg 0 _ rfl
      rw [one_sl] at t0
      have t1 : DataW.trod enc Try.prog w 0 (fun _ => true) true m 23 (([c0, c1, c2].drop 1).take (Try.prog.cellsOf 23)) = some y1 := hg 1 _ rfl
      rw [one_cl] at t1
      have t2 : DataW.trod enc Try.prog w 0 (fun _ => true) true m 24 (([c0, c1, c2].drop 2).take (Try.prog.cellsOf 24)) = some y2 := hg 2 _ rfl
      rw [one_num] at t2
      obtain ⟨dv, l, r0, s0, x0, w0, u0⟩ := open_draws2 t0
      obtain ⟨cv, cl, r1, s1, x1⟩ := open_calls t1
      obtain ⟨k, r2, -, w2⟩ := DataW.trod_int Try.underlying24 t2
      obtain ⟨k, rfl, hk⟩ := nat_of (bounds_u64 w2)
      simp at r0 r1 r2
      subst r0 r1 r2
      simp only [Prod.mk.injEq] at hx
      obtain ⟨rfl, -⟩ := hx
      refine ⟨_, _, l, cl, k, rfl, s0, x0, s1, x1, hk, fun hw => w0 fun n hn => hw n ?_, by simp only [List.map_cons, Rows.uptoBulk, Rows.uptoBulkAll]; omega⟩
      simp only [DataW.weights, Try.underlying26, List.map_cons, DataW.weightsEach, List.mem_append]
      exact .inl hn

theorem cells_three : Try.prog.cellsOf 45 = 3 := by kernel_rfl
theorem open_three {v : Value} {d : DataW H} {p : List MemPlace} {r : Reach} {b0 : Nat} (hv : Value.okWide Try.prog w r b0 45 v) (h : DataW.Trod enc Try.prog w 0 (fun _ => true) true 45 v d p) :
    ∃ (a b c : Nat), v = .agg #[.int .u64 (a : Int), .int .u64 (b : Int), .int .u64 (c : Int)] ∧ a < 18446744073709551616 ∧ b < 18446744073709551616 ∧ c < 18446744073709551616 := by
  simp only [Value.okWide, Try.underlying45] at hv
  obtain ⟨cs, rfl, hsz, _⟩ := hv
  rw [cells_three] at hsz
  obtain ⟨cs⟩ := cs
  match cs, hsz with
  | [c0, c1, c2], _ =>
    obtain ⟨fuel, hf⟩ := h
    obtain ⟨ys, m, _, hx, _, hyl, hg⟩ := DataW.trod_array Try.underlying45 hf
    match ys, hyl with
    | [y0, y1, y2], _ =>
      have t0 := hg 0 (by omega)
      have t1 := hg 1 (by omega)
      have t2 := hg 2 (by omega)
      rw [one_num] at t0 t1 t2
      obtain ⟨a, r0, -, w0⟩ := DataW.trod_int Try.underlying24 t0
      obtain ⟨b, r1, -, w1⟩ := DataW.trod_int Try.underlying24 t1
      obtain ⟨c, r2, -, w2⟩ := DataW.trod_int Try.underlying24 t2
      obtain ⟨a, rfl, ha⟩ := nat_of (bounds_u64 w0)
      obtain ⟨b, rfl, hb⟩ := nat_of (bounds_u64 w1)
      obtain ⟨c, rfl, hc⟩ := nat_of (bounds_u64 w2)
      simp [Value.cells] at r0 r1 r2
      subst r0 r1 r2
      exact ⟨a, b, c, rfl, ha, hb, hc⟩
end

section
variable {w w' w'' : World} {dv cv : Value} {key : Nat}
/-- The argument's cells in a world. -/
theorem case_parts (h : w'.heap[w.heap.size]? = some (.cells #[dv, cv, .int .u64 (key : Int)] 26 (0, 0))) (hb : Below w.heap.size w w') : w'.cell? ⟨w.heap.size, 0, none⟩ = some dv ∧ w'.cell? ⟨w.heap.size, 1, none⟩ = some cv ∧ w'.cell? ⟨w.heap.size, 2, none⟩ = some (.int .u64 (key : Int)) ∧ w'.heap[w.heap.size]? = some (.cells #[dv, cv, .int .u64 (key : Int)] 26 (0, 0)) ∧ Below w.heap.size w w' := by
  refine ⟨?_, ?_, ?_, h, hb⟩
  iterate 3 (rw [Lib.cell_of_heap h]; rfl)
theorem case_keep {M : Lay} (h : w'.cell? ⟨w.heap.size, 0, none⟩ = some dv ∧ w'.cell? ⟨w.heap.size, 1, none⟩ = some cv ∧ w'.cell? ⟨w.heap.size, 2, none⟩ = some (.int .u64 (key : Int)) ∧ w'.heap[w.heap.size]? = some (.cells #[dv, cv, .int .u64 (key : Int)] 26 (0, 0)) ∧ Below w.heap.size w w') (hm : ∀ i, M.own i → w.heap.size < i) (b : Kit.But M.own w' w'') : w''.cell? ⟨w.heap.size, 0, none⟩ = some dv ∧ w''.cell? ⟨w.heap.size, 1, none⟩ = some cv ∧ w''.cell? ⟨w.heap.size, 2, none⟩ = some (.int .u64 (key : Int)) ∧ w''.heap[w.heap.size]? = some (.cells #[dv, cv, .int .u64 (key : Int)] 26 (0, 0)) ∧ Below w.heap.size w w'' := by
  obtain ⟨-, -, -, h, hb⟩ := h
  have hlt : w.heap.size < w'.heap.size := (Array.getElem?_eq_some_iff.1 h).1
  exact case_parts ((b.block _ hlt (fun ho => Nat.lt_irrefl _ (hm _ ho))).trans h) (hb.trans (b.below hb.size (fun i hi => Nat.le_of_lt (hm i hi))))
theorem case_below (h : w'.cell? ⟨w.heap.size, 0, none⟩ = some dv ∧ w'.cell? ⟨w.heap.size, 1, none⟩ = some cv ∧ w'.cell? ⟨w.heap.size, 2, none⟩ = some (.int .u64 (key : Int)) ∧ w'.heap[w.heap.size]? = some (.cells #[dv, cv, .int .u64 (key : Int)] 26 (0, 0)) ∧ Below w.heap.size w w') (b : Below w'.heap.size w' w'') : w''.cell? ⟨w.heap.size, 0, none⟩ = some dv ∧ w''.cell? ⟨w.heap.size, 1, none⟩ = some cv ∧ w''.cell? ⟨w.heap.size, 2, none⟩ = some (.int .u64 (key : Int)) ∧ w''.heap[w.heap.size]? = some (.cells #[dv, cv, .int .u64 (key : Int)] 26 (0, 0)) ∧ Below w.heap.size w w'' := by
  obtain ⟨-, -, -, h, hb⟩ := h
  have hlt : w.heap.size < w'.heap.size := (Array.getElem?_eq_some_iff.1 h).1
  exact case_parts ((b.block _ hlt).trans h) (hb.trans (b.mono hb.size))
theorem case_grown {row : Option Nat} (h : w'.cell? ⟨w.heap.size, 0, none⟩ = some dv ∧ w'.cell? ⟨w.heap.size, 1, none⟩ = some cv ∧ w'.cell? ⟨w.heap.size, 2, none⟩ = some (.int .u64 (key : Int)) ∧ w'.heap[w.heap.size]? = some (.cells #[dv, cv, .int .u64 (key : Int)] 26 (0, 0)) ∧ Below w.heap.size w w') (hg : w'.grownBy w'' row) (hr : ∀ k, row = some k → w.heap.size < k) : w''.cell? ⟨w.heap.size, 0, none⟩ = some dv ∧ w''.cell? ⟨w.heap.size, 1, none⟩ = some cv ∧ w''.cell? ⟨w.heap.size, 2, none⟩ = some (.int .u64 (key : Int)) ∧ w''.heap[w.heap.size]? = some (.cells #[dv, cv, .int .u64 (key : Int)] 26 (0, 0)) ∧ Below w.heap.size w w'' := by
  obtain ⟨-, -, -, h, hb⟩ := h
  have hlt : w.heap.size < w'.heap.size := (Array.getElem?_eq_some_iff.1 h).1
  exact case_parts ((hg.block _ hlt (fun e => Nat.lt_irrefl _ (hr _ e.symm))).trans h) (hb.grown hg hb.size (fun k hk => Nat.le_of_lt (hr k hk)))
theorem case_low {B : Nat} (h : w'.cell? ⟨w.heap.size, 0, none⟩ = some dv ∧ w'.cell? ⟨w.heap.size, 1, none⟩ = some cv ∧ w'.cell? ⟨w.heap.size, 2, none⟩ = some (.int .u64 (key : Int)) ∧ w'.heap[w.heap.size]? = some (.cells #[dv, cv, .int .u64 (key : Int)] 26 (0, 0)) ∧ Below w.heap.size w w') (b : Below B w' w'') (hB : w.heap.size < B) : w''.cell? ⟨w.heap.size, 0, none⟩ = some dv ∧ w''.cell? ⟨w.heap.size, 1, none⟩ = some cv ∧ w''.cell? ⟨w.heap.size, 2, none⟩ = some (.int .u64 (key : Int)) ∧ w''.heap[w.heap.size]? = some (.cells #[dv, cv, .int .u64 (key : Int)] 26 (0, 0)) ∧ Below w.heap.size w w'' := by
  obtain ⟨-, -, -, h, hb⟩ := h
  exact case_parts ((b.block _ hB).trans h) (hb.trans (b.mono (Nat.le_of_lt hB)))
theorem case_of {M : Lay} {O : Or} (_ : Orc w' M O) (h : w'.cell? ⟨w.heap.size, 0, none⟩ = some dv ∧ w'.cell? ⟨w.heap.size, 1, none⟩ = some cv ∧ w'.cell? ⟨w.heap.size, 2, none⟩ = some (.int .u64 (key : Int)) ∧ w'.heap[w.heap.size]? = some (.cells #[dv, cv, .int .u64 (key : Int)] 26 (0, 0)) ∧ Below w.heap.size w w') : w'.cell? ⟨w.heap.size, 0, none⟩ = some dv ∧ w'.cell? ⟨w.heap.size, 1, none⟩ = some cv ∧ w'.cell? ⟨w.heap.size, 2, none⟩ = some (.int .u64 (key : Int)) ∧ w'.heap[w.heap.size]? = some (.cells #[dv, cv, .int .u64 (key : Int)] 26 (0, 0)) ∧ Below w.heap.size w w' := h
theorem case_is (h : w'.cell? ⟨w.heap.size, 0, none⟩ = some dv ∧ w'.cell? ⟨w.heap.size, 1, none⟩ = some cv ∧ w'.cell? ⟨w.heap.size, 2, none⟩ = some (.int .u64 (key : Int)) ∧ w'.heap[w.heap.size]? = some (.cells #[dv, cv, .int .u64 (key : Int)] 26 (0, 0)) ∧ Below w.heap.size w w') : Below w.heap.size w w' := h.2.2.2.2
end
/-- What lies in a list that came in lies ahead of an oracle that was made since. -/
theorem rd_lt {w : World} {v : Value} {xs : List Value} (h : Kit.Rd w v xs) (hx : xs ≠ []) : ∀ b, v.ownBlock = some b → b < w.heap.size := by
  obtain ⟨a, cap, rfl, h | ⟨ad, rfl, hc⟩⟩ := h
  · exact absurd h hx
  · intro b hb
    simp only [Value.ownBlock, Option.some.injEq] at hb
    cases xs with
    | nil => exact absurd rfl hx
    | cons u xs =>
      have := World.block_lt_of_cell? _ _ (hc 0 u rfl)
      rw [Kit.add_block] at this
      omega
theorem arg_off {w : World} {M : Lay} {v : Value} {l : List Nat} (h : Kit.Rd w v (nums l)) (hm : ∀ i, M.own i → w.heap.size < i) : l ≠ [] → ∀ b, v.ownBlock = some b → ¬ M.own b := by
  intro hl b hb ho
  have h1 := rd_lt h (by intro e; apply hl; simpa [nums] using e) b hb
  have h2 := hm b ho
  omega
end Go.Proofs.Ytkadkakkaodeeaa.Kya
