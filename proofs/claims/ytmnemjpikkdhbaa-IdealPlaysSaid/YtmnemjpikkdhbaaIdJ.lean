/-
  The laws' argument of two texts in memory; what an oracle tells, in one form.
-/
import Derived.Test.YtmnemjpikkdhbaaIdH
import Derived.Test.YtmnemjpikkdhbaaIdI
import Derived.Deep.RegionHeld3
import Derived.Deep.DeepCutAuto
namespace Go.Proofs.Ytmnemjpikkdhbaa.Ida
open Go.RowKit Go.ChangeShapes Go.WideShapes Go.ChangeAt
open Ideal

/-- The argument's cells in a world. -/
theorem two_parts {w w' : World} {A B : ByteArray} {K L N : Nat} (h : w'.heap[w.heap.size]? = some (.cells #[.string A, .string B, .int .u64 (K : Int), .int .u64 (L : Int), .int .u64 (N : Int)] 37 (0, 0))) (hb : Below w.heap.size w w') : w'.cell? ⟨w.heap.size, 0, none⟩ = some (.string A) ∧ w'.cell? ⟨w.heap.size, 1, none⟩ = some (.string B) ∧ w'.cell? ⟨w.heap.size, 2, none⟩ = some (.int .u64 (K : Int)) ∧ w'.cell? ⟨w.heap.size, 3, none⟩ = some (.int .u64 (L : Int)) ∧ w'.cell? ⟨w.heap.size, 4, none⟩ = some (.int .u64 (N : Int)) ∧ w'.heap[w.heap.size]? = some (.cells #[.string A, .string B, .int .u64 (K : Int), .int .u64 (L : Int), .int .u64 (N : Int)] 37 (0, 0)) ∧ Below w.heap.size w w' := by
  refine ⟨?_, ?_, ?_, ?_, ?_, h, hb⟩
  iterate 5 (rw [Lib.cell_of_heap h]; rfl)
theorem two_keep {w w' w'' : World} {A B : ByteArray} {K L N : Nat} {M : Lay} (h : w'.cell? ⟨w.heap.size, 0, none⟩ = some (.string A) ∧ w'.cell? ⟨w.heap.size, 1, none⟩ = some (.string B) ∧ w'.cell? ⟨w.heap.size, 2, none⟩ = some (.int .u64 (K : Int)) ∧ w'.cell? ⟨w.heap.size, 3, none⟩ = some (.int .u64 (L : Int)) ∧ w'.cell? ⟨w.heap.size, 4, none⟩ = some (.int .u64 (N : Int)) ∧ w'.heap[w.heap.size]? = some (.cells #[.string A, .string B, .int .u64 (K : Int), .int .u64 (L : Int), .int .u64 (N : Int)] 37 (0, 0)) ∧ Below w.heap.size w w') (hm : ∀ i, M.own i → w.heap.size < i) (b : Kit.But M.own w' w'') : w''.cell? ⟨w.heap.size, 0, none⟩ = some (.string A) ∧ w''.cell? ⟨w.heap.size, 1, none⟩ = some (.string B) ∧ w''.cell? ⟨w.heap.size, 2, none⟩ = some (.int .u64 (K : Int)) ∧ w''.cell? ⟨w.heap.size, 3, none⟩ = some (.int .u64 (L : Int)) ∧ w''.cell? ⟨w.heap.size, 4, none⟩ = some (.int .u64 (N : Int)) ∧ w''.heap[w.heap.size]? = some (.cells #[.string A, .string B, .int .u64 (K : Int), .int .u64 (L : Int), .int .u64 (N : Int)] 37 (0, 0)) ∧ Below w.heap.size w w'' := by
  obtain ⟨-, -, -, -, -, h, hb⟩ := h
  have hlt : w.heap.size < w'.heap.size := (Array.getElem?_eq_some_iff.1 h).1
  exact two_parts ((b.block _ hlt (fun ho => Nat.lt_irrefl _ (hm _ ho))).trans h) (hb.trans (b.below hb.size (fun i hi => Nat.le_of_lt (hm i hi))))
theorem two_below {w w' w'' : World} {A B : ByteArray} {K L N : Nat} (h : w'.cell? ⟨w.heap.size, 0, none⟩ = some (.string A) ∧ w'.cell? ⟨w.heap.size, 1, none⟩ = some (.string B) ∧ w'.cell? ⟨w.heap.size, 2, none⟩ = some (.int .u64 (K : Int)) ∧ w'.cell? ⟨w.heap.size, 3, none⟩ = some (.int .u64 (L : Int)) ∧ w'.cell? ⟨w.heap.size, 4, none⟩ = some (.int .u64 (N : Int)) ∧ w'.heap[w.heap.size]? = some (.cells #[.string A, .string B, .int .u64 (K : Int), .int .u64 (L : Int), .int .u64 (N : Int)] 37 (0, 0)) ∧ Below w.heap.size w w') (b : Below w'.heap.size w' w'') : w''.cell? ⟨w.heap.size, 0, none⟩ = some (.string A) ∧ w''.cell? ⟨w.heap.size, 1, none⟩ = some (.string B) ∧ w''.cell? ⟨w.heap.size, 2, none⟩ = some (.int .u64 (K : Int)) ∧ w''.cell? ⟨w.heap.size, 3, none⟩ = some (.int .u64 (L : Int)) ∧ w''.cell? ⟨w.heap.size, 4, none⟩ = some (.int .u64 (N : Int)) ∧ w''.heap[w.heap.size]? = some (.cells #[.string A, .string B, .int .u64 (K : Int), .int .u64 (L : Int), .int .u64 (N : Int)] 37 (0, 0)) ∧ Below w.heap.size w w'' := by
  obtain ⟨-, -, -, -, -, h, hb⟩ := h
  have hlt : w.heap.size < w'.heap.size := (Array.getElem?_eq_some_iff.1 h).1
  exact two_parts ((b.block _ hlt).trans h) (hb.trans (b.mono hb.size))
theorem two_of {w w' : World} {A B : ByteArray} {K L N : Nat} {M : Lay} {O : Or} (_ : Orc w' M O) (h : w'.cell? ⟨w.heap.size, 0, none⟩ = some (.string A) ∧ w'.cell? ⟨w.heap.size, 1, none⟩ = some (.string B) ∧ w'.cell? ⟨w.heap.size, 2, none⟩ = some (.int .u64 (K : Int)) ∧ w'.cell? ⟨w.heap.size, 3, none⟩ = some (.int .u64 (L : Int)) ∧ w'.cell? ⟨w.heap.size, 4, none⟩ = some (.int .u64 (N : Int)) ∧ w'.heap[w.heap.size]? = some (.cells #[.string A, .string B, .int .u64 (K : Int), .int .u64 (L : Int), .int .u64 (N : Int)] 37 (0, 0)) ∧ Below w.heap.size w w') : w'.cell? ⟨w.heap.size, 0, none⟩ = some (.string A) ∧ w'.cell? ⟨w.heap.size, 1, none⟩ = some (.string B) ∧ w'.cell? ⟨w.heap.size, 2, none⟩ = some (.int .u64 (K : Int)) ∧ w'.cell? ⟨w.heap.size, 3, none⟩ = some (.int .u64 (L : Int)) ∧ w'.cell? ⟨w.heap.size, 4, none⟩ = some (.int .u64 (N : Int)) ∧ w'.heap[w.heap.size]? = some (.cells #[.string A, .string B, .int .u64 (K : Int), .int .u64 (L : Int), .int .u64 (N : Int)] 37 (0, 0)) ∧ Below w.heap.size w w' := h
theorem played_len (l : List Nat) (hx : ∀ x ∈ l, x < 18446744073709551616) (cl : List Cl) : ((Or.new l).play (cl.take 200)).rows.length ≤ 200 := by
  have hp := Or.fine_play (cl.take 200) (Or.new l) (Or.fine_new hx) (by simp [Or.new, List.length_take]; omega)
  have := hp.2
  simp only [Or.new, List.length_nil, List.length_take] at this
  show ((Or.mk l [] [] 0).play (cl.take 200)).rows.length ≤ 200
  omega
theorem c_drawn {O : Or} {w : World} {M : Lay} (h : Orc w M O) : Calls Try.prog 14 #[ptr M] w fun r w' => r = .returned (.int .i64 (O.rows.length : Int)) ∧ Orc w' M O ∧ Kit.But M.own w w' :=
  (o_drawn h).mono fun _ _ ⟨e, b⟩ => ⟨e, h.below b, Kit.But.of_below b (Nat.le_refl _) _⟩
theorem c_bad {O : Or} {w : World} {M : Lay} (h : Orc w M O) : Calls Try.prog 16 #[ptr M] w fun r w' => r = .returned (.bool (decide (0 < O.bads))) ∧ Orc w' M O ∧ Kit.But M.own w w' :=
  (o_bad h).mono fun _ _ ⟨e, b⟩ => ⟨e, h.below b, Kit.But.of_below b (Nat.le_refl _) _⟩
end Go.Proofs.Ytmnemjpikkdhbaa.Ida
