/-
  The laws' argument of two texts in memory; what an oracle tells, in one form.
-/
import Derived.Test.YtbhdcocgghaifaaIdH
import Derived.Test.YtbhdcocgghaifaaIdI
import Derived.Deep.RegionHeld3
import Derived.Deep.DeepCutAuto
namespace Go.Proofs.Ytbhdcocgghaifaa.Ida
open Go.RowKit Go.ChangeShapes Go.WideShapes Go.ChangeAt
open Ideal

theorem played_len (l : List Nat) (hx : ∀ x ∈ l, x < 18446744073709551616) (cl : List Cl) : ((Or.new l).play (cl.take 200)).rows.length ≤ 200 := by
  have hp := Or.fine_play (cl.take 200) (Or.new l) (Or.fine_new hx) (by simp [Or.new, List.length_take]; omega)
  have := hp.2
  simp only [Or.new, List.length_nil, List.length_take] at this
  show ((Or.mk l [] [] 0).play (cl.take 200)).rows.length ≤ 200
  omega
theorem c_drawn {O : Or} {w : World} {M : Lay} (h : Orc w M O) : Calls Try.prog 20 #[ptr M] w fun r w' => r = .returned (.int .i64 (O.rows.length : Int)) ∧ Orc w' M O ∧ Kit.But M.own w w' :=
  (o_drawn h).mono fun _ _ ⟨e, b⟩ => ⟨e, h.below b, Kit.But.of_below b (Nat.le_refl _) _⟩
theorem c_bad {O : Or} {w : World} {M : Lay} (h : Orc w M O) : Calls Try.prog 22 #[ptr M] w fun r w' => r = .returned (.bool (decide (0 < O.bads))) ∧ Orc w' M O ∧ Kit.But M.own w w' :=
  (o_bad h).mono fun _ _ ⟨e, b⟩ => ⟨e, h.below b, Kit.But.of_below b (Nat.le_refl _) _⟩
end Go.Proofs.Ytbhdcocgghaifaa.Ida
