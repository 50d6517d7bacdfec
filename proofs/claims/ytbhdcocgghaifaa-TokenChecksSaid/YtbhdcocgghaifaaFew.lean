/-
  How much an oracle holds at most, plainly: behind calls, behind keys.
-/
import Derived.Test.YtbhdcocgghaifaaIRefE
namespace Go.Proofs.Ytbhdcocgghaifaa.Ref3
open Go.RowKit
open Ideal Ida

theorem met_meet (O : Or) (v : Nat) : (O.meet v).met.length ≤ O.met.length + 1 := by
  unfold Or.meet
  split <;> simp
theorem few_step (O : Or) (c : Cl) : (O.step c).rows.length ≤ O.rows.length + 1 ∧ (O.step c).met.length ≤ O.met.length + 1 ∧ (O.step c).bads ≤ O.bads + 1 := by
  refine ⟨Or.len_step c, ?_, ?_⟩
  · have ha : ∀ x, (O.ask x).met.length ≤ O.met.length + 1 := fun x => by unfold Or.ask; split <;> simp [Or.draw]
    have hv : ∀ k s t, (O.verify k s t).met.length ≤ O.met.length + 1 := fun k s t => by
      unfold Or.verify
      split
      · omega
      · exact met_meet O _
    have hr : ∀ k n a t, (O.reopen k n a t).met.length ≤ O.met.length + 1 := fun k n a t => by
      unfold Or.reopen
      split
      · omega
      · exact met_meet O _
    unfold Or.step
    iterate 7 (split; · first | exact ha _ | exact hv _ _ _ | exact hr _ _ _ _ | exact met_meet O _ | (simp [Or.draw]))
    omega
  · have hd : ∀ x, (O.draw x).bads ≤ O.bads + 1 := fun x => by unfold Or.draw; simp only; split <;> omega
    have ha : ∀ x, (O.ask x).bads ≤ O.bads + 1 := fun x => by
      unfold Or.ask
      split
      · omega
      · exact hd x
    unfold Or.step
    iterate 7 (split; · first | exact hd _ | exact ha _ | (rw [Or.bads_verify]; omega) | (rw [Or.bads_reopen]; omega) | (rw [Or.bads_meet]; omega))
    omega
theorem few_play : ∀ (l : List Cl) (O : Or), (O.play l).rows.length ≤ O.rows.length + l.length ∧ (O.play l).met.length ≤ O.met.length + l.length ∧ (O.play l).bads ≤ O.bads + l.length
  | [], O => ⟨Nat.le_refl _, Nat.le_refl _, Nat.le_refl _⟩
  | c :: l, O => by
    have h1 := few_step O c
    have h2 := few_play l (O.step c)
    simp only [List.length_cons]
    show ((O.step c).play l).rows.length ≤ _ ∧ ((O.step c).play l).met.length ≤ _ ∧ ((O.step c).play l).bads ≤ _
    omega
theorem few_ask (O : Or) (x : Row) : (O.ask x).rows.length ≤ O.rows.length + 1 ∧ (O.ask x).met = O.met ∧ (O.ask x).bads ≤ O.bads + 1 := by
  refine ⟨Or.len_ask x, ?_, ?_⟩
  · unfold Or.ask
    split <;> rfl
  · unfold Or.ask
    split
    · omega
    · unfold Or.draw
      simp only
      split <;> omega
end Go.Proofs.Ytbhdcocgghaifaa.Ref3
