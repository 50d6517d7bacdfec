/-
  DskS: DskS, DskT, DskU, DskV.
-/
import Derived.Test.YtgjejofdmfpdjaaDskR
import Derived.StillTailTactics
/-! The document's disk: Write. -/
namespace Go.Proofs.Ytgjejofdmfpdjaa
open Go.RowKit
namespace Dsk

end Dsk
end Go.Proofs.Ytgjejofdmfpdjaa
/-! The document's disk: Crash. -/
namespace Go.Proofs.Ytgjejofdmfpdjaa
open Go.RowKit
namespace Dsk

end Dsk
end Go.Proofs.Ytgjejofdmfpdjaa
/-! The document's disk: Flush. -/
namespace Go.Proofs.Ytgjejofdmfpdjaa
open Go.RowKit
namespace Dsk

theorem after_congr {f g : Nat → Nat} {p : List Wr} {s : List ByteArray} : ∀ k, (∀ j, j < k → f j = g j) → after f p s k = after g p s k
  | 0, _ => rfl
  | k + 1, h => by
    have ih := after_congr (p := p) (s := s) k fun j hj => h j (by omega)
    have hk := h k (Nat.lt_succ_self k)
    unfold after
    rw [ih, hk]
theorem keep_all {D : Dk} : D.crash (List.replicate D.pend.length (D.size : Int)) = D.flush := by
  unfold Dk.crash Dk.flush Dk.settle
  rw [after_congr (f := Dk.keepOf (List.replicate D.pend.length (D.size : Int)) D.size) (g := fun _ => D.size) D.pend.length fun j hj => ?_]
  unfold Dk.keepOf
  rw [List.getElem?_replicate, if_pos hj]
  dsimp only
  rw [if_neg (by omega), if_neg (by omega)]
  rfl
theorem infoInt : ∃ i z, Try.prog.info? 3 = some i ∧ i.zero = some z ∧ i.size = 1 ∧ i.bytes = 8 ∧ z.cells.size = 1 := by
  have h : (Try.prog.info? 3).map (fun i => (i.size, i.bytes, i.zero.map (·.cells.size))) = some (1, 8, some 1) := by kernel_rfl
  cases hi : Try.prog.info? 3 with
  | none => rw [hi] at h; cases h
  | some i =>
    rw [hi] at h
    simp only [Option.map_some, Option.some.injEq, Prod.mk.injEq] at h
    obtain ⟨h1, h2, h3⟩ := h
    cases hz : i.zero with
    | none => rw [hz] at h3; cases h3
    | some z =>
      rw [hz] at h3
      exact ⟨i, z, rfl, hz, h1, h2, by simpa using h3⟩
theorem ints_one (l : List Int) : ∀ u ∈ ints l, u.oneCell' = true := by
  intro u hu
  simp only [ints, List.mem_map] at hu
  obtain ⟨n, _, rfl⟩ := hu
  rfl

end Dsk
end Go.Proofs.Ytgjejofdmfpdjaa
/-! The document's disk: Do. -/
namespace Go.Proofs.Ytgjejofdmfpdjaa
open Go.RowKit
namespace Dsk

end Dsk
end Go.Proofs.Ytgjejofdmfpdjaa
