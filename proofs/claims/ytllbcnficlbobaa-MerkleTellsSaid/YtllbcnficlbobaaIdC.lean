/-
  Package ideal: Seal, Verify, Open.
-/
import Derived.Test.YtllbcnficlbobaaIdB
import Derived.StillTailTactics
namespace Go.Proofs.Ytllbcnficlbobaa
open Go.RowKit Go.Maps
open Ideal

namespace Ida
theorem Has.put {w : World} {L : Lay} {S : St} (h : Has w L S) {a : Addr} (ha : ¬ L.own a.block) (hd : ∀ k, L.dv.ownBlock = some k → k ≠ a.block) (u : Value) : Has (w.setCell a u) L S :=
  h.but (but_set w a u) (fun _ hi e => ha (e ▸ hi)) hd
theorem Has.drewN {w : World} {L : Lay} {S : St} (h : Has w L S) (n : Nat) : Has (w.drewN n) L S := h.below (below_drewN (Below.refl _ _) n)

theorem seal1_lt {w : World} {L : Lay} {S : St} (h : Has w L S) (hn : S.drawn < 1152921504606846976) (hw : ∀ x v, S.seals x = some v → v < 18446744073709551616) (x : Nat × Nat × ByteArray × ByteArray) : (S.seals x).getD S.next < 18446744073709551616 := by
  cases hg : S.seals x with
  | none => exact next_lt h hn
  | some v => exact hw x v hg

end Ida
end Go.Proofs.Ytllbcnficlbobaa
