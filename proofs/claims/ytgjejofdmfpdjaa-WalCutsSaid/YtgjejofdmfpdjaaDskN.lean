/-
  DskN: DskF2, DskN.
-/
import Derived.Test.YtgjejofdmfpdjaaDskO
/-! The laws' fixed calls, and made: a disk behind some acts. -/
namespace Go.Proofs.Ytgjejofdmfpdjaa
open Go.RowKit
namespace Dsk

def ab : ByteArray := ⟨#[97, 98]⟩
def a1 : ByteArray := ⟨#[97]⟩
theorem can1 : Dk.can (2 : Nat) (32 : Nat) = true := by decide
theorem can2 : Dk.can 2 31 = false := by decide
def E0 : Dk := Dk.new 2 32
def E1 : Dk := E0.write 0 ab
def E2 : Dk := E1.crash [1]
theorem fx1 : E0.canWrite 0 ab = true := by decide +kernel
theorem fx2 : E1.pend.length = 1 := by decide +kernel
theorem fx3 : (E2.read 0).1 = a1 ++ zeros 31 := by decide +kernel
theorem fx4 : (E2.read 0).2 = true := by decide +kernel
theorem fx5 : E2.safe.length = 2 := by decide +kernel
theorem fx6 : E2.size = 32 := rfl
theorem fx7 : E2.pend.length = 0 := rfl

end Dsk
end Go.Proofs.Ytgjejofdmfpdjaa
/-! The laws' made: a disk behind some acts, two hundred at most. -/
namespace Go.Proofs.Ytgjejofdmfpdjaa
open Go.RowKit
namespace Dsk

theorem take_snoc {l : List Ac} {i : Nat} {c : Ac} (h : l[i]? = some c) : l.take (i + 1) = l.take i ++ [c] := by
  rw [List.take_add_one, h]
  rfl
/-- The disk behind the first acts. -/
def mk (n s : Nat) (l : List Ac) (i : Nat) : Dk := (Dk.new n s).acts (l.take i)
theorem mk_succ {n s : Nat} {l : List Ac} {i : Nat} {c : Ac} (h : l[i]? = some c) : mk n s l (i + 1) = (mk n s l i).act c := by
  unfold mk
  rw [take_snoc h, Dk.acts_snoc]
theorem mk_pend (n s : Nat) (l : List Ac) (i : Nat) : (mk n s l i).pend.length ≤ i := by
  have h := Dk.pend_acts (l.take i) (Dk.new n s)
  have h2 : (Dk.new n s).pend.length = 0 := rfl
  rw [List.length_take] at h
  unfold mk
  omega
theorem mk_same (n s : Nat) (l : List Ac) (i : Nat) : (mk n s l i).size = s ∧ (mk n s l i).safe.length = n := by
  have h := Dk.same_acts (l.take i) (Dk.new n s)
  refine ⟨h.1, h.2.trans ?_⟩
  show (List.replicate n (zeros s)).length = n
  exact List.length_replicate

end Dsk
end Go.Proofs.Ytgjejofdmfpdjaa
