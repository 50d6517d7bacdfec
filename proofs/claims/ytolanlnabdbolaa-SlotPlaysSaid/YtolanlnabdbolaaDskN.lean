/-
  The laws' made: a disk behind some acts, two hundred at most.
-/
import Derived.Test.YtolanlnabdbolaaDskF2
namespace Go.Proofs.Ytolanlnabdbolaa
open Go.RowKit
namespace Dsk

theorem take_snoc {l : List Ac} {i : Nat} {c : Ac} (h : l[i]? = some c) : l.take (i + 1) = l.take i ++ [c] := by
  rw [List.take_add_one, h]
  rfl
/-- The disk behind the first acts. -/
def mk (n s : Nat) (l : List Ac) (i : Nat) : Dk := (Dk.new n s).acts (l.take i)
theorem mk_succ {n s : Nat} {l : List Ac} {i : Nat} {c : Ac} (h : l[i]? = some c) : mk n s l (i + 1) = (mk n s l i).act c := by
  unfold mk
  rw [take_snoc h, Dk.acts_snoc]
theorem mk_pend (n s : Nat) (l : List Ac) (i : Nat) : (mk n s l i).pend.length ≤ i := by
  have h := Dk.pend_acts (l.take i) (Dk.new n s)
  have h2 : (Dk.new n s).pend.length = 0 := rfl
  rw [List.length_take] at h
  unfold mk
  omega
theorem mk_same (n s : Nat) (l : List Ac) (i : Nat) : (mk n s l i).size = s ∧ (mk n s l i).safe.length = n := by
  have h := Dk.same_acts (l.take i) (Dk.new n s)
  refine ⟨h.1, h.2.trans ?_⟩
  show (List.replicate n (zeros s)).length = n
  exact List.length_replicate

end Dsk
end Go.Proofs.Ytolanlnabdbolaa
