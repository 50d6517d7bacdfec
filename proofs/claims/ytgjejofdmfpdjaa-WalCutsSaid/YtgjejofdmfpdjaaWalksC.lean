/-
  What package wire's TakeUint does.
-/
import Derived.Test.YtgjejofdmfpdjaaWalksA
import Derived.BigQuiet
import Derived.Deep.QuietTactic
import Derived.Lib.VarintBits
import Derived.Laws.Closers25b
namespace Go.Proofs.Ytgjejofdmfpdjaa
open Go.RowKit
open Leb (dec decFrom)

def uintRes : Option (Nat × List UInt8) → Value
  | none => .tuple #[.int .u64 0, .string ⟨#[]⟩, .bool false]
  | some (n, r) => .tuple #[.int .u64 n, .string ⟨r.toArray⟩, .bool true]

theorem ret_some {z : Int} {n : Nat} {t : ByteArray} {r : List UInt8} (h : z = n) (ht : t.data.toList = r) : Ending.returned (.tuple #[.int .u64 z, .string t, .bool true]) = Ending.returned (uintRes (some (n, r))) := by
  subst h ht
  rw [uintRes, ← Kit.bytes_of_data]
theorem below_drewN {B : Nat} {a w : World} (h : Below B a w) (n : Nat) : Below B a (w.drewN n) := ⟨h.os, h.tape, h.output, h.size, h.block⟩

theorem toNat_lt70 {z : Int} (h : z ≤ 18446744073709551615) : z.toNat < 1180591620717411303424 := by omega

/-- What holds of the loop's sum z behind k bytes. -/
def Sofar (l : List UInt8) (k : Nat) (z : Int) : Prop := ∃ acc : Nat, z = acc ∧ acc < 128 ^ k ∧ Hid (dec l = decFrom k acc (l.drop k))

end Go.Proofs.Ytgjejofdmfpdjaa
