/-
  Package slot: framed, newest, Load, has.
-/
import Derived.Test.YtgjejofdmfpdjaaSltC
import Derived.Test.YtgjejofdmfpdjaaDskI
namespace Go.Proofs.Ytgjejofdmfpdjaa
open Go.RowKit
namespace Slt
open Dsk

theorem sec_cases (D : Dk) (a : Int) : ((sec D a).2.2 = true ∧ (sec D a).1 ≠ 0) ∨ sec D a = (0, ⟨#[]⟩, false) := un_cases _

/-- What newest tells. -/
def newRes (x : Nat × Nat × ByteArray) : Value := .tuple #[.int .u64 (x.2.1 : Int), .string x.2.2, .bool (decide (x.1 = 1))]

end Slt
end Go.Proofs.Ytgjejofdmfpdjaa
