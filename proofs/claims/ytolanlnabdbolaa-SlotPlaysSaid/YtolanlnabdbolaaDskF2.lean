/-
  The laws' fixed calls, and made: a disk behind some acts.
-/
import Derived.Test.YtolanlnabdbolaaDskO
namespace Go.Proofs.Ytolanlnabdbolaa
open Go.RowKit
namespace Dsk

def ab : ByteArray := ⟨#[97, 98]⟩
def a1 : ByteArray := ⟨#[97]⟩
theorem can1 : Dk.can (2 : Nat) (32 : Nat) = true := by decide
theorem can2 : Dk.can 2 31 = false := by decide
def E0 : Dk := Dk.new 2 32
def E1 : Dk := E0.write 0 ab
def E2 : Dk := E1.crash [1]
theorem fx1 : E0.canWrite 0 ab = true := by decide +kernel
theorem fx2 : E1.pend.length = 1 := by decide +kernel
theorem fx3 : (E2.read 0).1 = a1 ++ zeros 31 := by decide +kernel
theorem fx4 : (E2.read 0).2 = true := by decide +kernel
theorem fx5 : E2.safe.length = 2 := by decide +kernel
theorem fx6 : E2.size = 32 := rfl
theorem fx7 : E2.pend.length = 0 := rfl

end Dsk
end Go.Proofs.Ytolanlnabdbolaa
