/-
  The document's disk: Zeros, New, Read.
-/
import Derived.Test.YtgjejofdmfpdjaaDskC
import Derived.Test.YtgjejofdmfpdjaaDskF
import Derived.Test.YtgjejofdmfpdjaaWalksA
namespace Go.Proofs.Ytgjejofdmfpdjaa
open Go.RowKit
namespace Dsk

def cellsR (x : Wr) : List Value := [.int .i64 0, .int .i64 (x.at_ : Int), .string x.text, .slice none 0 0]
theorem cellsR_len (x : Wr) : (cellsR x).length = 4 := rfl
theorem cellsR_one (x : Wr) : ∀ u ∈ cellsR x, u.oneCell' = true := by
  intro u hu
  simp only [cellsR, List.mem_cons, List.not_mem_nil, or_false] at hu
  rcases hu with rfl | rfl | rfl | rfl <;> rfl
theorem strs_rep (n : Nat) (s : ByteArray) : strs (List.replicate n s) = List.replicate n (.string s) := by simp [strs]
theorem zeros_cells (n : Nat) : Lib.byteCells (List.replicate n (0 : UInt8)) = List.replicate n (.int .u8 0) := by simp [Lib.byteCells]

end Dsk
end Go.Proofs.Ytgjejofdmfpdjaa
