/-
  What the functions of package wire that put numbers and texts do, and those of the document's own answer.
-/
import Derived.Test.YtolanlnabdbolaaRows
import Derived.Test.YtolanlnabdbolaaKit
import Derived.Test.YtolanlnabdbolaaLeb
import Derived.WalkKit
import Derived.WalkSpells
import Derived.WalkLawsBesides
import Derived.Lib.VarintMem
import Derived.Lib.AppendStr
import Derived.Lib.Hide
namespace Go.Proofs.Ytolanlnabdbolaa
open Go.RowKit
open Go.Lib (uvarint uvarint_small uvarint_big uvarint_length64 uvarint_pos byteCells)
open Leb (encT encN encNs encL encTs)

theorem infoU8 : (Try.prog.info? 5).map (fun i => (i.zero, i.size, i.bytes)) = some (some (.int .u8 0), 1, 1) := by kernel_rfl

theorem conv_any {w : World} {B n : Nat} {v : Value} {l : List UInt8} (h : w.ownsRow B 5 1 v n (byteCells l)) : (convert 63 9 v).run Try.prog w = .ok (.string ⟨l.toArray⟩) w :=
  Kit.string_of_own h Try.underlying63 Try.underlying5 Try.underlying9

/-! Lists of numbers -/
def nums (l : List Nat) : List Value := l.map fun n : Nat => Value.int .u64 (n : Int)
def strs (l : List ByteArray) : List Value := l.map fun s => Value.string s

end Go.Proofs.Ytolanlnabdbolaa
