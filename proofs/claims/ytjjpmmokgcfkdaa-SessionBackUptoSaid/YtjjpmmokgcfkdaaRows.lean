/-
  No cell of these rows narrows 'for every input' (looked for: loops, veiled, ifaces, maps, wideKeys, modest, calm, conditions, laid).
  DERIVED. THE GIVEN ROWS OF THIS SEAT. 5 by the template 'for every input the law returns true; each argument reads behind the call as it read before'; 0 by the template 'total and deterministic' (their statements: YtjjpmmokgcfkdaaTotals.lean).
  GIVEN WITH THE SEED: the statements are not yours to turn. If you find one false, say at which input.
  Laid BY PROGRAM, IN A SANDBOX (cutbox-rows.mjs): the forced cells as the released guide's own fill.sh prints them over the translation 2693bff8b97a9154… (all of the seat's roots in one cut). By AI agents, Wed Nov 11 2026. No macro, syntax, notation, axiom, sorry.
-/
import Derived.Test.YtjjpmmokgcfkdaaChecked
import GoSem.Claim
import GoSem.ClaimJoined
import GoSem.ClaimMapViews
import Derived.JoinedTies
import Derived.KernelRfl
namespace Go.Proofs.Ytjjpmmokgcfkdaa
/- THE CELL 'sum', in the pinned program and in every row, IS THE sha256 OF THE DUMP (.gsa) THAT YtjjpmmokgcfkdaaProg.lean LOADS. Nothing in Lean hashes anything: it is a label: what it is worth is what the hold of that sum in a sandbox is worth. -/
noncomputable def Try.pinned : Pinned := { name := "ytjjpmmokgcfkdaa", sum := "2693bff8b97a91546b5200f63b045f509fb33fc85741e8f6fda982debf4ad0e1", checked := Try.checked }
namespace Rows
def none {H : Type} : Left H := { results := [], args := [] }

/-- 'countersignlaw11.SessionSeeks': WHATEVER THE INPUT: true; the input reads as it did. -/
def sessionSeeksSpec : ChangeSpec := { name := "sessionSeeks", fn := fun _ => fun
  | [d1, d2] => { results := [.lit (.bool true)], args := [d1, d2] }
  | _ => none }
def sessionSeeksRow : OpenClaim := { program := "ytjjpmmokgcfkdaa", sum := "2693bff8b97a91546b5200f63b045f509fb33fc85741e8f6fda982debf4ad0e1", func := "countersign/countersignlaw11.SessionSeeks", spec := "sessionSeeks", unfollowed := true, recurses := true, apart := false }
def SessionSeeksSaid : Prop := sessionSeeksRow.holds Try.pinned (OpenSpec.ofChange sessionSeeksSpec)

/-- ITS FALSE NEIGHBOUR: 'it returns false'. Refute it at one input. -/
def sessionSeeksWrong : ChangeSpec := { name := "sessionSeeks", fn := fun _ => fun
  | [d1, d2] => { results := [.lit (.bool false)], args := [d1, d2] }
  | _ => none }
def SessionSeeksWrongFalsely : Prop := sessionSeeksRow.holds Try.pinned (OpenSpec.ofChange sessionSeeksWrong)

/-- 'countersignlaw11.SessionTexts': WHATEVER THE INPUT: true; the input reads as it did. -/
def sessionTextsSpec : ChangeSpec := { name := "sessionTexts", fn := fun _ => fun
  | [d1, d2] => { results := [.lit (.bool true)], args := [d1, d2] }
  | _ => none }
def sessionTextsRow : OpenClaim := { program := "ytjjpmmokgcfkdaa", sum := "2693bff8b97a91546b5200f63b045f509fb33fc85741e8f6fda982debf4ad0e1", func := "countersign/countersignlaw11.SessionTexts", spec := "sessionTexts", unfollowed := true, recurses := true, apart := false }
def SessionTextsSaid : Prop := sessionTextsRow.holds Try.pinned (OpenSpec.ofChange sessionTextsSpec)

/-- ITS FALSE NEIGHBOUR: 'it returns false'. Refute it at one input. -/
def sessionTextsWrong : ChangeSpec := { name := "sessionTexts", fn := fun _ => fun
  | [d1, d2] => { results := [.lit (.bool false)], args := [d1, d2] }
  | _ => none }
def SessionTextsWrongFalsely : Prop := sessionTextsRow.holds Try.pinned (OpenSpec.ofChange sessionTextsWrong)

/-- 'countersignlaw11.SessionBack': WHATEVER THE INPUT: true; the input reads as it did. -/
def sessionBackSpec : ChangeSpec := { name := "sessionBack", fn := fun _ => fun
  | [d1, d2] => { results := [.lit (.bool true)], args := [d1, d2] }
  | _ => none }
def sessionBackRow : OpenClaim := { program := "ytjjpmmokgcfkdaa", sum := "2693bff8b97a91546b5200f63b045f509fb33fc85741e8f6fda982debf4ad0e1", func := "countersign/countersignlaw11.SessionBack", spec := "sessionBack", unfollowed := true, recurses := true, apart := false }
def SessionBackSaid : Prop := sessionBackRow.holds Try.pinned (OpenSpec.ofChange sessionBackSpec)

/-- ITS FALSE NEIGHBOUR: 'it returns false'. Refute it at one input. -/
def sessionBackWrong : ChangeSpec := { name := "sessionBack", fn := fun _ => fun
  | [d1, d2] => { results := [.lit (.bool false)], args := [d1, d2] }
  | _ => none }
def SessionBackWrongFalsely : Prop := sessionBackRow.holds Try.pinned (OpenSpec.ofChange sessionBackWrong)

/-- 'countersignlaw11.SessionOnce': WHATEVER THE INPUT: true; the input reads as it did. -/
def sessionOnceSpec : ChangeSpec := { name := "sessionOnce", fn := fun _ => fun
  | [d1, d2, d3] => { results := [.lit (.bool true)], args := [d1, d2, d3] }
  | _ => none }
def sessionOnceRow : OpenClaim := { program := "ytjjpmmokgcfkdaa", sum := "2693bff8b97a91546b5200f63b045f509fb33fc85741e8f6fda982debf4ad0e1", func := "countersign/countersignlaw11.SessionOnce", spec := "sessionOnce", unfollowed := true, recurses := true, apart := false }
def SessionOnceSaid : Prop := sessionOnceRow.holds Try.pinned (OpenSpec.ofChange sessionOnceSpec)

/-- ITS FALSE NEIGHBOUR: 'it returns false'. Refute it at one input. -/
def sessionOnceWrong : ChangeSpec := { name := "sessionOnce", fn := fun _ => fun
  | [d1, d2, d3] => { results := [.lit (.bool false)], args := [d1, d2, d3] }
  | _ => none }
def SessionOnceWrongFalsely : Prop := sessionOnceRow.holds Try.pinned (OpenSpec.ofChange sessionOnceWrong)

/-- 'countersignlaw11.SessionLast': WHATEVER THE INPUT: true; the input reads as it did. -/
def sessionLastSpec : ChangeSpec := { name := "sessionLast", fn := fun _ => fun
  | [d1, d2, d3] => { results := [.lit (.bool true)], args := [d1, d2, d3] }
  | _ => none }
def sessionLastRow : OpenClaim := { program := "ytjjpmmokgcfkdaa", sum := "2693bff8b97a91546b5200f63b045f509fb33fc85741e8f6fda982debf4ad0e1", func := "countersign/countersignlaw11.SessionLast", spec := "sessionLast", unfollowed := true, recurses := true, apart := false }
def SessionLastSaid : Prop := sessionLastRow.holds Try.pinned (OpenSpec.ofChange sessionLastSpec)

/-- ITS FALSE NEIGHBOUR: 'it returns false'. Refute it at one input. -/
def sessionLastWrong : ChangeSpec := { name := "sessionLast", fn := fun _ => fun
  | [d1, d2, d3] => { results := [.lit (.bool false)], args := [d1, d2, d3] }
  | _ => none }
def SessionLastWrongFalsely : Prop := sessionLastRow.holds Try.pinned (OpenSpec.ofChange sessionLastWrong)

/- THE SECOND FORM. 'bulk': how many values and letters a reading holds, each counted each time it is reached (what is shared counts as often as it is met; a slice's spare places count too). A statement '..UptoSaid' is the law's where the arguments, and the package variables that the reading takes, are together of bulk at most 1048576: NARROWER than '..Said'. Prove '..Said' where nothing that the law and all that it calls make is longer than what came in: it says more and counts as full. Else prove '..UptoSaid'. A law counts once. -/
mutual
def uptoBulk {H : Type} : DataW H → Nat
  | .lit (.string bytes) => bytes.length + 1
  | .lit _ => 1
  | .nil => 1
  | .ptr d => uptoBulk d + 1
  | .slice elems spare => uptoBulkAll elems + uptoBulkAll spare + 1
  | .agg parts => uptoBulkAll parts + 1
  | .iface _ d => uptoBulk d + 1
  | .map entries => uptoBulkEntries entries + 1
  | .held _ => 1
def uptoBulkAll {H : Type} : List (DataW H) → Nat
  | [] => 0
  | d :: r => uptoBulk d + uptoBulkAll r
def uptoBulkEntries {H : Type} : List (Lit × DataW H) → Nat
  | [] => 0
  | x :: r => uptoBulkEntry x + uptoBulkEntries r
def uptoBulkEntry {H : Type} : Lit × DataW H → Nat
  | (.string bytes, d) => bytes.length + uptoBulk d + 1
  | (_, d) => uptoBulk d + 1
 end
def uptoSmall : (H : Type) → List (DataW H) → Bool := fun _ ds => decide (uptoBulkAll ds ≤ 1048576)
def OpenSpec.upto (s : _root_.Go.ChangeSpec) : _root_.Go.OpenSpec := { _root_.Go.OpenSpec.ofChange s with cond := some uptoSmall }

/-- 'countersignlaw11.SessionSeeks', WHERE WHAT IT READS IS OF BULK AT MOST 1048576: true; the input reads as it did. -/
def sessionSeeksUptoRow : OpenClaim := { program := "ytjjpmmokgcfkdaa", sum := "2693bff8b97a91546b5200f63b045f509fb33fc85741e8f6fda982debf4ad0e1", func := "countersign/countersignlaw11.SessionSeeks", spec := "sessionSeeks", unfollowed := true, recurses := true, apart := false, narrowed := true }
def SessionSeeksUptoSaid : Prop := sessionSeeksUptoRow.holds Try.pinned (OpenSpec.upto sessionSeeksSpec)

/-- 'countersignlaw11.SessionTexts', WHERE WHAT IT READS IS OF BULK AT MOST 1048576: true; the input reads as it did. -/
def sessionTextsUptoRow : OpenClaim := { program := "ytjjpmmokgcfkdaa", sum := "2693bff8b97a91546b5200f63b045f509fb33fc85741e8f6fda982debf4ad0e1", func := "countersign/countersignlaw11.SessionTexts", spec := "sessionTexts", unfollowed := true, recurses := true, apart := false, narrowed := true }
def SessionTextsUptoSaid : Prop := sessionTextsUptoRow.holds Try.pinned (OpenSpec.upto sessionTextsSpec)

/-- 'countersignlaw11.SessionBack', WHERE WHAT IT READS IS OF BULK AT MOST 1048576: true; the input reads as it did. -/
def sessionBackUptoRow : OpenClaim := { program := "ytjjpmmokgcfkdaa", sum := "2693bff8b97a91546b5200f63b045f509fb33fc85741e8f6fda982debf4ad0e1", func := "countersign/countersignlaw11.SessionBack", spec := "sessionBack", unfollowed := true, recurses := true, apart := false, narrowed := true }
def SessionBackUptoSaid : Prop := sessionBackUptoRow.holds Try.pinned (OpenSpec.upto sessionBackSpec)

/-- 'countersignlaw11.SessionOnce', WHERE WHAT IT READS IS OF BULK AT MOST 1048576: true; the input reads as it did. -/
def sessionOnceUptoRow : OpenClaim := { program := "ytjjpmmokgcfkdaa", sum := "2693bff8b97a91546b5200f63b045f509fb33fc85741e8f6fda982debf4ad0e1", func := "countersign/countersignlaw11.SessionOnce", spec := "sessionOnce", unfollowed := true, recurses := true, apart := false, narrowed := true }
def SessionOnceUptoSaid : Prop := sessionOnceUptoRow.holds Try.pinned (OpenSpec.upto sessionOnceSpec)

/-- 'countersignlaw11.SessionLast', WHERE WHAT IT READS IS OF BULK AT MOST 1048576: true; the input reads as it did. -/
def sessionLastUptoRow : OpenClaim := { program := "ytjjpmmokgcfkdaa", sum := "2693bff8b97a91546b5200f63b045f509fb33fc85741e8f6fda982debf4ad0e1", func := "countersign/countersignlaw11.SessionLast", spec := "sessionLast", unfollowed := true, recurses := true, apart := false, narrowed := true }
def SessionLastUptoSaid : Prop := sessionLastUptoRow.holds Try.pinned (OpenSpec.upto sessionLastSpec)

end Rows
end Go.Proofs.Ytjjpmmokgcfkdaa
