/-
  No cell of these rows narrows 'for every input' (looked for: loops, veiled, ifaces, maps, wideKeys, modest, calm, conditions, laid).
  DERIVED. THE GIVEN ROWS OF THIS SEAT. 5 by the template 'for every input the law returns true; each argument reads behind the call as it read before'; 0 by the template 'total and deterministic' (their statements: YtdiocnehejeldaaTotals.lean).
  GIVEN WITH THE SEED: the statements are not yours to turn. If you find one false, say at which input.
  Laid BY PROGRAM, IN A SANDBOX (cutbox-rows.mjs): the forced cells as the released guide's own fill.sh prints them over the translation 24d5491e763d5fc8… (all of the seat's roots in one cut). By AI agents, Wed Nov 11 2026. No macro, syntax, notation, axiom, sorry.
-/
import Derived.Test.YtdiocnehejeldaaChecked
import GoSem.Claim
import GoSem.ClaimJoined
import GoSem.ClaimMapViews
import Derived.JoinedTies
import Derived.KernelRfl
namespace Go.Proofs.Ytdiocnehejeldaa
/- THE CELL 'sum', in the pinned program and in every row, IS THE sha256 OF THE DUMP (.gsa) THAT YtdiocnehejeldaaProg.lean LOADS. Nothing in Lean hashes anything: it is a label: what it is worth is what the hold of that sum in a sandbox is worth. -/
noncomputable def Try.pinned : Pinned := { name := "ytdiocnehejeldaa", sum := "24d5491e763d5fc88195aad84c419a4b5882e01413fa63c46f25522af91024ab", checked := Try.checked }
namespace Rows
def none {H : Type} : Left H := { results := [], args := [] }

/-- 'countersignlaw12.QuotaChanges': WHATEVER THE INPUT: true; the input reads as it did. -/
def quotaChangesSpec : ChangeSpec := { name := "quotaChanges", fn := fun _ => fun
  | [d1, d2, d3] => { results := [.lit (.bool true)], args := [d1, d2, d3] }
  | _ => none }
def quotaChangesRow : OpenClaim := { program := "ytdiocnehejeldaa", sum := "24d5491e763d5fc88195aad84c419a4b5882e01413fa63c46f25522af91024ab", func := "countersign/countersignlaw12.QuotaChanges", spec := "quotaChanges", unfollowed := true, recurses := true, apart := false }
def QuotaChangesSaid : Prop := quotaChangesRow.holds Try.pinned (OpenSpec.ofChange quotaChangesSpec)

/-- ITS FALSE NEIGHBOUR: 'it returns false'. Refute it at one input. -/
def quotaChangesWrong : ChangeSpec := { name := "quotaChanges", fn := fun _ => fun
  | [d1, d2, d3] => { results := [.lit (.bool false)], args := [d1, d2, d3] }
  | _ => none }
def QuotaChangesWrongFalsely : Prop := quotaChangesRow.holds Try.pinned (OpenSpec.ofChange quotaChangesWrong)

/-- 'countersignlaw12.QuotaTexts': WHATEVER THE INPUT: true; the input reads as it did. -/
def quotaTextsSpec : ChangeSpec := { name := "quotaTexts", fn := fun _ => fun
  | [d1, d2] => { results := [.lit (.bool true)], args := [d1, d2] }
  | _ => none }
def quotaTextsRow : OpenClaim := { program := "ytdiocnehejeldaa", sum := "24d5491e763d5fc88195aad84c419a4b5882e01413fa63c46f25522af91024ab", func := "countersign/countersignlaw12.QuotaTexts", spec := "quotaTexts", unfollowed := true, recurses := true, apart := false }
def QuotaTextsSaid : Prop := quotaTextsRow.holds Try.pinned (OpenSpec.ofChange quotaTextsSpec)

/-- ITS FALSE NEIGHBOUR: 'it returns false'. Refute it at one input. -/
def quotaTextsWrong : ChangeSpec := { name := "quotaTexts", fn := fun _ => fun
  | [d1, d2] => { results := [.lit (.bool false)], args := [d1, d2] }
  | _ => none }
def QuotaTextsWrongFalsely : Prop := quotaTextsRow.holds Try.pinned (OpenSpec.ofChange quotaTextsWrong)

/-- 'countersignlaw12.QuotaBack': WHATEVER THE INPUT: true; the input reads as it did. -/
def quotaBackSpec : ChangeSpec := { name := "quotaBack", fn := fun _ => fun
  | [d1, d2, d3] => { results := [.lit (.bool true)], args := [d1, d2, d3] }
  | _ => none }
def quotaBackRow : OpenClaim := { program := "ytdiocnehejeldaa", sum := "24d5491e763d5fc88195aad84c419a4b5882e01413fa63c46f25522af91024ab", func := "countersign/countersignlaw12.QuotaBack", spec := "quotaBack", unfollowed := true, recurses := true, apart := false }
def QuotaBackSaid : Prop := quotaBackRow.holds Try.pinned (OpenSpec.ofChange quotaBackSpec)

/-- ITS FALSE NEIGHBOUR: 'it returns false'. Refute it at one input. -/
def quotaBackWrong : ChangeSpec := { name := "quotaBack", fn := fun _ => fun
  | [d1, d2, d3] => { results := [.lit (.bool false)], args := [d1, d2, d3] }
  | _ => none }
def QuotaBackWrongFalsely : Prop := quotaBackRow.holds Try.pinned (OpenSpec.ofChange quotaBackWrong)

/-- 'countersignlaw12.QuotaStays': WHATEVER THE INPUT: true; the input reads as it did. -/
def quotaStaysSpec : ChangeSpec := { name := "quotaStays", fn := fun _ => fun
  | [d1, d2, d3] => { results := [.lit (.bool true)], args := [d1, d2, d3] }
  | _ => none }
def quotaStaysRow : OpenClaim := { program := "ytdiocnehejeldaa", sum := "24d5491e763d5fc88195aad84c419a4b5882e01413fa63c46f25522af91024ab", func := "countersign/countersignlaw12.QuotaStays", spec := "quotaStays", unfollowed := true, recurses := true, apart := false }
def QuotaStaysSaid : Prop := quotaStaysRow.holds Try.pinned (OpenSpec.ofChange quotaStaysSpec)

/-- ITS FALSE NEIGHBOUR: 'it returns false'. Refute it at one input. -/
def quotaStaysWrong : ChangeSpec := { name := "quotaStays", fn := fun _ => fun
  | [d1, d2, d3] => { results := [.lit (.bool false)], args := [d1, d2, d3] }
  | _ => none }
def QuotaStaysWrongFalsely : Prop := quotaStaysRow.holds Try.pinned (OpenSpec.ofChange quotaStaysWrong)

/-- 'countersignlaw12.QuotaLimits': WHATEVER THE INPUT: true; the input reads as it did. -/
def quotaLimitsSpec : ChangeSpec := { name := "quotaLimits", fn := fun _ => fun
  | [d1, d2, d3] => { results := [.lit (.bool true)], args := [d1, d2, d3] }
  | _ => none }
def quotaLimitsRow : OpenClaim := { program := "ytdiocnehejeldaa", sum := "24d5491e763d5fc88195aad84c419a4b5882e01413fa63c46f25522af91024ab", func := "countersign/countersignlaw12.QuotaLimits", spec := "quotaLimits", unfollowed := true, recurses := true, apart := false }
def QuotaLimitsSaid : Prop := quotaLimitsRow.holds Try.pinned (OpenSpec.ofChange quotaLimitsSpec)

/-- ITS FALSE NEIGHBOUR: 'it returns false'. Refute it at one input. -/
def quotaLimitsWrong : ChangeSpec := { name := "quotaLimits", fn := fun _ => fun
  | [d1, d2, d3] => { results := [.lit (.bool false)], args := [d1, d2, d3] }
  | _ => none }
def QuotaLimitsWrongFalsely : Prop := quotaLimitsRow.holds Try.pinned (OpenSpec.ofChange quotaLimitsWrong)

/- THE SECOND FORM. 'bulk': how many values and letters a reading holds, each counted each time it is reached (what is shared counts as often as it is met; a slice's spare places count too). A statement '..UptoSaid' is the law's where the arguments, and the package variables that the reading takes, are together of bulk at most 1048576: NARROWER than '..Said'. Prove '..Said' where nothing that the law and all that it calls make is longer than what came in: it says more and counts as full. Else prove '..UptoSaid'. A law counts once. -/
mutual
def uptoBulk {H : Type} : DataW H → Nat
  | .lit (.string bytes) => bytes.length + 1
  | .lit _ => 1
  | .nil => 1
  | .ptr d => uptoBulk d + 1
  | .slice elems spare => uptoBulkAll elems + uptoBulkAll spare + 1
  | .agg parts => uptoBulkAll parts + 1
  | .iface _ d => uptoBulk d + 1
  | .map entries => uptoBulkEntries entries + 1
  | .held _ => 1
def uptoBulkAll {H : Type} : List (DataW H) → Nat
  | [] => 0
  | d :: r => uptoBulk d + uptoBulkAll r
def uptoBulkEntries {H : Type} : List (Lit × DataW H) → Nat
  | [] => 0
  | x :: r => uptoBulkEntry x + uptoBulkEntries r
def uptoBulkEntry {H : Type} : Lit × DataW H → Nat
  | (.string bytes, d) => bytes.length + uptoBulk d + 1
  | (_, d) => uptoBulk d + 1
 end
def uptoSmall : (H : Type) → List (DataW H) → Bool := fun _ ds => decide (uptoBulkAll ds ≤ 1048576)
def OpenSpec.upto (s : _root_.Go.ChangeSpec) : _root_.Go.OpenSpec := { _root_.Go.OpenSpec.ofChange s with cond := some uptoSmall }

/-- 'countersignlaw12.QuotaChanges', WHERE WHAT IT READS IS OF BULK AT MOST 1048576: true; the input reads as it did. -/
def quotaChangesUptoRow : OpenClaim := { program := "ytdiocnehejeldaa", sum := "24d5491e763d5fc88195aad84c419a4b5882e01413fa63c46f25522af91024ab", func := "countersign/countersignlaw12.QuotaChanges", spec := "quotaChanges", unfollowed := true, recurses := true, apart := false, narrowed := true }
def QuotaChangesUptoSaid : Prop := quotaChangesUptoRow.holds Try.pinned (OpenSpec.upto quotaChangesSpec)

/-- 'countersignlaw12.QuotaTexts', WHERE WHAT IT READS IS OF BULK AT MOST 1048576: true; the input reads as it did. -/
def quotaTextsUptoRow : OpenClaim := { program := "ytdiocnehejeldaa", sum := "24d5491e763d5fc88195aad84c419a4b5882e01413fa63c46f25522af91024ab", func := "countersign/countersignlaw12.QuotaTexts", spec := "quotaTexts", unfollowed := true, recurses := true, apart := false, narrowed := true }
def QuotaTextsUptoSaid : Prop := quotaTextsUptoRow.holds Try.pinned (OpenSpec.upto quotaTextsSpec)

/-- 'countersignlaw12.QuotaBack', WHERE WHAT IT READS IS OF BULK AT MOST 1048576: true; the input reads as it did. -/
def quotaBackUptoRow : OpenClaim := { program := "ytdiocnehejeldaa", sum := "24d5491e763d5fc88195aad84c419a4b5882e01413fa63c46f25522af91024ab", func := "countersign/countersignlaw12.QuotaBack", spec := "quotaBack", unfollowed := true, recurses := true, apart := false, narrowed := true }
def QuotaBackUptoSaid : Prop := quotaBackUptoRow.holds Try.pinned (OpenSpec.upto quotaBackSpec)

/-- 'countersignlaw12.QuotaStays', WHERE WHAT IT READS IS OF BULK AT MOST 1048576: true; the input reads as it did. -/
def quotaStaysUptoRow : OpenClaim := { program := "ytdiocnehejeldaa", sum := "24d5491e763d5fc88195aad84c419a4b5882e01413fa63c46f25522af91024ab", func := "countersign/countersignlaw12.QuotaStays", spec := "quotaStays", unfollowed := true, recurses := true, apart := false, narrowed := true }
def QuotaStaysUptoSaid : Prop := quotaStaysUptoRow.holds Try.pinned (OpenSpec.upto quotaStaysSpec)

/-- 'countersignlaw12.QuotaLimits', WHERE WHAT IT READS IS OF BULK AT MOST 1048576: true; the input reads as it did. -/
def quotaLimitsUptoRow : OpenClaim := { program := "ytdiocnehejeldaa", sum := "24d5491e763d5fc88195aad84c419a4b5882e01413fa63c46f25522af91024ab", func := "countersign/countersignlaw12.QuotaLimits", spec := "quotaLimits", unfollowed := true, recurses := true, apart := false, narrowed := true }
def QuotaLimitsUptoSaid : Prop := quotaLimitsUptoRow.holds Try.pinned (OpenSpec.upto quotaLimitsSpec)

end Rows
end Go.Proofs.Ytdiocnehejeldaa
