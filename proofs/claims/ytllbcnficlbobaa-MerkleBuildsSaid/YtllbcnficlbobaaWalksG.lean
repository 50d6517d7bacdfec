/-
  What the document's own TakeNums, TakeList, Nums, Texts and Begins do.
-/
import Derived.Test.YtllbcnficlbobaaWalksF
namespace Go.Proofs.Ytllbcnficlbobaa
open Go.RowKit
open Go.Lib (uvarint uvarint_small uvarint_big uvarint_length64 uvarint_pos byteCells)
open Leb (dec decFrom decC decT decN decL takeNs takeTs)

/-- A list of more numbers than there are bytes is not taken: each has a byte. -/
theorem takeNs_short : ∀ (n : Nat) (r : List UInt8), r.length < n → takeNs n r = none
  | 0, r, h => by omega
  | n + 1, r, h => by
    simp only [takeNs]
    cases hd : dec r with
    | none => rfl
    | some x =>
      obtain ⟨x, r'⟩ := x
      have := Leb.dec_lt hd
      simp only
      rw [takeNs_short n r' (by omega)]
theorem takeTs_short : ∀ (n : Nat) (r : List UInt8), r.length < n → takeTs n r = none
  | 0, r, h => by omega
  | n + 1, r, h => by
    simp only [takeTs]
    cases hd : decT r r.length with
    | none => rfl
    | some x =>
      obtain ⟨x, r'⟩ := x
      have := decT_lt hd
      simp only
      rw [takeTs_short n r' (by omega)]
theorem decN_of {l r : List UInt8} {n : Nat} {m : Int} (h : dec l = some (n, r)) (hm : (n : Int) ≤ m) : decN l m = takeNs n r := by
  by_cases hr : n ≤ r.length
  · exact decN_yes (decC_yes h hm hr)
  · rw [decN_no (decC_out h (by omega)), takeNs_short n r (by omega)]
theorem decL_of {l r : List UInt8} {n : Nat} {m : Int} (h : dec l = some (n, r)) (hm : (n : Int) ≤ m) : decL l m = takeTs n r := by
  by_cases hr : n ≤ r.length
  · exact decL_yes (decC_yes h hm hr)
  · rw [decL_no (decC_out h (by omega)), takeTs_short n r (by omega)]

end Go.Proofs.Ytllbcnficlbobaa
