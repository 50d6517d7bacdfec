/-
  What the document's own Nums, Texts and Begins do, where the laws want them; and the fixed calls.
-/
import Derived.Test.YtdiocnehejeldaaWalksB
import Derived.Test.YtdiocnehejeldaaWalksE
namespace Go.Proofs.Ytdiocnehejeldaa
open Go.RowKit
open Go.Lib (uvarint uvarint_small uvarint_big uvarint_length64 uvarint_pos byteCells)
open Leb (dec decFrom decC decT decN decL takeNs takeTs encT encN encL encNs encTs)

theorem uv300 : uvarint 300 = [172, 2] := by
  rw [uvarint_big (by decide), uvarint_small (by decide)]
  decide
theorem uv_small {n : Nat} (h : n < 128) : uvarint n = [n.toUInt8] := uvarint_small h
theorem uv128 : uvarint 128 = [128, 1] := by
  rw [uvarint_big (by decide), uvarint_small (by decide)]
  decide
theorem enc_ab : encT [97, 98] = [2, 97, 98] := by
  unfold encT
  rw [uv_small (by decide)]
  rfl
theorem enc_1_128 : encN [1, 128] = [2, 1, 128, 1] := by
  simp only [encN, encNs]
  rw [uv128, uv_small (by decide), uv_small (show 1 < 128 by decide)]
  rfl
theorem enc_empty : encL (bys [⟨#[]⟩]) = [1, 0] := by
  simp only [encL, encTs, bys, List.map_cons, List.map_nil, encT]
  rw [uv_small (by decide), uv_small (by decide)]
  rfl

end Go.Proofs.Ytdiocnehejeldaa
