/-
  What package wire's PutList does, and the document's own answers for lists.
-/
import Derived.Test.YtdiocnehejeldaaWalksA
namespace Go.Proofs.Ytdiocnehejeldaa
open Go.RowKit
open Go.Lib (uvarint uvarint_small uvarint_big uvarint_length64 uvarint_pos byteCells)
open Leb (encT encN encNs encL encTs)

theorem part_le {l : List Nat} (k : Nat) : (uvarint l.length ++ encNs (l.take k)).length ≤ (encN l).length := by
  have h1 : encNs l = encNs (l.take k) ++ encNs (l.drop k) := by rw [← Leb.encNs_append, List.take_append_drop]
  unfold encN
  rw [h1]
  simp only [List.length_append]
  omega
theorem snoc_num {l : List Nat} {k : Nat} (hlt : k < l.length) : uvarint l.length ++ encNs (l.take (k + 1)) = (uvarint l.length ++ encNs (l.take k)) ++ uvarint l[k] := by
  rw [List.take_succ_eq_append_getElem hlt, Leb.encNs_append, List.append_assoc]
  simp [encNs]
def bys (l : List ByteArray) : List (List UInt8) := l.map fun s => s.data.toList
theorem bys_take (l : List ByteArray) (k : Nat) : bys (l.take k) = (bys l).take k := by simp [bys]
theorem partL_le {l : List ByteArray} (k : Nat) : (uvarint l.length ++ encTs (bys (l.take k))).length ≤ (encL (bys l)).length := by
  have h1 : encTs (bys l) = encTs (bys (l.take k)) ++ encTs ((bys l).drop k) := by rw [← Leb.encTs_append, bys_take, List.take_append_drop]
  unfold encL
  rw [h1]
  simp only [List.length_append, bys, List.length_map]
  omega
theorem snoc_text {l : List ByteArray} {k : Nat} (hlt : k < l.length) : uvarint l.length ++ encTs (bys (l.take (k + 1))) = (uvarint l.length ++ encTs (bys (l.take k))) ++ encT l[k].data.toList := by
  rw [List.take_succ_eq_append_getElem hlt]
  simp only [bys, List.map_append, List.map_cons, List.map_nil]
  rw [Leb.encTs_append, List.append_assoc]
  simp [encTs]
theorem len_le (l : List ByteArray) : l.length ≤ (encL (bys l)).length := by
  have := Leb.encTs_length (bys l)
  have h : (bys l).length = l.length := by simp [bys]
  unfold encL
  rw [List.length_append]
  omega

end Go.Proofs.Ytdiocnehejeldaa
