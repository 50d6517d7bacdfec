/-
  What package wire's takeCount, TakeText and takeAnyText do, and the document's own TakeText.
-/
import Derived.Test.YtllbcnficlbobaaWalksD
import Derived.IntWalk
namespace Go.Proofs.Ytllbcnficlbobaa
open Go.RowKit
open Go.Lib (uvarint uvarint_small uvarint_big uvarint_length64 uvarint_pos byteCells)
open Leb (dec decFrom decC decT)

def countRes : Option (Nat × List UInt8) → Value
  | none => .tuple #[.int .i64 0, .string ⟨#[]⟩, .bool false]
  | some (n, r) => .tuple #[.int .i64 n, .string ⟨r.toArray⟩, .bool true]

def textRes : Option (List UInt8 × List UInt8) → Value
  | none => .tuple #[.string ⟨#[]⟩, .string ⟨#[]⟩, .bool false]
  | some (x, r) => .tuple #[.string ⟨x.toArray⟩, .string ⟨r.toArray⟩, .bool true]

theorem decC_no {l : List UInt8} {most : Int} (h : dec l = none) : decC l most = none := by unfold decC; rw [h]
theorem decC_yes {l r : List UInt8} {n : Nat} {most : Int} (h : dec l = some (n, r)) (h1 : (n : Int) ≤ most) (h2 : n ≤ r.length) : decC l most = some (n, r) := by
  unfold decC; rw [h]; exact if_pos ⟨h1, h2⟩
theorem decC_out {l r : List UInt8} {n : Nat} {most : Int} (h : dec l = some (n, r)) (h1 : ¬ ((n : Int) ≤ most ∧ n ≤ r.length)) : decC l most = none := by
  unfold decC; rw [h]; exact if_neg h1
theorem dec_len {s : ByteArray} {r : List UInt8} {n : Nat} (h : dec s.data.toList = some (n, r)) : r.length < s.size := by
  have h1 := Leb.dec_lt h
  rw [Kit.size_list] at h1
  exact h1

theorem decT_no {l : List UInt8} {most : Int} (h : decC l most = none) : decT l most = none := by unfold decT; rw [h]
theorem decT_yes {l r : List UInt8} {n : Nat} {most : Int} (h : decC l most = some (n, r)) : decT l most = some (r.take n, r.drop n) := by unfold decT; rw [h]

theorem ret_text {a b : ByteArray} {x r : List UInt8} (ha : a.data.toList = x) (hb : b.data.toList = r) : Ending.returned (.tuple #[.string a, .string b, .bool true]) = Ending.returned (textRes (some (x, r))) := by
  subst ha hb
  rw [textRes, ← Kit.bytes_of_data, ← Kit.bytes_of_data]
theorem take_of (r : List UInt8) (n : Nat) : ((⟨r.toArray⟩ : ByteArray).extract 0 n).data.toList = r.take n := by
  rw [ByteArray.extract_mk]; simp
theorem drop_of (r : List UInt8) (n : Nat) : ((⟨r.toArray⟩ : ByteArray).extract n r.length).data.toList = r.drop n := by
  rw [ByteArray.extract_mk]
  simp only
  exact List.take_of_length_le (by rw [List.length_drop]; exact Nat.le_refl _)

end Go.Proofs.Ytllbcnficlbobaa
