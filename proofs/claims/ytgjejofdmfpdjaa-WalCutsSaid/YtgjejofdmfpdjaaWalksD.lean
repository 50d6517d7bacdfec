/-
  What the document's own TakeUint does.
-/
import Derived.Test.YtgjejofdmfpdjaaWalksC
import Derived.Deep.DeepCutAuto
import Derived.Deep.RegionWith
import Derived.RegionCalls
namespace Go.Proofs.Ytgjejofdmfpdjaa
open Go.RowKit
open Go.Lib (uvarint uvarint_small uvarint_big uvarint_length64 uvarint_pos byteCells)
open Leb (dec decFrom)

theorem toList_take (s : ByteArray) (k : Nat) : (s.extract 0 k).toList = s.data.toList.take k := by
  rw [Go.ByteArray.toList_eq, ByteArray.data_extract, Array.toList_extract, List.extract_eq_take_drop]
  rfl

theorem test_some {s : ByteArray} {x : Int} {N k : Nat} (hk : k + 1 ≤ s.size) (hd : dec s.data.toList = some (N, s.data.toList.drop (k + 1))) (hx : x.toNat = N) :
    (!(uvarint x.toNat == (s.extract 0 (k + 1)).toList)) = false := by
  have h1 := (Leb.dec_some hd).1
  have hl : s.data.toList.length = s.size := Kit.size_list s
  rw [toList_take, hx]
  have h2 : s.data.toList.take (k + 1) = uvarint N := by
    have h3 := congrArg List.length h1
    rw [List.length_append, List.length_drop, hl] at h3
    have h4 : (uvarint N).length = k + 1 := by omega
    conv => lhs; rw [h1, ← h4, List.take_left]
  rw [h2]
  simp

theorem test_noneN {s : ByteArray} {x k : Nat} (hd : dec s.data.toList = none) (hx : x < 18446744073709551616) :
    (!(uvarint x == (s.extract 0 (k + 1)).toList)) = true := by
  rw [toList_take]
  simp only [Bool.not_eq_true', beq_eq_false_iff_ne, ne_eq]
  intro h
  have h1 := Leb.dec_put hx (s.data.toList.drop (k + 1))
  rw [h, List.take_append_drop, hd] at h1
  cases h1

theorem test_none {s : ByteArray} {x : Int} {k : Nat} (hd : dec s.data.toList = none) (h0 : 0 ≤ x) (hx : x ≤ 18446744073709551615) :
    (!(uvarint x.toNat == (s.extract 0 (k + 1)).toList)) = true := by
  rw [toList_take]
  simp only [Bool.not_eq_true', beq_eq_false_iff_ne, ne_eq]
  intro h
  have h1 := Leb.dec_put (x := x.toNat) (by omega) (s.data.toList.drop (k + 1))
  rw [h, List.take_append_drop, hd] at h1
  cases h1

theorem u64_lo (x : Int) : 0 ≤ IntKind.u64.wrap x := (wrap_within .u64 x).1
theorem u64_hi (x : Int) : IntKind.u64.wrap x ≤ 18446744073709551615 := (wrap_within .u64 x).2

/-- What holds of the loop's sum z and its factor m behind k bytes. -/
def SofarR (l : List UInt8) (k : Nat) (z m : Int) : Prop :=
  0 ≤ z ∧ z ≤ 18446744073709551615 ∧ ∃ acc : Nat, (k ≤ 9 → z = acc ∧ acc < 128 ^ k ∧ m = ((128 ^ k : Nat) : Int)) ∧ Hid (dec l = decFrom k acc (l.drop k))

end Go.Proofs.Ytgjejofdmfpdjaa
