/-
  WalksE: WalksE, WalksF, WalksG.
-/
import Derived.Test.YtdiocnehejeldaaWalksD
import Derived.IntWalk
/-! What package wire's takeCount, TakeText and takeAnyText do, and the document's own TakeText. -/
namespace Go.Proofs.Ytdiocnehejeldaa
open Go.RowKit
open Go.Lib (uvarint uvarint_small uvarint_big uvarint_length64 uvarint_pos byteCells)
open Leb (dec decFrom decC decT)

def countRes : Option (Nat × List UInt8) → Value
  | none => .tuple #[.int .i64 0, .string ⟨#[]⟩, .bool false]
  | some (n, r) => .tuple #[.int .i64 n, .string ⟨r.toArray⟩, .bool true]

def textRes : Option (List UInt8 × List UInt8) → Value
  | none => .tuple #[.string ⟨#[]⟩, .string ⟨#[]⟩, .bool false]
  | some (x, r) => .tuple #[.string ⟨x.toArray⟩, .string ⟨r.toArray⟩, .bool true]

theorem decC_no {l : List UInt8} {most : Int} (h : dec l = none) : decC l most = none := by unfold decC; rw [h]
theorem decC_yes {l r : List UInt8} {n : Nat} {most : Int} (h : dec l = some (n, r)) (h1 : (n : Int) ≤ most) (h2 : n ≤ r.length) : decC l most = some (n, r) := by
  unfold decC; rw [h]; exact if_pos ⟨h1, h2⟩
theorem decC_out {l r : List UInt8} {n : Nat} {most : Int} (h : dec l = some (n, r)) (h1 : ¬ ((n : Int) ≤ most ∧ n ≤ r.length)) : decC l most = none := by
  unfold decC; rw [h]; exact if_neg h1
theorem dec_len {s : ByteArray} {r : List UInt8} {n : Nat} (h : dec s.data.toList = some (n, r)) : r.length < s.size := by
  have h1 := Leb.dec_lt h
  rw [Kit.size_list] at h1
  exact h1

theorem decT_no {l : List UInt8} {most : Int} (h : decC l most = none) : decT l most = none := by unfold decT; rw [h]
theorem decT_yes {l r : List UInt8} {n : Nat} {most : Int} (h : decC l most = some (n, r)) : decT l most = some (r.take n, r.drop n) := by unfold decT; rw [h]

theorem ret_text {a b : ByteArray} {x r : List UInt8} (ha : a.data.toList = x) (hb : b.data.toList = r) : Ending.returned (.tuple #[.string a, .string b, .bool true]) = Ending.returned (textRes (some (x, r))) := by
  subst ha hb
  rw [textRes, ← Kit.bytes_of_data, ← Kit.bytes_of_data]
theorem take_of (r : List UInt8) (n : Nat) : ((⟨r.toArray⟩ : ByteArray).extract 0 n).data.toList = r.take n := by
  rw [ByteArray.extract_mk]; simp
theorem drop_of (r : List UInt8) (n : Nat) : ((⟨r.toArray⟩ : ByteArray).extract n r.length).data.toList = r.drop n := by
  rw [ByteArray.extract_mk]
  simp only
  exact List.take_of_length_le (by rw [List.length_drop]; exact Nat.le_refl _)

end Go.Proofs.Ytdiocnehejeldaa
/-! What package wire's TakeNums and TakeList do. -/
namespace Go.Proofs.Ytdiocnehejeldaa
open Go.RowKit
open Go.Lib (uvarint uvarint_small uvarint_big uvarint_length64 uvarint_pos byteCells)
open Leb (dec decFrom decC decT decN decL takeNs takeTs)

theorem infoU64 : (Try.prog.info? 23).map (fun i => (i.zero, i.size, i.bytes)) = some (some (.int .u64 0), 1, 8) := by kernel_rfl
theorem infoStr : (Try.prog.info? 9).map (fun i => (i.zero, i.size, i.bytes)) = some (some (.string ⟨#[]⟩), 1, 16) := by kernel_rfl

/-- The results of taking a list: none, or a slice that reads as it. -/
def ListEnd {α : Type} (f : List α → List Value) (o : Option (List α × List UInt8)) (e : Ending) (w : World) : Prop :=
  match o with
  | none => e = .returned (.tuple #[.slice none 0 0, .string ⟨#[]⟩, .bool false])
  | some (l, r) => ∃ v, e = .returned (.tuple #[v, .string ⟨r.toArray⟩, .bool true]) ∧ Kit.Rd w v (f l)

theorem takeUint_list (l : List UInt8) (hl : l.length ≤ 9223372036854775807) (w : World) :
    Calls Try.prog 25 #[.string ⟨l.toArray⟩] w fun e w' => e = .returned (uintRes (dec l)) ∧ Below w.heap.size w w' := by
  simpa using takeUint_any ⟨l.toArray⟩ (by rw [Kit.size_mk]; exact hl) w
/-- What was taken so far, ahead of what is taken yet. -/
def ahead {α : Type} (xs : List α) (o : Option (List α × List UInt8)) : Option (List α × List UInt8) := o.map fun p => (xs ++ p.1, p.2)
theorem ahead_nil {α : Type} (o : Option (List α × List UInt8)) : ahead [] o = o := by cases o <;> simp [ahead]
theorem ahead_num {xs : List Nat} {j x : Nat} {r r' : List UInt8} (h : dec r = some (x, r')) : ahead xs (takeNs (j + 1) r) = ahead (xs ++ [x]) (takeNs j r') := by
  simp only [takeNs, h]
  cases takeNs j r' <;> simp [ahead]
theorem ahead_numNo {xs : List Nat} {j : Nat} {r : List UInt8} (h : dec r = none) : ahead xs (takeNs (j + 1) r) = none := by
  simp only [takeNs, h]
  rfl
theorem ahead_text {xs : List (List UInt8)} {j : Nat} {x r r' : List UInt8} (h : decT r r.length = some (x, r')) : ahead xs (takeTs (j + 1) r) = ahead (xs ++ [x]) (takeTs j r') := by
  simp only [takeTs, h]
  cases takeTs j r' <;> simp [ahead]
theorem ahead_textNo {xs : List (List UInt8)} {j : Nat} {r : List UInt8} (h : decT r r.length = none) : ahead xs (takeTs (j + 1) r) = none := by
  simp only [takeTs, h]
  rfl
theorem decN_no {l : List UInt8} {most : Int} (h : decC l most = none) : decN l most = none := by unfold decN; rw [h]
theorem decN_yes {l r : List UInt8} {n : Nat} {most : Int} (h : decC l most = some (n, r)) : decN l most = takeNs n r := by unfold decN; rw [h]
theorem decL_no {l : List UInt8} {most : Int} (h : decC l most = none) : decL l most = none := by unfold decL; rw [h]
theorem decL_yes {l r : List UInt8} {n : Nat} {most : Int} (h : decC l most = some (n, r)) : decL l most = takeTs n r := by unfold decL; rw [h]

theorem nums_snoc (xs : List Nat) (x : Nat) : nums (xs ++ [x]) = nums xs ++ [Value.int .u64 (x : Int)] := by simp [nums]
def strsL (l : List (List UInt8)) : List Value := l.map fun x => Value.string ⟨x.toArray⟩
theorem strsL_snoc (xs : List (List UInt8)) (x : List UInt8) : strsL (xs ++ [x]) = strsL xs ++ [Value.string ⟨x.toArray⟩] := by simp [strsL]
theorem decT_lt {l x r : List UInt8} {m : Int} (h : decT l m = some (x, r)) : r.length < l.length := by
  have h1 := congrArg List.length (Leb.decT_some h).1
  have := uvarint_pos x.length
  simp only [Leb.encT, List.length_append] at h1
  omega

end Go.Proofs.Ytdiocnehejeldaa
/-! What the document's own TakeNums, TakeList, Nums, Texts and Begins do. -/
namespace Go.Proofs.Ytdiocnehejeldaa
open Go.RowKit
open Go.Lib (uvarint uvarint_small uvarint_big uvarint_length64 uvarint_pos byteCells)
open Leb (dec decFrom decC decT decN decL takeNs takeTs)

theorem rTakeUint_list (l : List UInt8) (hl : l.length ≤ 9223372036854775807) (w : World) :
    Calls Try.prog 27 #[.string ⟨l.toArray⟩] w fun e w' => e = .returned (uintRes (dec l)) ∧ Below w.heap.size w w' := by
  simpa using rTakeUint_any ⟨l.toArray⟩ (by rw [Kit.size_mk]; exact hl) w
/-- A list of more numbers than there are bytes is not taken: each has a byte. -/
theorem takeNs_short : ∀ (n : Nat) (r : List UInt8), r.length < n → takeNs n r = none
  | 0, r, h => by omega
  | n + 1, r, h => by
    simp only [takeNs]
    cases hd : dec r with
    | none => rfl
    | some x =>
      obtain ⟨x, r'⟩ := x
      have := Leb.dec_lt hd
      simp only
      rw [takeNs_short n r' (by omega)]
theorem takeTs_short : ∀ (n : Nat) (r : List UInt8), r.length < n → takeTs n r = none
  | 0, r, h => by omega
  | n + 1, r, h => by
    simp only [takeTs]
    cases hd : decT r r.length with
    | none => rfl
    | some x =>
      obtain ⟨x, r'⟩ := x
      have := decT_lt hd
      simp only
      rw [takeTs_short n r' (by omega)]
theorem decN_of {l r : List UInt8} {n : Nat} {m : Int} (h : dec l = some (n, r)) (hm : (n : Int) ≤ m) : decN l m = takeNs n r := by
  by_cases hr : n ≤ r.length
  · exact decN_yes (decC_yes h hm hr)
  · rw [decN_no (decC_out h (by omega)), takeNs_short n r (by omega)]
theorem decL_of {l r : List UInt8} {n : Nat} {m : Int} (h : dec l = some (n, r)) (hm : (n : Int) ≤ m) : decL l m = takeTs n r := by
  by_cases hr : n ≤ r.length
  · exact decL_yes (decC_yes h hm hr)
  · rw [decL_no (decC_out h (by omega)), takeTs_short n r (by omega)]

end Go.Proofs.Ytdiocnehejeldaa
