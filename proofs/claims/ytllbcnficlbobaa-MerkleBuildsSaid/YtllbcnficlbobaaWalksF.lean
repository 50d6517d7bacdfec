/-
  What package wire's TakeNums and TakeList do.
-/
import Derived.Test.YtllbcnficlbobaaWalksE
namespace Go.Proofs.Ytllbcnficlbobaa
open Go.RowKit
open Go.Lib (uvarint uvarint_small uvarint_big uvarint_length64 uvarint_pos byteCells)
open Leb (dec decFrom decC decT decN decL takeNs takeTs)

theorem infoU64 : (Try.prog.info? 42).map (fun i => (i.zero, i.size, i.bytes)) = some (some (.int .u64 0), 1, 8) := by kernel_rfl
theorem infoStr : (Try.prog.info? 9).map (fun i => (i.zero, i.size, i.bytes)) = some (some (.string ⟨#[]⟩), 1, 16) := by kernel_rfl

/-- The results of taking a list: none, or a slice that reads as it. -/
def ListEnd {α : Type} (f : List α → List Value) (o : Option (List α × List UInt8)) (e : Ending) (w : World) : Prop :=
  match o with
  | none => e = .returned (.tuple #[.slice none 0 0, .string ⟨#[]⟩, .bool false])
  | some (l, r) => ∃ v, e = .returned (.tuple #[v, .string ⟨r.toArray⟩, .bool true]) ∧ Kit.Rd w v (f l)

/-- What was taken so far, ahead of what is taken yet. -/
def ahead {α : Type} (xs : List α) (o : Option (List α × List UInt8)) : Option (List α × List UInt8) := o.map fun p => (xs ++ p.1, p.2)
theorem ahead_nil {α : Type} (o : Option (List α × List UInt8)) : ahead [] o = o := by cases o <;> simp [ahead]
theorem ahead_num {xs : List Nat} {j x : Nat} {r r' : List UInt8} (h : dec r = some (x, r')) : ahead xs (takeNs (j + 1) r) = ahead (xs ++ [x]) (takeNs j r') := by
  simp only [takeNs, h]
  cases takeNs j r' <;> simp [ahead]
theorem ahead_numNo {xs : List Nat} {j : Nat} {r : List UInt8} (h : dec r = none) : ahead xs (takeNs (j + 1) r) = none := by
  simp only [takeNs, h]
  rfl
theorem ahead_text {xs : List (List UInt8)} {j : Nat} {x r r' : List UInt8} (h : decT r r.length = some (x, r')) : ahead xs (takeTs (j + 1) r) = ahead (xs ++ [x]) (takeTs j r') := by
  simp only [takeTs, h]
  cases takeTs j r' <;> simp [ahead]
theorem ahead_textNo {xs : List (List UInt8)} {j : Nat} {r : List UInt8} (h : decT r r.length = none) : ahead xs (takeTs (j + 1) r) = none := by
  simp only [takeTs, h]
  rfl
theorem decN_no {l : List UInt8} {most : Int} (h : decC l most = none) : decN l most = none := by unfold decN; rw [h]
theorem decN_yes {l r : List UInt8} {n : Nat} {most : Int} (h : decC l most = some (n, r)) : decN l most = takeNs n r := by unfold decN; rw [h]
theorem decL_no {l : List UInt8} {most : Int} (h : decC l most = none) : decL l most = none := by unfold decL; rw [h]
theorem decL_yes {l r : List UInt8} {n : Nat} {most : Int} (h : decC l most = some (n, r)) : decL l most = takeTs n r := by unfold decL; rw [h]

theorem nums_snoc (xs : List Nat) (x : Nat) : nums (xs ++ [x]) = nums xs ++ [Value.int .u64 (x : Int)] := by simp [nums]
def strsL (l : List (List UInt8)) : List Value := l.map fun x => Value.string ⟨x.toArray⟩
theorem strsL_snoc (xs : List (List UInt8)) (x : List UInt8) : strsL (xs ++ [x]) = strsL xs ++ [Value.string ⟨x.toArray⟩] := by simp [strsL]
theorem decT_lt {l x r : List UInt8} {m : Int} (h : decT l m = some (x, r)) : r.length < l.length := by
  have h1 := congrArg List.length (Leb.decT_some h).1
  have := uvarint_pos x.length
  simp only [Leb.encT, List.length_append] at h1
  omega

end Go.Proofs.Ytllbcnficlbobaa
