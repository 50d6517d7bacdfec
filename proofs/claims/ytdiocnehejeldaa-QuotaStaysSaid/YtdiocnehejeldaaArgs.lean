/-
  A law's arguments, opened: lists of numbers and of texts as lists, with what the bound says of their bytes.
-/
import Derived.Test.YtdiocnehejeldaaWalksH
import Derived.ProofKit
import Derived.OpenShut
import Derived.JoinedCond
import Derived.Lib.SmallJoins
namespace Go.Proofs.Ytdiocnehejeldaa
open Go.RowKit Go.ChangeShapes Go.WideShapes Go.ChangeAt
open Go.Lib (uvarint uvarint_length64)
open Leb (encT encN encL encNs encTs)

theorem cellsU64 : Try.prog.cellsOf 23 = 1 := by kernel_rfl
theorem cellsStr : Try.prog.cellsOf 9 = 1 := by kernel_rfl
theorem own : ownKnob Try.prog.godebug = none := by kernel_rfl
theorem laid : laidOutB Try.prog = true := by kernel_rfl

theorem bulk_one {H : Type} (d : DataW H) : 1 ≤ Rows.uptoBulk d := by
  cases d with
  | lit l => cases l <;> simp [Rows.uptoBulk]
  | nil => simp [Rows.uptoBulk]
  | ptr d => simp [Rows.uptoBulk]
  | slice elems spare => simp [Rows.uptoBulk]
  | agg parts => simp [Rows.uptoBulk]
  | iface t d => simp [Rows.uptoBulk]
  | map entries => simp [Rows.uptoBulk]
  | held h => simp [Rows.uptoBulk]

theorem bulk_length {H : Type} : ∀ (l : List (DataW H)), l.length ≤ Rows.uptoBulkAll l
  | [] => by simp
  | x :: r => by have := bulk_one x; have := bulk_length r; simp only [Rows.uptoBulkAll, List.length_cons]; omega

theorem bulk_bound {H : Type} {l : List (DataW H)} (hk : Rows.uptoSmall H l = true) : Rows.uptoBulkAll l ≤ 1048576 := of_decide_eq_true hk

theorem bulk_lits {H : Type} (k : IntKind) (zs : List Int) : zs.length ≤ Rows.uptoBulkAll (_root_.Go.ChangeShapes.lits (H := H) k zs) := by
  have := bulk_length (_root_.Go.ChangeShapes.lits (H := H) k zs)
  simp only [_root_.Go.ChangeShapes.lits, List.length_map] at this
  exact this

theorem encNs_le : ∀ (l : List Nat), (∀ x ∈ l, x < 18446744073709551616) → (encNs l).length ≤ 10 * l.length
  | [], _ => by simp [encNs]
  | x :: l, h => by
    have h1 := encNs_le l (fun y hy => h y (by simp [hy]))
    have h2 := uvarint_length64 (h x (by simp))
    simp only [encNs, List.length_append, List.length_cons]
    omega
theorem encN_le {l : List Nat} (h : ∀ x ∈ l, x < 18446744073709551616) (hl : l.length ≤ 1048576) : (encN l).length ≤ 10485770 := by
  have h1 := encNs_le l h
  have h2 := uvarint_length64 (show l.length < 18446744073709551616 by omega)
  unfold encN
  rw [List.length_append]
  omega

/-- A text's letters, and one; together. -/
def weight : List ByteArray → Nat
  | [] => 0
  | s :: l => s.size + 1 + weight l
theorem encTs_le : ∀ (l : List ByteArray), weight l ≤ 1048576 → (encTs (bys l)).length ≤ 10 * weight l
  | [], _ => by simp [bys, encTs]
  | s :: l, h => by
    simp only [weight] at h
    have h1 := encTs_le l (by omega)
    have h2 := uvarint_length64 (show s.size < 18446744073709551616 by omega)
    have h3 := Kit.size_list s
    simp only [bys] at h1
    simp only [bys, List.map_cons, encTs, encT, List.length_append, weight, h3]
    omega
theorem weight_length : ∀ (l : List ByteArray), l.length ≤ weight l
  | [] => by simp
  | s :: l => by have := weight_length l; simp only [weight, List.length_cons]; omega
theorem encL_le {l : List ByteArray} (h : weight l ≤ 1048576) : (encL (bys l)).length ≤ 10485770 := by
  have h1 := encTs_le l h
  have h3 := weight_length l
  have h2 := uvarint_length64 (show (bys l).length < 18446744073709551616 by simp only [bys, List.length_map]; omega)
  unfold encL
  rw [List.length_append]
  omega
theorem bulk_texts {H : Type} : ∀ (ss : List ByteArray), weight ss ≤ Rows.uptoBulkAll (_root_.Go.ChangeShapes.strs (H := H) ss)
  | [] => by simp [weight]
  | s :: l => by
    have h1 := bulk_texts (H := H) l
    have h2 := Kit.size_list s
    simp only [_root_.Go.ChangeShapes.strs] at h1
    simp only [weight, _root_.Go.ChangeShapes.strs, List.map_cons, Rows.uptoBulkAll, Rows.uptoBulk]
    omega

section
variable {H : Type} {enc : TypeId × Value → H} {w : World}
end
end Go.Proofs.Ytdiocnehejeldaa
