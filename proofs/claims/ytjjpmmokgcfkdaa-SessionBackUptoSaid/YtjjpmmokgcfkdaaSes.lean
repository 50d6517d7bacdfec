/-
  The last command of each session, plainly: rows; what is found, noted, checked; a table's text, and what table a text says.
-/
import Derived.Test.YtjjpmmokgcfkdaaLeb
import Derived.Test.YtjjpmmokgcfkdaaKit
namespace Go.Proofs.Ytjjpmmokgcfkdaa
namespace Ses
open Leb

structure Row where
  id : Nat
  num : Nat
  ans : ByteArray
deriving DecidableEq

/-! ### What is found -/
def find (t : List Row) (id : Nat) : Option Row := t.find? fun r => decide (r.id = id)
/-- The kind of answer, and the text. -/
def seekR (n : Nat) : Option Row → Int × ByteArray
  | none => (0, ⟨#[]⟩)
  | some r => if r.num = n then (1, r.ans) else if n < r.num then (2, ⟨#[]⟩) else (0, ⟨#[]⟩)
def seek (t : List Row) (id n : Nat) : Int × ByteArray := seekR n (find t id)
theorem find_at {t : List Row} {id i : Nat} {r : Row} (h : t[i]? = some r) (hr : r.id = id) (h0 : ∀ j, j < i → ∀ x : Row, t[j]? = some x → x.id ≠ id) : find t id = some r := by
  induction t generalizing i with
  | nil => cases h
  | cons x t ih =>
    unfold find
    cases i with
    | zero =>
      simp only [List.getElem?_cons_zero, Option.some.injEq] at h
      subst h
      rw [List.find?_cons_of_pos (by simpa using hr)]
    | succ i =>
      have hx : x.id ≠ id := h0 0 (by omega) x rfl
      rw [List.find?_cons_of_neg (by simpa using hx)]
      exact ih (by simpa using h) fun j hj y hy => h0 (j + 1) (by omega) y (by simpa using hy)
theorem find_none {t : List Row} {id : Nat} (h0 : ∀ (j : Nat) (x : Row), t[j]? = some x → x.id ≠ id) : find t id = none := by
  unfold find
  rw [List.find?_eq_none]
  intro x hx
  obtain ⟨j, hj⟩ := List.mem_iff_getElem?.1 hx
  simpa using h0 j x hj

/-! ### What is noted -/
def short (s : ByteArray) : ByteArray := s.extract 0 256
def others (t : List Row) (id : Nat) : List Row := t.filter fun r => decide (r.id ≠ id)
def lastOf (k : Nat) (l : List Row) : List Row := l.drop (l.length - k)
def note (t : List Row) (id n : Nat) (a : ByteArray) : List Row := lastOf 16 (others t id ++ [⟨id, n, short a⟩])
theorem others_snoc_in {t : List Row} {id : Nat} {r : Row} (h : r.id ≠ id) : others (t ++ [r]) id = others t id ++ [r] := by simp [others, List.filter_append, h]
theorem others_snoc_out {t : List Row} {id : Nat} {r : Row} (h : r.id = id) : others (t ++ [r]) id = others t id := by simp [others, List.filter_append, h]
theorem others_le (t : List Row) (id : Nat) : (others t id).length ≤ t.length := List.length_filter_le _ _
theorem others_mem {t : List Row} {id : Nat} {r : Row} : r ∈ others t id ↔ r ∈ t ∧ r.id ≠ id := by simp [others, List.mem_filter]
theorem lastOf_len (k : Nat) (l : List Row) : (lastOf k l).length = min k l.length := by
  unfold lastOf
  rw [List.length_drop]
  omega
theorem lastOf_all {k : Nat} {l : List Row} (h : l.length ≤ k) : lastOf k l = l := by
  unfold lastOf
  rw [show l.length - k = 0 by omega, List.drop_zero]
theorem note_len (t : List Row) (id n : Nat) (a : ByteArray) : (note t id n a).length = min 16 ((others t id).length + 1) := by
  unfold note
  rw [lastOf_len, List.length_append]
  rfl
theorem note_le (t : List Row) (id n : Nat) (a : ByteArray) : (note t id n a).length ≤ 16 := by rw [note_len]; omega
/-- The row that is noted is the last one. -/
theorem note_snoc (t : List Row) (id n : Nat) (a : ByteArray) : note t id n a = lastOf 15 (others t id) ++ [⟨id, n, short a⟩] := by
  unfold note lastOf
  rw [List.length_append, show (others t id).length + [(⟨id, n, short a⟩ : Row)].length - 16 = (others t id).length - 15 by rw [List.length_singleton]; omega, List.drop_append]
  have : (others t id).length - 15 - (others t id).length = 0 := by omega
  rw [this, List.drop_zero]
theorem short_le (a : ByteArray) : (short a).size ≤ 256 := by
  unfold short
  rw [ByteArray.size_extract]
  omega
theorem short_all {a : ByteArray} (h : a.size ≤ 256) : short a = a := by
  unfold short
  have e : a.extract 0 256 = a.extract 0 a.size := by
    apply ByteArray.ext
    simp only [ByteArray.data_extract]
    apply Array.ext'
    simp only [Array.toList_extract, List.extract_eq_take_drop, List.drop_zero, Nat.sub_zero]
    rw [List.take_of_length_le (by rw [Kit.size_list]; exact h), List.take_of_length_le (by rw [Kit.size_list]; exact Nat.le_refl _)]
  rw [e]
  simp

/-! ### Which tables there are -/
/-- No id twice. -/
def apart (t : List Row) : Prop := ∀ (i j : Nat) (x y : Row), j < i → t[i]? = some x → t[j]? = some y → y.id ≠ x.id
def small (t : List Row) : Prop := ∀ r ∈ t, r.ans.size ≤ 256
def ok (t : List Row) : Prop := t.length ≤ 16 ∧ small t ∧ apart t
end Ses
end Go.Proofs.Ytjjpmmokgcfkdaa
