/-
  A table's text and what table a text says, plainly; a noted command behind other notes.
-/
import Derived.Test.YtjjpmmokgcfkdaaSes
namespace Go.Proofs.Ytjjpmmokgcfkdaa
namespace Ses
open Leb

/-! ### Texts -/
def rowL (r : Row) : List UInt8 := Lib.uvarint r.id ++ (Lib.uvarint r.num ++ encT r.ans.data.toList)
def rowsL : List Row → List UInt8
  | [] => []
  | r :: t => rowL r ++ rowsL t
def textL (t : List Row) : List UInt8 := Lib.uvarint t.length ++ rowsL t
theorem rowsL_append (a b : List Row) : rowsL (a ++ b) = rowsL a ++ rowsL b := by
  induction a with
  | nil => rfl
  | cons r a ih => rw [List.cons_append, rowsL, ih, rowsL, List.append_assoc]
/-- The numbers are numbers. -/
def wide (t : List Row) : Prop := ∀ r ∈ t, r.id < 18446744073709551616 ∧ r.num < 18446744073709551616
def takeRow (l : List UInt8) : Option (Row × List UInt8) := match dec l with
  | none => none
  | some (a, r1) => match dec r1 with
    | none => none
    | some (b, r2) => match decT r2 256 with
      | none => none
      | some (c, r3) => some (⟨a, b, ⟨c.toArray⟩⟩, r3)
def takeRows : Nat → List UInt8 → Option (List Row × List UInt8)
  | 0, l => some ([], l)
  | k + 1, l => match takeRow l with
    | none => none
    | some (r, l') => match takeRows k l' with
      | none => none
      | some (t, l'') => some (r :: t, l'')
instance (t : List Row) : Decidable (small t) := by unfold small; exact inferInstance
theorem apart_iff (t : List Row) : apart t ↔ ∀ i, i < t.length → ∀ j, j < i → ∀ x y : Row, t[i]? = some x → t[j]? = some y → y.id ≠ x.id := by
  constructor
  · intro h i _ j hj x y hx hy
    exact h i j x y hj hx hy
  · intro h i j x y hj hx hy
    exact h i (List.getElem?_eq_some_iff.1 hx).1 j hj x y hx hy
/-- Whether a table may be. -/
noncomputable def okB (t : List Row) : Bool := @decide (ok t) (Classical.propDecidable _)
theorem okB_iff {t : List Row} : okB t = true ↔ ok t := by unfold okB; exact @decide_eq_true_iff _ (Classical.propDecidable _)
theorem okB_not {t : List Row} : okB t = false ↔ ¬ ok t := by
  rw [← okB_iff]
  cases okB t <;> simp
noncomputable def parse (l : List UInt8) : Option (List Row) := match dec l with
  | none => none
  | some (n, r) => if 16 < n then none else match takeRows n r with
    | none => none
    | some (t, r') => if r' = [] ∧ okB t = true then some t else none
theorem takeRow_put {r : Row} (h1 : r.id < 18446744073709551616) (h2 : r.num < 18446744073709551616) (h3 : r.ans.size ≤ 256) (l : List UInt8) : takeRow (rowL r ++ l) = some (r, l) := by
  unfold takeRow rowL
  rw [List.append_assoc, List.append_assoc, dec_put h1]
  simp only
  rw [dec_put h2]
  simp only
  rw [decT_put (by rw [Kit.size_list]; omega) l (by rw [Kit.size_list]; omega)]
theorem takeRow_long {r : Row} (h1 : r.id < 18446744073709551616) (h2 : r.num < 18446744073709551616) (h3 : ¬ r.ans.size ≤ 256) (h4 : r.ans.size < 18446744073709551616) (l : List UInt8) : takeRow (rowL r ++ l) = none := by
  unfold takeRow rowL
  rw [List.append_assoc, List.append_assoc, dec_put h1]
  simp only
  rw [dec_put h2]
  simp only
  have hd : decT (encT r.ans.data.toList ++ l) 256 = none := by
    unfold decT decC encT
    rw [List.append_assoc, dec_put (by rw [Kit.size_list]; exact h4)]
    simp only
    rw [if_neg (by rw [Kit.size_list]; omega)]
  rw [hd]
theorem takeRows_put : ∀ (t : List Row) (l : List UInt8), wide t → small t → takeRows t.length (rowsL t ++ l) = some (t, l)
  | [], l, _, _ => rfl
  | r :: t, l, hw, hs => by
    have ih := takeRows_put t l (fun x hx => hw x (List.mem_cons_of_mem _ hx)) (fun x hx => hs x (List.mem_cons_of_mem _ hx))
    rw [List.length_cons, takeRows, rowsL, List.append_assoc, takeRow_put (hw r (List.mem_cons_self ..)).1 (hw r (List.mem_cons_self ..)).2 (hs r (List.mem_cons_self ..))]
    simp only
    rw [ih]
theorem takeRows_long : ∀ (t : List Row) (l : List UInt8), wide t → (∀ r ∈ t, r.ans.size < 18446744073709551616) → ¬ small t → takeRows t.length (rowsL t ++ l) = none
  | [], l, _, _, h => absurd (fun r hr => by cases hr) h
  | r :: t, l, hw, hz, h => by
    rw [List.length_cons, takeRows, rowsL, List.append_assoc]
    by_cases hs : r.ans.size ≤ 256
    · have ih := takeRows_long t l (fun x hx => hw x (List.mem_cons_of_mem _ hx)) (fun x hx => hz x (List.mem_cons_of_mem _ hx)) (fun hst => h fun x hx => by
        rcases List.mem_cons.1 hx with rfl | hx
        · exact hs
        · exact hst x hx)
      rw [takeRow_put (hw r (List.mem_cons_self ..)).1 (hw r (List.mem_cons_self ..)).2 hs]
      simp only
      rw [ih]
    · rw [takeRow_long (hw r (List.mem_cons_self ..)).1 (hw r (List.mem_cons_self ..)).2 hs (hz r (List.mem_cons_self ..))]
/-- A table's text is read again just if it may be. -/
theorem parse_text {t : List Row} (hw : wide t) (hz : ∀ r ∈ t, r.ans.size < 18446744073709551616) (hl : t.length < 18446744073709551616) : parse (textL t) = if okB t = true then some t else none := by
  unfold parse textL
  rw [dec_put hl]
  simp only
  by_cases h16 : 16 < t.length
  · rw [if_pos h16, if_neg]
    rw [okB_iff]
    exact fun h => by have := h.1; omega
  · rw [if_neg h16]
    by_cases hs : small t
    · have e := takeRows_put t [] hw hs
      rw [List.append_nil] at e
      rw [e]
      simp only
      by_cases ho : okB t = true
      · rw [if_pos ⟨by trivial, ho⟩, if_pos ho]
      · rw [if_neg (fun h => ho h.2), if_neg ho]
    · have e := takeRows_long t [] hw hz hs
      rw [List.append_nil] at e
      rw [e]
      simp only
      rw [if_neg]
      rw [okB_iff]
      exact fun h => hs h.2.1
theorem takeRow_some {l l' : List UInt8} {r : Row} (h : takeRow l = some (r, l')) : l = rowL r ++ l' ∧ r.id < 18446744073709551616 ∧ r.num < 18446744073709551616 ∧ r.ans.size ≤ 256 := by
  unfold takeRow at h
  split at h
  · cases h
  · rename_i a r1 e1
    split at h
    · cases h
    · rename_i b r2 e2
      split at h
      · cases h
      · rename_i c r3 e3
        injection h with h
        injection h with h1 h2
        subst h1 h2
        obtain ⟨q1, w1⟩ := dec_some e1
        obtain ⟨q2, w2⟩ := dec_some e2
        obtain ⟨q3, w3⟩ := decT_some e3
        refine ⟨?_, w1, w2, ?_⟩
        · unfold rowL
          rw [q1, q2, q3, List.append_assoc, List.append_assoc]
        · rw [Kit.size_mk]; omega
theorem takeRows_some : ∀ (k : Nat) (l : List UInt8) (t : List Row) (l' : List UInt8), takeRows k l = some (t, l') → l = rowsL t ++ l' ∧ t.length = k ∧ wide t
  | 0, l, t, l', h => by
    simp only [takeRows, Option.some.injEq, Prod.mk.injEq] at h
    obtain ⟨rfl, rfl⟩ := h
    exact ⟨rfl, rfl, fun r hr => by cases hr⟩
  | k + 1, l, t, l', h => by
    simp only [takeRows] at h
    split at h
    · cases h
    · rename_i r l1 e1
      split at h
      · cases h
      · rename_i t2 l2 e2
        injection h with h
        injection h with h1 h2
        subst h1 h2
        obtain ⟨q1, w1, w2, -⟩ := takeRow_some e1
        obtain ⟨q2, q3, w3⟩ := takeRows_some k _ _ _ e2
        refine ⟨by rw [q1, q2, rowsL, List.append_assoc], by rw [List.length_cons, q3], fun x hx => ?_⟩
        rcases List.mem_cons.1 hx with rfl | hx
        · exact ⟨w1, w2⟩
        · exact w3 x hx
/-- What is read may be, and says what stood there. -/
theorem parse_some {l : List UInt8} {t : List Row} (h : parse l = some t) : ok t ∧ textL t = l ∧ wide t := by
  unfold parse at h
  split at h
  · cases h
  · rename_i n r e1
    split at h
    · cases h
    · split at h
      · cases h
      · rename_i t2 r2 e2
        split at h
        · rename_i hc
          injection h with h
          subst h
          obtain ⟨q1, -⟩ := dec_some e1
          obtain ⟨q2, q3, w⟩ := takeRows_some _ _ _ _ e2
          refine ⟨okB_iff.1 hc.2, ?_, w⟩
          unfold textL
          rw [q3, q1, q2, hc.1, List.append_nil]
        · cases h

/-! ### Behind other notes -/
theorem nodup_le : ∀ (l m : List Nat), l.Nodup → (∀ x ∈ l, x ∈ m) → l.length ≤ m.length
  | [], m, _, _ => Nat.zero_le _
  | x :: l, m, hn, hs => by
    have hx : x ∈ m := hs x (List.mem_cons_self ..)
    have hn' := List.nodup_cons.1 hn
    have ih := nodup_le l (m.erase x) hn'.2 fun y hy => (List.mem_erase_of_ne (by rintro rfl; exact hn'.1 hy)).2 (hs y (List.mem_cons_of_mem _ hy))
    rw [List.length_erase_of_mem hx] at ih
    have : 0 < m.length := List.length_pos_of_mem hx
    rw [List.length_cons]
    omega
/-- The row is there still, and behind it only rows of these ids, each once. -/
def Stays (t : List Row) (r : Row) (os : List Nat) : Prop := ∃ pre post, t = pre ++ r :: post ∧ (∀ x ∈ pre, x.id ≠ r.id) ∧ (∀ x ∈ post, x.id ≠ r.id ∧ x.id ∈ os) ∧ (post.map (·.id)).Nodup
theorem Stays.find {t : List Row} {r : Row} {os : List Nat} (h : Stays t r os) : Ses.find t r.id = some r := by
  obtain ⟨pre, post, rfl, h1, -, -⟩ := h
  refine find_at (i := pre.length) (by simp) rfl fun j hj x hx => ?_
  rw [List.getElem?_append_left hj] at hx
  exact h1 x (List.mem_of_getElem? hx)
theorem Stays.noted (t : List Row) (id n : Nat) (a : ByteArray) : Stays (note t id n a) ⟨id, n, short a⟩ [] := by
  rw [note_snoc]
  refine ⟨lastOf 15 (others t id), [], rfl, fun x hx => ?_, (fun x hx => by cases hx), List.nodup_nil⟩
  exact (others_mem.1 (List.mem_of_mem_drop hx)).2
theorem others_app (a b : List Row) (id : Nat) : others (a ++ b) id = others a id ++ others b id := by simp [others, List.filter_append]
theorem Stays.next {t : List Row} {r : Row} {os os' : List Nat} (h : Stays t r os) {id n : Nat} (hid : id ≠ r.id) (a : ByteArray) (h1 : ∀ x ∈ os, x ∈ os') (h2 : id ∈ os') (hl : os'.length < 16) : Stays (note t id n a) r os' := by
  obtain ⟨pre, post, rfl, p1, p2, p3⟩ := h
  have er : others (r :: post) id = r :: others post id := by
    unfold others
    rw [List.filter_cons_of_pos (by simpa using fun e : r.id = id => hid e.symm)]
  have hpost : ∀ x ∈ others post id ++ [(⟨id, n, short a⟩ : Row)], x.id ≠ r.id ∧ x.id ∈ os' := fun x hx => by
    rcases List.mem_append.1 hx with hx | hx
    · have h3 := p2 x (others_mem.1 hx).1
      exact ⟨h3.1, h1 _ h3.2⟩
    · rw [List.mem_singleton.1 hx]
      exact ⟨hid, h2⟩
  have hnd : ((others post id ++ [(⟨id, n, short a⟩ : Row)]).map (·.id)).Nodup := by
    rw [List.map_append, List.nodup_append]
    refine ⟨?_, by simp, ?_⟩
    · have hsub : ((others post id).map (·.id)).Sublist (post.map (·.id)) := List.Sublist.map _ List.filter_sublist
      exact hsub.nodup p3
    · intro x hx y hy
      obtain ⟨z, hz, rfl⟩ := List.mem_map.1 hx
      have hy : y = id := by simpa using hy
      rw [hy]
      exact (others_mem.1 hz).2
  have hlen : (others post id ++ [(⟨id, n, short a⟩ : Row)]).length ≤ 15 := by
    have := nodup_le _ os' hnd fun x hx => by
      obtain ⟨z, hz, rfl⟩ := List.mem_map.1 hx
      exact (hpost z hz).2
    rw [List.length_map] at this
    omega
  have hall : others (pre ++ r :: post) id ++ [(⟨id, n, short a⟩ : Row)] = others pre id ++ r :: (others post id ++ [(⟨id, n, short a⟩ : Row)]) := by
    rw [others_app, er, List.append_assoc, List.cons_append]
  unfold note
  rw [hall]
  generalize others post id ++ [(⟨id, n, short a⟩ : Row)] = q at *
  have hdl : (others pre id ++ r :: q).length - 16 ≤ (others pre id).length := by
    rw [List.length_append, List.length_cons]
    omega
  refine ⟨(others pre id).drop ((others pre id ++ r :: q).length - 16), q, ?_, fun x hx => ?_, hpost, hnd⟩
  · unfold lastOf
    rw [List.drop_append_of_le_length hdl]
  · exact p1 x (others_mem.1 (List.mem_of_mem_drop hx)).1
end Ses
end Go.Proofs.Ytjjpmmokgcfkdaa
