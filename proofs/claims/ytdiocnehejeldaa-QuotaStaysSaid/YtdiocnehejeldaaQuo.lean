/-
  How much a tenant may keep, plainly: rows; what is set, taken, given, checked; a table's text, and what table a text says.
-/
import Derived.Test.YtdiocnehejeldaaLeb
import Derived.Test.YtdiocnehejeldaaKit
namespace Go.Proofs.Ytdiocnehejeldaa
namespace Quo
open Leb

structure Row where
  ten : Nat
  lim : Nat
  used : Nat
deriving DecidableEq

/-! ### Where a tenant stands -/
def place (t : List Row) (d : Nat) : Option Nat := t.findIdx? fun r => decide (r.ten = d)
def idx (t : List Row) (d : Nat) : Int := match place t d with
  | none => -1
  | some k => (k : Int)
/-- The first row of the tenant is the k-th one, r. -/
structure At (t : List Row) (d k : Nat) (r : Row) : Prop where
  hk : t[k]? = some r
  hr : r.ten = d
  hno : ∀ j, j < k → ∀ x : Row, t[j]? = some x → x.ten ≠ d
def Off (t : List Row) (d : Nat) : Prop := ∀ (j : Nat) (x : Row), t[j]? = some x → x.ten ≠ d
theorem place_off {t : List Row} {d : Nat} (h : Off t d) : place t d = none := by
  unfold place
  rw [List.findIdx?_eq_none_iff]
  intro x hx
  obtain ⟨j, hj⟩ := List.mem_iff_getElem?.1 hx
  simpa using h j x hj
theorem At.lt {t : List Row} {d k : Nat} {r : Row} (h : At t d k r) : k < t.length := (List.getElem?_eq_some_iff.1 h.hk).1
theorem place_at {t : List Row} {d k : Nat} {r : Row} (h : At t d k r) : place t d = some k := by
  unfold place
  rw [List.findIdx?_eq_some_iff_getElem]
  have hlt := h.lt
  have hg : t[k] = r := (List.getElem?_eq_some_iff.1 h.hk).2
  refine ⟨hlt, by rw [hg]; simpa using h.hr, fun j hj => ?_⟩
  have := h.hno j hj t[j] (List.getElem?_eq_getElem (by omega))
  simpa using this
theorem at_cases (t : List Row) (d : Nat) : Off t d ∨ ∃ (k : Nat) (r : Row), At t d k r := by
  induction t with
  | nil => exact .inl fun j x h => by simp at h
  | cons y l ih =>
    by_cases hy : y.ten = d
    · exact .inr ⟨0, y, rfl, hy, fun j hj => absurd hj (Nat.not_lt_zero j)⟩
    · rcases ih with h | ⟨k, r, hk, hr, h⟩
      · refine .inl fun j x hx => ?_
        cases j with
        | zero => simp at hx; rw [← hx]; exact hy
        | succ j => exact h j x (by simpa using hx)
      · refine .inr ⟨k + 1, r, by simpa using hk, hr, fun j hj x hx => ?_⟩
        cases j with
        | zero => simp at hx; rw [← hx]; exact hy
        | succ j => exact h j (by omega) x (by simpa using hx)
theorem idx_off {t : List Row} {d : Nat} (h : Off t d) : idx t d = -1 := by unfold idx; rw [place_off h]
theorem idx_at {t : List Row} {d k : Nat} {r : Row} (h : At t d k r) : idx t d = (k : Int) := by unfold idx; rw [place_at h]
theorem At.same {t : List Row} {d k k' : Nat} {r r' : Row} (h : At t d k r) (h' : At t d k' r') : k = k' ∧ r = r' := by
  have e : some k = some k' := (place_at h).symm.trans (place_at h')
  injection e with e
  subst e
  have := h.hk.symm.trans h'.hk
  injection this with this
  exact ⟨rfl, this⟩
theorem At.put {t : List Row} {d k : Nat} {r r' : Row} (h : At t d k r) (hr : r'.ten = d) : At (t.set k r') d k r' := by
  refine ⟨by rw [List.getElem?_set_self h.lt], hr, fun j hj x hx => ?_⟩
  rw [List.getElem?_set_ne (by omega)] at hx
  exact h.hno j hj x hx

/-! ### What is set, taken, given -/
def putL (lim : Nat) (r : Row) : Row := ⟨r.ten, lim, r.used⟩
def putU (used : Nat) (r : Row) : Row := ⟨r.ten, r.lim, used⟩
def set_ (t : List Row) (d n : Nat) : Option (List Row) := match place t d with
  | none => if 16 ≤ t.length then none else some (t ++ [⟨d, n, 0⟩])
  | some k => some (t.modify k (putL n))
def take_ (t : List Row) (d n : Nat) : List Row × Int := match place t d with
  | none => ([], 120)
  | some k => match t[k]? with
    | none => ([], 120)
    | some r => if r.lim < r.used + n then ([], 121) else (t.set k (putU (r.used + n) r), 0)
def give_ (t : List Row) (d n : Nat) : List Row × Int := match place t d with
  | none => ([], 120)
  | some k => match t[k]? with
    | none => ([], 120)
    | some r => (t.set k (putU (r.used - n) r), 0)
theorem modify_at {t : List Row} {k : Nat} {r : Row} (h : t[k]? = some r) (f : Row → Row) : t.modify k f = t.set k (f r) := by
  apply List.ext_getElem?
  intro j
  rw [List.getElem?_modify, List.getElem?_set]
  by_cases hj : k = j
  · subst hj
    have hlt := (List.getElem?_eq_some_iff.1 h).1
    rw [h]
    simp [hlt]
  · simp [hj]
section
variable {t : List Row} {d n k : Nat} {r : Row}
theorem set_off (h : Off t d) (hl : t.length < 16) : set_ t d n = some (t ++ [⟨d, n, 0⟩]) := by unfold set_; rw [place_off h]; simp only; rw [if_neg (by omega)]
theorem set_full (h : Off t d) (hl : 16 ≤ t.length) : set_ t d n = none := by unfold set_; rw [place_off h]; simp only; rw [if_pos hl]
theorem set_at (h : At t d k r) : set_ t d n = some (t.set k (putL n r)) := by unfold set_; rw [place_at h]; simp only; rw [modify_at h.hk]
theorem take_off (h : Off t d) : take_ t d n = ([], 120) := by unfold take_; rw [place_off h]
theorem take_over (h : At t d k r) (ho : r.lim < r.used + n) : take_ t d n = ([], 121) := by unfold take_; rw [place_at h]; simp only; rw [h.hk]; simp only; rw [if_pos ho]
theorem take_at (h : At t d k r) (ho : ¬ r.lim < r.used + n) : take_ t d n = (t.set k (putU (r.used + n) r), 0) := by unfold take_; rw [place_at h]; simp only; rw [h.hk]; simp only; rw [if_neg ho]
theorem give_off (h : Off t d) : give_ t d n = ([], 120) := by unfold give_; rw [place_off h]
theorem give_at (h : At t d k r) : give_ t d n = (t.set k (putU (r.used - n) r), 0) := by unfold give_; rw [place_at h]; simp only; rw [h.hk]
end

/-! ### Which tables there are -/
def apart (t : List Row) : Prop := ∀ (i j : Nat) (x y : Row), j < i → t[i]? = some x → t[j]? = some y → y.ten ≠ x.ten
def ok (t : List Row) : Prop := t.length ≤ 16 ∧ apart t
noncomputable def okB (t : List Row) : Bool := @decide (ok t) (Classical.propDecidable _)
theorem okB_iff {t : List Row} : okB t = true ↔ ok t := by unfold okB; exact @decide_eq_true_iff _ (Classical.propDecidable _)
theorem okB_not {t : List Row} : okB t = false ↔ ¬ ok t := by
  rw [← okB_iff]
  cases okB t <;> simp
/-- Each of the first k rows is its tenant's first one. -/
def good (t : List Row) (k : Nat) : Prop := ∀ j, j < k → ∀ x : Row, t[j]? = some x → ∀ i, i < j → ∀ y : Row, t[i]? = some y → y.ten ≠ x.ten
theorem good_zero (t : List Row) : good t 0 := fun j hj => absurd hj (Nat.not_lt_zero j)
theorem good_succ {t : List Row} {k : Nat} {x : Row} (h : good t k) (hx : t[k]? = some x) (h2 : ∀ i, i < k → ∀ y : Row, t[i]? = some y → y.ten ≠ x.ten) : good t (k + 1) := fun j hj y hy => by
  rcases Nat.lt_or_ge j k with h' | h'
  · exact h j h' y hy
  · obtain rfl : j = k := by omega
    rw [hx] at hy
    injection hy with hy
    subst hy
    exact h2
theorem okB_good {t : List Row} (h16 : t.length ≤ 16) (h : good t t.length) : okB t = true := by
  rw [okB_iff]
  exact ⟨h16, fun i j x y hji hx hy => h i (List.getElem?_eq_some_iff.1 hx).1 x hx j hji y hy⟩
theorem okB_long {t : List Row} (h : ¬ t.length ≤ 16) : okB t = false := by
  rw [okB_not]
  exact fun h' => h h'.1
theorem okB_two {t : List Row} {k j : Nat} {x y : Row} (hx : t[k]? = some x) (hy : t[j]? = some y) (hj : j < k) (h : y.ten = x.ten) : okB t = false := by
  rw [okB_not]
  exact fun h' => h'.2 k j x y hj hx hy h
/-- A row is its tenant's first one, or another one is. -/
theorem at_self {t : List Row} {k : Nat} {x : Row} (hx : t[k]? = some x) : (At t x.ten k x) ∨ ∃ (j : Nat) (y : Row), j < k ∧ At t x.ten j y := by
  rcases at_cases t x.ten with h | ⟨j, y, h⟩
  · exact absurd rfl (h k x hx)
  · rcases Nat.lt_trichotomy j k with hj | hj | hj
    · exact .inr ⟨j, y, hj, h⟩
    · subst hj
      have := h.hk.symm.trans hx
      injection this with this
      subst this
      exact .inl h
    · exact absurd rfl (h.hno k hj x hx)
/-- Rows of other tenants or with one row changed but for its tenant: as fit. -/
theorem ok_put {t : List Row} {k : Nat} {r r' : Row} (h : ok t) (hk : t[k]? = some r) (hr : r'.ten = r.ten) : ok (t.set k r') := by
  refine ⟨by rw [List.length_set]; exact h.1, fun i j x y hji hx hy => ?_⟩
  have e : ∀ (i : Nat) (x : Row), (t.set k r')[i]? = some x → ∃ x' : Row, t[i]? = some x' ∧ x'.ten = x.ten := fun i x hx => by
    by_cases hi : k = i
    · subst hi
      rw [List.getElem?_set_self (List.getElem?_eq_some_iff.1 hk).1] at hx
      injection hx with hx
      exact ⟨r, hk, by rw [← hx, hr]⟩
    · rw [List.getElem?_set_ne hi] at hx
      exact ⟨x, hx, rfl⟩
  obtain ⟨x', hx', ex⟩ := e i x hx
  obtain ⟨y', hy', ey⟩ := e j y hy
  rw [← ex, ← ey]
  exact h.2 i j x' y' hji hx' hy'
theorem ok_snoc {t : List Row} {d n : Nat} (h : ok t) (ho : Off t d) (hl : t.length < 16) : ok (t ++ [⟨d, n, 0⟩]) := by
  refine ⟨by rw [List.length_append, List.length_singleton]; omega, fun i j x y hji hx hy => ?_⟩
  have hi : i < t.length + 1 := by have := (List.getElem?_eq_some_iff.1 hx).1; rw [List.length_append, List.length_singleton] at this; exact this
  have hy' : t[j]? = some y := by rwa [List.getElem?_append_left (by omega)] at hy
  rcases Nat.lt_or_ge i t.length with h' | h'
  · rw [List.getElem?_append_left h'] at hx
    exact h.2 i j x y hji hx hy'
  · obtain rfl : i = t.length := by omega
    rw [List.getElem?_append_right (Nat.le_refl _), Nat.sub_self] at hx
    injection hx with hx
    rw [← hx]
    exact ho j y hy'

/-! ### Texts -/
def rowL (r : Row) : List UInt8 := Lib.uvarint r.ten ++ (Lib.uvarint r.used ++ Lib.uvarint r.lim)
def rowsL : List Row → List UInt8
  | [] => []
  | r :: t => rowL r ++ rowsL t
def textL (t : List Row) : List UInt8 := Lib.uvarint t.length ++ rowsL t
theorem rowsL_append (a b : List Row) : rowsL (a ++ b) = rowsL a ++ rowsL b := by
  induction a with
  | nil => rfl
  | cons r a ih => rw [List.cons_append, rowsL, ih, rowsL, List.append_assoc]
/-- The numbers are numbers. -/
def fine (r : Row) : Prop := r.ten < 18446744073709551616 ∧ r.lim < 18446744073709551616 ∧ r.used < 18446744073709551616
def wide (t : List Row) : Prop := ∀ r ∈ t, fine r
def takeRow (l : List UInt8) : Option (Row × List UInt8) := match dec l with
  | none => none
  | some (a, r1) => match dec r1 with
    | none => none
    | some (b, r2) => match dec r2 with
      | none => none
      | some (c, r3) => some (⟨a, c, b⟩, r3)
def takeRows : Nat → List UInt8 → Option (List Row × List UInt8)
  | 0, l => some ([], l)
  | k + 1, l => match takeRow l with
    | none => none
    | some (r, l') => match takeRows k l' with
      | none => none
      | some (t, l'') => some (r :: t, l'')
noncomputable def parse (l : List UInt8) : Option (List Row) := match dec l with
  | none => none
  | some (n, r) => if 16 < n then none else match takeRows n r with
    | none => none
    | some (t, r') => if r' = [] ∧ okB t = true then some t else none
theorem row0 {l : List UInt8} (h : dec l = none) : takeRow l = none := by unfold takeRow; rw [h]
theorem row1 {l r : List UInt8} {a : Nat} (h : dec l = some (a, r)) (h1 : dec r = none) : takeRow l = none := by
  unfold takeRow
  rw [h]
  simp only
  rw [h1]
theorem row2 {l r r2 : List UInt8} {a b : Nat} (h : dec l = some (a, r)) (h1 : dec r = some (b, r2)) (h2 : dec r2 = none) : takeRow l = none := by
  unfold takeRow
  rw [h]
  simp only
  rw [h1]
  simp only
  rw [h2]
theorem row3 {l r r2 r3 : List UInt8} {a b c : Nat} (h : dec l = some (a, r)) (h1 : dec r = some (b, r2)) (h2 : dec r2 = some (c, r3)) : takeRow l = some (⟨a, c, b⟩, r3) := by
  unfold takeRow
  rw [h]
  simp only
  rw [h1]
  simp only
  rw [h2]
theorem takeRow_put {r : Row} (h : fine r) (l : List UInt8) : takeRow (rowL r ++ l) = some (r, l) := by
  obtain ⟨h1, h2, h3⟩ := h
  unfold takeRow rowL
  rw [List.append_assoc, List.append_assoc, dec_put h1]
  simp only
  rw [dec_put h3]
  simp only
  rw [dec_put h2]
theorem takeRows_put : ∀ (t : List Row) (l : List UInt8), wide t → takeRows t.length (rowsL t ++ l) = some (t, l)
  | [], l, _ => rfl
  | r :: t, l, hw => by
    have ih := takeRows_put t l (fun x hx => hw x (List.mem_cons_of_mem _ hx))
    rw [List.length_cons, takeRows, rowsL, List.append_assoc, takeRow_put (hw r (List.mem_cons_self ..))]
    simp only
    rw [ih]
/-- A table's text is read again just if it may be. -/
theorem parse_text {t : List Row} (hw : wide t) (hl : t.length < 18446744073709551616) : parse (textL t) = if okB t = true then some t else none := by
  unfold parse textL
  rw [dec_put hl]
  simp only
  by_cases h16 : 16 < t.length
  · rw [if_pos h16, if_neg]
    rw [okB_iff]
    exact fun h => by have := h.1; omega
  · rw [if_neg h16]
    have e := takeRows_put t [] hw
    rw [List.append_nil] at e
    rw [e]
    simp only
    by_cases ho : okB t = true
    · rw [if_pos ⟨by trivial, ho⟩, if_pos ho]
    · rw [if_neg (fun h => ho h.2), if_neg ho]
theorem takeRow_some {l l' : List UInt8} {r : Row} (h : takeRow l = some (r, l')) : l = rowL r ++ l' ∧ fine r := by
  unfold takeRow at h
  split at h
  · cases h
  · rename_i a r1 e1
    split at h
    · cases h
    · rename_i b r2 e2
      split at h
      · cases h
      · rename_i c r3 e3
        injection h with h
        injection h with h1 h2
        subst h1 h2
        obtain ⟨q1, w1⟩ := dec_some e1
        obtain ⟨q2, w2⟩ := dec_some e2
        obtain ⟨q3, w3⟩ := dec_some e3
        refine ⟨?_, w1, w3, w2⟩
        unfold rowL
        rw [q1, q2, q3, List.append_assoc, List.append_assoc]
theorem takeRows_some : ∀ (k : Nat) (l : List UInt8) (t : List Row) (l' : List UInt8), takeRows k l = some (t, l') → l = rowsL t ++ l' ∧ t.length = k ∧ wide t
  | 0, l, t, l', h => by
    simp only [takeRows, Option.some.injEq, Prod.mk.injEq] at h
    obtain ⟨rfl, rfl⟩ := h
    exact ⟨rfl, rfl, fun r hr => by cases hr⟩
  | k + 1, l, t, l', h => by
    simp only [takeRows] at h
    split at h
    · cases h
    · rename_i r l1 e1
      split at h
      · cases h
      · rename_i t2 l2 e2
        injection h with h
        injection h with h1 h2
        subst h1 h2
        obtain ⟨q1, w1⟩ := takeRow_some e1
        obtain ⟨q2, q3, w3⟩ := takeRows_some k _ _ _ e2
        refine ⟨by rw [q1, q2, rowsL, List.append_assoc], by rw [List.length_cons, q3], fun x hx => ?_⟩
        rcases List.mem_cons.1 hx with rfl | hx
        · exact w1
        · exact w3 x hx
/-- What is read may be, and says what stood there. -/
theorem parse_some {l : List UInt8} {t : List Row} (h : parse l = some t) : ok t ∧ textL t = l ∧ wide t := by
  unfold parse at h
  split at h
  · cases h
  · rename_i n r e1
    split at h
    · cases h
    · split at h
      · cases h
      · rename_i t2 r2 e2
        split at h
        · rename_i hc
          injection h with h
          subst h
          obtain ⟨q1, -⟩ := dec_some e1
          obtain ⟨q2, q3, w⟩ := takeRows_some _ _ _ _ e2
          refine ⟨okB_iff.1 hc.2, ?_, w⟩
          unfold textL
          rw [q3, q1, q2, hc.1, List.append_nil]
        · cases h
theorem takeRow_lt {l l' : List UInt8} {r : Row} (h : takeRow l = some (r, l')) : l'.length ≤ l.length := by
  rw [(takeRow_some h).1, List.length_append]
  omega
theorem parse0 {l : List UInt8} (h : dec l = none) : parse l = none := by unfold parse; rw [h]
theorem parse1 {l r : List UInt8} {n : Nat} (h : dec l = some (n, r)) (h1 : 16 < n) : parse l = none := by
  unfold parse
  rw [h]
  simp only
  rw [if_pos h1]
theorem parse2 {l r : List UInt8} {n : Nat} (h : dec l = some (n, r)) (h1 : ¬ 16 < n) (h2 : takeRows n r = none) : parse l = none := by
  unfold parse
  rw [h]
  simp only
  rw [if_neg h1, h2]
theorem parse3 {l r r' : List UInt8} {n : Nat} {t : List Row} (h : dec l = some (n, r)) (h1 : ¬ 16 < n) (h2 : takeRows n r = some (t, r')) (h3 : ¬ (r' = [] ∧ okB t = true)) : parse l = none := by
  unfold parse
  rw [h]
  simp only
  rw [if_neg h1, h2]
  simp only
  rw [if_neg h3]
theorem parse4 {l r : List UInt8} {n : Nat} {t : List Row} (h : dec l = some (n, r)) (h1 : ¬ 16 < n) (h2 : takeRows n r = some (t, [])) (h3 : okB t = true) : parse l = some t := by
  unfold parse
  rw [h]
  simp only
  rw [if_neg h1, h2]
  simp only
  rw [if_pos ⟨by trivial, h3⟩]
end Quo
end Go.Proofs.Ytdiocnehejeldaa
