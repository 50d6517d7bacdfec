/-
  Package seal, plainly: four numbers as bytes, and back; a leaf that is locked, and what it opens to.
-/
import Derived.Test.YtbhdcocgghaifaaIdI
import Derived.Test.YtbhdcocgghaifaaLeb
namespace Go.Proofs.Ytbhdcocgghaifaa
open Go.Lib (uvarint uvarint_length64)
open Leb (dec encNs)
open Ideal

/-- A leaf. -/
structure Leaf where
  v : Nat
  e : Nat
  n : Nat
  c : Nat

namespace Sea
/-- Four numbers as bytes. -/
def four (a b c d : Nat) : ByteArray := ⟨(encNs [a, b, c, d]).toArray⟩
def text (l : Leaf) : ByteArray := four l.v l.e l.n l.c
def fine (l : Leaf) : Prop := l.v < 18446744073709551616 ∧ l.e < 18446744073709551616 ∧ l.n < 18446744073709551616 ∧ l.c < 18446744073709551616
def p4 (a b c d : Nat) (s : List UInt8) : Option Leaf := if s = [] then some ⟨a, b, c, d⟩ else none
def p3 (a b c : Nat) (s : List UInt8) : Option Leaf := match dec s with | none => none | some (d, r) => p4 a b c d r
def p2 (a b : Nat) (s : List UInt8) : Option Leaf := match dec s with | none => none | some (c, r) => p3 a b c r
def p1 (a : Nat) (s : List UInt8) : Option Leaf := match dec s with | none => none | some (b, r) => p2 a b r
def parse (s : List UInt8) : Option Leaf := match dec s with | none => none | some (a, r) => p1 a r

theorem four_data (a b c d : Nat) : (four a b c d).data.toList = uvarint a ++ (uvarint b ++ (uvarint c ++ (uvarint d ++ []))) := by
  unfold four
  simp [encNs]
theorem four_size {a b c d : Nat} (ha : a < 18446744073709551616) (hb : b < 18446744073709551616) (hc : c < 18446744073709551616) (hd : d < 18446744073709551616) : (four a b c d).size ≤ 40 := by
  have h1 := uvarint_length64 ha
  have h2 := uvarint_length64 hb
  have h3 := uvarint_length64 hc
  have h4 := uvarint_length64 hd
  have : (four a b c d).size = (four a b c d).data.toList.length := by rw [Array.length_toList]; rfl
  rw [this, four_data]
  simp only [List.length_append, List.length_nil]
  omega
theorem parse_four {a b c d : Nat} (ha : a < 18446744073709551616) (hb : b < 18446744073709551616) (hc : c < 18446744073709551616) (hd : d < 18446744073709551616) : parse (four a b c d).data.toList = some ⟨a, b, c, d⟩ := by
  rw [four_data]
  unfold parse
  rw [Leb.dec_put ha]
  simp only
  unfold p1
  rw [Leb.dec_put hb]
  simp only
  unfold p2
  rw [Leb.dec_put hc]
  simp only
  unfold p3
  rw [Leb.dec_put hd]
  rfl
theorem parse_text {l : Leaf} (h : fine l) : parse (text l).data.toList = some l := parse_four h.1 h.2.1 h.2.2.1 h.2.2.2
theorem parse_some {s : List UInt8} {l : Leaf} (h : parse s = some l) : (text l).data.toList = s ∧ fine l := by
  unfold parse at h
  cases h1 : dec s with
  | none => rw [h1] at h; cases h
  | some x1 =>
  obtain ⟨a, r1⟩ := x1
  rw [h1] at h
  simp only [p1] at h
  cases h2 : dec r1 with
  | none => rw [h2] at h; cases h
  | some x2 =>
  obtain ⟨b, r2⟩ := x2
  rw [h2] at h
  simp only [p2] at h
  cases h3 : dec r2 with
  | none => rw [h3] at h; cases h
  | some x3 =>
  obtain ⟨c, r3⟩ := x3
  rw [h3] at h
  simp only [p3] at h
  cases h4 : dec r3 with
  | none => rw [h4] at h; cases h
  | some x4 =>
  obtain ⟨d, r4⟩ := x4
  rw [h4] at h
  simp only [p4] at h
  split at h
  · rename_i e
    subst e
    cases h
    obtain ⟨e1, l1⟩ := Leb.dec_some h1
    obtain ⟨e2, l2⟩ := Leb.dec_some h2
    obtain ⟨e3, l3⟩ := Leb.dec_some h3
    obtain ⟨e4, l4⟩ := Leb.dec_some h4
    refine ⟨?_, l1, l2, l3, l4⟩
    unfold text
    rw [four_data, e1, e2, e3, e4]
  · cases h
theorem four_inj {a b c d a' b' c' d' : Nat} (ha : a < 18446744073709551616) (hb : b < 18446744073709551616) (hc : c < 18446744073709551616) (hd : d < 18446744073709551616) (ha' : a' < 18446744073709551616) (hb' : b' < 18446744073709551616) (hc' : c' < 18446744073709551616) (hd' : d' < 18446744073709551616)
    (h : four a b c d = four a' b' c' d') : a = a' ∧ b = b' ∧ c = c' ∧ d = d' := by
  have h1 := parse_four ha hb hc hd
  rw [h, parse_four ha' hb' hc' hd'] at h1
  simp only [Option.some.injEq, Leaf.mk.injEq] at h1
  exact ⟨h1.1.symm, h1.2.1.symm, h1.2.2.1.symm, h1.2.2.2.symm⟩
end Sea

namespace Ideal
namespace Or
variable {O : Or}
/-- What a lock asks for, and the leaf. -/
def lockQ (O : Or) (k v s r e : Nat) (p : ByteArray) : Row := qs k O.next (Sea.four v s r e) p
def lockO (O : Or) (k v s r e : Nat) (p : ByteArray) : Or := (O.draw q0).ask (O.lockQ k v s r e p)
def lockL (O : Or) (k v s r e : Nat) (p : ByteArray) : Leaf := ⟨r, e, O.next, (O.draw q0).val (O.lockQ k v s r e p)⟩
def openL (O : Or) (k v s : Nat) (l : Leaf) : Option ByteArray := O.plain k l.n (Sea.four v s l.v l.e) l.c
def openO (O : Or) (k v s : Nat) (l : Leaf) : Or := O.reopen k l.n (Sea.four v s l.v l.e) l.c

theorem lock_len (k v s r e : Nat) (p : ByteArray) : (O.lockO k v s r e p).rows.length ≤ O.rows.length + 2 := by
  have := len_ask (O := O.draw q0) (O.lockQ k v s r e p)
  rw [len_draw] at this
  exact this
theorem lock_fine (h : O.fine) (hn : O.rows.length + 2 < 1152921504606846976) {k v s r e : Nat} (hr : r < 18446744073709551616) (he : e < 18446744073709551616) (p : ByteArray) : (O.lockO k v s r e p).fine ∧ Sea.fine (O.lockL k v s r e p) := by
  have h1 := fine_draw h (by omega) q0
  have h2 : (O.draw q0).rows.length < 1152921504606846976 := by rw [len_draw]; omega
  exact ⟨fine_ask h1 h2 _, hr, he, next_lt h (by omega), val_lt h1 h2 _⟩
theorem lock_inv (h : O.Inv) (k v s r e : Nat) (p : ByteArray) : (O.lockO k v s r e p).Inv := inv_ask (inv_draw h _) _
theorem lock_get (k v s r e : Nat) (p : ByteArray) : (O.lockO k v s r e p).get (O.lockQ k v s r e p) = some (O.lockL k v s r e p).c := get_ask _
theorem lock_old {x : Row} {u : Nat} (h : O.get x = some u) (k v s r e : Nat) (p : ByteArray) : (O.lockO k v s r e p).get x = some u := get_ask_old (get_draw_old h)
theorem lock_bads {k v s r e : Nat} {p : ByteArray} (h : (O.lockO k v s r e p).bads = 0) : O.bads = 0 ∧ O.turn = false := bads_draw_zero (bads_ask_zero h)
theorem rows_ask {x y : Row} (h : x ∈ O.rows) : x ∈ (O.ask y).rows := by
  unfold ask
  split
  · exact h
  · simp [draw, h]
theorem lock_rows {x : Row} (h : x ∈ O.rows) (k v s r e : Nat) (p : ByteArray) : x ∈ (O.lockO k v s r e p).rows := rows_ask (by simp [draw, h])
theorem lock_row (k v s r e : Nat) (p : ByteArray) : ({ q0 with h := O.next } : Row) ∈ (O.lockO k v s r e p).rows := rows_ask (by simp [draw])
theorem open_issued {k v s : Nat} {l : Leaf} (h : O.issued l.c = true) : O.openO k v s l = O := reopen_issued h _ _ _
theorem openO_bads (k v s : Nat) (l : Leaf) : (O.openO k v s l).bads = O.bads := bads_reopen _ _ _ _
end Or

/-- What was locked opens with its own key, at its own place, and with no other. -/
theorem opens_all {O : Or} (hi : O.Inv) (k v s r e : Nat) (p : ByteArray) (hv : v < 18446744073709551616) (hs : s < 18446744073709551616) (hr : r < 18446744073709551616) (he : e < 18446744073709551616)
    (k' v' s' : Nat) (hv' : v' < 18446744073709551616) (hs' : s' < 18446744073709551616) (hb : (O.lockO k v s r e p).bads = 0) :
    (O.lockO k v s r e p).openL k' v' s' (O.lockL k v s r e p) = if k' = k ∧ v' = v ∧ s' = s then some p else none := by
  unfold Or.openL
  have h := Or.plain_get (Or.lock_inv hi k v s r e p) hb (Or.lock_get k v s r e p) k' (O.lockL k v s r e p).n (Sea.four v' s' (O.lockL k v s r e p).v (O.lockL k v s r e p).e)
  rw [h]
  unfold Or.lockQ qs Or.lockL
  simp only [true_and]
  by_cases hc : k' = k ∧ v' = v ∧ s' = s
  · obtain ⟨rfl, rfl, rfl⟩ := hc
    simp
  · rw [if_neg hc, if_neg]
    rintro ⟨rfl, h4⟩
    obtain ⟨rfl, rfl, -, -⟩ := Sea.four_inj hv hs hr he hv' hs' hr he h4
    exact hc ⟨rfl, rfl, rfl⟩
/-- What was locked is issued. -/
theorem lock_issued {O : Or} (k v s r e : Nat) (p : ByteArray) : (O.lockO k v s r e p).issued (O.lockL k v s r e p).c = true := Or.issued_of_get (Or.lock_get k v s r e p)

/-- Nothing sealed yet: what is locked opens as its own leaf, and as no other one. -/
theorem binds_all (d : List Nat) (k v s r e : Nat) (p : ByteArray) (hv : v < 18446744073709551616) (hs : s < 18446744073709551616) (hr : r < 18446744073709551616) (he : e < 18446744073709551616) (l : Leaf) (hl : Sea.fine l) :
    ((((Or.new d).draw q0).lockO k v s r e p).openL k v s l).isSome = decide (l.v = (((Or.new d).draw q0).lockL k v s r e p).v ∧ l.e = (((Or.new d).draw q0).lockL k v s r e p).e ∧ l.n = (((Or.new d).draw q0).lockL k v s r e p).n ∧ l.c = (((Or.new d).draw q0).lockL k v s r e p).c) := by
  have e1 : (((Or.new d).draw q0).draw q0).get (((Or.new d).draw q0).lockQ k v s r e p) = none := by
    rw [Or.get_draw_off (by rfl), Or.get_draw_off (by rfl)]
    rfl
  have e2 : ∀ k n a c, (((Or.new d).draw q0).draw q0).plain k n a c = none := by
    intro k n a c
    rw [Or.plain_draw_off (by decide), Or.plain_draw_off (by decide)]
    rfl
  have e3 : ((Or.new d).draw q0).lockO k v s r e p = (((Or.new d).draw q0).draw q0).draw (((Or.new d).draw q0).lockQ k v s r e p) := by
    unfold Or.lockO Or.ask
    rw [e1]
  have e4 : ((Or.new d).draw q0).lockL k v s r e p = ⟨r, e, ((Or.new d).draw q0).next, (((Or.new d).draw q0).draw q0).next⟩ := by
    unfold Or.lockL Or.val
    rw [e1]
    rfl
  rw [e3, e4]
  unfold Or.openL
  rw [Or.plain_draw, e2, Option.none_or]
  obtain ⟨lv, le, ln, lc⟩ := l
  simp only
  split
  · rename_i ho
    obtain ⟨-, -, h1, h2, h3⟩ := opens_eq.1 ho
    simp only [Or.lockQ, qs] at h1 h2 h3
    obtain ⟨-, -, h4, h5⟩ := Sea.four_inj hv hs hr he hv hs hl.1 hl.2.1 h2
    symm
    simp only [Option.isSome_some, decide_eq_true_eq]
    exact ⟨h4.symm, h5.symm, h1.symm, h3.symm⟩
  · rename_i ho
    symm
    simp only [Option.isSome_none, decide_eq_false_iff_not]
    rintro ⟨rfl, rfl, rfl, rfl⟩
    apply ho
    exact opens_eq.2 ⟨rfl, rfl, rfl, rfl, rfl⟩

/-- Three locks at one place: no nonce comes twice, and no sealed value. -/
theorem fresh_all {O : Or} (hi : O.Inv) (k v s r e : Nat) (p p' : ByteArray) :
    let O1 := O.lockO k v s r e p; let O2 := O1.lockO k v s r e p'; let O3 := O2.lockO k v s r e p
    let a := O.lockL k v s r e p; let b := O1.lockL k v s r e p'; let c := O2.lockL k v s r e p
    O3.bads = 0 → a.n ≠ b.n ∧ a.c ≠ b.c ∧ a.n ≠ c.n ∧ a.c ≠ c.c ∧ a.n ≠ a.c ∧ b.c ≠ c.c := by
  intro O1 O2 O3 a b c hb
  have i3 : O3.Inv := Or.lock_inv (Or.lock_inv (Or.lock_inv hi _ _ _ _ _ _) _ _ _ _ _ _) _ _ _ _ _ _
  obtain ⟨b2, t2⟩ := Or.lock_bads hb
  obtain ⟨b1, t1⟩ := Or.lock_bads b2
  have un : ∀ {P : Or}, P.turn = false → ∀ x ∈ P.rows, x.h ≠ P.next := by
    intro P ht
    unfold Or.turn Or.known at ht
    simp only [Bool.or_eq_false_iff] at ht
    exact Or.not_issued ht.2.1
  have ra : ({ q0 with h := O.next } : Row) ∈ O1.rows := Or.lock_row _ _ _ _ _ _
  have ra3 : ({ q0 with h := O.next } : Row) ∈ O3.rows := Or.lock_rows (Or.lock_rows ra _ _ _ _ _ _) _ _ _ _ _ _
  have ab : a.n ≠ b.n := un t1 _ ra
  have ac : a.n ≠ c.n := un t2 _ (Or.lock_rows ra _ _ _ _ _ _)
  have bc : b.n ≠ c.n := un t2 _ (Or.lock_row (O := O1) _ _ _ _ _ _)
  have ga : O3.get (O.lockQ k v s r e p) = some a.c := Or.lock_old (Or.lock_old (Or.lock_get _ _ _ _ _ _) _ _ _ _ _ _) _ _ _ _ _ _
  have gb : O3.get (O1.lockQ k v s r e p') = some b.c := Or.lock_old (Or.lock_get _ _ _ _ _ _) _ _ _ _ _ _
  have gc : O3.get (O2.lockQ k v s r e p) = some c.c := Or.lock_get _ _ _ _ _ _
  refine ⟨ab, ?_, ac, ?_, ?_, ?_⟩
  · intro h
    have gb' : O3.get (O1.lockQ k v s r e p') = some a.c := by rw [h]; exact gb
    exact ab (Or.get_inj i3 hb ga gb').2.2.1
  · intro h
    have gc' : O3.get (O2.lockQ k v s r e p) = some a.c := by rw [h]; exact gc
    exact ac (Or.get_inj i3 hb ga gc').2.2.1
  · intro h
    obtain ⟨x, hx, hs, hh⟩ := Or.get_some ga
    have := Or.nodup_inj (i3 hb) _ ra3 _ hx (h.trans hh.symm)
    have ht := (same_eq.1 hs).1
    rw [← this] at ht
    simp [q0, Or.lockQ, qs] at ht
  · intro h
    have gc' : O3.get (O2.lockQ k v s r e p) = some b.c := by rw [h]; exact gc
    exact bc (Or.get_inj i3 hb gb gc').2.2.1

/-- Locks one behind the other, each with its own version and text. -/
def Or.locks (O : Or) (k v s : Nat) (r : Nat → Nat) (e : Nat) (t : Nat → ByteArray) : Nat → Or
  | 0 => O
  | i + 1 => (O.locks k v s r e t i).lockO k v s (r i) e (t i)
namespace Or
variable {O : Or}
theorem locks_len (k v s : Nat) (r : Nat → Nat) (e : Nat) (t : Nat → ByteArray) : ∀ i, (O.locks k v s r e t i).rows.length ≤ O.rows.length + 2 * i
  | 0 => Nat.le_refl _
  | i + 1 => by
    have h1 := locks_len k v s r e t i
    have h2 := lock_len (O := O.locks k v s r e t i) k v s (r i) e (t i)
    show ((O.locks k v s r e t i).lockO k v s (r i) e (t i)).rows.length ≤ _
    omega
theorem locks_inv (h : O.Inv) (k v s : Nat) (r : Nat → Nat) (e : Nat) (t : Nat → ByteArray) : ∀ i, (O.locks k v s r e t i).Inv
  | 0 => h
  | i + 1 => lock_inv (locks_inv h k v s r e t i) _ _ _ _ _ _
theorem locks_old {x : Row} {u : Nat} (h : O.get x = some u) (k v s : Nat) (r : Nat → Nat) (e : Nat) (t : Nat → ByteArray) : ∀ i, (O.locks k v s r e t i).get x = some u
  | 0 => h
  | i + 1 => lock_old (locks_old h k v s r e t i) _ _ _ _ _ _
end Or
theorem keeps_all {O : Or} (hi : O.Inv) (k v s r e : Nat) (p : ByteArray) (r' : Nat → Nat) (e' : Nat) (t : Nat → ByteArray) (i : Nat) (hb : ((O.lockO k v s r e p).locks k v s r' e' t i).bads = 0) :
    ((O.lockO k v s r e p).locks k v s r' e' t i).openL k v s (O.lockL k v s r e p) = some p := by
  unfold Or.openL
  have h := Or.plain_get (Or.locks_inv (Or.lock_inv hi k v s r e p) k v s r' e' t i) hb (Or.locks_old (Or.lock_get k v s r e p) k v s r' e' t i) k (O.lockL k v s r e p).n (Sea.four v s (O.lockL k v s r e p).v (O.lockL k v s r e p).e)
  rw [h]
  unfold Or.lockQ qs Or.lockL
  simp
end Ideal
end Go.Proofs.Ytbhdcocgghaifaa
