/-
  Package token, plainly: a token's bytes, and back; tokens that are issued, and which are taken.
-/
import Derived.Test.YtbhdcocgghaifaaSeal
namespace Go.Proofs.Ytbhdcocgghaifaa
open Go.Lib (uvarint uvarint_length64)
open Leb (dec encNs)
open Ideal

/-- A token. -/
structure Tok where
  n : Nat
  v : Nat
  e : Nat
  r : Nat
  g : Nat
deriving DecidableEq

namespace Cap
def word : ByteArray := ⟨#[116, 111, 107, 101, 110]⟩
def said (t : Tok) : ByteArray := Sea.four t.n t.v t.e t.r
def text (t : Tok) : ByteArray := word ++ said t
def five (a b c d g : Nat) : ByteArray := ⟨(encNs [a, b, c, d, g]).toArray⟩
def pack (t : Tok) : ByteArray := five t.n t.v t.e t.r t.g
def fine (t : Tok) : Prop := t.n < 18446744073709551616 ∧ t.v < 18446744073709551616 ∧ t.e < 18446744073709551616 ∧ t.r < 18446744073709551616 ∧ t.g < 18446744073709551616
def p5 (a b c d g : Nat) (s : List UInt8) : Option Tok := if s = [] then some ⟨a, b, c, d, g⟩ else none
def p4 (a b c d : Nat) (s : List UInt8) : Option Tok := match dec s with | none => none | some (g, r) => p5 a b c d g r
def p3 (a b c : Nat) (s : List UInt8) : Option Tok := match dec s with | none => none | some (d, r) => p4 a b c d r
def p2 (a b : Nat) (s : List UInt8) : Option Tok := match dec s with | none => none | some (c, r) => p3 a b c r
def p1 (a : Nat) (s : List UInt8) : Option Tok := match dec s with | none => none | some (b, r) => p2 a b r
def parse (s : List UInt8) : Option Tok := match dec s with | none => none | some (a, r) => p1 a r

theorem five_data (a b c d g : Nat) : (five a b c d g).data.toList = uvarint a ++ (uvarint b ++ (uvarint c ++ (uvarint d ++ (uvarint g ++ [])))) := by
  unfold five
  simp [encNs]
theorem pack_data (t : Tok) : (pack t).data.toList = uvarint t.n ++ (uvarint t.v ++ (uvarint t.e ++ (uvarint t.r ++ (uvarint t.g ++ [])))) := five_data _ _ _ _ _
theorem pack_size {t : Tok} (h : fine t) : (pack t).size ≤ 50 := by
  have h1 := uvarint_length64 h.1
  have h2 := uvarint_length64 h.2.1
  have h3 := uvarint_length64 h.2.2.1
  have h4 := uvarint_length64 h.2.2.2.1
  have h5 := uvarint_length64 h.2.2.2.2
  have : (pack t).size = (pack t).data.toList.length := by rw [Array.length_toList]; rfl
  rw [this, pack_data]
  simp only [List.length_append, List.length_nil]
  omega
theorem said_size {t : Tok} (h : fine t) : (said t).size ≤ 40 := Sea.four_size h.1 h.2.1 h.2.2.1 h.2.2.2.1
theorem text_size {t : Tok} (h : fine t) : (text t).size ≤ 45 := by
  have := said_size h
  unfold text
  rw [ByteArray.size_append]
  show 5 + (said t).size ≤ 45
  omega
theorem parse_pack {t : Tok} (h : fine t) : parse (pack t).data.toList = some t := by
  rw [pack_data]
  unfold parse
  rw [Leb.dec_put h.1]
  simp only
  unfold p1
  rw [Leb.dec_put h.2.1]
  simp only
  unfold p2
  rw [Leb.dec_put h.2.2.1]
  simp only
  unfold p3
  rw [Leb.dec_put h.2.2.2.1]
  simp only
  unfold p4
  rw [Leb.dec_put h.2.2.2.2]
  rfl
theorem parse_some {s : List UInt8} {t : Tok} (h : parse s = some t) : (pack t).data.toList = s ∧ fine t := by
  unfold parse at h
  cases h1 : dec s with
  | none => rw [h1] at h; cases h
  | some x1 =>
  obtain ⟨a, r1⟩ := x1
  rw [h1] at h
  simp only [p1] at h
  cases h2 : dec r1 with
  | none => rw [h2] at h; cases h
  | some x2 =>
  obtain ⟨b, r2⟩ := x2
  rw [h2] at h
  simp only [p2] at h
  cases h3 : dec r2 with
  | none => rw [h3] at h; cases h
  | some x3 =>
  obtain ⟨c, r3⟩ := x3
  rw [h3] at h
  simp only [p3] at h
  cases h4 : dec r3 with
  | none => rw [h4] at h; cases h
  | some x4 =>
  obtain ⟨d, r4⟩ := x4
  rw [h4] at h
  simp only [p4] at h
  cases h5 : dec r4 with
  | none => rw [h5] at h; cases h
  | some x5 =>
  obtain ⟨g, r5⟩ := x5
  rw [h5] at h
  simp only [p5] at h
  split at h
  · rename_i e
    subst e
    cases h
    obtain ⟨e1, l1⟩ := Leb.dec_some h1
    obtain ⟨e2, l2⟩ := Leb.dec_some h2
    obtain ⟨e3, l3⟩ := Leb.dec_some h3
    obtain ⟨e4, l4⟩ := Leb.dec_some h4
    obtain ⟨e5, l5⟩ := Leb.dec_some h5
    refine ⟨?_, l1, l2, l3, l4, l5⟩
    rw [pack_data, e1, e2, e3, e4, e5]
  · cases h
theorem text_inj {t u : Tok} (ht : fine t) (hu : fine u) (h : text t = text u) : t.n = u.n ∧ t.v = u.v ∧ t.e = u.e ∧ t.r = u.r := by
  have h1 : (text t).data.toList = (text u).data.toList := by rw [h]
  unfold text at h1
  simp only [ByteArray.data_append, Array.toList_append] at h1
  have h2 := List.append_cancel_left h1
  have h3 : said t = said u := ByteArray.ext (Array.ext' h2)
  exact Sea.four_inj ht.1 ht.2.1 ht.2.2.1 ht.2.2.2.1 hu.1 hu.2.1 hu.2.2.1 hu.2.2.2.1 h3

/-- Whether a number has all bits of another one. -/
def covers (r w : Nat) : Bool := decide (w &&& (18446744073709551615 - r) = 0)
theorem covers_iff {r w : Nat} (hr : r < 18446744073709551616) (hw : w < 18446744073709551616) : covers r w = true ↔ ∀ i, w.testBit i = true → r.testBit i = true := by
  have hb : ∀ i, (18446744073709551615 - r).testBit i = (decide (i < 64) && !r.testBit i) := by
    intro i
    have h := Nat.testBit_two_pow_sub_succ (n := 64) (x := r) (by omega) i
    have e : 2 ^ 64 - (r + 1) = 18446744073709551615 - r := by omega
    rwa [e] at h
  unfold covers
  rw [decide_eq_true_eq]
  constructor
  · intro h i hi
    have h1 : (w &&& (18446744073709551615 - r)).testBit i = false := by rw [h]; simp
    rw [Nat.testBit_and, hb, hi] at h1
    have hi64 : i < 64 := by
      rcases Nat.lt_or_ge i 64 with h' | h'
      · exact h'
      · have := Nat.testBit_lt_two_pow (x := w) (i := i) (Nat.lt_of_lt_of_le hw (by have := Nat.pow_le_pow_right (n := 2) (by omega) h'; omega))
        rw [this] at hi
        cases hi
    simpa [hi64] using h1
  · intro h
    apply Nat.eq_of_testBit_eq
    intro i
    rw [Nat.testBit_and, hb]
    cases hi : w.testBit i with
    | false => simp
    | true => rw [h i hi]; simp
theorem covers_half {r w : Nat} (hr : r < 18446744073709551616) (hw : w < 18446744073709551616) : covers r w = (!(w % 2 == 1 && r % 2 == 0) && covers (r / 2) (w / 2)) := by
  rw [Bool.eq_iff_iff, covers_iff hr hw, Bool.and_eq_true, covers_iff (by omega) (by omega)]
  constructor
  · intro h
    refine ⟨?_, fun i hi => ?_⟩
    · have h0 := h 0
      simp only [Nat.testBit_zero, decide_eq_true_eq] at h0
      rcases Nat.mod_two_eq_zero_or_one w with e1 | e1
      · rw [e1]; rfl
      · rw [h0 e1]; simp
    · have := h (i + 1)
      rw [Nat.testBit_succ, Nat.testBit_succ] at this
      exact this hi
  · rintro ⟨h0, h1⟩ i hi
    cases i with
    | zero =>
      simp only [Nat.testBit_zero, decide_eq_true_eq] at hi ⊢
      rcases Nat.mod_two_eq_zero_or_one r with e1 | e1
      · rw [hi, e1] at h0
        cases h0
      · exact e1
    | succ i =>
      rw [Nat.testBit_succ] at hi ⊢
      exact h1 i hi
theorem covers_less {r w : Nat} (hr : r < 18446744073709551616) (hw : w < 18446744073709551616) (l : Nat) (h : covers r w = true) : covers r (w &&& l) = true := by
  have hwl : (w &&& l) < 18446744073709551616 := Nat.lt_of_le_of_lt Nat.and_le_left hw
  rw [covers_iff hr hwl]
  intro i hi
  rw [Nat.testBit_and, Bool.and_eq_true] at hi
  exact (covers_iff hr hw).1 h i hi.1
theorem covers_zero (r : Nat) : covers r 0 = true := by simp [covers]
end Cap

namespace Ideal.Or
variable {O : Or}
/-- A token that is issued, and the oracle behind it. -/
def issO (O : Or) (k : Nat) (t : Tok) : Or := O.ask (qm k (Cap.text t))
def issT (O : Or) (k : Nat) (t : Tok) : Tok := { t with g := O.val (qm k (Cap.text t)) }
def issOs (O : Or) (k : Nat) : List Tok → Or
  | [] => O
  | t :: l => (O.issO k t).issOs k l
def issTs (O : Or) (k : Nat) : List Tok → List Tok
  | [] => []
  | t :: l => O.issT k t :: (O.issO k t).issTs k l
theorem issOs_snoc (k : Nat) (t : Tok) : ∀ (l : List Tok) (O : Or), O.issOs k (l ++ [t]) = (O.issOs k l).issO k t
  | [], _ => rfl
  | _ :: l, _ => issOs_snoc k t l _
theorem issTs_snoc (k : Nat) (t : Tok) : ∀ (l : List Tok) (O : Or), O.issTs k (l ++ [t]) = O.issTs k l ++ [(O.issOs k l).issT k t]
  | [], _ => rfl
  | u :: l, O => by show _ :: (O.issO k u).issTs k (l ++ [t]) = _; rw [issTs_snoc k t l]; rfl
theorem issTs_len (k : Nat) : ∀ (l : List Tok) (O : Or), (O.issTs k l).length = l.length
  | [], _ => rfl
  | _ :: l, _ => by show (_ :: _ : List Tok).length = _; rw [List.length_cons, issTs_len k l]; rfl
theorem issOs_len (k : Nat) : ∀ (l : List Tok) (O : Or), (O.issOs k l).rows.length ≤ O.rows.length + l.length
  | [], _ => Nat.le_refl _
  | t :: l, O => by
    have h1 := issOs_len k l (O.issO k t)
    have h2 := len_ask (O := O) (qm k (Cap.text t))
    show ((O.issO k t).issOs k l).rows.length ≤ _
    simp only [List.length_cons]
    unfold issO at h1 ⊢
    omega
theorem issT_fine (h : O.fine) (hn : O.rows.length < 1152921504606846976) (k : Nat) {t : Tok} (ht : Cap.fine t) : Cap.fine (O.issT k t) := ⟨ht.1, ht.2.1, ht.2.2.1, ht.2.2.2.1, val_lt h hn _⟩
theorem issOs_fine (k : Nat) : ∀ (l : List Tok) (O : Or), O.fine → O.rows.length + l.length < 1152921504606846976 → (O.issOs k l).fine
  | [], _, h, _ => h
  | t :: l, O, h, hn => by
    have h2 := len_ask (O := O) (qm k (Cap.text t))
    simp only [List.length_cons] at hn
    have h3 : (O.issO k t).rows.length ≤ O.rows.length + 1 := h2
    exact issOs_fine k l _ (fine_ask h (by omega) _) (by omega)
theorem issTs_fine (k : Nat) : ∀ (l : List Tok) (O : Or), O.fine → O.rows.length + l.length < 1152921504606846976 → (∀ t ∈ l, Cap.fine t) → ∀ t ∈ O.issTs k l, Cap.fine t
  | [], _, _, _, _ => by intro t ht; cases ht
  | u :: l, O, h, hn, hl => by
    have h2 := len_ask (O := O) (qm k (Cap.text u))
    simp only [List.length_cons] at hn
    intro t ht
    rcases List.mem_cons.1 ht with rfl | ht
    · exact issT_fine h (by omega) k (hl u (by simp))
    · have h3 : (O.issO k u).rows.length ≤ O.rows.length + 1 := h2
      exact issTs_fine k l (O.issO k u) (fine_ask h (by omega) _) (by omega) (fun x hx => hl x (by simp [hx])) t ht
theorem issOs_inv (k : Nat) : ∀ (l : List Tok) (O : Or), O.Inv → (O.issOs k l).Inv
  | [], _, h => h
  | _ :: l, _, h => issOs_inv k l _ (inv_ask h _)
theorem issOs_old (k : Nat) : ∀ (l : List Tok) (O : Or) {y : Row} {v : Nat}, O.get y = some v → (O.issOs k l).get y = some v
  | [], _, _, _, h => h
  | _ :: l, _, _, _, h => issOs_old k l _ (get_ask_old h)
theorem issOs_bads (k : Nat) : ∀ (l : List Tok) (O : Or), O.bads ≤ (O.issOs k l).bads
  | [], _ => Nat.le_refl _
  | t :: l, O => Nat.le_trans (bads_ask_le (O := O) (qm k (Cap.text t))) (issOs_bads k l _)
/-- What was issued has its tag. -/
theorem issTs_get (k : Nat) : ∀ (l : List Tok) (O : Or), ∀ t ∈ O.issTs k l, (O.issOs k l).get (qm k (Cap.text t)) = some t.g
  | [], _ => by intro t ht; cases ht
  | u :: l, O => by
    intro t ht
    rcases List.mem_cons.1 ht with rfl | ht
    · exact issOs_old k l _ (get_ask (O := O) (qm k (Cap.text u)))
    · exact issTs_get k l _ t ht
/-- What has a tag was issued. -/
theorem forged_gen (k : Nat) : ∀ (l : List Tok) (O : Or) (L : List Tok), (∀ t ∈ l, Cap.fine t) → (∀ T, Cap.fine T → O.get (qm k (Cap.text T)) = some T.g → T ∈ L) →
    ∀ T, Cap.fine T → (O.issOs k l).get (qm k (Cap.text T)) = some T.g → T ∈ L ∨ T ∈ O.issTs k l
  | [], _, _, _, h => fun T hT hg => .inl (h T hT hg)
  | u :: l, O, L, hl, h => by
    intro T hT hg
    have step : ∀ T, Cap.fine T → (O.issO k u).get (qm k (Cap.text T)) = some T.g → T ∈ O.issT k u :: L := by
      intro T hT hg
      unfold issO ask at hg
      cases hu : O.get (qm k (Cap.text u)) with
      | some x =>
        rw [hu] at hg
        exact List.mem_cons_of_mem _ (h T hT hg)
      | none =>
        rw [hu] at hg
        simp only at hg
        rw [get_draw] at hg
        cases ho : O.get (qm k (Cap.text T)) with
        | some x =>
          rw [ho] at hg
          simp only [Option.some_or] at hg
          exact List.mem_cons_of_mem _ (h T hT (ho.trans hg))
        | none =>
          rw [ho] at hg
          simp only [Option.none_or] at hg
          split at hg
          · rename_i hs
            obtain ⟨-, -, -, ha, -⟩ := same_eq.1 hs
            obtain ⟨e1, e2, e3, e4⟩ := Cap.text_inj (hl u (by simp)) hT ha
            have e5 : O.val (qm k (Cap.text u)) = T.g := by
              unfold val
              rw [hu]
              exact Option.some.inj hg
            refine List.mem_cons.2 (.inl ?_)
            obtain ⟨a, b, c, d, g⟩ := T
            obtain ⟨a', b', c', d', g'⟩ := u
            unfold issT
            simp only at e1 e2 e3 e4 e5 ⊢
            rw [e5, e1, e2, e3, e4]
          · cases hg
    rcases forged_gen k l (O.issO k u) (O.issT k u :: L) (fun t ht => hl t (by simp [ht])) step T hT hg with h1 | h1
    · rcases List.mem_cons.1 h1 with h2 | h2
      · exact .inr (List.mem_cons.2 (.inl h2))
      · exact .inl h2
    · exact .inr (List.mem_cons_of_mem _ h1)
theorem forged_all (k : Nat) (d : List Nat) (l : List Tok) (hl : ∀ t ∈ l, Cap.fine t) (T : Tok) (hT : Cap.fine T) : ((new d).issOs k l).isTag k (Cap.text T) T.g = true ↔ T ∈ (new d).issTs k l := by
  unfold isTag
  rw [beq_iff_eq]
  constructor
  · intro h
    rcases forged_gen k l (new d) [] hl (fun T _ hg => by cases hg) T hT h with h1 | h1
    · cases h1
    · exact h1
  · exact issTs_get k l _ T
/-- Of the issued ones two have one tag just if they are the same. -/
theorem apart_tok (k : Nat) (d : List Nat) (l : List Tok) (hl : ∀ t ∈ l, Cap.fine t) (hd : ∀ x ∈ d, x < 18446744073709551616) (hn : l.length < 1000000) (hb : ((new d).issOs k l).bads = 0) : ∀ t ∈ (new d).issTs k l, ∀ u ∈ (new d).issTs k l, t.g = u.g → t = u := by
  intro t ht u hu e
  have hf := issTs_fine k l (new d) (fine_new hd) (by show 0 + _ < _; omega) hl
  have h1 := issTs_get k l _ t ht
  have h2 := issTs_get k l _ u hu
  rw [← e] at h2
  obtain ⟨-, -, -, ha, -⟩ := get_inj (issOs_inv k l _ (inv_new d)) hb h1 h2
  obtain ⟨e1, e2, e3, e4⟩ := Cap.text_inj (hf t ht) (hf u hu) ha
  obtain ⟨a, b, c, d, g⟩ := t
  obtain ⟨a', b', c', d', g'⟩ := u
  simp only at e1 e2 e3 e4 e
  subst e1 e2 e3 e4 e
  rfl

/-- Whether a token is taken, or why not; and the oracle behind it. -/
def chk (O : Or) (k : Nat) (t : Tok) (v e want : Nat) : Nat :=
  if O.isTag k (Cap.text t) t.g then if t.v = v then if t.e < e then 72 else if Cap.covers t.r want then 0 else 73 else 71 else 70
def chkO (O : Or) (k : Nat) (t : Tok) : Or := O.verify k (Cap.text t) t.g
theorem chk_tag {k : Nat} {t : Tok} {v e want : Nat} : O.chk k t v e want = 70 ↔ O.isTag k (Cap.text t) t.g = false := by
  unfold chk
  cases O.isTag k (Cap.text t) t.g with
  | false => simp
  | true =>
    simp only [if_true]
    constructor
    · intro h
      split at h
      · split at h
        · omega
        · split at h <;> omega
      · omega
    · intro h
      cases h
theorem chk_ok {k : Nat} {t : Tok} {v e want : Nat} (h : O.chk k t v e want = 0) : O.isTag k (Cap.text t) t.g = true ∧ t.v = v ∧ e ≤ t.e ∧ Cap.covers t.r want = true := by
  unfold chk at h
  split at h
  · rename_i h1
    split at h
    · rename_i h2
      split at h
      · omega
      · rename_i h3
        split at h
        · rename_i h4
          exact ⟨h1, h2, by omega, h4⟩
        · omega
    · omega
  · omega
theorem chkO_of {k : Nat} {t : Tok} (h : O.isTag k (Cap.text t) t.g = true) : O.chkO k t = O := by
  unfold chkO verify
  rw [if_pos h]
theorem chkO_bads (k : Nat) (t : Tok) : (O.chkO k t).bads = O.bads := bads_verify _ _ _
theorem chk_of {k : Nat} {t : Tok} (h : O.isTag k (Cap.text t) t.g = true) (v e want : Nat) : O.chk k t v e want = if t.v = v then if t.e < e then 72 else if Cap.covers t.r want then 0 else 73 else 71 := by
  unfold chk
  rw [if_pos h]
end Ideal.Or
end Go.Proofs.Ytbhdcocgghaifaa
