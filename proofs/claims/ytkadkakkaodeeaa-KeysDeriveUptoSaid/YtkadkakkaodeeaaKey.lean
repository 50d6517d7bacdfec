/-
  Keys in a tree, plainly: what a list of numbers leads to, from a key on, at an oracle.
-/
import Derived.Test.YtkadkakkaodeeaaIdI
import Derived.Test.YtkadkakkaodeeaaLeb
namespace Go.Proofs.Ytkadkakkaodeeaa.Ideal
open Go.Lib (uvarint uvarint_length64)

/-- The text by which a key leads to its child of a number. -/
def kt (n : Nat) : ByteArray := ⟨([107, 101, 121] ++ uvarint n).toArray⟩
theorem kt_inj {a b : Nat} (ha : a < 18446744073709551616) (hb : b < 18446744073709551616) (h : kt a = kt b) : a = b := by
  unfold kt at h
  have h1 : ([107, 101, 121] ++ uvarint a).toArray = ([107, 101, 121] ++ uvarint b).toArray := congrArg ByteArray.data h
  have h2 : [107, 101, 121] ++ uvarint a = [107, 101, 121] ++ uvarint b := by simpa using congrArg Array.toList h1
  have h3 := List.append_cancel_left h2
  exact Leb.apart ha hb (r := []) (by simpa using h3)
theorem kt_size {n : Nat} (h : n < 18446744073709551616) : (kt n).size ≤ 13 := by
  have := uvarint_length64 h
  show ([107, 101, 121] ++ uvarint n).toArray.size ≤ 13
  simp
  omega

namespace Or
variable {O : Or}
def key (O : Or) (k : Nat) : List Nat → Nat
  | [] => k
  | n :: l => (O.ask (qm k (kt n))).key (O.val (qm k (kt n))) l
def derive (O : Or) (k : Nat) : List Nat → Or
  | [] => O
  | n :: l => (O.ask (qm k (kt n))).derive (O.val (qm k (kt n))) l
theorem key_append : ∀ (l : List Nat) (O : Or) (k : Nat) (m : List Nat), O.key k (l ++ m) = (O.derive k l).key (O.key k l) m
  | [], _, _, _ => rfl
  | _ :: l, _, _, m => key_append l _ _ m
theorem derive_append : ∀ (l : List Nat) (O : Or) (k : Nat) (m : List Nat), O.derive k (l ++ m) = (O.derive k l).derive (O.key k l) m
  | [], _, _, _ => rfl
  | _ :: l, _, _, m => derive_append l _ _ m
theorem key_snoc (l : List Nat) (O : Or) (k n : Nat) : O.key k (l ++ [n]) = (O.derive k l).val (qm (O.key k l) (kt n)) := key_append l O k [n]
theorem derive_snoc (l : List Nat) (O : Or) (k n : Nat) : O.derive k (l ++ [n]) = (O.derive k l).ask (qm (O.key k l) (kt n)) := derive_append l O k [n]
theorem len_ask_ge (x : Row) : O.rows.length ≤ (O.ask x).rows.length := by
  unfold ask
  split
  · exact Nat.le_refl _
  · rw [len_draw]; omega
theorem len_derive : ∀ (l : List Nat) (O : Or) (k : Nat), O.rows.length ≤ (O.derive k l).rows.length ∧ (O.derive k l).rows.length ≤ O.rows.length + l.length
  | [], _, _ => ⟨Nat.le_refl _, Nat.le_refl _⟩
  | n :: l, O, k => by
    have h1 := len_derive l (O.ask (qm k (kt n))) (O.val (qm k (kt n)))
    have h2 := len_ask (O := O) (qm k (kt n))
    have h3 := len_ask_ge (O := O) (qm k (kt n))
    simp only [List.length_cons]
    show O.rows.length ≤ ((O.ask (qm k (kt n))).derive (O.val (qm k (kt n))) l).rows.length ∧ ((O.ask (qm k (kt n))).derive (O.val (qm k (kt n))) l).rows.length ≤ _
    omega
theorem fine_derive : ∀ (l : List Nat) (O : Or) (k : Nat), O.fine → k < 18446744073709551616 → O.rows.length + l.length < 1152921504606846976 → (O.derive k l).fine ∧ O.key k l < 18446744073709551616
  | [], _, _, h, hk, _ => ⟨h, hk⟩
  | n :: l, O, k, h, _, hn => by
    have h2 := len_ask (O := O) (qm k (kt n))
    simp only [List.length_cons] at hn
    exact fine_derive l _ _ (fine_ask h (by omega) _) (val_lt h (by omega) _) (by omega)
theorem inv_derive : ∀ (l : List Nat) (O : Or) (k : Nat), O.Inv → (O.derive k l).Inv
  | [], _, _, h => h
  | _ :: l, _, _, h => inv_derive l _ _ (inv_ask h _)
theorem get_derive_old : ∀ (l : List Nat) (O : Or) (k : Nat) {y : Row} {v : Nat}, O.get y = some v → (O.derive k l).get y = some v
  | [], _, _, _, _, h => h
  | _ :: l, _, _, _, _, h => get_derive_old l _ _ (get_ask_old h)
theorem bads_derive_le : ∀ (l : List Nat) (O : Or) (k : Nat), O.bads ≤ (O.derive k l).bads
  | [], _, _ => Nat.le_refl _
  | n :: l, O, k => Nat.le_trans (bads_ask_le (O := O) (qm k (kt n))) (bads_derive_le l _ _)

/-- In an oracle as it is: a list leads to a value. -/
inductive Path (O : Or) (k : Nat) : List Nat → Nat → Prop
  | nil : Path O k [] k
  | snoc {l : List Nat} {u n v : Nat} : Path O k l u → O.get (qm u (kt n)) = some v → Path O k (l ++ [n]) v
theorem Path.mono {O' : Or} {k v : Nat} {l : List Nat} (h : Path O k l v) (hm : ∀ y u, O.get y = some u → O'.get y = some u) : Path O' k l v := by
  induction h with
  | nil => exact .nil
  | snoc _ hg ih => exact .snoc ih (hm _ _ hg)
theorem path_all (k : Nat) (l : List Nat) (O : Or) : Path (O.derive k l) k l (O.key k l) := by
  rw [← List.reverse_reverse l]
  induction l.reverse with
  | nil => exact .nil
  | cons n m ih =>
    rw [List.reverse_cons, derive_snoc, key_snoc]
    exact .snoc (ih.mono fun y u hy => get_ask_old hy) (get_ask _)
/-- What was derived is derived again, and nothing is drawn. -/
theorem Path.again {k v : Nat} {l : List Nat} (h : Path O k l v) : O.derive k l = O ∧ O.key k l = v := by
  induction h with
  | nil => exact ⟨rfl, rfl⟩
  | snoc _ hg ih =>
    rw [derive_snoc, key_snoc, ih.1, ih.2]
    exact ⟨ask_of_get hg, val_of_get hg⟩
theorem derive_again (k : Nat) (l : List Nat) (O : Or) : (O.derive k l).derive k l = O.derive k l ∧ (O.derive k l).key k l = O.key k l := (path_all k l O).again

/-- A key that was met before everything else, and that is no value where nothing bad happened. -/
def Met (k : Nat) (O : Or) : Prop := O.known k = true ∧ (O.bads = 0 → ∀ r ∈ O.rows, r.h ≠ k)
theorem met_new (l : List Nat) (k : Nat) : ((new l).meet k).Met k := by
  refine ⟨by rw [known_meet]; simp, fun _ r hr => ?_⟩
  rw [rows_meet] at hr
  cases hr
variable {k : Nat}
theorem met_draw (h : O.Met k) (x : Row) : (O.draw x).Met k := by
  refine ⟨by rw [known_draw, h.1]; rfl, fun hb r hr => ?_⟩
  obtain ⟨h0, ht⟩ := bads_draw_zero hb
  simp only [draw, List.mem_append, List.mem_singleton] at hr
  rcases hr with hr | rfl
  · exact h.2 h0 r hr
  · intro e
    simp only at e
    unfold turn at ht
    rw [e, h.1] at ht
    simp at ht
theorem met_ask (h : O.Met k) (x : Row) : (O.ask x).Met k := by
  unfold ask
  split
  · exact h
  · exact met_draw h x
theorem met_meet (h : O.Met k) (v : Nat) : (O.meet v).Met k := by
  refine ⟨by rw [known_meet, h.1]; rfl, fun hb r hr => ?_⟩
  rw [bads_meet] at hb
  rw [rows_meet] at hr
  exact h.2 hb r hr
theorem met_verify (h : O.Met k) (j : Nat) (s : ByteArray) (tag : Nat) : (O.verify j s tag).Met k := by
  unfold verify
  split
  · exact h
  · exact met_meet h _
theorem met_reopen (h : O.Met k) (j n : Nat) (a : ByteArray) (c : Nat) : (O.reopen j n a c).Met k := by
  unfold reopen
  split
  · exact h
  · exact met_meet h _
theorem met_step (h : O.Met k) (c : Cl) : (O.step c).Met k := by
  unfold step
  iterate 7 (split; · first | exact met_draw h _ | exact met_ask h _ | exact met_verify h _ _ _ | exact met_reopen h _ _ _ _ | exact met_meet h _)
  exact h
theorem met_play (l : List Cl) : ∀ O : Or, O.Met k → (O.play l).Met k := by
  induction l with
  | nil => intro O h; exact h
  | cons c l ih => intro O h; exact ih _ (met_step h c)
theorem met_derive : ∀ (l : List Nat) (O : Or) (j : Nat), O.Met k → (O.derive j l).Met k
  | [], _, _, h => h
  | _ :: l, _, _, h => met_derive l _ _ (met_ask h _)

/-- Unlike lists lead to unlike values. -/
theorem Path.inj (hi : O.Inv) (hb : O.bads = 0) (hk : O.Met k) {l : List Nat} {u : Nat} (h : Path O k l u) : ∀ {m : List Nat} {v : Nat}, (∀ x ∈ l, x < 18446744073709551616) → (∀ x ∈ m, x < 18446744073709551616) → Path O k m v → u = v → l = m := by
  have off : ∀ {x : Row} {v : Nat}, O.get x = some v → v ≠ k := fun hg => by
    obtain ⟨r, hr, _, e⟩ := get_some hg
    rw [← e]
    exact hk.2 hb r hr
  induction h with
  | nil =>
    intro m v _ _ h2 e
    cases h2 with
    | nil => rfl
    | snoc _ hg => exact absurd e.symm (off hg)
  | snoc h1 hg ih =>
    intro m v hl hm h2 e
    cases h2 with
    | nil => exact absurd e (off hg)
    | snoc h3 hg3 =>
      subst e
      obtain ⟨_, e2, _, e3, _⟩ := get_inj hi hb hg hg3
      simp only [qm] at e2 e3
      have en := kt_inj (hl _ (by simp)) (hm _ (by simp)) e3
      have el := ih (fun x hx => hl x (by simp [hx])) (fun x hx => hm x (by simp [hx])) h3 e2
      rw [el, en]
end Or

/-- Two lists, one behind the other asked for. -/
theorem keys_apart (O : Or) (hi : O.Inv) (k : Nat) (hk : O.Met k) (l m : List Nat) (hl : ∀ x ∈ l, x < 18446744073709551616) (hm : ∀ x ∈ m, x < 18446744073709551616) :
    ((O.derive k l).derive k m).bads = 0 → (O.key k l = (O.derive k l).key k m ↔ l = m) := by
  intro hb
  have p1 := (Or.path_all k l O).mono (O' := (O.derive k l).derive k m) fun y u hy => Or.get_derive_old m _ _ hy
  have p2 := Or.path_all k m (O.derive k l)
  have i2 : ((O.derive k l).derive k m).Inv := Or.inv_derive _ _ _ (Or.inv_derive _ _ _ hi)
  have k2 : ((O.derive k l).derive k m).Met k := Or.met_derive _ _ _ (Or.met_derive _ _ _ hk)
  refine ⟨fun h => p1.inj i2 hb k2 hl hm p2 h, fun h => ?_⟩
  subst h
  exact p1.again.2.symm.trans p2.again.2
theorem keys_volumes (O : Or) (hi : O.Inv) (k : Nat) (hk : O.Met k) (a b : List Nat) (t : Nat) (ha : ∀ x ∈ a, x < 18446744073709551616) (hb : ∀ x ∈ b, x < 18446744073709551616) (ht : t < 18446744073709551616) (la : a.length = 3) :
    (((O.derive k a).derive k b).derive k [t]).bads = 0 → (O.key k a = (O.derive k a).key k b ↔ a = b) ∧ O.key k a ≠ k ∧ O.key k a ≠ ((O.derive k a).derive k b).key k [t] := by
  intro h0
  have p1 := (Or.path_all k a O).mono (O' := ((O.derive k a).derive k b).derive k [t]) fun y u hy => Or.get_derive_old _ _ _ (Or.get_derive_old _ _ _ hy)
  have p3 := Or.path_all k [t] ((O.derive k a).derive k b)
  have i3 : (((O.derive k a).derive k b).derive k [t]).Inv := Or.inv_derive _ _ _ (Or.inv_derive _ _ _ (Or.inv_derive _ _ _ hi))
  have k3 : (((O.derive k a).derive k b).derive k [t]).Met k := Or.met_derive _ _ _ (Or.met_derive _ _ _ (Or.met_derive _ _ _ hk))
  have hb2 : ((O.derive k a).derive k b).bads = 0 := by have := Or.bads_derive_le [t] ((O.derive k a).derive k b) k; omega
  refine ⟨keys_apart O hi k hk a b ha hb hb2, fun h => ?_, fun h => ?_⟩
  · have := p1.inj i3 h0 k3 ha (by simp) .nil h
    rw [this] at la
    cases la
  · have := p1.inj i3 h0 k3 ha (by simpa using ht) p3 h
    rw [this] at la
    cases la
theorem keys_steps (O : Or) (k : Nat) (l m : List Nat) :
    ((O.derive k (l ++ m)).derive k l).key ((O.derive k (l ++ m)).key k l) m = O.key k (l ++ m) ∧ ((O.derive k (l ++ m)).derive k l).derive ((O.derive k (l ++ m)).key k l) m = O.derive k (l ++ m) := by
  rw [← Or.key_append, ← Or.derive_append]
  exact ⟨(Or.derive_again k (l ++ m) O).2, (Or.derive_again k (l ++ m) O).1⟩
theorem keys_count (O : Or) (k n : Nat) (l : List Nat) :
    O.rows.length ≤ (O.derive k l).rows.length ∧ (O.derive k l).rows.length ≤ O.rows.length + l.length ∧ (O.derive k l).rows.length ≤ ((O.derive k l).derive k (l ++ [n])).rows.length ∧ ((O.derive k l).derive k (l ++ [n])).rows.length ≤ (O.derive k l).rows.length + 1 := by
  have h1 := Or.len_derive l O k
  rw [Or.derive_snoc, (Or.derive_again k l O).1]
  have h2 := Or.len_ask (O := O.derive k l) (qm ((O.derive k l).key k l) (kt n))
  have h3 := Or.len_ask_ge (O := O.derive k l) (qm ((O.derive k l).key k l) (kt n))
  omega
end Go.Proofs.Ytkadkakkaodeeaa.Ideal
