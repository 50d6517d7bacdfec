/-
  Package merkle, plainly: texts of leaves and nodes; what is hashed one after the other; the levels of a tree; paths, climbs.
-/
import Derived.Test.YtllbcnficlbobaaIdI
import Derived.Test.YtllbcnficlbobaaLeb
namespace Go.Proofs.Ytllbcnficlbobaa
open Go.Lib (uvarint uvarint_length64)
open Leb (dec)
open Ideal

namespace Mer
def leafB : ByteArray := ⟨#[108, 101, 97, 102]⟩
def nodeB : ByteArray := ⟨#[110, 111, 100, 101]⟩
def num (n : Nat) : ByteArray := ⟨(uvarint n).toArray⟩
def leafT (s : ByteArray) : ByteArray := leafB ++ s
def nodeT (a b : Nat) : ByteArray := nodeB ++ num a ++ num b
theorem num_size {n : Nat} (h : n < 18446744073709551616) : (num n).size ≤ 10 := by
  show (uvarint n).toArray.size ≤ 10
  simpa using uvarint_length64 h
theorem size_app (a b : ByteArray) : (a ++ b).size = a.size + b.size := ByteArray.size_append
theorem leaf_size (s : ByteArray) : (leafT s).size = 4 + s.size := size_app _ _
theorem node_size {a b : Nat} (ha : a < 18446744073709551616) (hb : b < 18446744073709551616) : (nodeT a b).size ≤ 24 := by
  have h1 := num_size ha
  have h2 := num_size hb
  have h3 : (nodeT a b).size = nodeB.size + (num a).size + (num b).size := by
    unfold nodeT
    rw [size_app, size_app]
  have h4 : nodeB.size = 4 := rfl
  omega
theorem data_app (a b : ByteArray) : (a ++ b).data.toList = a.data.toList ++ b.data.toList := by simp
theorem leaf_inj {s t : ByteArray} (h : leafT s = leafT t) : s = t := by
  have h1 := congrArg (fun x : ByteArray => x.data.toList) h
  simp only [leafT, data_app] at h1
  have h2 := List.append_cancel_left h1
  apply ByteArray.ext
  exact Array.toList_inj.1 h2
theorem node_inj {a b c d : Nat} (ha : a < 18446744073709551616) (hb : b < 18446744073709551616) (hc : c < 18446744073709551616) (hd : d < 18446744073709551616) (h : nodeT a b = nodeT c d) : a = c ∧ b = d := by
  have h1 := congrArg (fun x : ByteArray => x.data.toList) h
  simp only [nodeT, data_app, List.append_assoc] at h1
  have h2 := List.append_cancel_left h1
  have h3 : dec (uvarint a ++ uvarint b) = dec (uvarint c ++ uvarint d) := congrArg dec h2
  rw [Leb.dec_put ha, Leb.dec_put hc] at h3
  simp only [Option.some.injEq, Prod.mk.injEq] at h3
  obtain ⟨rfl, h4⟩ := h3
  have h5 : dec (uvarint b ++ []) = dec (uvarint d ++ []) := by simp only [List.append_nil]; rw [h4]
  rw [Leb.dec_put hb, Leb.dec_put hd] at h5
  simp only [Option.some.injEq, Prod.mk.injEq] at h5
  exact ⟨rfl, h5.1⟩

/-- The texts of a level above one; the texts of the lowest level; the place beside. -/
def upT (l : List Nat) : List ByteArray := (List.range (l.length / 2)).map fun k => nodeT (l.getD (2 * k) 0) (l.getD (2 * k + 1) 0)
def botT (ls : List ByteArray) (n : Nat) : List ByteArray := (List.range n).map fun i => leafT (ls.getD i .empty)
def sib (j : Nat) : Nat := if j % 2 = 0 then j + 1 else j - 1
def joinT (j h b : Nat) : ByteArray := if j % 2 = 0 then nodeT h b else nodeT b h
@[simp] theorem upT_length (l : List Nat) : (upT l).length = l.length / 2 := by simp [upT]
@[simp] theorem botT_length (ls : List ByteArray) (n : Nat) : (botT ls n).length = n := by simp [botT]
theorem upT_at {l : List Nat} {k : Nat} (h : k < l.length / 2) : (upT l)[k]'(by simpa using h) = nodeT (l.getD (2 * k) 0) (l.getD (2 * k + 1) 0) := by simp [upT]
theorem botT_at {ls : List ByteArray} {n k : Nat} (h : k < n) : (botT ls n)[k]'(by simpa using h) = leafT (ls.getD k .empty) := by simp [botT]
/-- Has a tree the shape? -/
def shaped (t : List (List Nat)) : Bool := decide (1 ≤ t.length) && (decide (t.length ≤ 9) && (List.range t.length).all fun k => decide ((t.getD k []).length = 2 ^ (t.length - 1 - k)))
theorem shaped_iff {t : List (List Nat)} : shaped t = true ↔ 1 ≤ t.length ∧ t.length ≤ 9 ∧ ∀ k, k < t.length → (t.getD k []).length = 2 ^ (t.length - 1 - k) := by
  unfold shaped
  simp [List.all_eq_true]
/-- The way's side. -/
def path (t : List (List Nat)) (i : Nat) : List Nat := (List.range (t.length - 1)).map fun k => (t.getD k []).getD (sib (i / 2 ^ k)) 0
@[simp] theorem path_length (t : List (List Nat)) (i : Nat) : (path t i).length = t.length - 1 := by simp [path]
theorem path_at {t : List (List Nat)} {i k : Nat} (h : k < t.length - 1) : (path t i)[k]'(by simpa using h) = (t.getD k []).getD (sib (i / 2 ^ k)) 0 := by simp [path]
/-- What is asked where a tree is looked at, and what it ought to be. -/
def fitL (t : List (List Nat)) (n : Nat) : List (ByteArray × Nat) := (List.range n).flatMap fun k => (upT (t.getD k [])).zip (t.getD (k + 1) [])
end Mer

namespace Ideal
open Mer
namespace Or
variable {O F : Or}
/-- Texts hashed one after the other: the values, and what is left behind. -/
def asks (O : Or) : List ByteArray → Or
  | [] => O
  | t :: ts => (O.ask (qh t)).asks ts
def vals (O : Or) : List ByteArray → List Nat
  | [] => []
  | t :: ts => O.val (qh t) :: (O.ask (qh t)).vals ts
theorem asks_append (a b : List ByteArray) : ∀ O : Or, O.asks (a ++ b) = (O.asks a).asks b := by
  induction a with
  | nil => intro O; rfl
  | cons t a ih => intro O; exact ih _
theorem vals_append (a b : List ByteArray) : ∀ O : Or, O.vals (a ++ b) = O.vals a ++ (O.asks a).vals b := by
  induction a with
  | nil => intro O; rfl
  | cons t a ih => intro O; show _ :: (O.ask (qh t)).vals (a ++ b) = _; rw [ih]; rfl
@[simp] theorem vals_length (a : List ByteArray) : ∀ O : Or, (O.vals a).length = a.length := by
  induction a with
  | nil => intro O; rfl
  | cons t a ih => intro O; simp [vals, ih]
theorem asks_take {a : List ByteArray} {k : Nat} (h : k < a.length) : O.asks (a.take (k + 1)) = (O.asks (a.take k)).ask (qh a[k]) := by
  rw [List.take_succ_eq_append_getElem h, asks_append]
  rfl
theorem vals_take {a : List ByteArray} {k : Nat} (h : k < a.length) : O.vals (a.take (k + 1)) = O.vals (a.take k) ++ [(O.asks (a.take k)).val (qh a[k])] := by
  rw [List.take_succ_eq_append_getElem h, vals_append]
  rfl
theorem len_asks (a : List ByteArray) : ∀ O : Or, (O.asks a).rows.length ≤ O.rows.length + a.length := by
  induction a with
  | nil => intro O; exact Nat.le_refl _
  | cons t a ih =>
    intro O
    have h1 := ih (O.ask (qh t))
    have h2 := len_ask (O := O) (qh t)
    show ((O.ask (qh t)).asks a).rows.length ≤ O.rows.length + (a.length + 1)
    omega
theorem fine_asks (a : List ByteArray) : ∀ O : Or, O.fine → O.rows.length + a.length < 1152921504606846976 → (O.asks a).fine ∧ ∀ x ∈ O.vals a, x < 18446744073709551616 := by
  induction a with
  | nil => intro O h _; exact ⟨h, by simp [vals]⟩
  | cons t a ih =>
    intro O h hn
    simp only [List.length_cons] at hn
    have h2 := len_ask (O := O) (qh t)
    obtain ⟨h3, h4⟩ := ih (O.ask (qh t)) (fine_ask h (by omega) _) (by omega)
    refine ⟨h3, fun x hx => ?_⟩
    rcases List.mem_cons.1 hx with rfl | hx
    · exact val_lt h (by omega) _
    · exact h4 x hx
theorem inv_asks (a : List ByteArray) : ∀ O : Or, O.Inv → (O.asks a).Inv := by
  induction a with
  | nil => intro O h; exact h
  | cons t a ih => intro O h; exact ih _ (inv_ask h _)
theorem bads_asks (a : List ByteArray) : ∀ O : Or, O.bads ≤ (O.asks a).bads := by
  induction a with
  | nil => intro O; exact Nat.le_refl _
  | cons t a ih => intro O; exact Nat.le_trans (bads_ask_le _) (ih _)
theorem get_asks_old {x : Row} {v : Nat} (a : List ByteArray) : ∀ O : Or, O.get x = some v → (O.asks a).get x = some v := by
  induction a with
  | nil => intro O h; exact h
  | cons t a ih => intro O h; exact ih _ (get_ask_old h)

/-- F tells what O tells, and maybe more. -/
def Ext (O F : Or) : Prop := ∀ x v, O.get x = some v → F.get x = some v
theorem Ext.refl (O : Or) : Ext O O := fun _ _ h => h
theorem Ext.trans {G : Or} (h : Ext O F) (k : Ext F G) : Ext O G := fun x v hx => k x v (h x v hx)
theorem ext_ask (x : Row) : Ext O (O.ask x) := fun _ _ h => get_ask_old h
theorem ext_asks (a : List ByteArray) : Ext O (O.asks a) := fun _ _ h => get_asks_old a O h
/-- What a text is hashed to; whether it was. -/
def H (F : Or) (t : ByteArray) : Nat := (F.get (qh t)).getD 0
def Knows (F : Or) (t : ByteArray) : Prop := F.get (qh t) = some (F.H t)
theorem knows_of {t : ByteArray} {v : Nat} (h : F.get (qh t) = some v) : F.H t = v ∧ F.Knows t := by
  have : F.H t = v := by unfold H; rw [h]; rfl
  exact ⟨this, by unfold Knows; rw [h, this]⟩
theorem Knows.ext {t : ByteArray} (h : O.Knows t) (e : Ext O F) : F.Knows t ∧ F.H t = O.H t := by
  have := knows_of (e _ _ h)
  exact ⟨this.2, this.1⟩
theorem val_ext {t : ByteArray} (e : Ext (O.ask (qh t)) F) : O.val (qh t) = F.H t ∧ F.Knows t := by
  have := knows_of (e _ _ (get_ask (O := O) (qh t)))
  exact ⟨this.1.symm, this.2⟩
theorem vals_ext (a : List ByteArray) : ∀ O : Or, Ext (O.asks a) F → O.vals a = a.map F.H ∧ ∀ t ∈ a, F.Knows t := by
  induction a with
  | nil => intro O _; exact ⟨rfl, by simp⟩
  | cons t a ih =>
    intro O e
    have h1 := ih (O.ask (qh t)) e
    have h2 := val_ext (O := O) (t := t) ((ext_asks a).trans e)
    refine ⟨?_, fun s hs => ?_⟩
    · show _ :: (O.ask (qh t)).vals a = _
      rw [h1.1, h2.1]
      rfl
    · rcases List.mem_cons.1 hs with rfl | hs
      · exact h2.2
      · exact h1.2 s hs
/-- What is known is asked for nothing. -/
theorem ask_known {t : ByteArray} (h : O.Knows t) : O.ask (qh t) = O ∧ O.val (qh t) = O.H t := ⟨ask_of_get h, val_of_get h⟩
theorem asks_known (a : List ByteArray) (h : ∀ t ∈ a, O.Knows t) : O.asks a = O ∧ O.vals a = a.map O.H := by
  induction a with
  | nil => exact ⟨rfl, rfl⟩
  | cons t a ih =>
    obtain ⟨h1, h2⟩ := ask_known (h t (by simp))
    obtain ⟨h3, h4⟩ := ih (fun s hs => h s (by simp [hs]))
    refine ⟨?_, ?_⟩
    · show (O.ask (qh t)).asks a = O
      rw [h1, h3]
    · show O.val (qh t) :: (O.ask (qh t)).vals a = _
      rw [h1, h2, h4]
      rfl
theorem H_lt (h : O.fine) (t : ByteArray) : O.H t < 18446744073709551616 := by
  unfold H
  cases hg : O.get (qh t) with
  | none => simp
  | some v => exact get_lt h hg
/-- One value, one text. -/
theorem H_inj (hi : O.Inv) (hb : O.bads = 0) {s t : ByteArray} (hs : O.Knows s) (ht : O.Knows t) (h : O.H s = O.H t) : s = t := by
  unfold Knows at hs ht
  rw [h] at hs
  exact (get_inj hi hb hs ht).2.2.2.1

/-! ### The levels -/
def lv (O : Or) (ls : List ByteArray) (d : Nat) : Nat → Or × List Nat
  | 0 => (O.asks (botT ls (2 ^ d)), O.vals (botT ls (2 ^ d)))
  | k + 1 => ((O.lv ls d k).1.asks (upT (O.lv ls d k).2), (O.lv ls d k).1.vals (upT (O.lv ls d k).2))
def tree (O : Or) (ls : List ByteArray) (d : Nat) : List (List Nat) := (List.range (d + 1)).map fun k => (O.lv ls d k).2
def built (O : Or) (ls : List ByteArray) (d : Nat) : Or := (O.lv ls d d).1
theorem lv_length (ls : List ByteArray) (d : Nat) : ∀ k, k ≤ d → (O.lv ls d k).2.length = 2 ^ (d - k)
  | 0, _ => by simp [lv]
  | k + 1, h => by
    have ih := lv_length ls d k (by omega)
    simp only [lv, vals_length, upT_length, ih]
    have : d - k = d - (k + 1) + 1 := by omega
    rw [this, Nat.pow_succ]
    omega
theorem lv_rows (ls : List ByteArray) (d : Nat) (hd : d ≤ 8) : ∀ k, k ≤ d → (O.lv ls d k).1.rows.length + 2 ^ (d - k) ≤ O.rows.length + 2 * 2 ^ d
  | 0, _ => by
    have h := len_asks (botT ls (2 ^ d)) O
    simp only [lv, botT_length, Nat.sub_zero] at h ⊢
    omega
  | k + 1, h => by
    have ih := lv_rows ls d hd k (by omega)
    have h1 := len_asks (upT (O.lv ls d k).2) (O.lv ls d k).1
    have h2 := lv_length (O := O) ls d k (by omega)
    have : d - k = d - (k + 1) + 1 := by omega
    rw [this, Nat.pow_succ] at ih h2
    simp only [lv, upT_length] at h1 ⊢
    omega
theorem pow_le {d : Nat} (h : d ≤ 8) : 2 ^ d ≤ 256 := Nat.pow_le_pow_right (by omega) h
theorem lv_few (ls : List ByteArray) {d : Nat} (hd : d ≤ 8) {k : Nat} (hk : k ≤ d) : (O.lv ls d k).1.rows.length ≤ O.rows.length + 512 := by
  have h1 := lv_rows (O := O) ls d hd k hk
  have h2 := pow_le hd
  have h3 : 0 < 2 ^ (d - k) := Nat.two_pow_pos _
  omega
theorem lv_fine (h : O.fine) (ls : List ByteArray) {d : Nat} (hd : d ≤ 8) (hn : O.rows.length + 1024 < 1152921504606846976) : ∀ k, k ≤ d → (O.lv ls d k).1.fine ∧ ∀ x ∈ (O.lv ls d k).2, x < 18446744073709551616
  | 0, _ => by
    have h2 := pow_le hd
    exact fine_asks _ O h (by rw [botT_length]; omega)
  | k + 1, hk => by
    have ih := lv_fine h ls hd hn k (by omega)
    have h1 := lv_few (O := O) ls hd (k := k) (by omega)
    have h2 := lv_length (O := O) ls d k (by omega)
    have h3 : 2 ^ (d - k) ≤ 256 := pow_le (by omega)
    exact fine_asks _ _ ih.1 (by rw [upT_length]; omega)
@[simp] theorem tree_length (ls : List ByteArray) (d : Nat) : (O.tree ls d).length = d + 1 := by simp [tree]
theorem tree_at {ls : List ByteArray} {d k : Nat} (h : k ≤ d) : (O.tree ls d).getD k [] = (O.lv ls d k).2 := by
  unfold tree
  rw [List.getD_eq_getElem?_getD, List.getElem?_map, List.getElem?_range (by omega)]
  rfl
theorem tree_shaped (ls : List ByteArray) {d : Nat} (hd : d ≤ 8) : shaped (O.tree ls d) = true := by
  rw [shaped_iff]
  refine ⟨by simp, by simp; omega, fun k hk => ?_⟩
  rw [tree_length] at hk ⊢
  rw [tree_at (by omega), lv_length _ _ _ (by omega)]
  rfl
theorem lv_ext (ls : List ByteArray) (d : Nat) : ∀ k, k ≤ d → Ext (O.lv ls d k).1 (O.built ls d) := by
  intro k hk
  obtain ⟨j, rfl⟩ : ∃ j, d = k + j := ⟨d - k, by omega⟩
  unfold built
  clear hk
  have : ∀ m, Ext (O.lv ls (k + j) k).1 (O.lv ls (k + j) (k + m)).1 := by
    intro m
    induction m with
    | zero => exact Ext.refl _
    | succ m ih => exact ih.trans (ext_asks _)
  exact this j
/-- The levels, by what is told of texts later on. -/
def pl (F : Or) (ls : List ByteArray) (d : Nat) : Nat → List Nat
  | 0 => (botT ls (2 ^ d)).map F.H
  | k + 1 => (upT (F.pl ls d k)).map F.H
theorem pl_length (ls : List ByteArray) (d : Nat) : ∀ k, k ≤ d → (F.pl ls d k).length = 2 ^ (d - k)
  | 0, _ => by simp [pl]
  | k + 1, h => by
    have ih := pl_length ls d k (by omega)
    simp only [pl, List.length_map, upT_length, ih]
    have : d - k = d - (k + 1) + 1 := by omega
    rw [this, Nat.pow_succ]
    omega
theorem pl_up {ls : List ByteArray} {d k j : Nat} (hk : k + 1 ≤ d) (hj : j < 2 ^ (d - (k + 1))) : (F.pl ls d (k + 1)).getD j 0 = F.H (nodeT ((F.pl ls d k).getD (2 * j) 0) ((F.pl ls d k).getD (2 * j + 1) 0)) := by
  have h2 := pl_length (F := F) ls d k (by omega)
  have : d - k = d - (k + 1) + 1 := by omega
  rw [this, Nat.pow_succ] at h2
  have hj2 : j < (F.pl ls d k).length / 2 := by rw [h2]; omega
  simp only [pl, upT]
  rw [List.getD_eq_getElem?_getD, List.getElem?_map, List.getElem?_map, List.getElem?_range hj2]
  rfl
theorem pl_bot {ls : List ByteArray} {d j : Nat} (hj : j < 2 ^ d) : (F.pl ls d 0).getD j 0 = F.H (leafT (ls.getD j .empty)) := by
  simp only [pl, botT]
  rw [List.getD_eq_getElem?_getD, List.getElem?_map, List.getElem?_map, List.getElem?_range hj]
  rfl
/-- All that a tree asked for is known. -/
def AllKnown (F : Or) (ls : List ByteArray) (d : Nat) : Prop := (∀ t ∈ botT ls (2 ^ d), F.Knows t) ∧ ∀ k, k < d → ∀ t ∈ upT (F.pl ls d k), F.Knows t
theorem lv_pl (ls : List ByteArray) (d : Nat) : ∀ k, Ext (O.lv ls d k).1 F → (O.lv ls d k).2 = F.pl ls d k
  | 0, e => (vals_ext _ O e).1
  | k + 1, e => by
    have ih := lv_pl ls d k ((ext_asks _).trans e)
    have h := (vals_ext (upT (O.lv ls d k).2) (O.lv ls d k).1 e).1
    simp only [lv, pl]
    rw [h, ih]
theorem built_known (ls : List ByteArray) (d : Nat) (e : Ext (O.built ls d) F) : AllKnown F ls d ∧ ∀ k, k ≤ d → (O.lv ls d k).2 = F.pl ls d k := by
  have hp : ∀ k, k ≤ d → (O.lv ls d k).2 = F.pl ls d k := fun k hk => lv_pl ls d k ((lv_ext ls d k hk).trans e)
  refine ⟨⟨?_, fun k hk => ?_⟩, hp⟩
  · exact (vals_ext _ O ((lv_ext ls d 0 (by omega)).trans e)).2
  · have h := (vals_ext (upT (O.lv ls d k).2) (O.lv ls d k).1 ((lv_ext ls d (k + 1) hk).trans e)).2
    rw [hp k (by omega)] at h
    exact h
/-- A tree whose texts are known draws nothing. -/
theorem lv_known {ls : List ByteArray} {d : Nat} (h : AllKnown O ls d) : ∀ k, k ≤ d → O.lv ls d k = (O, O.pl ls d k)
  | 0, _ => by
    obtain ⟨h1, h2⟩ := asks_known _ h.1
    simp only [lv, h1, h2, pl]
  | k + 1, hk => by
    have ih := lv_known h k (by omega)
    obtain ⟨h1, h2⟩ := asks_known _ (h.2 k (by omega))
    simp only [lv, ih, h1, h2, pl]
theorem built_of_known {ls : List ByteArray} {d : Nat} (h : AllKnown O ls d) : O.built ls d = O ∧ O.tree ls d = (List.range (d + 1)).map (O.pl ls d) := by
  constructor
  · unfold built
    rw [lv_known h d (Nat.le_refl _)]
  · unfold tree
    apply List.map_congr_left
    intro k hk
    rw [lv_known h k (by have := List.mem_range.1 hk; omega)]

/-! ### A climb -/
def climb (O : Or) (h i : Nat) : List Nat → Nat × Or
  | [] => (h, O)
  | b :: r => (O.ask (qh (joinT i h b))).climb (O.val (qh (joinT i h b))) (i / 2) r
theorem climb_append (p q : List Nat) : ∀ (O : Or) (h i : Nat), O.climb h i (p ++ q) = (O.climb h i p).2.climb (O.climb h i p).1 (i / 2 ^ p.length) q := by
  induction p with
  | nil => intro O h i; simp [climb]
  | cons b p ih =>
    intro O h i
    show (O.ask (qh (joinT i h b))).climb (O.val (qh (joinT i h b))) (i / 2) (p ++ q) = _
    rw [ih, Nat.div_div_eq_div_mul]
    simp only [climb, List.length_cons, Nat.pow_succ']
theorem climb_take {p : List Nat} {k : Nat} (h : k < p.length) (O : Or) (v i : Nat) : O.climb v i (p.take (k + 1)) = ((O.climb v i (p.take k)).2.val (qh (joinT (i / 2 ^ k) (O.climb v i (p.take k)).1 p[k])), (O.climb v i (p.take k)).2.ask (qh (joinT (i / 2 ^ k) (O.climb v i (p.take k)).1 p[k]))) := by
  rw [List.take_succ_eq_append_getElem h, climb_append]
  have : (p.take k).length = k := by rw [List.length_take]; omega
  rw [this]
  rfl
theorem len_climb (p : List Nat) : ∀ (O : Or) (h i : Nat), (O.climb h i p).2.rows.length ≤ O.rows.length + p.length := by
  induction p with
  | nil => intro O h i; exact Nat.le_refl _
  | cons b p ih =>
    intro O h i
    have h1 := ih (O.ask (qh (joinT i h b))) (O.val (qh (joinT i h b))) (i / 2)
    have h2 := len_ask (O := O) (qh (joinT i h b))
    show ((O.ask (qh (joinT i h b))).climb (O.val (qh (joinT i h b))) (i / 2) p).2.rows.length ≤ O.rows.length + (p.length + 1)
    omega
theorem fine_climb (p : List Nat) : ∀ (O : Or) (h i : Nat), O.fine → h < 18446744073709551616 → O.rows.length + p.length < 1152921504606846976 → (O.climb h i p).2.fine ∧ (O.climb h i p).1 < 18446744073709551616 := by
  induction p with
  | nil => intro O h i hf hh _; exact ⟨hf, hh⟩
  | cons b p ih =>
    intro O h i hf hh hn
    simp only [List.length_cons] at hn
    have h2 := len_ask (O := O) (qh (joinT i h b))
    exact ih _ _ _ (fine_ask hf (by omega) _) (val_lt hf (by omega) _) (by omega)
theorem inv_climb (p : List Nat) : ∀ (O : Or) (h i : Nat), O.Inv → (O.climb h i p).2.Inv := by
  induction p with
  | nil => intro O h i hi; exact hi
  | cons b p ih => intro O h i hi; exact ih _ _ _ (inv_ask hi _)
theorem ext_climb (p : List Nat) : ∀ (O : Or) (h i : Nat), Ext O (O.climb h i p).2 := by
  induction p with
  | nil => intro O h i; exact Ext.refl _
  | cons b p ih => intro O h i; exact (ext_ask _).trans (ih _ _ _)
/-- Where a climb leads, by what is told of texts later on. -/
def up (F : Or) (h i : Nat) : List Nat → Nat
  | [] => h
  | b :: r => F.up (F.H (joinT i h b)) (i / 2) r
def UpKnown (F : Or) (h i : Nat) : List Nat → Prop
  | [] => True
  | b :: r => F.Knows (joinT i h b) ∧ F.UpKnown (F.H (joinT i h b)) (i / 2) r
theorem climb_up (p : List Nat) : ∀ (O : Or) (h i : Nat), Ext (O.climb h i p).2 F → (O.climb h i p).1 = F.up h i p ∧ F.UpKnown h i p := by
  induction p with
  | nil => intro O h i _; exact ⟨rfl, trivial⟩
  | cons b p ih =>
    intro O h i e
    obtain ⟨h1, h2⟩ := val_ext (O := O) (t := joinT i h b) ((ext_climb p _ _ _).trans e)
    have := ih (O.ask (qh (joinT i h b))) (O.val (qh (joinT i h b))) (i / 2) e
    rw [h1] at this
    exact ⟨by show ((O.ask (qh (joinT i h b))).climb (O.val (qh (joinT i h b))) (i / 2) p).1 = _; rw [h1]; exact this.1, h2, this.2⟩
theorem climb_known (p : List Nat) : ∀ (h i : Nat), O.UpKnown h i p → O.climb h i p = (O.up h i p, O) := by
  induction p with
  | nil => intro h i _; rfl
  | cons b p ih =>
    intro h i hk
    obtain ⟨h1, h2⟩ := ask_known hk.1
    show (O.ask (qh (joinT i h b))).climb (O.val (qh (joinT i h b))) (i / 2) p = _
    rw [h1, h2]
    exact ih _ _ hk.2
/-! ### Whether texts are hashed to given values, up to the first that is not -/
def cmp (O : Or) : List (ByteArray × Nat) → Bool × Or
  | [] => (true, O)
  | (t, v) :: r => if O.val (qh t) = v then (O.ask (qh t)).cmp r else (false, O.ask (qh t))
theorem cmp_append (a b : List (ByteArray × Nat)) : ∀ O : Or, O.cmp (a ++ b) = if (O.cmp a).1 = true then (O.cmp a).2.cmp b else O.cmp a := by
  induction a with
  | nil => intro O; simp [cmp]
  | cons x a ih =>
    intro O
    obtain ⟨t, v⟩ := x
    by_cases hv : O.val (qh t) = v
    · have e : ∀ r, O.cmp ((t, v) :: r) = (O.ask (qh t)).cmp r := fun r => by simp only [cmp]; rw [if_pos hv]
      rw [List.cons_append, e, e]
      exact ih _
    · have e : ∀ r, O.cmp ((t, v) :: r) = (false, O.ask (qh t)) := fun r => by simp only [cmp]; rw [if_neg hv]
      rw [List.cons_append, e, e]
      simp
theorem cmp_snoc {a : List (ByteArray × Nat)} {t : ByteArray} {v : Nat} {O O1 : Or} (h : O.cmp a = (true, O1)) : O.cmp (a ++ [(t, v)]) = (decide (O1.val (qh t) = v), O1.ask (qh t)) := by
  rw [cmp_append, h]
  simp only [if_true, cmp]
  by_cases hv : O1.val (qh t) = v
  · rw [if_pos hv, decide_eq_true hv]
  · rw [if_neg hv, decide_eq_false hv]
theorem cmp_stop {a b : List (ByteArray × Nat)} {O O1 : Or} (h : O.cmp a = (false, O1)) : O.cmp (a ++ b) = (false, O1) := by
  rw [cmp_append, h]
  simp
theorem len_cmp (a : List (ByteArray × Nat)) : ∀ O : Or, (O.cmp a).2.rows.length ≤ O.rows.length + a.length := by
  induction a with
  | nil => intro O; exact Nat.le_refl _
  | cons x a ih =>
    intro O
    obtain ⟨t, v⟩ := x
    have h1 := ih (O.ask (qh t))
    have h2 := len_ask (O := O) (qh t)
    simp only [cmp, List.length_cons]
    split
    · omega
    · show (O.ask (qh t)).rows.length ≤ _
      omega
theorem fine_cmp (a : List (ByteArray × Nat)) : ∀ O : Or, O.fine → O.rows.length + a.length < 1152921504606846976 → (O.cmp a).2.fine := by
  induction a with
  | nil => intro O h _; exact h
  | cons x a ih =>
    intro O h hn
    obtain ⟨t, v⟩ := x
    simp only [List.length_cons] at hn
    have h2 := len_ask (O := O) (qh t)
    have h3 := fine_ask h (by omega) (qh t)
    simp only [cmp]
    split
    · exact ih _ h3 (by omega)
    · exact h3
theorem cmp_known (a : List (ByteArray × Nat)) (h : ∀ x ∈ a, O.Knows x.1 ∧ O.H x.1 = x.2) : O.cmp a = (true, O) := by
  induction a with
  | nil => rfl
  | cons x a ih =>
    obtain ⟨t, v⟩ := x
    obtain ⟨k1, k2⟩ := h (t, v) (by simp)
    obtain ⟨e1, e2⟩ := ask_known k1
    simp only [cmp]
    rw [e1, e2, if_pos k2]
    exact ih (fun y hy => h y (by simp [hy]))
def fits (O : Or) (t : List (List Nat)) : Bool × Or := if shaped t = true then O.cmp (fitL t (t.length - 1)) else (false, O)
end Or
end Ideal
end Go.Proofs.Ytllbcnficlbobaa
