/-
  What follows for trees, plainly: a climb to the root is the leaf's, with its path; roots tell leaves; a leaf set anew.
-/
import Derived.Test.YtllbcnficlbobaaMerK
namespace Go.Proofs.Ytllbcnficlbobaa.Ideal
open Mer
namespace Or
variable {O F : Or}
/-- A value of a level. -/
def node (F : Or) (ls : List ByteArray) (d k j : Nat) : Nat := (F.pl ls d k).getD j 0
theorem node_lt (h : F.fine) (ls : List ByteArray) (d : Nat) : ∀ k j, F.node ls d k j < 18446744073709551616 := by
  have hm : ∀ (l : List ByteArray) j, (l.map F.H).getD j 0 < 18446744073709551616 := fun l j => by
    rw [List.getD_eq_getElem?_getD, List.getElem?_map]
    cases l[j]? with
    | none => simp
    | some t => exact H_lt h t
  intro k j
  cases k with
  | zero => exact hm _ j
  | succ k => exact hm _ j
theorem mem_upT {l : List Nat} {m : Nat} (h : m < l.length / 2) : nodeT (l.getD (2 * m) 0) (l.getD (2 * m + 1) 0) ∈ upT l := by
  unfold upT
  exact List.mem_map.2 ⟨m, List.mem_range.2 h, rfl⟩
theorem mem_botT {ls : List ByteArray} {n m : Nat} (h : m < n) : leafT (ls.getD m .empty) ∈ botT ls n := by
  unfold botT
  exact List.mem_map.2 ⟨m, List.mem_range.2 h, rfl⟩
theorem half_lt {d k j : Nat} (hk : k + 1 ≤ d) (hj : j < 2 ^ (d - k)) : j / 2 < 2 ^ (d - (k + 1)) := by
  have : d - k = d - (k + 1) + 1 := by omega
  rw [this, Nat.pow_succ] at hj
  omega
theorem up_known {ls : List ByteArray} {d k m : Nat} (hA : AllKnown F ls d) (hk : k + 1 ≤ d) (hm : m < 2 ^ (d - (k + 1))) :
    F.node ls d (k + 1) m = F.H (nodeT (F.node ls d k (2 * m)) (F.node ls d k (2 * m + 1))) ∧ F.Knows (nodeT (F.node ls d k (2 * m)) (F.node ls d k (2 * m + 1))) := by
  refine ⟨pl_up hk hm, hA.2 k (by omega) _ (mem_upT ?_)⟩
  rw [pl_length ls d k (by omega)]
  have : d - k = d - (k + 1) + 1 := by omega
  rw [this, Nat.pow_succ]
  omega
theorem step_iff (hi : F.Inv) (hb : F.bads = 0) (hf : F.fine) {ls : List ByteArray} {d k j c b : Nat} (hA : AllKnown F ls d) (hk : k + 1 ≤ d) (hj : j < 2 ^ (d - k)) (hK : F.Knows (joinT j c b)) (hc : c < 18446744073709551616) (hbb : b < 18446744073709551616) :
    F.H (joinT j c b) = F.node ls d (k + 1) (j / 2) ↔ c = F.node ls d k j ∧ b = F.node ls d k (sib j) := by
  obtain ⟨h1, h2⟩ := up_known hA hk (half_lt hk hj)
  rw [h1]
  have n1 := node_lt hf ls d k (2 * (j / 2))
  have n2 := node_lt hf ls d k (2 * (j / 2) + 1)
  unfold joinT sib at *
  by_cases he : j % 2 = 0
  · rw [if_pos he] at hK ⊢
    rw [if_pos he]
    have e1 : 2 * (j / 2) = j := by omega
    rw [e1] at h2 n1 n2 ⊢
    constructor
    · intro h
      exact node_inj hc hbb n1 n2 (H_inj hi hb hK h2 h)
    · rintro ⟨rfl, rfl⟩
      rfl
  · rw [if_neg he] at hK ⊢
    rw [if_neg he]
    have e1 : 2 * (j / 2) = j - 1 := by omega
    have e2 : j - 1 + 1 = j := by omega
    rw [e1, e2] at h2 n2 ⊢
    rw [e1] at n1
    constructor
    · intro h
      have := node_inj hbb hc n1 n2 (H_inj hi hb hK h2 h)
      exact ⟨this.2, this.1⟩
    · rintro ⟨rfl, rfl⟩
      rfl
theorem range_cons (n : Nat) (f : Nat → Nat) : (List.range (n + 1)).map f = f 0 :: (List.range n).map fun m => f (m + 1) := by
  rw [List.range_succ_eq_map, List.map_cons, List.map_map]
  rfl
/-- A climb from a level on leads to the root just from the value there, by the values beside. -/
theorem up_iff (hi : F.Inv) (hb : F.bads = 0) (hf : F.fine) {ls : List ByteArray} {d : Nat} (hA : AllKnown F ls d) : ∀ (q : List Nat) (k c j : Nat), k + q.length = d → j < 2 ^ (d - k) → F.UpKnown c j q → (∀ x ∈ q, x < 18446744073709551616) → c < 18446744073709551616 →
    (F.up c j q = F.node ls d d 0 ↔ c = F.node ls d k j ∧ q = (List.range q.length).map fun m => F.node ls d (k + m) (sib (j / 2 ^ m)))
  | [], k, c, j, hk, hj, _, _, _ => by
    simp only [List.length_nil, Nat.add_zero] at hk
    subst hk
    rw [Nat.sub_self, Nat.pow_zero] at hj
    obtain rfl : j = 0 := by omega
    simp [up]
  | b :: r, k, c, j, hk, hj, hu, hx, hc => by
    simp only [List.length_cons] at hk
    have ih := up_iff hi hb hf hA r (k + 1) (F.H (joinT j c b)) (j / 2) (by omega) (half_lt (by omega) hj) hu.2 (fun x hx' => hx x (by simp [hx'])) (H_lt hf _)
    have hs := step_iff hi hb hf hA (k := k) (by omega) hj hu.1 hc (hx b (by simp))
    show F.up (F.H (joinT j c b)) (j / 2) r = _ ↔ _
    rw [ih, hs, List.length_cons, range_cons]
    have e : (fun m => F.node ls d (k + (m + 1)) (sib (j / 2 ^ (m + 1)))) = fun m => F.node ls d (k + 1 + m) (sib (j / 2 / 2 ^ m)) := by
      funext m
      rw [Nat.pow_succ', ← Nat.div_div_eq_div_mul, show k + (m + 1) = k + 1 + m by omega]
    rw [e]
    simp only [Nat.pow_zero, Nat.div_one, Nat.add_zero, List.cons.injEq]
    constructor
    · rintro ⟨⟨h1, h2⟩, h3⟩
      exact ⟨h1, h2, h3⟩
    · rintro ⟨h1, h2, h3⟩
      exact ⟨⟨h1, h2⟩, h3⟩
theorem leaf_iff (hi : F.Inv) (hb : F.bads = 0) {ls : List ByteArray} {d i : Nat} (hA : AllKnown F ls d) (hj : i < 2 ^ d) {s : ByteArray} (hK : F.Knows (leafT s)) : F.H (leafT s) = F.node ls d 0 i ↔ s = ls.getD i .empty := by
  have h1 : F.node ls d 0 i = F.H (leafT (ls.getD i .empty)) := pl_bot hj
  rw [h1]
  constructor
  · intro h
    exact leaf_inj (H_inj hi hb hK (hA.1 _ (mem_botT hj)) h)
  · rintro rfl
    rfl
theorem path_node {ls : List ByteArray} {d i : Nat} (hp : ∀ k, k ≤ d → (O.lv ls d k).2 = F.pl ls d k) : path (O.tree ls d) i = (List.range d).map fun m => F.node ls d (0 + m) (sib (i / 2 ^ m)) := by
  unfold path node
  rw [tree_length]
  apply List.map_congr_left
  intro k hk
  have := List.mem_range.1 hk
  rw [tree_at (by omega), hp k (by omega), Nat.zero_add]
/-- What climbs to the root of a tree is the leaf, with its path. -/
theorem binds_all (hf : O.fine) (hi : O.Inv) (hn : O.rows.length + 2048 < 1152921504606846976) (ls : List ByteArray) {d : Nat} (hd : d ≤ 8) (s : ByteArray) (i : Nat) (hil : i < 2 ^ d) (p : List Nat) (hp : p.length = d) (hx : ∀ x ∈ p, x < 18446744073709551616)
    (hb : (((O.built ls d).ask (qh (leafT s))).climb ((O.built ls d).val (qh (leafT s))) i p).2.bads = 0) :
    (((O.built ls d).ask (qh (leafT s))).climb ((O.built ls d).val (qh (leafT s))) i p).1 = ((O.lv ls d d).2).getD 0 0 ↔ s = ls.getD i .empty ∧ p = path (O.tree ls d) i := by
  have hfb := (lv_fine hf ls hd (by omega) d (Nat.le_refl _)).1
  have hfw := lv_few (O := O) ls hd (Nat.le_refl d)
  have hib : (O.built ls d).Inv := by
    have : ∀ k, (O.lv ls d k).1.Inv := fun k => by
      induction k with
      | zero => exact inv_asks _ _ hi
      | succ k ih => exact inv_asks _ _ ih
    exact this d
  have hE0 : Ext ((O.built ls d).ask (qh (leafT s))) (((O.built ls d).ask (qh (leafT s))).climb ((O.built ls d).val (qh (leafT s))) i p).2 := ext_climb p _ _ _
  have hiF := inv_climb p ((O.built ls d).ask (qh (leafT s))) ((O.built ls d).val (qh (leafT s))) i (inv_ask hib _)
  have hfa : ((O.built ls d).ask (qh (leafT s))).fine := fine_ask hfb (by show (O.lv ls d d).1.rows.length < _; omega) _
  have hla := len_ask (O := O.built ls d) (qh (leafT s))
  have hlb : (O.built ls d).rows.length ≤ O.rows.length + 512 := hfw
  have hva : (O.built ls d).val (qh (leafT s)) < 18446744073709551616 := val_lt hfb (by show (O.lv ls d d).1.rows.length < _; omega) _
  have hfF := (fine_climb p ((O.built ls d).ask (qh (leafT s))) ((O.built ls d).val (qh (leafT s))) i hfa hva (by omega)).1
  obtain ⟨h1, h2⟩ := climb_up (F := (((O.built ls d).ask (qh (leafT s))).climb ((O.built ls d).val (qh (leafT s))) i p).2) p ((O.built ls d).ask (qh (leafT s))) ((O.built ls d).val (qh (leafT s))) i (Ext.refl _)
  obtain ⟨h3, h4⟩ := val_ext hE0
  obtain ⟨hA, hlv⟩ := built_known (F := (((O.built ls d).ask (qh (leafT s))).climb ((O.built ls d).val (qh (leafT s))) i p).2) ls d ((ext_ask _).trans hE0)
  rw [h1]
  generalize (((O.built ls d).ask (qh (leafT s))).climb ((O.built ls d).val (qh (leafT s))) i p).2 = F at *
  rw [h3] at h2 hva ⊢
  rw [hlv d (Nat.le_refl _), path_node hlv]
  have := up_iff hiF hb hfF hA p 0 (F.H (leafT s)) i (by omega) (by simpa using hil) h2 hx hva
  rw [show (F.pl ls d d).getD 0 0 = F.node ls d d 0 from rfl, this, leaf_iff hiF hb hA hil h4, hp]

/-! ### Roots tell leaves -/
theorem same_up (hi : F.Inv) (hb : F.bads = 0) (hf : F.fine) {ls ms : List ByteArray} {d : Nat} (hA : AllKnown F ls d) (hB : AllKnown F ms d) : ∀ n k, k + n = d → (∀ j, j < 2 ^ (d - (k + n)) → F.node ls d (k + n) j = F.node ms d (k + n) j) → ∀ j, j < 2 ^ (d - k) → F.node ls d k j = F.node ms d k j
  | 0, k, _, h, j, hj => h j hj
  | n + 1, k, hk, h, j, hj => by
    have ih := same_up hi hb hf hA hB n (k + 1) (by omega) (by rw [show k + 1 + n = k + (n + 1) by omega]; exact h) (j / 2) (half_lt (by omega) hj)
    obtain ⟨a1, a2⟩ := up_known hA (by omega) (half_lt (k := k) (by omega) hj)
    obtain ⟨b1, b2⟩ := up_known hB (by omega) (half_lt (k := k) (by omega) hj)
    rw [a1, b1] at ih
    have := node_inj (node_lt hf _ _ _ _) (node_lt hf _ _ _ _) (node_lt hf _ _ _ _) (node_lt hf _ _ _ _) (H_inj hi hb a2 b2 ih)
    by_cases he : j % 2 = 0
    · rw [show j = 2 * (j / 2) by omega]
      exact this.1
    · rw [show j = 2 * (j / 2) + 1 by omega]
      exact this.2
theorem pl_same {ls ms : List ByteArray} {d : Nat} (h : ∀ i, i < 2 ^ d → ls.getD i .empty = ms.getD i .empty) : ∀ k, F.pl ls d k = F.pl ms d k
  | 0 => by
    simp only [pl]
    congr 1
    unfold botT
    apply List.map_congr_left
    intro i hi
    rw [h i (List.mem_range.1 hi)]
  | k + 1 => by
    simp only [pl]
    rw [pl_same h k]
theorem unlike_all (hf : O.fine) (hi : O.Inv) (hn : O.rows.length + 4096 < 1152921504606846976) (ls ms : List ByteArray) {d : Nat} (hd : d ≤ 8) (hb : ((O.built ls d).built ms d).bads = 0) :
    ((O.lv ls d d).2).getD 0 0 = (((O.built ls d).lv ms d d).2).getD 0 0 ↔ ∀ i, i < 2 ^ d → ls.getD i .empty = ms.getD i .empty := by
  have hinv : ∀ (P : Or) (ls : List ByteArray), P.Inv → (P.built ls d).Inv := fun P ls h => by
    have : ∀ k, (P.lv ls d k).1.Inv := fun k => by
      induction k with
      | zero => exact inv_asks _ _ h
      | succ k ih => exact inv_asks _ _ ih
    exact this d
  have hf1 := (lv_fine hf ls hd (by omega) d (Nat.le_refl _)).1
  have hw1 := lv_few (O := O) ls hd (Nat.le_refl d)
  have hf2 := (lv_fine (O := O.built ls d) hf1 ms hd (by show (O.lv ls d d).1.rows.length + _ < _; omega) d (Nat.le_refl _)).1
  have hi2 := hinv _ ms (hinv _ ls hi)
  have hE : Ext (O.built ls d) ((O.built ls d).built ms d) := by
    have : ∀ k, Ext (O.built ls d) ((O.built ls d).lv ms d k).1 := fun k => by
      induction k with
      | zero => exact ext_asks _
      | succ k ih => exact ih.trans (ext_asks _)
    exact this d
  obtain ⟨hA, hla⟩ := built_known (F := (O.built ls d).built ms d) ls d hE
  obtain ⟨hB, hlb⟩ := built_known (F := (O.built ls d).built ms d) ms d (Ext.refl _)
  rw [hla d (Nat.le_refl _), hlb d (Nat.le_refl _)]
  have hf2 : ((O.built ls d).built ms d).fine := hf2
  generalize (O.built ls d).built ms d = F at *
  constructor
  · intro h i hil
    have h0 := same_up hi2 hb hf2 hA hB d 0 (by omega) (by
      intro j hj
      rw [Nat.zero_add, Nat.sub_self, Nat.pow_zero] at hj
      obtain rfl : j = 0 := by omega
      rw [Nat.zero_add]
      exact h) i (by simpa using hil)
    have e1 : F.node ls d 0 i = F.H (leafT (ls.getD i .empty)) := pl_bot hil
    have e2 : F.node ms d 0 i = F.H (leafT (ms.getD i .empty)) := pl_bot hil
    rw [e1, e2] at h0
    exact leaf_inj (H_inj hi2 hb (hA.1 _ (mem_botT hil)) (hB.1 _ (mem_botT hil)) h0)
  · intro h
    rw [pl_same h]
end Or
end Go.Proofs.Ytllbcnficlbobaa.Ideal
