/-
  Mr1: MrA, MrB, MrC, MrD.
-/
import Derived.Test.YtllbcnficlbobaaMerJ
import Derived.Test.YtllbcnficlbobaaFew
import Derived.Deep.RegionHeld3
import Derived.Test.YtllbcnficlbobaaMerN
/-! The document's own layer 6: what memory keeps while its oracle goes on; Power, Leaf, Node, Shaped. -/
namespace Go.Proofs.Ytllbcnficlbobaa.Mr
open Go.RowKit
open Go.Lib (uvarint uvarint_length64)
open Ideal Ida Mer Ref3

/-- Room for n more. -/
structure Fw (O : Or) (n : Nat) : Prop where
  rows : O.rows.length + n < 4294967296
  met : O.met.length < 4294967296
  bads : O.bads + n < 4294967296
section
variable {O : Or} {n : Nat}
theorem Fw.few (h : Fw O n) : Few O := ⟨by have := h.rows; omega, h.met, by have := h.bads; omega⟩
theorem Fw.less {m : Nat} (h : Fw O n) (hm : m ≤ n) : Fw O m := ⟨by have := h.rows; omega, h.met, by have := h.bads; omega⟩
theorem Fw.ask (h : Fw O (n + 1)) (x : Row) : Fw (O.ask x) n := by
  obtain ⟨h1, h2, h3⟩ := few_ask O x
  exact ⟨by have := h.rows; omega, by rw [h2]; exact h.met, by have := h.bads; omega⟩
theorem Fw.asks : ∀ (a : List ByteArray) {O : Or}, Fw O (n + a.length) → Fw (O.asks a) n
  | [], _, h => h
  | t :: a, _, h => Fw.asks a (Fw.ask (n := n + a.length) h (qh t))
theorem Fw.climb : ∀ (p : List Nat) {O : Or} (v i : Nat), Fw O (n + p.length) → Fw (O.climb v i p).2 n
  | [], _, _, _, h => h
  | b :: p, _, v, i, h => Fw.climb p _ _ (Fw.ask (n := n + p.length) h (qh (joinT i v b)))
theorem Fw.cmp : ∀ (a : List (ByteArray × Nat)) {O : Or}, Fw O (n + a.length) → Fw (O.cmp a).2 n
  | [], _, h => h
  | (t, v) :: a, O, h => by
    have h1 := Fw.ask (n := n + a.length) h (qh t)
    simp only [Or.cmp]
    split
    · exact Fw.cmp a h1
    · exact h1.less (by omega)
end
/-- What is told fits. -/
theorem ref_fine {K : Nat → Prop} {w : World} {q : Nat} {O : Or} (h : Ref K w q O) : O.fine := by
  obtain ⟨_, _, _, h⟩ := h
  exact h.fine
/-- Blocks that came since are somebody's, too. -/
def And' (K : Nat → Prop) (w w' : World) (i : Nat) : Prop := K i ∨ (w.heap.size ≤ i ∧ i < w'.heap.size)
section
variable {K : Nat → Prop} {w w' : World} {q : Nat} {O : Or}
theorem and_on (h : On K w) (hs : w.heap.size ≤ w'.heap.size) : On (And' K w w') w' := fun k hk => by
  rcases hk with hk | hk
  · exact Nat.lt_of_lt_of_le (h k hk) hs
  · exact hk.2
theorem and_ref (h : Ref K w q O) {S : Nat → Prop} (hS : ∀ i, S i → K i) (b : Kit.But S w w') : Ref (And' K w w') w' q O :=
  (h.widen (K' := And' K w w') (fun k hk hlt => hk.resolve_right (fun e => by omega))).kept (fun k hk hlt => b.block k hlt (fun hs => hk (.inl (hS k hs))))
theorem and_below (h : Ref K w q O) (b : Below w.heap.size w w') : Ref (And' K w w') w' q O := and_ref (S := fun _ => False) h (fun _ hf => hf.elim) (Kit.But.of_below b (Nat.le_refl _) _)
theorem and_grown (h : Ref K w q O) {lit : Obj} {row : Option Nat} (hr : ∀ r, row = some r → K r) (g : (w.alloc lit).grownBy w' row) : Ref (And' K w w') w' q O :=
  (h.widen (K' := And' K w w') (fun k hk hlt => hk.resolve_right (fun e => by omega))).kept (fun k hk hlt => by
    rw [g.block k (by simp; omega) (fun e => hk (.inl (hr k e.symm)))]
    exact Below.heap_alloc _ _ _ hlt)
end
/-- A row, off some blocks. -/
theorem off_row {S : Nat → Prop} {w : World} {B : Nat} {e : TypeId} {v : Value} {n : Nat} {xs : List Value} (h : w.ownsRow B e 1 v n xs) (hs : ∀ g, v.ownBlock = some g → ¬ S g) : Kit.Off S w v xs := by
  have hl : xs.length = n := by simpa using h.1
  subst hl
  rcases h.2 with ⟨rfl, h0⟩ | ⟨g, cap, cur, rfl, hB, -, hz1, hz2, -⟩
  · obtain rfl := List.eq_nil_of_length_eq_zero h0
    exact Kit.Off.nil_ S w
  · exact ⟨_, cap, rfl, ⟨hz1, hz2⟩, .inr ⟨_, rfl, hs g rfl, h.cells (g := g) rfl⟩⟩

set_option maxRecDepth 100000 in
set_option maxHeartbeats 2000000 in
theorem power_any (n : Nat) (hn : n ≤ 8) (w : World) : Calls Try.prog 36 #[.int .i64 (n : Int)] w fun e w' => e = .returned (.int .i64 ((2 ^ n : Nat) : Int)) ∧ Below w.heap.size w w' := by
  go_enter Try.func36, Try.ntmps36
  go_wp2
  go_loopw [3, 4] (fun vk vi wr => ∃ i p : Nat, i ≤ n ∧ p = 2 ^ i ∧ vi = .int .i64 (i : Int) ∧ vk = .int .i64 (p : Int) ∧ Below w.heap.size w wr) (fun _ vi _ => n - (intOf vi).toNat)
  case atStart => exact ⟨0, 1, Nat.zero_le _, rfl, rfl, rfl, Below.refl _ _⟩
  case round =>
    obtain ⟨i, p, hi, hp, rfl, rfl, b⟩ := hrel
    by_cases hlt : i < n
    · have hlt2 : (i : Int) < (n : Int) := by omega
      have hp2 : 2 * p = 2 ^ (i + 1) := by rw [hp, Nat.pow_succ]; omega
      have hp3 : p ≤ 256 := by rw [hp]; exact Or.pow_le (by omega)
      have Hp2 := Lib.hid hp2
      clear hp hp2
      go_wp2
      go_roundw
      case rel => exact ⟨i + 1, 2 * p, hlt, Hp2.out, by go_num, by go_num, b⟩
      case measure => simp [intOf]; omega
    · obtain rfl : i = n := by omega
      have hd : decide ((i : Int) < (i : Int)) = false := by rw [decide_eq_false_iff_not]; omega
      have Hp := Lib.hid hp
      clear hp hlt
      go_wp2
      go_ret
      exact ⟨congrArg (fun x : Nat => Ending.returned (Value.int .i64 (x : Int))) Hp.out, b⟩

set_option maxHeartbeats 1000000 in
theorem rleaf_any {K : Nat → Prop} {q : Nat} {w : World} {O : Or} (h : Ref K w q O) (hB : On K w) (hf : Few O) (s : ByteArray) (hs : s.size + 4 ≤ maxLen) :
    Calls Try.prog 28 #[rptr q, .string s] w fun e w' => e = .returned (.int .u64 (O.val (qh (leafT s)) : Int)) ∧ Ref K w' q (O.ask (qh (leafT s))) ∧ Fr K w w' := by
  have hz := leaf_size s
  have H := Ref3.hash_any h hB hf (leafT s)
  have hm : maxLen = 9223372036854775807 := rfl
  have ht : (9223372036854775807 < (4 : Int) + (s.size : Int)) = False := by simp; omega
  have ht2 : (9223372036854775807 < 4 + s.size) = False := by simp; omega
  have e1 : (⟨#[108, 101, 97, 102]⟩ : ByteArray) ++ s = leafT s := rfl
  rw [← e1] at H ⊢
  generalize O.val (qh (⟨#[108, 101, 97, 102]⟩ ++ s)) = v at *
  generalize O.ask (qh (⟨#[108, 101, 97, 102]⟩ ++ s)) = O2 at *
  clear h hf hz e1 hs hm hB
  go_enter Try.func28, Try.ntmps28
  go_wp2_with fail
  refine H.mono ?_
  rintro e w1 ⟨rfl, h1, b1⟩
  go_wp2
  go_ret
  exact ⟨rfl, h1, b1⟩

set_option maxRecDepth 100000 in
set_option maxHeartbeats 2000000 in
theorem rnode_any {K : Nat → Prop} {q : Nat} {w : World} {O : Or} (h : Ref K w q O) (hB : On K w) (hf : Few O) (a b : Nat) (ha : a < 18446744073709551616) (hb : b < 18446744073709551616) :
    Calls Try.prog 30 #[rptr q, .int .u64 (a : Int), .int .u64 (b : Int)] w fun e w' => e = .returned (.int .u64 (O.val (qh (nodeT a b)) : Int)) ∧ Ref K w' q (O.ask (qh (nodeT a b))) ∧ Fr K w w' := by
  have HA := fun w => rPutUint_any a ha w
  have HB := fun w => rPutUint_any b hb w
  have HH := fun w' (h : Ref K w' q O) hB => Ref3.hash_any h hB hf (nodeT a b)
  have sa := num_size ha
  have sb := num_size hb
  rw [show nodeT a b = (⟨#[110, 111, 100, 101]⟩ : ByteArray) ++ ⟨(uvarint a).toArray⟩ ++ ⟨(uvarint b).toArray⟩ from rfl] at HH ⊢
  unfold Mer.num at sa sb
  generalize (⟨(uvarint a).toArray⟩ : ByteArray) = ta at *
  generalize (⟨(uvarint b).toArray⟩ : ByteArray) = tb at *
  have f1 : (9223372036854775807 < (4 : Int) + (ta.size : Int)) = False := by simp; omega
  have g1 : (9223372036854775807 < 4 + ta.size) = False := by simp; omega
  have f2 : (9223372036854775807 < (4 : Int) + (ta.size : Int) + (tb.size : Int)) = False := by simp; omega
  have g2 : (9223372036854775807 < 4 + ta.size + tb.size) = False := by simp; omega
  generalize O.val (qh (⟨#[110, 111, 100, 101]⟩ ++ ta ++ tb)) = v at *
  generalize O.ask (qh (⟨#[110, 111, 100, 101]⟩ ++ ta ++ tb)) = O2 at *
  clear hf sa sb ha hb
  go_enter Try.func30, Try.ntmps30
  go_wp2_with fail
  refine (HA _).mono ?_
  rintro e w1 ⟨rfl, b1⟩
  replace h := h.below b1
  have c := fr_of (K := K) b1
  clear b1 HA
  go_wp2_with fail
  refine (HB _).mono ?_
  rintro e w2 ⟨rfl, b2⟩
  replace h := h.below b2
  replace c := c.trans (fr_of (K := K) b2)
  have HX := HH _ h (on_of hB c.size)
  clear b2 HB HH h
  go_wp2_with fail
  refine HX.mono ?_
  rintro e w3 ⟨rfl, h, b3⟩
  replace c := c.trans b3
  clear HX b3
  go_wp2
  go_ret
  exact ⟨rfl, h, c⟩
end Go.Proofs.Ytllbcnficlbobaa.Mr
/-! The document's own layer 6: Shaped, Path, Climb. -/
namespace Go.Proofs.Ytllbcnficlbobaa.Mr
open Go.RowKit
open Ideal Ida Mer Mera Ref3

set_option maxRecDepth 100000 in
set_option maxHeartbeats 4000000 in
theorem rshaped_any {S : Nat → Prop} (t : List (List Nat)) (v : Value) (w : World) (hv : Kit.Tr S w v t) :
    Calls Try.prog 38 #[v] w fun e w' => e = .returned (.bool (shaped t)) ∧ Below w.heap.size w w' := by
  obtain ⟨a, cap, rfl, hc1, hc2⟩ := hv.form
  by_cases h1 : ¬ 1 ≤ t.length
  · have hs : shaped t = false := by unfold shaped; rw [decide_eq_false h1]; rfl
    have h0 : t.length = 0 := by omega
    rw [hs, h0]
    clear h1 hs hv hc1 h0
    go_enter Try.func38, Try.ntmps38
    go_wp2
    go_ret
    exact ⟨rfl, Below.refl _ _⟩
  replace h1 : 1 ≤ t.length := by omega
  by_cases h9 : ¬ t.length ≤ 9
  · have hs : shaped t = false := by unfold shaped; rw [decide_eq_false h9]; simp
    rw [hs]
    have e2 : decide ((t.length : Int) > 9) = true := by rw [decide_eq_true_iff]; omega
    have e3 : decide ((t.length : Int) < 1) = false := by rw [decide_eq_false_iff_not]; omega
    have e4 : decide (9 < t.length) = true := by rw [decide_eq_true_iff]; omega
    generalize t.length = N at *
    clear h1 h9 hs hv hc1 hc2
    go_enter Try.func38, Try.ntmps38
    go_wp2
    go_ret
    exact ⟨rfl, Below.refl _ _⟩
  replace h9 : t.length ≤ 9 := by omega
  obtain ⟨n, hn⟩ : ∃ n, n = t.length - 1 := ⟨_, rfl⟩
  obtain ⟨N, hN⟩ : ∃ N, N = t.length := ⟨_, rfl⟩
  have hn8 : n ≤ 8 := by omega
  have e2 : decide ((N : Int) > 9) = false := by rw [decide_eq_false_iff_not]; omega
  have e3 : decide ((N : Int) < 1) = false := by rw [decide_eq_false_iff_not]; omega
  have e4 : decide (9 < N) = false := by rw [decide_eq_false_iff_not]; omega
  have e1 : IntKind.i64.wrap ((N : Int) - 1) = (n : Int) := by rw [IntKind.wrap_i64]; omega
  have Hs : shaped t = true ↔ ∀ k, k < N → (t.getD k []).length = 2 ^ (n - k) := by
    rw [shaped_iff]
    constructor
    · intro h k hk
      have := h.2.2 k (by omega)
      rw [this, hn]
    · intro h
      exact ⟨by omega, by omega, fun k hk => by rw [h k (by omega), hn]⟩
  obtain ⟨ad, la0, lc0, rfl, -, -, -⟩ := hv.at_ (k := 0) (by omega)
  rw [← hN] at hv ⊢
  obtain ⟨bb, hbb⟩ : ∃ b, b = shaped t := ⟨_, rfl⟩
  rw [← hbb] at Hs ⊢
  clear hbb
  have Hn := Lib.hid hn
  have HN := Lib.hid hN
  replace Hs := Lib.hid Hs
  have Hn8 := Lib.hid hn8
  have H9 := Lib.hid h9
  clear h1 h9 hc1 hc2 hn8 hn hN
  go_enter Try.func38, Try.ntmps38
  go_wp2
  go_loopw [3] (fun vi wr => ∃ k : Nat, k ≤ N ∧ vi = .int .i64 (k : Int) ∧ Hid (∀ j, j < k → (t.getD j []).length = 2 ^ (n - j)) ∧ Below w.heap.size w wr) (fun vi _ => N - (intOf vi).toNat)
  case atStart => exact ⟨0, Nat.zero_le _, rfl, Lib.hid (fun j hj => absurd hj (Nat.not_lt_zero _)), Below.refl _ _⟩
  case round =>
    obtain ⟨k, hk, rfl, Hall, hb⟩ := hrel
    by_cases hlt : k < N
    · have hlt2 : (k : Int) < (N : Int) := by omega
      have h0 : (0 : Int) ≤ (k : Int) := by omega
      obtain ⟨ad', la, lc, e0, hc, -, -⟩ := hv.at_ (k := k) (by have := HN.out; omega)
      injection e0 with e0
      subst e0
      have hcl : ∀ w', Below w.heap.size w w' → w'.cell? (ad.add k) = some (.slice la (t.getD k []).length lc) := fun w' b => (b.cell (World.block_lt_of_cell? _ _ hc)).trans hc
      obtain ⟨d, hd⟩ : ∃ d, d = n - k := ⟨_, rfl⟩
      have hkn : k ≤ n := by have := Hn.out; have := HN.out; omega
      have hd8 : d ≤ 8 := by have := Hn8.out; omega
      have e5 : IntKind.i64.wrap ((n : Int) - (k : Int)) = (d : Int) := by rw [IntKind.wrap_i64]; have := Hn8.out; omega
      have HP := fun w => power_any d hd8 w
      have hk512 : k < 512 := by have := Hn8.out; omega
      by_cases he : (t.getD k []).length = 2 ^ d
      · have Hall2 := Lib.hid (show ∀ j, j < k + 1 → (t.getD j []).length = 2 ^ (n - j) from fun j hj => by
          rcases Nat.lt_succ_iff_lt_or_eq.1 hj with h | rfl
          · exact Hall.out j h
          · rw [he, hd])
        rw [he] at hcl
        clear he hd hkn Hall hd8 hc
        generalize 2 ^ d = p at *
        have g1 : ((p : Int) != (p : Int)) = false := by rw [bne_eq_false_iff_eq]
        go_wp2
        refine wp_region_noPanic ?_
        refine wp_region_held_drew (S := Below w.heap.size w) (by kernel_rfl) ?_ (fun hHeld => ?_)
        · exact hb.drew
        refine wpAnyH_take (i := 0) (oi := ⟨some 18, _, _, _, _, _⟩) (v := ?_) rfl (by kernel_rfl) (by kernel_rfl) (by kernel_rfl) (fun _ _ _ h => h) (Or.inl ⟨by rfl, ?_⟩) (by assumption) ?_
        rotate_left
        · (intro w' hSw; have k0 := hcl _ hSw; go_simp; try with_reducible rfl)
        simp only [Act.put, List.setIfInBounds_toArray, List.set_cons_zero, List.set_cons_succ]
        refine wpAnyH_take (i := 1) (oi := ⟨some 19, _, _, _, _, _⟩) (v := ?_) rfl (by kernel_rfl) (by kernel_rfl) (by kernel_rfl) (fun _ _ _ h => h) (Or.inl ⟨by rfl, ?_⟩) (by assumption) ?_
        rotate_left
        · (intro w' hSw; have k0 := hcl _ hSw; go_simp; try with_reducible rfl)
        simp only [Act.put, List.setIfInBounds_toArray, List.set_cons_zero, List.set_cons_succ]
        refine wpAnyH_take (i := 2) (oi := ⟨some 20, _, _, _, _, _⟩) (v := ?_) rfl (by kernel_rfl) (by kernel_rfl) (by kernel_rfl) (fun _ _ _ h => h) (Or.inl ⟨by rfl, ?_⟩) (by assumption) ?_
        rotate_left
        · (intro w' hSw; have k0 := hcl _ hSw; go_simp; try with_reducible rfl)
        simp only [Act.put, List.setIfInBounds_toArray, List.set_cons_zero, List.set_cons_succ]
        refine wpAnyH_take (i := 3) (oi := ⟨some 21, _, _, _, _, _⟩) (v := ?_) rfl (by kernel_rfl) (by kernel_rfl) (by kernel_rfl) (fun _ _ _ h => h) (Or.inl ⟨by rfl, ?_⟩) (by assumption) ?_
        rotate_left
        · (intro w' hSw; have k0 := hcl _ hSw; go_simp; try with_reducible rfl)
        simp only [Act.put, List.setIfInBounds_toArray, List.set_cons_zero, List.set_cons_succ]
        refine wpAnyH_take (i := 4) (oi := ⟨some 22, _, _, _, _, _⟩) (v := ?_) rfl (by kernel_rfl) (by kernel_rfl) (by kernel_rfl) (fun _ _ _ h => h) (Or.inl ⟨by rfl, ?_⟩) (by assumption) ?_
        rotate_left
        · (intro w' hSw; have k0 := hcl _ hSw; go_simp; try with_reducible rfl)
        simp only [Act.put, List.setIfInBounds_toArray, List.set_cons_zero, List.set_cons_succ]
        refine wpAnyH_take (i := 5) (oi := ⟨some 23, _, _, _, _, _⟩) (v := ?_) rfl (by kernel_rfl) (by kernel_rfl) (by kernel_rfl) (fun _ _ _ h => h) (Or.inl ⟨by rfl, ?_⟩) (by assumption) ?_
        rotate_left
        · (intro w' hSw; have k0 := hcl _ hSw; go_simp; try with_reducible rfl)
        simp only [Act.put, List.setIfInBounds_toArray, List.set_cons_zero, List.set_cons_succ]
        refine wpAnyH_take (i := 6) (oi := ⟨some 24, _, _, _, _, _⟩) (v := ?_) rfl (by kernel_rfl) (by kernel_rfl) (by kernel_rfl) (fun _ _ _ h => h) (Or.inl ⟨by rfl, ?_⟩) (by assumption) ?_
        rotate_left
        · (intro w' hSw; have k0 := hcl _ hSw; go_simp; try with_reducible rfl)
        simp only [Act.put, List.setIfInBounds_toArray, List.set_cons_zero, List.set_cons_succ]
        refine wpAnyH_take (i := 7) (oi := ⟨some 25, _, _, _, _, _⟩) (v := ?_) rfl (by kernel_rfl) (by kernel_rfl) (by kernel_rfl) (fun _ _ _ h => h) (Or.inl ⟨by rfl, ?_⟩) (by assumption) ?_
        rotate_left
        · (intro w' hSw; have k0 := hcl _ hSw; go_simp; try with_reducible rfl)
        simp only [Act.put, List.setIfInBounds_toArray, List.set_cons_zero, List.set_cons_succ]
        refine wpAnyH_take (i := 8) (oi := ⟨some 26, _, _, _, _, _⟩) (v := ?_) rfl (by kernel_rfl) (by kernel_rfl) (by kernel_rfl) (fun _ _ _ h => h) (Or.inl ⟨by rfl, ?_⟩) (by assumption) ?_
        rotate_left
        · (intro w' hSw; have k0 := hcl _ hSw; go_simp; try with_reducible rfl)
        simp only [Act.put, List.setIfInBounds_toArray, List.set_cons_zero, List.set_cons_succ]
        refine wpAnyH_take (i := 9) (oi := ⟨some 27, _, _, _, _, _⟩) (v := ?_) rfl (by kernel_rfl) (by kernel_rfl) (by kernel_rfl) (fun _ _ _ h => h) (Or.inl ⟨by rfl, ?_⟩) (by assumption) ?_
        rotate_left
        · (intro w' hSw; have k0 := hcl _ hSw; go_simp; try with_reducible rfl)
        simp only [Act.put, List.setIfInBounds_toArray, List.set_cons_zero, List.set_cons_succ]
        refine wpAnyH_ready (rs := [10]) (by kernel_rfl) (by simp) ?_
        refine AllReadyH.cons (o := ⟨some 28, _, _, _, _, _⟩) rfl (fun K hK => ?_) AllReadyH.nil
        go_simp
        go_at_call 36
        refine (HP _).mono ?_
        rintro e wc10 ⟨rfl, hb10⟩
        go_wp2_with fail
        refine hK.out _ _ (hb.drew.trans (hb10.mono hb.size)) (fun hHeld10 => ?_)
        clear hK K
        try simp only [Act.put, List.setIfInBounds_toArray, List.set_cons_zero, List.set_cons_succ]
        refine wpAnyH_take (i := 11) (oi := ⟨some 29, _, _, _, _, _⟩) (v := ?_) rfl (by kernel_rfl) (by kernel_rfl) (by kernel_rfl) (fun _ _ _ h => h) (Or.inl ⟨by rfl, ?_⟩) (by assumption) ?_
        rotate_left
        · (intro w' hSw; have k0 := hcl _ hSw; go_simp; try with_reducible rfl)
        simp only [Act.put, List.setIfInBounds_toArray, List.set_cons_zero, List.set_cons_succ]
        refine wpAnyH_done (by kernel_rfl) ?_ _
        refine NoPanic.normal ?_
        go_wp2
        go_roundw
        case rel => exact ⟨k + 1, hlt, by go_num, Hall2, hHeld10⟩
        case measure =>
          clear e1 e5
          simp [intOf]
          omega
      · have hf : bb = false := by
          cases hx : bb with
          | false => rfl
          | true =>
            have := Hs.out.1 hx k hlt
            rw [← hd] at this
            exact absurd this he
        subst hf
        clear hd hkn Hall Hs hd8 hc
        generalize (t.getD k []).length = z at *
        generalize 2 ^ d = p at *
        have g1 : ((z : Int) != (p : Int)) = true := by rw [bne_iff_ne]; omega
        have g2 : (z != p) = true := by rw [bne_iff_ne]; exact he
        clear he
        go_wp2
        refine wp_region_noPanic ?_
        refine wp_region_held_drew (S := Below w.heap.size w) (by kernel_rfl) ?_ (fun hHeld => ?_)
        · exact hb.drew
        refine wpAnyH_take (i := 0) (oi := ⟨some 18, _, _, _, _, _⟩) (v := ?_) rfl (by kernel_rfl) (by kernel_rfl) (by kernel_rfl) (fun _ _ _ h => h) (Or.inl ⟨by rfl, ?_⟩) (by assumption) ?_
        rotate_left
        · (intro w' hSw; have k0 := hcl _ hSw; go_simp; try with_reducible rfl)
        simp only [Act.put, List.setIfInBounds_toArray, List.set_cons_zero, List.set_cons_succ]
        refine wpAnyH_take (i := 1) (oi := ⟨some 19, _, _, _, _, _⟩) (v := ?_) rfl (by kernel_rfl) (by kernel_rfl) (by kernel_rfl) (fun _ _ _ h => h) (Or.inl ⟨by rfl, ?_⟩) (by assumption) ?_
        rotate_left
        · (intro w' hSw; have k0 := hcl _ hSw; go_simp; try with_reducible rfl)
        simp only [Act.put, List.setIfInBounds_toArray, List.set_cons_zero, List.set_cons_succ]
        refine wpAnyH_take (i := 2) (oi := ⟨some 20, _, _, _, _, _⟩) (v := ?_) rfl (by kernel_rfl) (by kernel_rfl) (by kernel_rfl) (fun _ _ _ h => h) (Or.inl ⟨by rfl, ?_⟩) (by assumption) ?_
        rotate_left
        · (intro w' hSw; have k0 := hcl _ hSw; go_simp; try with_reducible rfl)
        simp only [Act.put, List.setIfInBounds_toArray, List.set_cons_zero, List.set_cons_succ]
        refine wpAnyH_take (i := 3) (oi := ⟨some 21, _, _, _, _, _⟩) (v := ?_) rfl (by kernel_rfl) (by kernel_rfl) (by kernel_rfl) (fun _ _ _ h => h) (Or.inl ⟨by rfl, ?_⟩) (by assumption) ?_
        rotate_left
        · (intro w' hSw; have k0 := hcl _ hSw; go_simp; try with_reducible rfl)
        simp only [Act.put, List.setIfInBounds_toArray, List.set_cons_zero, List.set_cons_succ]
        refine wpAnyH_take (i := 4) (oi := ⟨some 22, _, _, _, _, _⟩) (v := ?_) rfl (by kernel_rfl) (by kernel_rfl) (by kernel_rfl) (fun _ _ _ h => h) (Or.inl ⟨by rfl, ?_⟩) (by assumption) ?_
        rotate_left
        · (intro w' hSw; have k0 := hcl _ hSw; go_simp; try with_reducible rfl)
        simp only [Act.put, List.setIfInBounds_toArray, List.set_cons_zero, List.set_cons_succ]
        refine wpAnyH_take (i := 5) (oi := ⟨some 23, _, _, _, _, _⟩) (v := ?_) rfl (by kernel_rfl) (by kernel_rfl) (by kernel_rfl) (fun _ _ _ h => h) (Or.inl ⟨by rfl, ?_⟩) (by assumption) ?_
        rotate_left
        · (intro w' hSw; have k0 := hcl _ hSw; go_simp; try with_reducible rfl)
        simp only [Act.put, List.setIfInBounds_toArray, List.set_cons_zero, List.set_cons_succ]
        refine wpAnyH_take (i := 6) (oi := ⟨some 24, _, _, _, _, _⟩) (v := ?_) rfl (by kernel_rfl) (by kernel_rfl) (by kernel_rfl) (fun _ _ _ h => h) (Or.inl ⟨by rfl, ?_⟩) (by assumption) ?_
        rotate_left
        · (intro w' hSw; have k0 := hcl _ hSw; go_simp; try with_reducible rfl)
        simp only [Act.put, List.setIfInBounds_toArray, List.set_cons_zero, List.set_cons_succ]
        refine wpAnyH_take (i := 7) (oi := ⟨some 25, _, _, _, _, _⟩) (v := ?_) rfl (by kernel_rfl) (by kernel_rfl) (by kernel_rfl) (fun _ _ _ h => h) (Or.inl ⟨by rfl, ?_⟩) (by assumption) ?_
        rotate_left
        · (intro w' hSw; have k0 := hcl _ hSw; go_simp; try with_reducible rfl)
        simp only [Act.put, List.setIfInBounds_toArray, List.set_cons_zero, List.set_cons_succ]
        refine wpAnyH_take (i := 8) (oi := ⟨some 26, _, _, _, _, _⟩) (v := ?_) rfl (by kernel_rfl) (by kernel_rfl) (by kernel_rfl) (fun _ _ _ h => h) (Or.inl ⟨by rfl, ?_⟩) (by assumption) ?_
        rotate_left
        · (intro w' hSw; have k0 := hcl _ hSw; go_simp; try with_reducible rfl)
        simp only [Act.put, List.setIfInBounds_toArray, List.set_cons_zero, List.set_cons_succ]
        refine wpAnyH_take (i := 9) (oi := ⟨some 27, _, _, _, _, _⟩) (v := ?_) rfl (by kernel_rfl) (by kernel_rfl) (by kernel_rfl) (fun _ _ _ h => h) (Or.inl ⟨by rfl, ?_⟩) (by assumption) ?_
        rotate_left
        · (intro w' hSw; have k0 := hcl _ hSw; go_simp; try with_reducible rfl)
        simp only [Act.put, List.setIfInBounds_toArray, List.set_cons_zero, List.set_cons_succ]
        refine wpAnyH_ready (rs := [10]) (by kernel_rfl) (by simp) ?_
        refine AllReadyH.cons (o := ⟨some 28, _, _, _, _, _⟩) rfl (fun K hK => ?_) AllReadyH.nil
        go_simp
        go_at_call 36
        refine (HP _).mono ?_
        rintro e wc10 ⟨rfl, hb10⟩
        go_wp2_with fail
        refine hK.out _ _ (hb.drew.trans (hb10.mono hb.size)) (fun hHeld10 => ?_)
        clear hK K
        try simp only [Act.put, List.setIfInBounds_toArray, List.set_cons_zero, List.set_cons_succ]
        refine wpAnyH_take (i := 11) (oi := ⟨some 29, _, _, _, _, _⟩) (v := ?_) rfl (by kernel_rfl) (by kernel_rfl) (by kernel_rfl) (fun _ _ _ h => h) (Or.inl ⟨by rfl, ?_⟩) (by assumption) ?_
        rotate_left
        · (intro w' hSw; have k0 := hcl _ hSw; go_simp; try with_reducible rfl)
        simp only [Act.put, List.setIfInBounds_toArray, List.set_cons_zero, List.set_cons_succ]
        refine wpAnyH_done (by kernel_rfl) ?_ _
        refine NoPanic.normal ?_
        go_wp2
        go_ret
        exact ⟨rfl, hHeld10⟩
    · obtain rfl : k = N := by omega
      have hd1 : decide ((k : Int) < (k : Int)) = false := by rw [decide_eq_false_iff_not]; omega
      have ht : bb = true := Hs.out.2 (fun j hj => Hall.out j hj)
      subst ht
      clear hlt Hall Hs
      go_wp2
      go_ret
      exact ⟨rfl, hb⟩
end Go.Proofs.Ytllbcnficlbobaa.Mr
/-! The document's own layer 6: Path, Climb. -/
namespace Go.Proofs.Ytllbcnficlbobaa.Mr
open Go.RowKit
open Ideal Ida Mer Mera Ref3

set_option maxRecDepth 100000 in
set_option maxHeartbeats 4000000 in
theorem rpath_no {S : Nat → Prop} (t : List (List Nat)) (i : Int) (hno : ¬ (shaped t = true ∧ 0 ≤ i ∧ i < ((t.getD 0 []).length : Int))) (v : Value) (w : World) (hv : Kit.Tr S w v t) :
    Calls Try.prog 20 #[v, .int .i64 i] w fun e w' => e = .returned (.tuple #[.slice none 0 0, .bool false]) ∧ Below w.heap.size w w' := by
  obtain ⟨a, cap, rfl, -, -⟩ := hv.form
  have HS := rshaped_any t _ w hv
  cases hsh : shaped t with
  | false =>
    rw [hsh] at HS
    clear hno hsh hv
    go_enter Try.func20, Try.ntmps20
    go_wp2_with fail
    refine HS.mono ?_
    rintro e w1 ⟨rfl, b⟩
    go_wp2
    go_ret2
    exact ⟨rfl, b⟩
  | true =>
    rw [hsh] at HS
    have hl1 := (shaped_iff.1 hsh).1
    by_cases h0 : i < 0
    · have e3 : decide (i < 0) = true := decide_eq_true h0
      clear hno hsh hv h0 hl1
      go_enter Try.func20, Try.ntmps20
      go_wp2_with fail
      refine HS.mono ?_
      rintro e w1 ⟨rfl, b⟩
      go_wp2
      go_ret2
      exact ⟨rfl, b⟩
    · have e3 : decide (i < 0) = false := decide_eq_false h0
      have h2 : ((t.getD 0 []).length : Int) ≤ i := by
        rcases Int.lt_or_le i ((t.getD 0 []).length : Int) with hh | hh
        · exact absurd ⟨hsh, by omega, hh⟩ hno
        · exact hh
      have hN : (0 : Int) < (t.length : Int) := by omega
      have hN2 : 0 < t.length := by omega
      have hv' := fun w' (b : Below w.heap.size w w') => (hv.below b).at_ (k := 0) (by omega)
      generalize (t.getD 0 []).length = n at *
      have e4 : decide (i ≥ (n : Int)) = true := decide_eq_true h2
      have e5 : decide ((n : Int) ≤ i) = true := decide_eq_true h2
      clear hno hsh hv h0 h2 hl1
      go_enter Try.func20, Try.ntmps20
      go_wp2_with fail
      refine HS.mono ?_
      rintro e w1 ⟨rfl, b⟩
      obtain ⟨ad, la, lc, rfl, hc, -, -⟩ := hv' _ b
      rw [add_zero'] at hc
      clear hv'
      go_wp2
      go_ret2
      exact ⟨rfl, b⟩

theorem made {w w' : World} (b : Below w.heap.size w w') : (w'.alloc (.cells #[] 42)).ownsRow w.heap.size 42 1 (.slice (some ⟨w'.heap.size, 0, none⟩) 0 0) 0 [] ∧ Below w.heap.size w (w'.alloc (.cells #[] 42)) :=
  ⟨World.ownsRow_made w' #[] 0 b.size (by unfold maxLen; omega) rfl, b.alloc b.size _⟩
theorem sib_even {j : Nat} (h : j % 2 = 0) : sib j = j + 1 := by unfold sib; rw [if_pos h]
theorem sib_odd {j : Nat} (h : ¬ j % 2 = 0) : sib j = j - 1 := by unfold sib; rw [if_neg h]
set_option maxRecDepth 100000 in
set_option maxHeartbeats 8000000 in
theorem rpath_yes {S : Nat → Prop} (t : List (List Nat)) (hs : shaped t = true) (i : Nat) (hi : i < (t.getD 0 []).length) (v : Value) (w : World) (hv : Kit.Tr S w v t) :
    Calls Try.prog 20 #[v, .int .i64 (i : Int)] w fun e w' => ∃ v', e = .returned (.tuple #[v', .bool true]) ∧ w'.ownsRow w.heap.size 42 1 v' (t.length - 1) (nums (path t i)) ∧ Below w.heap.size w w' := by
  obtain ⟨a, cap, rfl, hc1, hc2⟩ := hv.form
  have HS := rshaped_any t _ w hv
  rw [hs] at HS
  obtain ⟨hl1, hl9, hsh⟩ := shaped_iff.1 hs
  have h0l := t0_len hs
  obtain ⟨i0, hi0, hz0, hz1, hz2⟩ := info_parts infoU64
  have e3 : decide ((i : Int) < 0) = false := decide_eq_false (by omega)
  have hv' := fun w' (b : Below w.heap.size w w') => (hv.below b).at_ (k := 0) (by omega)
  obtain ⟨z, hz⟩ : ∃ z, z = (t.getD 0 []).length := ⟨_, rfl⟩
  rw [← hz] at hv' hi h0l
  obtain ⟨n, hn⟩ : ∃ n, n = t.length - 1 := ⟨_, rfl⟩
  obtain ⟨N, hN⟩ : ∃ N, N = t.length := ⟨_, rfl⟩
  rw [← hn] at h0l ⊢
  rw [← hN] at hv hc1 HS ⊢
  have e4 : decide ((i : Int) ≥ (z : Int)) = false := decide_eq_false (by omega)
  have e5 : decide (z ≤ i) = false := decide_eq_false (by omega)
  have hN0 : (0 : Int) < (N : Int) := by omega
  have hN2 : 0 < N := by omega
  have hz256 : z ≤ 256 := by rw [h0l]; exact Or.pow_le (by omega)
  have hpath : (path t i).length = n := by rw [path_length, hn]
  have Hsh := Lib.hid hsh
  have Hn := Lib.hid hn
  have HN := Lib.hid hN
  have H9 := Lib.hid hl9
  have Hzn := Lib.hid h0l
  have Hi := Lib.hid hi
  have Hp := Lib.hid hpath
  have HNn := Lib.hid (show N = n + 1 by omega)
  have Hz2 := Lib.hid hz256
  clear hs hsh hl1 hl9 hz hn hN h0l hi hc1 hc2 hpath hz256
  go_enter Try.func20, Try.ntmps20
  go_wp2_with fail
  refine HS.mono ?_
  rintro e w1 ⟨rfl, b⟩
  obtain ⟨ad, la, lc, rfl, hc, -, -⟩ := hv' _ b
  rw [add_zero'] at hc
  obtain ⟨hr0, b0⟩ := made b
  clear hv' HS b
  go_wp2
  go_loopw [1, 6, 7] (fun vj vp vi wr => ∃ k j : Nat, k ≤ n ∧ vi = .int .i64 (k : Int) ∧ vj = .int .i64 (j : Int) ∧ Hid (j = i / 2 ^ k) ∧ wr.ownsRow w.heap.size 42 1 vp k (nums ((path t i).take k)) ∧ Below w.heap.size w wr) (fun _ _ vi _ => n - (intOf vi).toNat)
  case atStart => exact ⟨0, i, Nat.zero_le _, rfl, rfl, Lib.hid (by simp), hr0, b0⟩
  case round =>
    obtain ⟨k, j, hk, rfl, rfl, Hj, hrow, hb⟩ := hrel
    clear hr0 b0 hc e3 e4 e5
    by_cases hlt : k < n
    · have hlt2 : (k : Int) + 1 < (N : Int) := by have := HNn.out; omega
      have h0 : (0 : Int) ≤ (k : Int) := by omega
      have hk3 : (k : Int) < (N : Int) := by omega
      have hkt : k < t.length := by have := Hn.out; omega
      obtain ⟨ad2, la2, lc2, e2', hc, -, ho⟩ := (hv.below hb).at_ hkt
      injection e2' with e2'
      subst e2'
      have hj : i / 2 ^ k < 2 ^ (n - k) := div_pow_lt (by have := Hi.out; rw [Hzn.out] at this; exact this) (by omega)
      have hzz : (t.getD k []).length = 2 ^ (n - k) := by rw [Hsh.out k hkt, Hn.out]
      have hj256 : i / 2 ^ k < 256 := by have := Nat.div_le_self i (2 ^ k); have := Hi.out; have := Hz2.out; omega
      rw [pow_even hlt] at hj hzz
      have hsl := sib_lt hj
      rw [← hzz] at hsl
      have hpk := path_at (t := t) (i := i) (k := k) (by have := Hn.out; omega)
      have hkp : k < (path t i).length := by rw [Hp.out]; exact hlt
      have hpt : (path t i).take (k + 1) = (path t i).take k ++ [(t.getD k []).getD (sib (i / 2 ^ k)) 0] := by rw [List.take_succ_eq_append_getElem hkp, hpk]
      obtain ⟨ad3, rfl, hcx⟩ := ho.at_ (nums_at hsl)
      have Hj2 := Lib.hid (show j / 2 = i / 2 ^ (k + 1) by rw [Hj.out, Nat.div_div_eq_div_mul, Nat.pow_succ])
      rw [← Hj.out] at hj256 hsl hcx hpt hj
      have Hpt := Lib.hid hpt
      have hm : maxLen = 9223372036854775807 := rfl
      have hk9 : k < 9 := by have := H9.out; have := Hn.out; omega
      have hl1 : k + 1 ≤ maxLen := by omega
      have hl2 : (k + 1) * 8 ≤ 140737488355328 := by omega
      generalize (t.getD k []).getD (sib j) 0 = x at *
      generalize (t.getD k []).length = z2 at *
      obtain ⟨pa, pc, rfl⟩ := Kit.own_form hrow
      clear hzz hpk hkp hpt hkt ho hm
      have hz := hb.size
      by_cases hev : j % 2 = 0
      · rw [sib_even hev] at hsl hcx
        have g : ((j : Int) % 2 == 0) = true := by rw [beq_iff_eq]; omega
        have g2 : (j % 2 == 0) = true := by rw [beq_iff_eq]; omega
        have g3 : (0 : Int) ≤ (j : Int) + 1 := by omega
        have g4 : (j : Int) + 1 < (z2 : Int) := by omega
        rw [show ad3.add (j + 1) = ⟨ad3.block, ad3.off + (j + 1), none⟩ by unfold Addr.add; simp] at hcx
        clear hj hsl hev
        go_wp2_with (at_builtin; refine Kit.wpList_append_one rfl _ _ 22 rfl w.heap.size 42 i0 (.int .u64 0) 8 Try.underlying22 hi0 hz0 hz1 hz2 rfl _ _ _ rfl hrow (.int .u64 (x : Int)) 42 rfl rfl hl1 hl2 hz ?_)
        intro v' w3 hrow3 b3 _
        have hb3 := hb.trans b3
        go_wp2
        go_roundw
        case rel => exact ⟨k + 1, j / 2, hlt, by go_num, by go_num, Hj2, by rw [Hpt.out, nums_snoc1]; exact hrow3, hb3⟩
        case measure =>
          simp [intOf]
          omega
      · rw [sib_odd hev] at hsl hcx
        have g : ((j : Int) % 2 == 0) = false := by rw [beq_eq_false_iff_ne]; omega
        have g2 : (j % 2 == 0) = false := by rw [beq_eq_false_iff_ne]; omega
        obtain ⟨jj, hjj⟩ : ∃ jj, j = jj + 1 := ⟨j - 1, by omega⟩
        have gw : IntKind.i64.wrap ((j : Int) - 1) = (jj : Int) := by rw [IntKind.wrap_i64]; omega
        rw [show j - 1 = jj by omega] at hsl hcx
        have g3 : (0 : Int) ≤ (jj : Int) := by omega
        have g4 : (jj : Int) < (z2 : Int) := by omega
        have g6 : j % 2 = 1 := by omega
        have Hjj := Lib.hid hjj
        clear hj hsl hev hjj
        go_wp2_with (at_builtin; refine Kit.wpList_append_one rfl _ _ 22 rfl w.heap.size 42 i0 (.int .u64 0) 8 Try.underlying22 hi0 hz0 hz1 hz2 rfl _ _ _ rfl hrow (.int .u64 (x : Int)) 42 rfl rfl hl1 hl2 hz ?_)
        intro v' w3 hrow3 b3 _
        have hb3 := hb.trans b3
        go_wp2
        go_roundw
        case rel => exact ⟨k + 1, j / 2, hlt, by go_num, by go_num, Hj2, by rw [Hpt.out, nums_snoc1]; exact hrow3, hb3⟩
        case measure =>
          simp [intOf]
          omega
    · obtain rfl : k = n := by omega
      have hd1 : decide ((k : Int) + 1 < (N : Int)) = false := by rw [decide_eq_false_iff_not]; have := HNn.out; omega
      have hd2 : decide (k + 1 < N) = false := by rw [decide_eq_false_iff_not]; have := HNn.out; omega
      have hk9 : k < 9 := by have := H9.out; have := Hn.out; omega
      rw [List.take_of_length_le (by rw [Hp.out]; omega)] at hrow
      clear hlt
      go_wp2
      go_ret2
      exact ⟨_, rfl, hrow, hb⟩

theorem rclimb_pow {p : List Nat} (h : p.length ≤ 8) : p.length ≤ 8 := h
set_option maxRecDepth 100000 in
set_option maxHeartbeats 4000000 in
theorem rclimb_no {q : Nat} (s : ByteArray) (i : Int) (l : List Nat) (hno : ¬ (l.length ≤ 8 ∧ 0 ≤ i ∧ i < ((2 ^ l.length : Nat) : Int))) (v : Value) (w : World) (hv : Kit.Rd w v (nums l)) :
    Calls Try.prog 22 #[rptr q, .string s, .int .i64 i, v] w fun e w' => e = .returned (.tuple #[.int .u64 0, .bool false]) ∧ Below w.heap.size w w' := by
  obtain ⟨a, cap, rfl⟩ := hv.form
  rw [nums_len]
  clear hv
  by_cases h8 : l.length ≤ 8
  · have e1 : decide ((l.length : Int) > 8) = false := by rw [decide_eq_false_iff_not]; omega
    have e2 : decide (8 < l.length) = false := by rw [decide_eq_false_iff_not]; omega
    have HP := fun w => power_any l.length h8 w
    by_cases h0 : i < 0
    · have e3 : decide (i < 0) = true := decide_eq_true h0
      generalize l.length = m at *
      clear hno h0 h8 HP
      go_enter Try.func22, Try.ntmps22
      go_wp2
      go_ret2
      exact ⟨rfl, Below.refl _ _⟩
    · have e3 : decide (i < 0) = false := decide_eq_false h0
      have h2 : ((2 ^ l.length : Nat) : Int) ≤ i := by
        rcases Int.lt_or_le i ((2 ^ l.length : Nat) : Int) with hh | hh
        · exact absurd ⟨h8, by omega, hh⟩ hno
        · exact hh
      generalize l.length = m at *
      generalize 2 ^ m = z at *
      have e4 : decide (i ≥ (z : Int)) = true := decide_eq_true h2
      have e5 : decide ((z : Int) ≤ i) = true := decide_eq_true h2
      clear hno h0 h2 h8
      go_enter Try.func22, Try.ntmps22
      go_wp2_with fail
      refine (HP _).mono ?_
      rintro e w1 ⟨rfl, b⟩
      go_wp2
      go_ret2
      exact ⟨rfl, b⟩
  · have e1 : decide ((l.length : Int) > 8) = true := by rw [decide_eq_true_iff]; omega
    have e2 : decide (8 < l.length) = true := by rw [decide_eq_true_iff]; omega
    generalize l.length = m at *
    clear hno h8
    go_enter Try.func22, Try.ntmps22
    go_wp2
    go_ret2
    exact ⟨rfl, Below.refl _ _⟩

set_option maxRecDepth 100000 in
set_option maxHeartbeats 8000000 in
theorem rclimb_yes {K : Nat → Prop} {q : Nat} {w : World} {O : Or} (h : Ref K w q O) (hB : On K w) (hf : Fw O 16) (s : ByteArray) (hs : s.size + 4 ≤ maxLen) (i : Nat) (l : List Nat) (hl : l.length ≤ 8) (hi : i < 2 ^ l.length) (hx : ∀ x ∈ l, x < 18446744073709551616) (v : Value) (hv : Kit.Off (fun i => ¬ K i) w v (nums l)) :
    Calls Try.prog 22 #[rptr q, .string s, .int .i64 (i : Int), v] w fun e w' => e = .returned (.tuple #[.int .u64 (((O.ask (qh (leafT s))).climb (O.val (qh (leafT s))) i l).1 : Int), .bool true]) ∧ Ref K w' q ((O.ask (qh (leafT s))).climb (O.val (qh (leafT s))) i l).2 ∧ Fr K w w' := by
  obtain ⟨a, cap, rfl, -, -⟩ := hv.form
  rw [nums_len] at hv ⊢
  have HL := fun w' (h : Ref K w' q O) hB => rleaf_any h hB hf.few s hs
  have HP := fun w => power_any l.length hl w
  have e1 : decide ((l.length : Int) > 8) = false := by rw [decide_eq_false_iff_not]; omega
  have e2 : decide (8 < l.length) = false := by rw [decide_eq_false_iff_not]; omega
  have e3 : decide ((i : Int) < 0) = false := decide_eq_false (by omega)
  have hf1 := Fw.ask (n := 15) hf (qh (leafT s))
  have hfi := ref_fine h
  have hfi1 := Or.fine_ask hfi (by have := hf.rows; omega) (qh (leafT s))
  have hv0 := Or.val_lt hfi (by have := hf.rows; omega) (qh (leafT s))
  have hi256 : i < 256 := by have := Or.pow_le hl; omega
  generalize O.val (qh (leafT s)) = v0 at *
  generalize O.ask (qh (leafT s)) = O1 at *
  obtain ⟨n, hn⟩ : ∃ n, n = l.length := ⟨_, rfl⟩
  rw [← hn] at hv hi HP e1 e2 hl ⊢
  obtain ⟨z, hz⟩ : ∃ z, z = 2 ^ n := ⟨_, rfl⟩
  rw [← hz] at HP hi
  have e4 : decide ((i : Int) ≥ (z : Int)) = false := decide_eq_false (by omega)
  have e5 : decide (z ≤ i) = false := decide_eq_false (by omega)
  have Hn := Lib.hid hn
  have Hx := Lib.hid hx
  have HB := Lib.hid hB
  have Hfi := Lib.hid hfi1
  have Hv0 := Lib.hid hv0
  have Hf1 := Lib.hid hf1
  have H8 := Lib.hid hl
  clear hn hz hx hB hfi hfi1 hv0 hf hf1 hi hs hl
  go_enter Try.func22, Try.ntmps22
  go_wp2_with fail
  refine (HP _).mono ?_
  rintro e w1 ⟨rfl, b⟩
  replace h := h.below b
  have c := fr_of (K := K) b
  have HLL := HL _ h (on_of HB.out b.size)
  clear HP b h HL
  go_wp2_with fail
  refine HLL.mono ?_
  rintro e w2 ⟨rfl, h, b⟩
  replace c := c.trans b
  clear HLL b e3 e4 e5
  go_wp2
  go_loopw [2, 10, 11] (fun vj vh vi wr => ∃ k j : Nat, k ≤ n ∧ vi = .int .i64 (k : Int) ∧ vj = .int .i64 (j : Int) ∧ Hid (j = i / 2 ^ k) ∧ j < 256 ∧ vh = .int .u64 (((O1.climb v0 i (l.take k)).1 : Nat) : Int) ∧ Ref K wr q (O1.climb v0 i (l.take k)).2 ∧ Fr K w wr) (fun _ _ vi _ => n - (intOf vi).toNat)
  case atStart => exact ⟨0, i, Nat.zero_le _, rfl, rfl, Lib.hid (by simp), hi256, rfl, h, c⟩
  case round =>
    clear h c
    obtain ⟨k, j, hk, rfl, rfl, Hj, hj256, rfl, h, c⟩ := hrel
    by_cases hlt : k < n
    · have hlt2 : (k : Int) < (n : Int) := by omega
      have h0 : (0 : Int) ≤ (k : Int) := by omega
      have hkl : k < l.length := by have := Hn.out; omega
      have hk9 : k < 9 := by have := H8.out; omega
      obtain ⟨ap, rfl, hcp⟩ := (hv.but c).at_ (nums_at hkl)
      rw [getD_at hkl] at hcp
      have htl : (l.take k).length = k := by rw [List.length_take]; omega
      have hff := Or.fine_climb (l.take k) O1 v0 i Hfi.out Hv0.out (by rw [htl]; have := Hf1.out.rows; omega)
      have hfw := Fw.climb (n := 1) (l.take k) v0 i (O := O1) (Hf1.out.less (by rw [htl]; omega))
      have hct := Or.climb_take hkl O1 v0 i
      have Hj2 := Lib.hid (show j / 2 = i / 2 ^ (k + 1) by rw [Hj.out, Nat.div_div_eq_div_mul, Nat.pow_succ])
      rw [← Hj.out] at hct
      have HN1 := fun w' (h : Ref K w' q (O1.climb v0 i (l.take k)).2) hB => rnode_any h hB hfw.few (O1.climb v0 i (l.take k)).1 l[k] hff.2 (Hx.out _ (List.getElem_mem _))
      have HN2 := fun w' (h : Ref K w' q (O1.climb v0 i (l.take k)).2) hB => rnode_any h hB hfw.few l[k] (O1.climb v0 i (l.take k)).1 (Hx.out _ (List.getElem_mem _)) hff.2
      have hb := on_of HB.out c.size
      generalize l[k] = x at *
      generalize (O1.climb v0 i (l.take k)).1 = cv at *
      generalize (O1.climb v0 i (l.take k)).2 = O2 at *
      have Hct := Lib.hid hct
      clear hct htl hff hfw hkl
      by_cases hev : j % 2 = 0
      · have g : ((j : Int) % 2 == 0) = true := by rw [beq_iff_eq]; omega
        have g2 : (j % 2 == 0) = true := by rw [beq_iff_eq]; omega
        have Hct2 := Lib.hid (show O1.climb v0 i (l.take (k + 1)) = (O2.val (qh (nodeT cv x)), O2.ask (qh (nodeT cv x))) by rw [Hct.out]; unfold joinT; rw [if_pos hev])
        have HH := HN1 _ h hb
        clear HN1 HN2 hev h hb
        go_wp2_with fail
        refine HH.mono ?_
        rintro e w3 ⟨rfl, h, b⟩
        replace c := c.trans b
        clear HH b
        have hj2 : j / 2 < 256 := by omega
        go_wp2
        go_roundw
        case rel => exact ⟨k + 1, j / 2, hlt, by go_num, by go_num, Hj2, hj2, by rw [Hct2.out], by rw [Hct2.out]; exact h, c⟩
        case measure =>
          simp [intOf]
          omega
      · have g : ((j : Int) % 2 == 0) = false := by rw [beq_eq_false_iff_ne]; omega
        have g2 : (j % 2 == 0) = false := by rw [beq_eq_false_iff_ne]; omega
        have g6 : j % 2 = 1 := by omega
        have Hct2 := Lib.hid (show O1.climb v0 i (l.take (k + 1)) = (O2.val (qh (nodeT x cv)), O2.ask (qh (nodeT x cv))) by rw [Hct.out]; unfold joinT; rw [if_neg hev])
        have HH := HN2 _ h hb
        clear HN1 HN2 hev h hb
        go_wp2_with fail
        refine HH.mono ?_
        rintro e w3 ⟨rfl, h, b⟩
        replace c := c.trans b
        clear HH b
        have hj2 : j / 2 < 256 := by omega
        go_wp2
        go_roundw
        case rel => exact ⟨k + 1, j / 2, hlt, by go_num, by go_num, Hj2, hj2, by rw [Hct2.out], by rw [Hct2.out]; exact h, c⟩
        case measure =>
          simp [intOf]
          omega
    · obtain rfl : k = n := by omega
      have hd1 : decide ((k : Int) < (k : Int)) = false := by rw [decide_eq_false_iff_not]; omega
      rw [List.take_of_length_le (by have := Hn.out; omega)] at h ⊢
      clear hlt
      go_wp2
      go_ret2
      exact ⟨rfl, h, c⟩
end Go.Proofs.Ytllbcnficlbobaa.Mr
/-! The document's own layer 6: Fits. -/
namespace Go.Proofs.Ytllbcnficlbobaa.Mr
open Go.RowKit
open Ideal Ida Mer Mera Ref3

theorem fit_pre (t : List (List Nat)) (n m i : Nat) (hm : m + 1 ≤ n) : ∃ r, fitL t n = (fitL t m ++ ((upT (t.getD m [])).zip (t.getD (m + 1) [])).take i) ++ r := by
  obtain ⟨r, hr⟩ := fitL_part t n (m + 1) hm
  rw [hr, fitL_succ]
  refine ⟨((upT (t.getD m [])).zip (t.getD (m + 1) [])).drop i ++ r, ?_⟩
  rw [List.append_assoc, List.append_assoc, ← List.append_assoc (List.take i _), List.take_append_drop]
theorem zip_at {l u : List Nat} {i : Nat} (h1 : i < l.length / 2) (h2 : i < u.length) : ((upT l).zip u)[i]? = some (nodeT (l.getD (2 * i) 0) (l.getD (2 * i + 1) 0), u.getD i 0) := by
  have h3 : i < ((upT l).zip u).length := by rw [List.length_zip, upT_length]; omega
  rw [List.getElem?_eq_getElem h3, List.getElem_zip, upT_at h1, getD_at h2]
set_option maxRecDepth 100000 in
set_option maxHeartbeats 8000000 in
theorem rfits_any {K : Nat → Prop} {q : Nat} {w : World} {O : Or} (h : Ref K w q O) (hB : On K w) (hf : Fw O 10000) (t : List (List Nat)) (hx : ∀ k x, x ∈ t.getD k [] → x < 18446744073709551616) (v : Value) (hv : Kit.Tr (fun i => ¬ K i) w v t) :
    Calls Try.prog 26 #[rptr q, v] w fun e w' => e = .returned (.bool (O.fits t).1) ∧ Ref K w' q (O.fits t).2 ∧ Fr K w w' := by
  obtain ⟨a, cap, rfl, hc1, hc2⟩ := hv.form
  have HS := rshaped_any t _ w hv
  cases hsh : shaped t with
  | false =>
    have e : O.fits t = (false, O) := by unfold Or.fits; rw [if_neg (by rw [hsh]; simp)]
    rw [hsh] at HS
    rw [e]
    clear hsh hx e hv hf
    go_enter Try.func26, Try.ntmps26
    go_wp2_with fail
    refine HS.mono ?_
    rintro e w1 ⟨rfl, b⟩
    replace h := h.below b
    have c := fr_of (K := K) b
    go_wp2
    go_ret
    exact ⟨rfl, h, c⟩
  | true =>
    have e : O.fits t = O.cmp (fitL t (t.length - 1)) := by unfold Or.fits; rw [if_pos hsh]
    rw [hsh] at HS
    rw [e]
    have hsi := shaped_iff.1 hsh
    have hfl := fun k hk => fitL_len hsh k hk
    obtain ⟨n, hnn⟩ : ∃ n, n = t.length - 1 := ⟨_, rfl⟩
    obtain ⟨N, hN⟩ : ∃ N, N = t.length := ⟨_, rfl⟩
    rw [← hnn] at hfl ⊢
    rw [← hN] at hv hc1 HS ⊢
    obtain ⟨ad, la0, lc0, rfl, -, -, -⟩ := hv.at_ (k := 0) (by omega)
    have Hsi := Lib.hid hsi
    have Hnn := Lib.hid hnn
    have HN := Lib.hid hN
    have Hx := Lib.hid hx
    have Hf := Lib.hid hf
    have HB := Lib.hid hB
    have Hfl := Lib.hid hfl
    clear hsh hx e hsi hnn hN hc1 hc2 hf hB hfl
    go_enter Try.func26, Try.ntmps26
    go_wp2_with fail
    refine HS.mono ?_
    rintro e w1 ⟨rfl, b⟩
    replace h := h.below b
    have c := fr_of (K := K) b
    clear HS b
    go_wp2
    go_loopw [5] (fun vi wr => ∃ (k m : Nat) (Ok : Ideal.Or), Hid (k = m + 1) ∧ k ≤ N ∧ vi = .int .i64 (k : Int) ∧ O.cmp (fitL t m) = (true, Ok) ∧ Ref K wr q Ok ∧ Fr K w wr) (fun vi _ => N - (intOf vi).toNat)
    case atStart => exact ⟨1, 0, O, Lib.hid rfl, by have := HN.out; have := Hsi.out.1; omega, rfl, rfl, h, c⟩
    case round =>
      clear h c
      obtain ⟨k, m, Ok, Hkm, hk, rfl, hcmp, h, c⟩ := hrel
      by_cases hlt : k < N
      · have hlt2 : (k : Int) < (N : Int) := by omega
        have h0 : (0 : Int) ≤ (k : Int) := by omega
        have hmn : m < n := by have := HN.out; have := Hnn.out; have := Hkm.out; omega
        have hn8 : n ≤ 8 := by have := Hsi.out.2.1; have := Hnn.out; omega
        have hk512 : k < 512 := by have := HN.out; have := Hnn.out; omega
        have hm0 : (0 : Int) ≤ (m : Int) := by omega
        have hmN : (m : Int) < (N : Int) := by have := Hkm.out; omega
        have ew : IntKind.i64.wrap ((k : Int) - 1) = (m : Int) := by rw [IntKind.wrap_i64]; have := Hkm.out; omega
        obtain ⟨ad1, la, lca, e1, hc, -, hoa⟩ := hv.at_ (k := m) (by have := HN.out; have := Hkm.out; omega)
        injection e1 with e1
        subst e1
        obtain ⟨ad2, lb, lcb, e2, hd, -, hob⟩ := hv.at_ (k := k) (by have := HN.out; omega)
        injection e2 with e2
        subst e2
        have hka : (t.getD m []).length = 2 * 2 ^ (n - k) := by rw [Hsi.out.2.2 m (by have := HN.out; have := Hkm.out; omega), ← Hnn.out, Hkm.out]; exact pow_even hmn
        have hkb : (t.getD k []).length = 2 ^ (n - k) := by rw [Hsi.out.2.2 k (by have := HN.out; omega), ← Hnn.out]
        have hz256 : 2 ^ (n - k) ≤ 256 := Or.pow_le (by omega)
        have hz1 : 1 ≤ 2 ^ (n - k) := Nat.one_le_two_pow
        have hflm := Hfl.out m (by omega)
        have hxa := Hx.out m
        have hpre := fun i => fit_pre t n m i (by omega)
        rw [← Hkm.out] at hpre
        have hsucc := fitL_succ t m
        rw [← Hkm.out] at hsucc
        have had : ¬ ¬ K ad.block := hv.off_block (by have := HN.out; omega)
        have hcd : ∀ w', Fr K w w' → w'.cell? (ad.add k) = some (.slice lb (2 ^ (n - k)) lcb) := fun w' b => by rw [← hkb]; exact (b.cell (World.block_lt_of_cell? _ _ hd) (by rw [Kit.add_block]; exact had)).trans hd
        have hcc : ∀ w', Fr K w w' → w'.cell? (ad.add m) = some (.slice la (2 * 2 ^ (n - k)) lca) := fun w' b => by rw [← hka]; exact (b.cell (World.block_lt_of_cell? _ _ hc) (by rw [Kit.add_block]; exact had)).trans hc
        rw [hka] at hoa
        rw [hkb] at hob
        obtain ⟨z, hz⟩ : ∃ z, z = 2 ^ (n - k) := ⟨_, rfl⟩
        rw [← hz] at hka hkb hoa hob hcc hcd hz1 hz256
        obtain ⟨ll, hll⟩ : ∃ l, l = t.getD m [] := ⟨_, rfl⟩
        obtain ⟨lu, hlu⟩ : ∃ l, l = t.getD k [] := ⟨_, rfl⟩
        rw [← hll] at hka hoa hxa hsucc hpre
        rw [← hlu] at hkb hob hsucc hpre
        obtain ⟨al, rfl, -⟩ := hoa.at_ (nums_at (k := 0) (by omega))
        obtain ⟨bl, rfl, -⟩ := hob.at_ (nums_at (k := 0) (by omega))
        have hzl : ((upT ll).zip lu).length = z := by rw [List.length_zip, upT_length]; omega
        have hm8 : m ≤ 8 := by omega
        have Hz := Lib.hid hz
        have Hsu := Lib.hid hsucc
        have Hpre := Lib.hid hpre
        have Hzl := Lib.hid hzl
        have Hflm := Lib.hid hflm
        have Hka := Lib.hid hka
        have Hkb := Lib.hid hkb
        have Hxa := Lib.hid hxa
        clear hz hll hlu hc hd hsucc hpre hzl hflm hka hkb hxa hn8 hmn
        have Xd := hcd _ c
        go_wp2
        go_loopw [6] (fun vj wr => ∃ (j : Nat) (Oj : Ideal.Or), j ≤ z ∧ vj = .int .i64 (j : Int) ∧ O.cmp (fitL t m ++ ((upT ll).zip lu).take j) = (true, Oj) ∧ Ref K wr q Oj ∧ Fr K w wr) (fun vj _ => z - (intOf vj).toNat)
        case atStart => exact ⟨0, Ok, Nat.zero_le _, rfl, by rw [List.take_zero, List.append_nil]; exact hcmp, h, c⟩
        case round =>
          clear h c hcmp Xd
          obtain ⟨j, Oj, hj, rfl, hcmp, h, c⟩ := hrel
          have Xd := hcd _ c
          by_cases hjl : j < z
          · have hjl2 : (j : Int) < (z : Int) := by omega
            have hj0 : (0 : Int) ≤ (j : Int) := by omega
            have g1 : (0 : Int) ≤ 2 * (j : Int) := by omega
            have g2 : 2 * (j : Int) < 2 * (z : Int) := by omega
            have g3 : (0 : Int) ≤ 2 * (j : Int) + 1 := by omega
            have g4 : 2 * (j : Int) + 1 < 2 * (z : Int) := by omega
            have hj256 : j < 256 := by omega
            have w1 : IntKind.i64.wrap (2 * (j : Int)) = 2 * (j : Int) := by rw [IntKind.wrap_i64]; omega
            have w2 : IntKind.i64.wrap (2 * (j : Int) + 1) = 2 * (j : Int) + 1 := by rw [IntKind.wrap_i64]; omega
            have w3 : (2 * (j : Int)).toNat = 2 * j := by omega
            have w4 : (2 * (j : Int) + 1).toNat = 2 * j + 1 := by omega
            have hzat := zip_at (l := ll) (u := lu) (i := j) (by rw [Hka.out]; omega) (by rw [Hkb.out]; exact hjl)
            have htk : ((upT ll).zip lu).take (j + 1) = ((upT ll).zip lu).take j ++ [(nodeT (ll.getD (2 * j) 0) (ll.getD (2 * j + 1) 0), lu.getD j 0)] := by rw [List.take_add_one, hzat]; rfl
            have hcs := Or.cmp_snoc (t := nodeT (ll.getD (2 * j) 0) (ll.getD (2 * j + 1) 0)) (v := lu.getD j 0) hcmp
            rw [List.append_assoc, ← htk] at hcs
            have hfw : Fw Oj 1 := by
              have h9 := Fw.cmp (n := 1) (fitL t m ++ ((upT ll).zip lu).take j) (O := O) (Hf.out.less (by rw [List.length_append, List.length_take, Hzl.out]; have := Hflm.out; omega))
              rw [hcmp] at h9
              exact h9
            have hp1 : ll.getD (2 * j) 0 < 18446744073709551616 := by rw [getD_at (by rw [Hka.out]; omega)]; exact Hxa.out _ (List.getElem_mem _)
            have hp2 : ll.getD (2 * j + 1) 0 < 18446744073709551616 := by rw [getD_at (by rw [Hka.out]; omega)]; exact Hxa.out _ (List.getElem_mem _)
            have HNN := fun w' (h : Ref K w' q Oj) hB => rnode_any h hB hfw.few (ll.getD (2 * j) 0) (ll.getD (2 * j + 1) 0) hp1 hp2
            have hcl : ∀ w', Fr K w w' → w'.cell? (ad.add m) = some (.slice (some al) (2 * z) lca) ∧ w'.cell? (al.add (2 * j)) = some (.int .u64 (ll.getD (2 * j) 0 : Nat)) ∧ w'.cell? ⟨al.block, al.off + (2 * j + 1), none⟩ = some (.int .u64 (ll.getD (2 * j + 1) 0 : Nat)) := fun w' b => by
              obtain ⟨a1, e1, k1⟩ := (hoa.but b).at_ (nums_at (k := 2 * j) (by rw [Hka.out]; omega))
              obtain ⟨a2, e2, k2⟩ := (hoa.but b).at_ (nums_at (k := 2 * j + 1) (by rw [Hka.out]; omega))
              cases e1
              cases e2
              rw [show al.add (2 * j + 1) = ⟨al.block, al.off + (2 * j + 1), none⟩ by unfold Addr.add; simp] at k2
              exact ⟨hcc _ b, k1, k2⟩
            have hcy : ∀ w', Fr K w w' → w'.cell? (bl.add j) = some (.int .u64 (lu.getD j 0 : Nat)) := fun w' b => by
              obtain ⟨a1, e1, k1⟩ := (hob.but b).at_ (nums_at (k := j) (by rw [Hkb.out]; omega))
              cases e1
              exact k1
            have hb := on_of HB.out c.size
            have hprej := Hpre.out (j + 1)
            have hst := fun r (O9 : Ideal.Or) (h9 : O.cmp (fitL t m ++ ((upT ll).zip lu).take (j + 1)) = (false, O9)) => Or.cmp_stop (b := r) h9
            have hret : ∀ O9, O.cmp (fitL t m ++ ((upT ll).zip lu).take (j + 1)) = (false, O9) → O.cmp (fitL t n) = (false, O9) := fun O9 h9 => by
              obtain ⟨r, hr⟩ := hprej
              rw [hr]
              exact hst r O9 h9
            generalize ll.getD (2 * j) 0 = x at *
            generalize ll.getD (2 * j + 1) 0 = y at *
            generalize lu.getD j 0 = v at *
            have hRd := h.below ((Below.refl _ _).drew)
            have HQ := HNN _ hRd hb
            generalize Oj.val (qh (nodeT x y)) = nv at *
            generalize Oj.ask (qh (nodeT x y)) = O2 at *
            have Hcs := Lib.hid hcs
            have Hret := Lib.hid hret
            clear hcs hret hst hprej hzat htk hp1 hp2 hfw HNN hcmp h hRd hb
            go_wp2
            refine wp_region_noPanic ?_
            refine wp_region_held_drew (S := Fr K w) (by kernel_rfl) ?_ (fun hHeld => ?_)
            · exact c.drew
            refine wpAnyH_take (i := 0) (oi := ⟨some 26, _, _, _, _, _⟩) (v := ?_) rfl (by kernel_rfl) (by kernel_rfl) (by kernel_rfl) (fun _ _ _ h => h) (Or.inl ⟨by rfl, ?_⟩) (by assumption) ?_
            rotate_left
            · (intro w' hSw; obtain ⟨k0, k1, k2⟩ := hcl _ hSw; go_simp; try with_reducible rfl)
            simp only [Act.put, List.setIfInBounds_toArray, List.set_cons_zero, List.set_cons_succ]
            refine wpAnyH_take (i := 1) (oi := ⟨some 27, _, _, _, _, _⟩) (v := ?_) rfl (by kernel_rfl) (by kernel_rfl) (by kernel_rfl) (fun _ _ _ h => h) (Or.inl ⟨by rfl, ?_⟩) (by assumption) ?_
            rotate_left
            · (intro w' hSw; obtain ⟨k0, k1, k2⟩ := hcl _ hSw; go_simp; try with_reducible rfl)
            simp only [Act.put, List.setIfInBounds_toArray, List.set_cons_zero, List.set_cons_succ]
            refine wpAnyH_take (i := 2) (oi := ⟨some 28, _, _, _, _, _⟩) (v := ?_) rfl (by kernel_rfl) (by kernel_rfl) (by kernel_rfl) (fun _ _ _ h => h) (Or.inl ⟨by rfl, ?_⟩) (by assumption) ?_
            rotate_left
            · (intro w' hSw; obtain ⟨k0, k1, k2⟩ := hcl _ hSw; go_simp; try with_reducible rfl)
            simp only [Act.put, List.setIfInBounds_toArray, List.set_cons_zero, List.set_cons_succ]
            refine wpAnyH_take (i := 3) (oi := ⟨some 29, _, _, _, _, _⟩) (v := ?_) rfl (by kernel_rfl) (by kernel_rfl) (by kernel_rfl) (fun _ _ _ h => h) (Or.inl ⟨by rfl, ?_⟩) (by assumption) ?_
            rotate_left
            · (intro w' hSw; obtain ⟨k0, k1, k2⟩ := hcl _ hSw; go_simp; try with_reducible rfl)
            simp only [Act.put, List.setIfInBounds_toArray, List.set_cons_zero, List.set_cons_succ]
            refine wpAnyH_take (i := 4) (oi := ⟨some 30, _, _, _, _, _⟩) (v := ?_) rfl (by kernel_rfl) (by kernel_rfl) (by kernel_rfl) (fun _ _ _ h => h) (Or.inl ⟨by rfl, ?_⟩) (by assumption) ?_
            rotate_left
            · (intro w' hSw; obtain ⟨k0, k1, k2⟩ := hcl _ hSw; go_simp; try with_reducible rfl)
            simp only [Act.put, List.setIfInBounds_toArray, List.set_cons_zero, List.set_cons_succ]
            refine wpAnyH_take (i := 5) (oi := ⟨some 31, _, _, _, _, _⟩) (v := ?_) rfl (by kernel_rfl) (by kernel_rfl) (by kernel_rfl) (fun _ _ _ h => h) (Or.inl ⟨by rfl, ?_⟩) (by assumption) ?_
            rotate_left
            · (intro w' hSw; obtain ⟨k0, k1, k2⟩ := hcl _ hSw; go_simp; try with_reducible rfl)
            simp only [Act.put, List.setIfInBounds_toArray, List.set_cons_zero, List.set_cons_succ]
            refine wpAnyH_take (i := 6) (oi := ⟨some 32, _, _, _, _, _⟩) (v := ?_) rfl (by kernel_rfl) (by kernel_rfl) (by kernel_rfl) (fun _ _ _ h => h) (Or.inl ⟨by rfl, ?_⟩) (by assumption) ?_
            rotate_left
            · (intro w' hSw; obtain ⟨k0, k1, k2⟩ := hcl _ hSw; go_simp; try with_reducible rfl)
            simp only [Act.put, List.setIfInBounds_toArray, List.set_cons_zero, List.set_cons_succ]
            refine wpAnyH_take (i := 7) (oi := ⟨some 33, _, _, _, _, _⟩) (v := ?_) rfl (by kernel_rfl) (by kernel_rfl) (by kernel_rfl) (fun _ _ _ h => h) (Or.inl ⟨by rfl, ?_⟩) (by assumption) ?_
            rotate_left
            · (intro w' hSw; obtain ⟨k0, k1, k2⟩ := hcl _ hSw; go_simp; try with_reducible rfl)
            simp only [Act.put, List.setIfInBounds_toArray, List.set_cons_zero, List.set_cons_succ]
            refine wpAnyH_take (i := 8) (oi := ⟨some 34, _, _, _, _, _⟩) (v := ?_) rfl (by kernel_rfl) (by kernel_rfl) (by kernel_rfl) (fun _ _ _ h => h) (Or.inl ⟨by rfl, ?_⟩) (by assumption) ?_
            rotate_left
            · (intro w' hSw; obtain ⟨k0, k1, k2⟩ := hcl _ hSw; go_simp; try with_reducible rfl)
            simp only [Act.put, List.setIfInBounds_toArray, List.set_cons_zero, List.set_cons_succ]
            refine wpAnyH_take (i := 9) (oi := ⟨some 35, _, _, _, _, _⟩) (v := ?_) rfl (by kernel_rfl) (by kernel_rfl) (by kernel_rfl) (fun _ _ _ h => h) (Or.inl ⟨by rfl, ?_⟩) (by assumption) ?_
            rotate_left
            · (intro w' hSw; obtain ⟨k0, k1, k2⟩ := hcl _ hSw; go_simp; try with_reducible rfl)
            simp only [Act.put, List.setIfInBounds_toArray, List.set_cons_zero, List.set_cons_succ]
            refine wpAnyH_take (i := 10) (oi := ⟨some 36, _, _, _, _, _⟩) (v := ?_) rfl (by kernel_rfl) (by kernel_rfl) (by kernel_rfl) (fun _ _ _ h => h) (Or.inl ⟨by rfl, ?_⟩) (by assumption) ?_
            rotate_left
            · (intro w' hSw; obtain ⟨k0, k1, k2⟩ := hcl _ hSw; go_simp; try with_reducible rfl)
            simp only [Act.put, List.setIfInBounds_toArray, List.set_cons_zero, List.set_cons_succ]
            refine wpAnyH_take (i := 11) (oi := ⟨some 37, _, _, _, _, _⟩) (v := ?_) rfl (by kernel_rfl) (by kernel_rfl) (by kernel_rfl) (fun _ _ _ h => h) (Or.inl ⟨by rfl, ?_⟩) (by assumption) ?_
            rotate_left
            · (intro w' hSw; obtain ⟨k0, k1, k2⟩ := hcl _ hSw; go_simp; try with_reducible rfl)
            simp only [Act.put, List.setIfInBounds_toArray, List.set_cons_zero, List.set_cons_succ]
            refine wpAnyH_take (i := 12) (oi := ⟨some 38, _, _, _, _, _⟩) (v := ?_) rfl (by kernel_rfl) (by kernel_rfl) (by kernel_rfl) (fun _ _ _ h => h) (Or.inl ⟨by rfl, ?_⟩) (by assumption) ?_
            rotate_left
            · (intro w' hSw; obtain ⟨k0, k1, k2⟩ := hcl _ hSw; go_simp; try with_reducible rfl)
            simp only [Act.put, List.setIfInBounds_toArray, List.set_cons_zero, List.set_cons_succ]
            refine wpAnyH_take (i := 13) (oi := ⟨some 39, _, _, _, _, _⟩) (v := ?_) rfl (by kernel_rfl) (by kernel_rfl) (by kernel_rfl) (fun _ _ _ h => h) (Or.inl ⟨by rfl, ?_⟩) (by assumption) ?_
            rotate_left
            · (intro w' hSw; obtain ⟨k0, k1, k2⟩ := hcl _ hSw; go_simp; try with_reducible rfl)
            simp only [Act.put, List.setIfInBounds_toArray, List.set_cons_zero, List.set_cons_succ]
            refine wpAnyH_take (i := 14) (oi := ⟨some 40, _, _, _, _, _⟩) (v := ?_) rfl (by kernel_rfl) (by kernel_rfl) (by kernel_rfl) (fun _ _ _ h => h) (Or.inl ⟨by rfl, ?_⟩) (by assumption) ?_
            rotate_left
            · (intro w' hSw; obtain ⟨k0, k1, k2⟩ := hcl _ hSw; go_simp; try with_reducible rfl)
            simp only [Act.put, List.setIfInBounds_toArray, List.set_cons_zero, List.set_cons_succ]
            refine wpAnyH_take (i := 15) (oi := ⟨some 41, _, _, _, _, _⟩) (v := ?_) rfl (by kernel_rfl) (by kernel_rfl) (by kernel_rfl) (fun _ _ _ h => h) (Or.inl ⟨by rfl, ?_⟩) (by assumption) ?_
            rotate_left
            · (intro w' hSw; obtain ⟨k0, k1, k2⟩ := hcl _ hSw; go_simp; try with_reducible rfl)
            simp only [Act.put, List.setIfInBounds_toArray, List.set_cons_zero, List.set_cons_succ]
            refine wpAnyH_take (i := 16) (oi := ⟨some 42, _, _, _, _, _⟩) (v := ?_) rfl (by kernel_rfl) (by kernel_rfl) (by kernel_rfl) (fun _ _ _ h => h) (Or.inl ⟨by rfl, ?_⟩) (by assumption) ?_
            rotate_left
            · (intro w' hSw; obtain ⟨k0, k1, k2⟩ := hcl _ hSw; go_simp; try with_reducible rfl)
            simp only [Act.put, List.setIfInBounds_toArray, List.set_cons_zero, List.set_cons_succ]
            refine wpAnyH_take (i := 17) (oi := ⟨some 43, _, _, _, _, _⟩) (v := ?_) rfl (by kernel_rfl) (by kernel_rfl) (by kernel_rfl) (fun _ _ _ h => h) (Or.inl ⟨by rfl, ?_⟩) (by assumption) ?_
            rotate_left
            · (intro w' hSw; obtain ⟨k0, k1, k2⟩ := hcl _ hSw; go_simp; try with_reducible rfl)
            simp only [Act.put, List.setIfInBounds_toArray, List.set_cons_zero, List.set_cons_succ]
            refine wpAnyH_take (i := 18) (oi := ⟨some 44, _, _, _, _, _⟩) (v := ?_) rfl (by kernel_rfl) (by kernel_rfl) (by kernel_rfl) (fun _ _ _ h => h) (Or.inl ⟨by rfl, ?_⟩) (by assumption) ?_
            rotate_left
            · (intro w' hSw; obtain ⟨k0, k1, k2⟩ := hcl _ hSw; go_simp; try with_reducible rfl)
            simp only [Act.put, List.setIfInBounds_toArray, List.set_cons_zero, List.set_cons_succ]
            refine wpAnyH_take (i := 19) (oi := ⟨some 45, _, _, _, _, _⟩) (v := ?_) rfl (by kernel_rfl) (by kernel_rfl) (by kernel_rfl) (fun _ _ _ h => h) (Or.inl ⟨by rfl, ?_⟩) (by assumption) ?_
            rotate_left
            · (intro w' hSw; obtain ⟨k0, k1, k2⟩ := hcl _ hSw; go_simp; try with_reducible rfl)
            simp only [Act.put, List.setIfInBounds_toArray, List.set_cons_zero, List.set_cons_succ]
            refine wpAnyH_ready (rs := [20]) (by kernel_rfl) (by simp) ?_
            refine AllReadyH.cons (o := ⟨some 46, _, _, _, _, _⟩) rfl (fun K hK => ?_) AllReadyH.nil
            go_simp
            go_at_call 30
            refine (HQ).mono ?_
            rintro e wc20 ⟨rfl, hr20, hb20⟩
            go_wp2_with fail
            refine hK.out _ _ (c.drew.trans hb20) (fun hHeld20 => ?_)
            clear hK K
            try simp only [Act.put, List.setIfInBounds_toArray, List.set_cons_zero, List.set_cons_succ]
            refine wpAnyH_take (i := 21) (oi := ⟨some 7, _, _, _, _, _⟩) (v := ?_) rfl (by kernel_rfl) (by kernel_rfl) (by kernel_rfl) (fun _ _ _ h => h) (Or.inl ⟨by rfl, ?_⟩) (by assumption) ?_
            rotate_left
            · (intro w' hSw; obtain ⟨k0, k1, k2⟩ := hcl _ hSw; go_simp; try with_reducible rfl)
            simp only [Act.put, List.setIfInBounds_toArray, List.set_cons_zero, List.set_cons_succ]
            refine wpAnyH_done (by kernel_rfl) ?_ _
            refine NoPanic.normal ?_
            have Yd := hcd _ hHeld20
            have Yc := hcy _ hHeld20
            by_cases hnv : nv = v
            · subst hnv
              have Hc2 := Lib.hid (show O.cmp (fitL t m ++ ((upT ll).zip lu).take (j + 1)) = (true, O2) by rw [Hcs.out, decide_eq_true rfl])
              have g8 : ((nv : Int) != (nv : Int)) = false := by rw [bne_eq_false_iff_eq]
              clear Hcs w1 w2 w3 w4
              go_wp2
              go_roundw
              case rel => exact ⟨j + 1, O2, hjl, by go_num, Hc2.out, hr20, hHeld20⟩
              case measure => simp [intOf]; omega
            · have Hc2 := Lib.hid (Hret.out O2 (by rw [Hcs.out, decide_eq_false hnv]))
              have g8 : ((nv : Int) != (v : Int)) = true := by rw [bne_iff_ne]; omega
              have g9 : (nv != v) = true := by rw [bne_iff_ne]; exact hnv
              clear Hcs hnv w1 w2 w3 w4
              go_wp2
              go_ret
              exact ⟨(congrArg (fun b : Bool × Ideal.Or => Ending.returned (Value.bool b.1)) Hc2.out).symm, by rw [Hc2.out]; exact hr20, hHeld20⟩
          · obtain rfl : j = z := by omega
            have hd1 : decide ((j : Int) < (j : Int)) = false := by rw [decide_eq_false_iff_not]; omega
            rw [List.take_of_length_le (by rw [Hzl.out]; omega)] at hcmp
            have Hc2 := Lib.hid (show O.cmp (fitL t k) = (true, Oj) by rw [Hsu.out]; exact hcmp)
            clear hcmp hjl
            go_wp2
            go_roundw
            case rel => exact ⟨k + 1, k, Oj, Lib.hid rfl, hlt, by go_num, Hc2.out, h, c⟩
            case measure => simp [intOf]; omega
      · obtain rfl : k = N := by omega
        have hd1 : decide ((k : Int) < (k : Int)) = false := by rw [decide_eq_false_iff_not]; omega
        have hmn : m = n := by have := HN.out; have := Hnn.out; have := Hkm.out; omega
        rw [hmn] at hcmp
        have Hc2 := Lib.hid hcmp
        clear hcmp hlt hmn
        go_wp2
        go_ret
        exact ⟨(congrArg (fun b : Bool × Ideal.Or => Ending.returned (Value.bool b.1)) Hc2.out).symm, by rw [Hc2.out]; exact h, c⟩
end Go.Proofs.Ytllbcnficlbobaa.Mr
