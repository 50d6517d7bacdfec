/-
  What follows, plainly, of saves on two sectors of 40 bytes, and of a crash within one.
-/
import Derived.Test.YtolanlnabdbolaaSlt
import Derived.Test.YtolanlnabdbolaaDskQ
namespace Go.Proofs.Ytolanlnabdbolaa
namespace Slt
open Dsk

/-! ### Which one counts behind one more frame -/
theorem nw_right {x y : Nat × ByteArray × Bool} {t : ByteArray} (h : (nw x y).1 = 1) : nw x ((nw x y).2.1 + 1, t, true) = (2, (nw x y).2.1 + 1, t) := by
  obtain ⟨n, u, ok⟩ := x
  obtain ⟨m, v, is_⟩ := y
  unfold nw at h ⊢
  by_cases hc : ok = true ∧ (is_ = false ∨ m ≤ n)
  · rw [if_pos hc]
    rw [if_neg (by rintro ⟨-, h | h⟩; cases h; exact absurd h (by show ¬ n + 1 ≤ n; omega)), if_pos rfl]
  · rw [if_neg hc] at h
    split at h <;> cases h
theorem nw_left {x y : Nat × ByteArray × Bool} {t : ByteArray} (h : (nw x y).1 ≠ 1) : nw ((nw x y).2.1 + 1, t, true) y = (1, (nw x y).2.1 + 1, t) := by
  obtain ⟨n, u, ok⟩ := x
  obtain ⟨m, v, is_⟩ := y
  unfold nw at h ⊢
  by_cases hc : ok = true ∧ (is_ = false ∨ m ≤ n)
  · rw [if_pos hc] at h
    exact absurd rfl h
  · rw [if_neg hc]
    cases is_ with
    | true => rw [if_pos rfl]; exact if_pos ⟨rfl, .inr (by show m ≤ m + 1; omega)⟩
    | false => exact if_pos ⟨rfl, .inl rfl⟩
/-- .. and where the other one says nothing. -/
theorem nw_alone {x y : Nat × ByteArray × Bool} (h : (nw x y).1 = 1) : (nw x (0, ⟨#[]⟩, false)).2 = (nw x y).2 := by
  obtain ⟨n, u, ok⟩ := x
  obtain ⟨m, v, is_⟩ := y
  unfold nw at h ⊢
  by_cases hc : ok = true ∧ (is_ = false ∨ m ≤ n)
  · rw [if_pos hc, if_pos ⟨hc.1, .inl rfl⟩]
  · rw [if_neg hc] at h
    split at h <;> cases h
theorem nw_none {x y : Nat × ByteArray × Bool} (h : (nw x y).1 ≠ 1) : (nw (0, ⟨#[]⟩, false) y).2 = (nw x y).2 := by
  obtain ⟨n, u, ok⟩ := x
  obtain ⟨m, v, is_⟩ := y
  unfold nw at h ⊢
  by_cases hc : ok = true ∧ (is_ = false ∨ m ≤ n)
  · rw [if_pos hc] at h
    exact absurd rfl h
  · rw [if_neg hc, if_neg (by rintro ⟨h, -⟩; cases h)]

/-! ### Two sectors of 40 bytes, flushed -/
/-- The disk with these two texts. -/
def two_ (x y : ByteArray) : Dk := ⟨40, [x, y], []⟩
theorem load_two (x y : ByteArray) : new (two_ x y) 0 1 = nw (un x) (un y) := rfl
theorem load_two2 (x y : ByteArray) : load (two_ x y) 0 1 = (nw (un x) (un y)).2 := rfl
/-- What a sector can be behind n saves. -/
def Good (n : Nat) (x : ByteArray) : Prop := x = zeros 40 ∨ ∃ k t, k ≠ 0 ∧ k ≤ n ∧ t.size ≤ 22 ∧ x = body k t 40
theorem Good.size {n : Nat} {x : ByteArray} (h : Good n x) : x.size = 40 := by
  rcases h with rfl | ⟨k, t, -, -, h, rfl⟩
  · exact zeros_size 40
  · exact body_size (by omega)
theorem Good.more {n m : Nat} {x : ByteArray} (h : Good n x) (hm : n ≤ m) : Good m x := by
  rcases h with h | ⟨k, t, h0, h1, h2, h3⟩
  · exact .inl h
  · exact .inr ⟨k, t, h0, by omega, h2, h3⟩
theorem ok_two {x y : ByteArray} (hx : x.size = 40) (hy : y.size = 40) : (two_ x y).ok := by
  refine ⟨by show 1 ≤ 2; omega, by show 2 ≤ 256; omega, by show 32 ≤ 40; omega, by show 40 ≤ 512; omega, ?_, fun x hx => by cases hx⟩
  intro s hs
  simp only [two_, List.mem_cons, List.not_mem_nil, or_false] at hs
  rcases hs with rfl | rfl
  · exact hx
  · exact hy
theorem can_two {x y : ByteArray} {t : ByteArray} (hl : (load (two_ x y) 0 1).1 + 1 < 18446744073709551616) : can (two_ x y) 0 1 t = decide (t.size ≤ 22) := by
  unfold can
  have e : (((0 : Int) ≠ 1 ∧ (two_ x y).there 0 = true ∧ (two_ x y).there 1 = true ∧ (load (two_ x y) 0 1).1 + 1 < 18446744073709551616 ∧ t.size + 18 ≤ (two_ x y).size) ↔ t.size ≤ 22) := by
    constructor
    · rintro ⟨-, -, -, -, h⟩
      have : t.size + 18 ≤ 40 := h
      omega
    · intro h
      exact ⟨by decide, rfl, rfl, hl, by show t.size + 18 ≤ 40; omega⟩
  exact decide_eq_decide.2 e
theorem begin_two {x y : ByteArray} {t : ByteArray} (hc : can (two_ x y) 0 1 t = true) : begin_ (two_ x y) 0 1 t = (two_ x y).push (if (new (two_ x y) 0 1).1 = 1 then 1 else 0) (body ((load (two_ x y) 0 1).1 + 1) t 40) := by
  unfold begin_
  rw [if_pos hc]
  unfold where_
  split <;> rfl
theorem crash_push {x y f : ByteArray} {q : Nat} (hq : q = 0 ∨ q = 1) (c : Int) : ((two_ x y).push q f).crash [c] = if q = 0 then two_ (cut f x (Dk.keepOf [c] 40 0)) y else two_ x (cut f y (Dk.keepOf [c] 40 0)) := by
  rcases hq with rfl | rfl <;> rfl
theorem flush_push2 {x y f : ByteArray} {q : Nat} (hq : q = 0 ∨ q = 1) (hf : f.size = 40) (hx : x.size = 40) (hy : y.size = 40) : ((two_ x y).push q f).flush = if q = 0 then two_ f y else two_ x f := by
  rcases hq with rfl | rfl
  · have e : ((two_ x y).push 0 f).flush = two_ (cut f x 40) y := rfl
    rw [e, cut_full hf hx]
    rfl
  · have e : ((two_ x y).push 1 f).flush = two_ x (cut f y 40) := rfl
    rw [e, cut_full hf hy]
    rfl

/-- A disk behind i texts, of which n were saved, u last. -/
def Inv (D : Dk) (n : Nat) (u : ByteArray) (i : Nat) : Prop := ∃ x y, D = two_ x y ∧ load D 0 1 = (n, u) ∧ n ≤ i ∧ Good n x ∧ Good n y
theorem inv_new : Inv (Dk.new 2 40) 0 ⟨#[]⟩ 0 := by
  refine ⟨zeros 40, zeros 40, rfl, ?_, Nat.le_refl _, .inl rfl, .inl rfl⟩
  show (nw (un (zeros 40)) (un (zeros 40))).2 = _
  rw [un_zeros]
  rfl
theorem Inv.load {D : Dk} {n i : Nat} {u : ByteArray} (h : Inv D n u i) : Slt.load D 0 1 = (n, u) := by obtain ⟨x, y, -, h, -⟩ := h; exact h
theorem Inv.pend {D : Dk} {n i : Nat} {u : ByteArray} (h : Inv D n u i) : D.pend.length = 0 := by obtain ⟨x, y, rfl, -⟩ := h; rfl
theorem Inv.can {D : Dk} {n i : Nat} {u : ByteArray} (h : Inv D n u i) (hi : i < 1000) (t : ByteArray) : Slt.can D 0 1 t = decide (t.size ≤ 22) := by
  obtain ⟨x, y, rfl, h1, h2, -⟩ := h
  exact can_two (by rw [h1]; show n + 1 < _; omega)
theorem Inv.le {D : Dk} {n i : Nat} {u : ByteArray} (h : Inv D n u i) : n ≤ i := by obtain ⟨x, y, -, -, h, -⟩ := h; exact h
theorem Inv.skip {D : Dk} {n i : Nat} {u : ByteArray} (h : Inv D n u i) (hi : i < 1000) {t : ByteArray} (ht : ¬ t.size ≤ 22) : Inv (Slt.save D 0 1 t) n u (i + 1) := by
  have hc := h.can hi t
  rw [decide_eq_false ht] at hc
  have e : Slt.save D 0 1 t = D := by unfold Slt.save; rw [if_neg (by rw [hc]; decide)]
  rw [e]
  obtain ⟨x, y, h0, h1, h2, h3⟩ := h
  exact ⟨x, y, h0, h1, by omega, h3⟩
theorem Inv.save {D : Dk} {n i : Nat} {u : ByteArray} (h : Inv D n u i) (hi : i < 1000) {t : ByteArray} (ht : t.size ≤ 22) : Inv (Slt.save D 0 1 t) (n + 1) t (i + 1) := by
  have hc := h.can hi t
  rw [decide_eq_true ht] at hc
  obtain ⟨x, y, rfl, h1, h2, hx, hy⟩ := h
  have hf : (body (n + 1) t 40).size = 40 := body_size (by omega)
  have hu := un_body (n := n + 1) (t := t) (z := 40) (by omega) (by omega) (by omega) (by omega) (by omega)
  have hg : Good (n + 1) (body (n + 1) t 40) := .inr ⟨n + 1, t, by omega, Nat.le_refl _, ht, rfl⟩
  have hn : (nw (un x) (un y)).2.1 = n := by rw [load_two2] at h1; rw [h1]
  unfold Slt.save
  rw [if_pos hc, begin_two hc, h1, load_two]
  by_cases hq : (nw (un x) (un y)).1 = 1
  · rw [if_pos hq, flush_push2 (.inr rfl) hf hx.size hy.size, if_neg (by decide)]
    refine ⟨x, _, rfl, ?_, by omega, hx.more (by omega), hg⟩
    have e := nw_right (t := t) hq
    rw [hn] at e
    rw [load_two2, hu, e]
  · rw [if_neg hq, flush_push2 (.inl rfl) hf hx.size hy.size, if_pos rfl]
    refine ⟨_, y, rfl, ?_, by omega, hg, hy.more (by omega)⟩
    have e := nw_left (t := t) hq
    rw [hn] at e
    rw [load_two2, hu, e]
theorem keep_le (c : Int) : Dk.keepOf [c] 40 0 ≤ 40 := Dk.keepOf_le _ _ _
theorem keep_all {c : Int} (h : c ≥ 40) : Dk.keepOf [c] 40 0 = 40 := by
  show (if c < 0 then 0 else if ((40 : Nat) : Int) < c then 40 else c.toNat) = 40
  rw [if_neg (by omega)]
  split <;> omega
theorem torn_good {o t : ByteArray} {n c : Nat} (hn : n < 1000) (ho : Good n o) (ht : t.size ≤ 22) (hc : c ≤ 40) :
    un (cut (body (n + 1) t 40) o c) = (0, ⟨#[]⟩, false) ∨ cut (body (n + 1) t 40) o c = o ∨ cut (body (n + 1) t 40) o c = body (n + 1) t 40 := by
  have h : (un (cut (body (n + 1) t 40) o c)).2.2 = false ∨ cut (body (n + 1) t 40) o c = o ∨ cut (body (n + 1) t 40) o c = body (n + 1) t 40 := by
    rcases ho with rfl | ⟨k, x, h0, h1, h2, rfl⟩
    · exact torn (n := 0) (x := ⟨#[]⟩) (by omega) (by omega) (by omega) (by omega) (.inl ⟨rfl, rfl⟩) (by omega) hc
    · exact torn (n := k) (x := x) (by omega) (by omega) (by omega) (by omega) (.inr ⟨h0, by omega, rfl⟩) (by omega) hc
  rcases h with h | h
  · rcases un_cases (cut (body (n + 1) t 40) o c) with h2 | h2
    · rw [h] at h2; cases h2.1
    · exact .inl h2
  · exact .inr h
/-- What a crash within one more save leaves. -/
theorem Inv.crash {D : Dk} {n i : Nat} {u : ByteArray} (h : Inv D n u i) (hi : i < 1000) (t : ByteArray) (c : Int) :
    ∃ x y, ((begin_ D 0 1 t).crash [c]) = two_ x y ∧ x.size = 40 ∧ y.size = 40 ∧
      (Slt.load ((begin_ D 0 1 t).crash [c]) 0 1 = (n, u) ∨ (t.size ≤ 22 ∧ Slt.load ((begin_ D 0 1 t).crash [c]) 0 1 = (n + 1, t))) ∧
      (t.size ≤ 22 → c ≥ 40 → Slt.load ((begin_ D 0 1 t).crash [c]) 0 1 = (n + 1, t)) := by
  have hc := h.can hi t
  by_cases ht : t.size ≤ 22
  · rw [decide_eq_true ht] at hc
    obtain ⟨x, y, rfl, h1, h2, hx, hy⟩ := h
    have hf : (body (n + 1) t 40).size = 40 := body_size (by omega)
    have hu := un_body (n := n + 1) (t := t) (z := 40) (by omega) (by omega) (by omega) (by omega) (by omega)
    rw [load_two2] at h1
    have hn : (nw (un x) (un y)).2.1 = n := by rw [h1]
    have hk := keep_le c
    have hall := fun h => @keep_all c h
    have eb := begin_two hc
    rw [load_two2, h1, load_two] at eb
    rw [eb]
    generalize Dk.keepOf [c] 40 0 = kk at *
    by_cases hq : (nw (un x) (un y)).1 = 1
    · have e := nw_right (t := t) hq
      rw [hn] at e
      have ec := crash_push (x := x) (y := y) (f := body (n + 1) t 40) (.inr (rfl : 1 = 1)) c
      rw [if_neg (by decide)] at ec
      rw [if_pos hq, ec]
      refine ⟨x, _, rfl, hx.size, cut_size hf hy.size (keep_le c), ?_, fun _ h => ?_⟩
      · rw [load_two2]
        rcases torn_good (n := n) (by omega) hy ht (keep_le c) with h | h | h
        · rw [h]; exact .inl ((nw_alone hq).trans h1)
        · rw [h]; exact .inl h1
        · rw [h, hu, e]; exact .inr ⟨ht, rfl⟩
      · rw [keep_all h, cut_full hf hy.size, load_two2, hu, e]
    · have e := nw_left (t := t) hq
      rw [hn] at e
      have ec := crash_push (x := x) (y := y) (f := body (n + 1) t 40) (.inl (rfl : 0 = 0)) c
      rw [if_pos rfl] at ec
      rw [if_neg hq, ec]
      refine ⟨_, y, rfl, cut_size hf hx.size (keep_le c), hy.size, ?_, fun _ h => ?_⟩
      · rw [load_two2]
        rcases torn_good (n := n) (by omega) hx ht (keep_le c) with h | h | h
        · rw [h]; exact .inl ((nw_none hq).trans h1)
        · rw [h]; exact .inl h1
        · rw [h, hu, e]; exact .inr ⟨ht, rfl⟩
      · rw [keep_all h, cut_full hf hx.size, load_two2, hu, e]
  · rw [decide_eq_false ht] at hc
    have eb : begin_ D 0 1 t = D := by unfold begin_; rw [if_neg (by rw [hc]; decide)]
    obtain ⟨x, y, rfl, h1, h2, hx, hy⟩ := h
    rw [eb]
    have e : (two_ x y).crash [c] = two_ x y := rfl
    rw [e]
    exact ⟨x, y, rfl, hx.size, hy.size, .inl h1, fun h => absurd h ht⟩
/-- .. and a save behind it. -/
theorem save_two {x y : ByteArray} {m : Nat} {s : ByteArray} (hx : x.size = 40) (hy : y.size = 40) (h : Slt.load (two_ x y) 0 1 = (m, s)) (hm : m < 1000) (t : ByteArray) :
    Slt.can (two_ x y) 0 1 t = decide (t.size ≤ 22) ∧ Slt.load (Slt.save (two_ x y) 0 1 t) 0 1 = if t.size ≤ 22 then (m + 1, t) else (m, s) := by
  have hc := can_two (t := t) (x := x) (y := y) (by rw [h]; show m + 1 < _; omega)
  refine ⟨hc, ?_⟩
  by_cases ht : t.size ≤ 22
  · rw [decide_eq_true ht] at hc
    rw [if_pos ht]
    have hf : (body (m + 1) t 40).size = 40 := body_size (by omega)
    have hu := un_body (n := m + 1) (t := t) (z := 40) (by omega) (by omega) (by omega) (by omega) (by omega)
    have hn : (nw (un x) (un y)).2.1 = m := by rw [load_two2] at h; rw [h]
    unfold Slt.save
    rw [if_pos hc, begin_two hc, h, load_two]
    by_cases hq : (nw (un x) (un y)).1 = 1
    · have e := nw_right (t := t) hq
      rw [hn] at e
      rw [if_pos hq, flush_push2 (.inr rfl) hf hx hy, if_neg (by decide), load_two2, hu, e]
    · have e := nw_left (t := t) hq
      rw [hn] at e
      rw [if_neg hq, flush_push2 (.inl rfl) hf hx hy, if_pos rfl, load_two2, hu, e]
  · rw [decide_eq_false ht] at hc
    unfold Slt.save
    rw [if_neg (by rw [hc]; decide), if_neg ht, h]
end Slt
end Go.Proofs.Ytolanlnabdbolaa
