/-
  Plain facts on the bytes of numbers and texts (no program): what is put is taken as it was, in one way alone.
-/
import Derived.Lib.Varint
namespace Go.Proofs.Ytdiocnehejeldaa.Leb
open Go.Lib (uvarint uvarint_small uvarint_big uvarint_length64 uvarint_pos)

/-- The number with whose bytes a text begins, and what is left: 'i' bytes are read, 'acc' is what they say. -/
def decFrom : Nat → Nat → List UInt8 → Option (Nat × List UInt8)
  | _, _, [] => none
  | i, acc, c :: r =>
    if 10 ≤ i then none
    else if 128 ≤ c.toNat then decFrom (i + 1) (acc + c.toNat % 128 * 128 ^ i) r
    else if (0 < i ∧ c.toNat = 0) ∨ (i = 9 ∧ 1 < c.toNat) then none
    else some (acc + c.toNat * 128 ^ i, r)

def dec (l : List UInt8) : Option (Nat × List UInt8) := decFrom 0 0 l

theorem ofNat_toNat (c : UInt8) : (c.toNat).toUInt8 = c := by
  apply UInt8.toNat_inj.1
  have := c.toNat_lt
  simp [Nat.toUInt8]

theorem toNat_small {x : Nat} (h : x < 256) : (x.toUInt8).toNat = x := by
  simp [Nat.toUInt8, UInt8.toNat_ofNat']
  omega

theorem ten_cases {i : Nat} (h : i ≤ 9) : i = 0 ∨ i = 1 ∨ i = 2 ∨ i = 3 ∨ i = 4 ∨ i = 5 ∨ i = 6 ∨ i = 7 ∨ i = 8 ∨ i = 9 := by omega

theorem decFrom_put : ∀ (fuel x i acc : Nat) (rest : List UInt8), x ≤ fuel → i ≤ 9 → x * 128 ^ i < 18446744073709551616 → (0 < i → 0 < x) →
    decFrom i acc (uvarint x ++ rest) = some (acc + x * 128 ^ i, rest)
  | fuel, x, i, acc, rest, hf, hi, hx, h0 => by
    by_cases hs : x < 128
    · rw [uvarint_small hs]
      have ht := toNat_small (show x < 256 by omega)
      have h9 : ¬ ((0 < i ∧ x = 0) ∨ (i = 9 ∧ 1 < x)) := by
        rintro (⟨a, b⟩ | ⟨a, b⟩)
        · have := h0 a; omega
        · subst a
          have e : (128 : Nat) ^ 9 = 9223372036854775808 := by decide
          rw [e] at hx
          omega
      simp only [List.cons_append, List.nil_append, decFrom, ht]
      rw [if_neg (by omega), if_neg (by omega), if_neg h9]
    · match fuel, hf with
      | 0, hf => omega
      | fuel + 1, hf =>
        have ht := toNat_small (show x % 128 + 128 < 256 by omega)
        have hmod : (x % 128 + 128) % 128 = x % 128 := by omega
        have hi8 : i ≤ 8 := by
          rcases Nat.lt_or_ge i 9 with h | h
          · omega
          · obtain rfl : i = 9 := by omega
            have e : (128 : Nat) ^ 9 = 9223372036854775808 := by decide
            rw [e] at hx
            omega
        have hp : x % 128 * 128 ^ i + x / 128 * 128 ^ (i + 1) = x * 128 ^ i := by
          rw [Nat.pow_succ, ← Nat.mul_assoc, Nat.mul_right_comm, ← Nat.add_mul]
          congr 1
          omega
        have hle : x / 128 * 128 ^ (i + 1) ≤ x * 128 ^ i := by omega
        rw [uvarint_big (by omega)]
        simp only [List.cons_append, decFrom, ht, hmod]
        rw [if_neg (by omega), if_pos (by omega), decFrom_put fuel (x / 128) (i + 1) _ rest (by omega) (by omega) (by omega) (by omega), Nat.add_assoc, hp]

/-- What is put ahead of any bytes is taken as it was. -/
theorem dec_put {x : Nat} (hx : x < 18446744073709551616) (rest : List UInt8) : dec (uvarint x ++ rest) = some (x, rest) := by
  have h := decFrom_put x x 0 0 rest (Nat.le_refl _) (by omega) (by simpa using hx) (by omega)
  simpa [dec] using h

theorem decFrom_ten (acc : Nat) (l : List UInt8) : decFrom 10 acc l = none := by
  cases l <;> simp [decFrom]

theorem lt_of_div {x m : Nat} (hm : m ∣ 18446744073709551616) (h : x * m < 18446744073709551616) : (x + 1) * m ≤ 18446744073709551616 := by
  obtain ⟨q, hq⟩ := hm
  rw [hq] at h ⊢
  rw [Nat.mul_comm m q] at h ⊢
  have : x < q := Nat.lt_of_mul_lt_mul_right h
  exact Nat.mul_le_mul_right _ this

theorem decFrom_some : ∀ (l : List UInt8) (i acc n : Nat) (r : List UInt8), i ≤ 9 → decFrom i acc l = some (n, r) →
    ∃ x, n = acc + x * 128 ^ i ∧ l = uvarint x ++ r ∧ (0 < i → 0 < x) ∧ x * 128 ^ i < 18446744073709551616
  | [], i, acc, n, r, _, h => by simp [decFrom] at h
  | c :: l, i, acc, n, r, hi, h => by
    have hc := c.toNat_lt
    simp only [decFrom] at h
    rw [if_neg (by omega)] at h
    by_cases hb : 128 ≤ c.toNat
    · rw [if_pos hb] at h
      have hi8 : i ≤ 8 := by
        rcases Nat.lt_or_ge i 9 with h' | h'
        · omega
        · obtain rfl : i = 9 := by omega
          rw [decFrom_ten] at h
          cases h
      obtain ⟨x, rfl, rfl, hx0, hx⟩ := decFrom_some l (i + 1) _ n r (by omega) h
      have hx1 := hx0 (by omega)
      have hp : c.toNat % 128 * 128 ^ i + x * 128 ^ (i + 1) = (c.toNat % 128 + 128 * x) * 128 ^ i := by
        rw [Nat.pow_succ, ← Nat.mul_assoc, Nat.mul_right_comm, ← Nat.add_mul]
        congr 1
        omega
      refine ⟨c.toNat % 128 + 128 * x, ?_, ?_, by omega, ?_⟩
      · rw [← hp]; omega
      · rw [uvarint_big (show 128 ≤ c.toNat % 128 + 128 * x by omega)]
        have e1 : (c.toNat % 128 + 128 * x) % 128 + 128 = c.toNat := by omega
        have e2 : (c.toNat % 128 + 128 * x) / 128 = x := by omega
        rw [e1, e2, ofNat_toNat]
        rfl
      · have hd : (128 ^ (i + 1) : Nat) ∣ 18446744073709551616 := by
          have hs : i = 0 ∨ i = 1 ∨ i = 2 ∨ i = 3 ∨ i = 4 ∨ i = 5 ∨ i = 6 ∨ i = 7 ∨ i = 8 := by omega
          rcases hs with rfl | rfl | rfl | rfl | rfl | rfl | rfl | rfl | rfl <;> decide
      
        have h2 := lt_of_div hd hx
        rw [Nat.add_mul] at h2
        rw [← hp]
        have h3 : c.toNat % 128 * 128 ^ i < 128 ^ (i + 1) := by
          rw [Nat.pow_succ, Nat.mul_comm (128 ^ i)]
          exact Nat.mul_lt_mul_of_pos_right (by omega) (Nat.pow_pos (by decide))
        omega
    · rw [if_neg hb] at h
      by_cases hz : (0 < i ∧ c.toNat = 0) ∨ (i = 9 ∧ 1 < c.toNat)
      · rw [if_pos hz] at h; cases h
      · rw [if_neg hz] at h
        injection h with h
        injection h with h1 h2
        subst h1 h2
        refine ⟨c.toNat, rfl, ?_, fun h => ?_, ?_⟩
        · rw [uvarint_small (by omega), ofNat_toNat]; rfl
        · rcases Nat.eq_zero_or_pos c.toNat with h0 | h0
          · exact absurd (Or.inl ⟨h, h0⟩) hz
          · exact h0
        · rcases ten_cases hi with rfl | rfl | rfl | rfl | rfl | rfl | rfl | rfl | rfl | rfl
          · have e : (128 : Nat) ^ 0 = 1 := by decide
            omega
          · have e : (128 : Nat) ^ 1 = 128 := by decide
            omega
          · have e : (128 : Nat) ^ 2 = 16384 := by decide
            omega
          · have e : (128 : Nat) ^ 3 = 2097152 := by decide
            omega
          · have e : (128 : Nat) ^ 4 = 268435456 := by decide
            omega
          · have e : (128 : Nat) ^ 5 = 34359738368 := by decide
            omega
          · have e : (128 : Nat) ^ 6 = 4398046511104 := by decide
            omega
          · have e : (128 : Nat) ^ 7 = 562949953421312 := by decide
            omega
          · have e : (128 : Nat) ^ 8 = 72057594037927936 := by decide
            omega
          · have e : (128 : Nat) ^ 9 = 9223372036854775808 := by decide
            have : ¬ 1 < c.toNat := fun h => hz (.inr ⟨rfl, h⟩)
            omega

/-- What is taken, and put again, is what stood there. -/
theorem dec_some {l : List UInt8} {n : Nat} {r : List UInt8} (h : dec l = some (n, r)) : l = uvarint n ++ r ∧ n < 18446744073709551616 := by
  obtain ⟨x, rfl, hl, _, hx⟩ := decFrom_some l 0 0 n r (by omega) h
  simp only [Nat.pow_zero, Nat.mul_one, Nat.zero_add] at hx ⊢
  exact ⟨hl, hx⟩

theorem dec_lt {l : List UInt8} {n : Nat} {r : List UInt8} (h : dec l = some (n, r)) : r.length < l.length := by
  obtain ⟨hl, _⟩ := dec_some h
  have := congrArg List.length hl
  have := uvarint_pos n
  rw [List.length_append] at *
  omega

/-! Step by step, for a loop -/
theorem step_more {k acc M : Nat} {c : UInt8} {r : List UInt8} (hM : 128 ^ k = M) (hk : k ≤ 9) (h : 128 ≤ c.toNat) : decFrom k acc (c :: r) = decFrom (k + 1) (acc + c.toNat % 128 * M) r := by
  simp only [decFrom, hM]
  rw [if_neg (by omega), if_pos h]
theorem step_end {k acc M : Nat} {c : UInt8} {r : List UInt8} (hM : 128 ^ k = M) (hk : k ≤ 9) (h : c.toNat < 128) (h0 : ¬ ((0 < k ∧ c.toNat = 0) ∨ (k = 9 ∧ 1 < c.toNat))) : decFrom k acc (c :: r) = some (acc + c.toNat * M, r) := by
  simp only [decFrom, hM]
  rw [if_neg (by omega), if_neg (by omega), if_neg h0]
theorem step_none {k acc : Nat} {c : UInt8} {r : List UInt8} (hk : k ≤ 9) (h : c.toNat < 128) (h0 : (0 < k ∧ c.toNat = 0) ∨ (k = 9 ∧ 1 < c.toNat)) : decFrom k acc (c :: r) = none := by
  simp only [decFrom]
  rw [if_neg (by omega), if_neg (by omega), if_pos h0]
theorem step_ten {k acc : Nat} {l : List UInt8} (hk : 10 ≤ k) : decFrom k acc l = none := by
  cases l with
  | nil => rfl
  | cons c r => simp only [decFrom]; rw [if_pos hk]
theorem step_nil {k acc : Nat} : decFrom k acc [] = none := rfl

/-! Texts, lists -/
def encT (l : List UInt8) : List UInt8 := uvarint l.length ++ l
def encNs : List Nat → List UInt8
  | [] => []
  | n :: r => uvarint n ++ encNs r
def encN (l : List Nat) : List UInt8 := uvarint l.length ++ encNs l
def encTs : List (List UInt8) → List UInt8
  | [] => []
  | n :: r => encT n ++ encTs r
def encL (l : List (List UInt8)) : List UInt8 := uvarint l.length ++ encTs l

theorem encNs_append (a b : List Nat) : encNs (a ++ b) = encNs a ++ encNs b := by
  induction a with
  | nil => rfl
  | cons x a ih => simp [encNs, ih]
theorem encTs_append (a b : List (List UInt8)) : encTs (a ++ b) = encTs a ++ encTs b := by
  induction a with
  | nil => rfl
  | cons x a ih => simp [encTs, ih]

/-- A count that fits: at most 'most', and at most as many as there are bytes left. -/
def decC (l : List UInt8) (most : Int) : Option (Nat × List UInt8) :=
  match dec l with
  | none => none
  | some (n, r) => if (n : Int) ≤ most ∧ n ≤ r.length then some (n, r) else none

def decT (l : List UInt8) (most : Int) : Option (List UInt8 × List UInt8) :=
  match decC l most with
  | none => none
  | some (n, r) => some (r.take n, r.drop n)

def takeNs : Nat → List UInt8 → Option (List Nat × List UInt8)
  | 0, r => some ([], r)
  | k + 1, r => match dec r with
    | none => none
    | some (x, r') => match takeNs k r' with
      | none => none
      | some (xs, r'') => some (x :: xs, r'')

def decN (l : List UInt8) (most : Int) : Option (List Nat × List UInt8) :=
  match decC l most with
  | none => none
  | some (n, r) => takeNs n r

def takeTs : Nat → List UInt8 → Option (List (List UInt8) × List UInt8)
  | 0, r => some ([], r)
  | k + 1, r => match decT r r.length with
    | none => none
    | some (x, r') => match takeTs k r' with
      | none => none
      | some (xs, r'') => some (x :: xs, r'')

def decL (l : List UInt8) (most : Int) : Option (List (List UInt8) × List UInt8) :=
  match decC l most with
  | none => none
  | some (n, r) => takeTs n r

theorem decC_put {n : Nat} (hn : n < 18446744073709551616) (r : List UInt8) (hr : n ≤ r.length) {most : Int} (hm : (n : Int) ≤ most) : decC (uvarint n ++ r) most = some (n, r) := by
  unfold decC
  rw [dec_put hn]
  exact if_pos ⟨hm, hr⟩

theorem decC_some {l : List UInt8} {most : Int} {n : Nat} {r : List UInt8} (h : decC l most = some (n, r)) : dec l = some (n, r) ∧ (n : Int) ≤ most ∧ n ≤ r.length := by
  unfold decC at h
  split at h
  · cases h
  · rename_i n' r' e
    split at h
    · rename_i hh
      injection h with h
      injection h with h1 h2
      subst h1 h2
      exact ⟨e, hh.1, hh.2⟩
    · cases h

theorem decT_put {s : List UInt8} (hs : s.length < 18446744073709551616) (r : List UInt8) {most : Int} (hm : (s.length : Int) ≤ most) : decT (encT s ++ r) most = some (s, r) := by
  unfold decT encT
  rw [List.append_assoc, decC_put hs _ (by simp) hm]
  simp

theorem decT_some {l : List UInt8} {most : Int} {s r : List UInt8} (h : decT l most = some (s, r)) : l = encT s ++ r ∧ (s.length : Int) ≤ most := by
  unfold decT at h
  split at h
  · cases h
  · rename_i n r' e
    obtain ⟨h1, h2, h3⟩ := decC_some e
    injection h with h
    injection h with h4 h5
    subst h4 h5
    have hl : (r'.take n).length = n := by rw [List.length_take]; omega
    refine ⟨?_, by rw [hl]; exact h2⟩
    unfold encT
    rw [hl, List.append_assoc, List.take_append_drop]
    exact (dec_some h1).1

theorem takeNs_put : ∀ (l : List Nat) (r : List UInt8), (∀ x ∈ l, x < 18446744073709551616) → takeNs l.length (encNs l ++ r) = some (l, r)
  | [], r, _ => rfl
  | x :: l, r, h => by
    simp only [List.length_cons, takeNs, encNs, List.append_assoc]
    rw [dec_put (h x (by simp))]
    simp only
    rw [takeNs_put l r (fun y hy => h y (by simp [hy]))]

theorem takeNs_some : ∀ (k : Nat) (s : List UInt8) (l : List Nat) (r : List UInt8), takeNs k s = some (l, r) → s = encNs l ++ r ∧ l.length = k ∧ ∀ x ∈ l, x < 18446744073709551616
  | 0, s, l, r, h => by
    simp only [takeNs, Option.some.injEq, Prod.mk.injEq] at h
    obtain ⟨rfl, rfl⟩ := h
    exact ⟨rfl, rfl, by simp⟩
  | k + 1, s, l, r, h => by
    simp only [takeNs] at h
    split at h
    · cases h
    · rename_i x r' e
      split at h
      · cases h
      · rename_i xs r'' e2
        injection h with h
        injection h with h1 h2
        subst h1 h2
        obtain ⟨h3, h4⟩ := dec_some e
        obtain ⟨h5, h6, h7⟩ := takeNs_some k _ _ _ e2
        refine ⟨?_, by simp [h6], ?_⟩
        · rw [h3, h5]; simp [encNs]
        · intro y hy
          rcases List.mem_cons.1 hy with rfl | hy
          · exact h4
          · exact h7 y hy

theorem encNs_length : ∀ (l : List Nat), l.length ≤ (encNs l).length
  | [] => by simp
  | x :: l => by
    have := encNs_length l
    have := uvarint_pos x
    simp only [encNs, List.length_append, List.length_cons]
    omega
theorem encTs_length : ∀ (l : List (List UInt8)), l.length ≤ (encTs l).length
  | [] => by simp
  | x :: l => by
    have := encTs_length l
    have := uvarint_pos x.length
    simp only [encTs, encT, List.length_append, List.length_cons]
    omega

theorem decN_put {l : List Nat} (hl : l.length < 18446744073709551616) (hx : ∀ x ∈ l, x < 18446744073709551616) (r : List UInt8) {most : Int} (hm : (l.length : Int) ≤ most) : decN (encN l ++ r) most = some (l, r) := by
  unfold decN encN
  rw [List.append_assoc, decC_put hl _ (by have := encNs_length l; rw [List.length_append]; omega) hm]
  exact takeNs_put l r hx

theorem decN_some {s : List UInt8} {most : Int} {l : List Nat} {r : List UInt8} (h : decN s most = some (l, r)) : s = encN l ++ r ∧ (l.length : Int) ≤ most ∧ (∀ x ∈ l, x < 18446744073709551616) := by
  unfold decN at h
  split at h
  · cases h
  · rename_i n r' e
    obtain ⟨h1, h2, h3⟩ := decC_some e
    obtain ⟨h4, h5, h6⟩ := takeNs_some _ _ _ _ h
    refine ⟨?_, by rw [h5]; exact h2, h6⟩
    unfold encN
    rw [h5, List.append_assoc, ← h4]
    exact (dec_some h1).1

theorem takeTs_put : ∀ (l : List (List UInt8)) (r : List UInt8), (encTs l).length < 18446744073709551616 → takeTs l.length (encTs l ++ r) = some (l, r)
  | [], r, _ => rfl
  | x :: l, r, h => by
    have hb : x.length < 18446744073709551616 := by simp only [encTs, encT, List.length_append] at h; omega
    simp only [List.length_cons, takeTs, encTs, List.append_assoc]
    rw [decT_put hb _ (by simp only [encT, List.length_append]; omega)]
    simp only
    rw [takeTs_put l r (by simp only [encTs, List.length_append] at h; omega)]

theorem takeTs_some : ∀ (k : Nat) (s : List UInt8) (l : List (List UInt8)) (r : List UInt8), takeTs k s = some (l, r) → s = encTs l ++ r ∧ l.length = k
  | 0, s, l, r, h => by
    simp only [takeTs, Option.some.injEq, Prod.mk.injEq] at h
    obtain ⟨rfl, rfl⟩ := h
    exact ⟨rfl, rfl⟩
  | k + 1, s, l, r, h => by
    simp only [takeTs] at h
    split at h
    · cases h
    · rename_i x r' e
      split at h
      · cases h
      · rename_i xs r'' e2
        injection h with h
        injection h with h1 h2
        subst h1 h2
        obtain ⟨h3, h4⟩ := decT_some e
        obtain ⟨h5, h6⟩ := takeTs_some k _ _ _ e2
        refine ⟨?_, by simp [h6]⟩
        rw [h3, h5]; simp [encTs]

theorem decL_put {l : List (List UInt8)} (hl : (encTs l).length < 18446744073709551616) (r : List UInt8) {most : Int} (hm : (l.length : Int) ≤ most) : decL (encL l ++ r) most = some (l, r) := by
  have hll := encTs_length l
  unfold decL encL
  rw [List.append_assoc, decC_put (by omega) _ (by rw [List.length_append]; omega) hm]
  exact takeTs_put l r hl

theorem decL_some {s : List UInt8} {most : Int} {l : List (List UInt8)} {r : List UInt8} (h : decL s most = some (l, r)) : s = encL l ++ r ∧ (l.length : Int) ≤ most := by
  unfold decL at h
  split at h
  · cases h
  · rename_i n r' e
    obtain ⟨h1, h2, h3⟩ := decC_some e
    obtain ⟨h4, h5⟩ := takeTs_some _ _ _ _ h
    refine ⟨?_, by rw [h5]; exact h2⟩
    unfold encL
    rw [h5, List.append_assoc, ← h4]
    exact (dec_some h1).1

/-- No number's bytes begin another one's. -/
theorem apart {a b : Nat} (ha : a < 18446744073709551616) (hb : b < 18446744073709551616) {r : List UInt8} (h : uvarint a = uvarint b ++ r) : a = b := by
  have h1 := dec_put ha []
  rw [List.append_nil, h, dec_put hb] at h1
  injection h1 with h1
  injection h1 with h1
  exact h1.symm

theorem apartT {s t : List UInt8} (hs : s.length < 18446744073709551616) (ht : t.length < 18446744073709551616) {r : List UInt8} (h : encT s = encT t ++ r) : s = t := by
  have h1 := decT_put hs [] (Int.le_refl _)
  rw [List.append_nil, h] at h1
  obtain ⟨h2, h3⟩ := decT_some h1
  have h4 : (decT (encT t ++ r) (max (s.length : Int) t.length)) = some (t, r) := decT_put ht r (by omega)
  have h5 : (decT (encT s ++ []) (max (s.length : Int) t.length)) = some (s, []) := decT_put hs [] (by omega)
  rw [← h2, h4] at h5
  injection h5 with h5
  injection h5 with h5
  exact h5.symm

end Go.Proofs.Ytdiocnehejeldaa.Leb
