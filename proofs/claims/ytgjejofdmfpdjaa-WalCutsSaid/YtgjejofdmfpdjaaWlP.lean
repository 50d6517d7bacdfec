/-
  WlP: WlP, WlQ.
-/
import Derived.Test.YtgjejofdmfpdjaaWlK
import Derived.Test.YtgjejofdmfpdjaaDskX
import Derived.Test.YtgjejofdmfpdjaaWlG
/-! What follows, plainly: what a sector's record says of the next one; what opening holds; logs whose marks are their numbers. -/
namespace Go.Proofs.Ytgjejofdmfpdjaa
namespace Wal
open Dsk Slt

/-! ### Heads and tails -/
theorem head_two {n p : Nat} (hn : n < 128) (hp : p < 128) : (head n p).size = 2 := by
  rw [head_size, Lib.uvarint_small hn, Lib.uvarint_small hp]
  rfl
theorem cat_list (n p : Nat) (t : ByteArray) : (head n p ++ t).data.toList = headL n p ++ t.data.toList := by
  rw [ByteArray.data_append, Array.toList_append]
  simp [head]
theorem tail_same (n p : Nat) (t : ByteArray) : tail n p (head n p ++ t) = some t := by
  have h : Lib.hasPrefix (headL n p ++ t.data.toList) (headL n p) = true := by
    unfold Lib.hasPrefix
    rw [List.isPrefixOf_iff_prefix]
    exact List.prefix_append _ _
  unfold tail
  rw [cat_list, if_pos h, List.drop_left, ← Kit.bytes_of_data]
theorem tail_inv {n p n' p' : Nat} (hn : n < 18446744073709551616) (hp : p < 18446744073709551616) (hn' : n' < 18446744073709551616) (hp' : p' < 18446744073709551616) {t x : ByteArray} (h : tail n' p' (head n p ++ t) = some x) : n' = n ∧ p' = p ∧ x = t := by
  unfold tail at h
  split at h
  · rename_i hp0
    rw [cat_list] at hp0
    unfold Lib.hasPrefix at hp0
    obtain ⟨r, hr⟩ := List.isPrefixOf_iff_prefix.1 hp0
    unfold headL at hr
    rw [List.append_assoc, List.append_assoc] at hr
    have h1 := Leb.dec_put hn' (Lib.uvarint p' ++ r)
    rw [hr, Leb.dec_put hn] at h1
    injection h1 with h1
    injection h1 with h1 h2
    have h3 := Leb.dec_put hp' r
    rw [← h2, Leb.dec_put hp] at h3
    injection h3 with h3
    injection h3 with h3 h4
    subst h1
    subst h3
    refine ⟨rfl, rfl, ?_⟩
    have e := tail_same n p t
    unfold tail at e
    rw [if_pos (by rw [cat_list]; exact hp0)] at e
    rw [e] at h
    injection h with h
    exact h.symm
  · cases h
theorem tail_empty (n p : Nat) : tail n p ⟨#[]⟩ = none := by
  unfold tail
  rw [if_neg]
  intro h
  unfold Lib.hasPrefix at h
  have h1 := (List.isPrefixOf_iff_prefix.1 h).length_le
  have h2 := Lib.uvarint_pos n
  unfold headL at h1
  rw [List.length_append] at h1
  have h3 : (⟨#[]⟩ : ByteArray).data.toList.length = 0 := rfl
  omega

/-! ### What opening holds -/
/-- The records of a log stand on the disk. -/
def Tells (D : Dk) (L : Lg) : Prop := ∀ i r, L.held[i]? = some r → tail (L.base + i + 1) (L.markAt i) (at_ D L (L.base + i + 1)).2.1 = some r.text ∧ (at_ D L (L.base + i + 1)).1 = r.mark
/-- .. and no further one. -/
def Ends (D : Dk) (L : Lg) : Prop := L.held.length = L.many ∨ tail (L.last + 1) L.lastMark (at_ D L (L.last + 1)).2.1 = none
theorem step_some {D : Dk} {L : Lg} {t : ByteArray} (h : tail (L.last + 1) L.lastMark (at_ D L (L.last + 1)).2.1 = some t) : step D L = some (L.put ⟨(at_ D L (L.last + 1)).1, t⟩) := by unfold step; rw [h]; rfl
theorem step_none {D : Dk} {L : Lg} (h : tail (L.last + 1) L.lastMark (at_ D L (L.last + 1)).2.1 = none) : step D L = none := by unfold step; rw [h]; rfl
theorem markAt_take {L : Lg} {l : List Rc} {i : Nat} (h : i ≤ l.length) (hl : ∀ j, j < i → L.held[j]? = l[j]?) : (Lg.mk L.from_ L.many L.base L.mark L.next l).markAt i = L.markAt i := by
  cases i with
  | zero => rfl
  | succ i =>
    show ((l[i]?).getD ⟨0, ⟨#[]⟩⟩).mark = ((L.held[i]?).getD ⟨0, ⟨#[]⟩⟩).mark
    rw [hl i (Nat.lt_succ_self i)]
theorem hold_to {D : Dk} {L : Lg} (ht : Tells D L) : ∀ (f i : Nat), i + f = L.many → i ≤ L.held.length → L.held.length ≤ L.many → Ends D L → hold D f ⟨L.from_, L.many, L.base, L.mark, L.next, L.held.take i⟩ = L
  | 0, i, hf, hi, hm, _ => by
    show (⟨L.from_, L.many, L.base, L.mark, L.next, L.held.take i⟩ : Lg) = L
    rw [List.take_of_length_le (by omega)]
  | f + 1, i, hf, hi, hm, he => by
    have hln : (L.held.take i).length = i := by rw [List.length_take]; omega
    have hla : (Lg.mk L.from_ L.many L.base L.mark L.next (L.held.take i)).last = L.base + i := by show L.base + (L.held.take i).length = _; rw [hln]
    have hlm : (Lg.mk L.from_ L.many L.base L.mark L.next (L.held.take i)).lastMark = L.markAt i := by
      show (Lg.mk L.from_ L.many L.base L.mark L.next (L.held.take i)).markAt (L.held.take i).length = _
      rw [hln]
      exact markAt_take (by omega) (fun j hj => by rw [List.getElem?_take_of_lt hj])
    by_cases hlt : i < L.held.length
    · obtain ⟨r, hr⟩ : ∃ r, L.held[i]? = some r := ⟨_, List.getElem?_eq_getElem hlt⟩
      obtain ⟨h1, h2⟩ := ht i r hr
      have hs : step D ⟨L.from_, L.many, L.base, L.mark, L.next, L.held.take i⟩ = some ⟨L.from_, L.many, L.base, L.mark, L.next, L.held.take (i + 1)⟩ := by
        rw [step_some (t := r.text) (by rw [hla, hlm]; exact h1), hla]
        have e : (at_ D ⟨L.from_, L.many, L.base, L.mark, L.next, L.held.take i⟩ (L.base + i + 1)).1 = r.mark := h2
        rw [e]
        show some (⟨L.from_, L.many, L.base, L.mark, L.next, L.held.take i ++ [r]⟩ : Lg) = _
        rw [List.take_add_one, hr]
        rfl
      rw [hold_some hs]
      exact hold_to ht f (i + 1) (by omega) hlt hm he
    · obtain rfl : i = L.held.length := by omega
      have e : (⟨L.from_, L.many, L.base, L.mark, L.next, L.held.take L.held.length⟩ : Lg) = L := by rw [List.take_length]
      rw [e]
      rcases he with he | he
      · omega
      · exact hold_none (step_none he) _
theorem opened_of {D : Dk} {L : Lg} (ht : Tells D L) (he : Ends D L) (hm : L.held.length ≤ L.many) : opened D L.from_ L.many L.base L.mark = { L with next := nextMark D L.from_ L.many } :=
  hold_to (L := { L with next := nextMark D L.from_ L.many }) ht L.many 0 (by show 0 + L.many = L.many; omega) (Nat.zero_le _) hm he
theorem hold_tells (D : Dk) : ∀ (f : Nat) (L : Lg), L.held.length + f = L.many → Tells D L → Tells D (hold D f L) ∧ Ends D (hold D f L) ∧ (hold D f L).held.length ≤ L.many ∧ (hold D f L).base = L.base ∧ (hold D f L).mark = L.mark ∧ (hold D f L).from_ = L.from_ ∧ (hold D f L).many = L.many ∧ (hold D f L).next = L.next
  | 0, L, hf, ht => ⟨ht, .inl (by show L.held.length = L.many; omega), by show L.held.length ≤ L.many; omega, rfl, rfl, rfl, rfl, rfl⟩
  | f + 1, L, hf, ht => by
    cases h : tail (L.last + 1) L.lastMark (at_ D L (L.last + 1)).2.1 with
    | none =>
      rw [hold_none (step_none h)]
      exact ⟨ht, .inr h, by omega, rfl, rfl, rfl, rfl, rfl⟩
    | some t =>
      rw [hold_some (step_some h)]
      have hl : (L.put ⟨(at_ D L (L.last + 1)).1, t⟩).held.length = L.held.length + 1 := by simp [Lg.put]
      refine hold_tells D f (L.put ⟨(at_ D L (L.last + 1)).1, t⟩) (by rw [hl]; show _ = L.many; omega) ?_
      intro i r hr
      have hma : (L.put ⟨(at_ D L (L.last + 1)).1, t⟩).markAt i = L.markAt i ∨ L.held.length < i := by
        rcases Nat.lt_or_ge L.held.length i with hi | hi
        · exact .inr hi
        · exact .inl (markAt_take (L := L) (by rw [List.length_append]; omega) (fun j hj => by rw [List.getElem?_append_left (by omega)]))
      rcases Nat.lt_or_ge i L.held.length with hi | hi
      · have hr' : L.held[i]? = some r := by
          have : (L.held ++ [(⟨(at_ D L (L.last + 1)).1, t⟩ : Rc)])[i]? = some r := hr
          rwa [List.getElem?_append_left hi] at this
        rw [hma.resolve_right (by omega)]
        exact ht i r hr'
      · have hlt := (List.getElem?_eq_some_iff.1 hr).1
        rw [hl] at hlt
        obtain rfl : i = L.held.length := by omega
        rw [hma.resolve_right (Nat.lt_irrefl _)]
        have hr' : (L.held ++ [(⟨(at_ D L (L.last + 1)).1, t⟩ : Rc)])[L.held.length]? = some r := hr
        rw [List.getElem?_append_right (Nat.le_refl _), Nat.sub_self] at hr'
        injection hr' with hr'
        rw [← hr']
        exact ⟨h, rfl⟩
/-- What an opened log is. -/
theorem opened_tells (D : Dk) (a many base mark : Nat) : Tells D (opened D a many base mark) ∧ Ends D (opened D a many base mark) ∧ (opened D a many base mark).held.length ≤ many ∧ (opened D a many base mark).base = base ∧ (opened D a many base mark).mark = mark ∧
    (opened D a many base mark).from_ = a ∧ (opened D a many base mark).many = many ∧ (opened D a many base mark).next = nextMark D a many :=
  hold_tells D many (empty D a many base mark) (by show 0 + many = many; omega) (fun i r hr => by cases hr)

/-! ### What a sector has -/
def st (f : Nat → Nat) (D : Dk) (a : Nat) : ByteArray := (D.settle f).safe.getD a ⟨#[]⟩
theorem st_push {f : Nat → Nat} {D : Dk} {a : Nat} {t : ByteArray} (ha : a < D.safe.length) (b : Nat) : st f (D.push a t) b = if b = a then cut t (st f D a) (f D.pend.length) else st f D b := by
  have hx : (D.pend ++ [(⟨a, t⟩ : Wr)])[D.pend.length]? = some (⟨a, t⟩ : Wr) := by simp
  have e : ((D.push a t).settle f).safe = (D.settle f).safe.set a (cut t ((D.settle f).safe.getD a ⟨#[]⟩) (f D.pend.length)) := by
    show after f (D.pend ++ [(⟨a, t⟩ : Wr)]) D.safe (D.pend ++ [(⟨a, t⟩ : Wr)]).length = _
    rw [List.length_append, List.length_singleton, after_succ hx, after_pre _ (Nat.le_refl _)]
    rfl
  have hl : a < (D.settle f).safe.length := by show a < (after f D.pend D.safe _).length; rw [after_length]; exact ha
  unfold st
  rw [e]
  by_cases h : b = a
  · subst h
    rw [if_pos rfl, List.getD_eq_getElem?_getD, List.getElem?_set_self hl]
    rfl
  · rw [if_neg h, Dsk.getD_set_ne (fun e => h e.symm)]
/-- What is read. -/
def cn (D : Dk) (a : Nat) : ByteArray := st (fun _ => D.size) D a
theorem sec_cn {D : Dk} (h : D.ok) {a : Nat} (ha : a < D.safe.length) : sec D (a : Nat) = un (cn D a) := by
  unfold sec
  rw [read_is h ha]
  rfl
theorem st_size {D : Dk} (h : D.ok) {f : Nat → Nat} (hf : ∀ k, f k ≤ D.size) {a : Nat} (ha : a < D.safe.length) : (st f D a).size = D.size :=
  (h.settle hf).safeAt (by show a < (after _ _ _ _).length; rw [after_length]; exact ha)
theorem cn_push {D : Dk} (h : D.ok) {a : Nat} {t : ByteArray} (ha : a < D.safe.length) (ht : t.size = D.size) (b : Nat) : cn (D.push a t) b = if b = a then t else cn D b := by
  have e := st_push (f := fun _ => D.size) (t := t) ha b
  rw [cut_full ht (st_size h (fun _ => Nat.le_refl _) ha)] at e
  exact e
theorem cn_settle (f : Nat → Nat) (D : Dk) (a : Nat) : cn (D.settle f) a = st f D a := rfl
theorem cn_flush (D : Dk) (a : Nat) : cn D.flush a = cn D a := rfl
theorem st_quiet {f : Nat → Nat} {D : Dk} (h : D.pend = []) (a : Nat) : st f D a = D.safe.getD a ⟨#[]⟩ := by
  show (after f D.pend D.safe D.pend.length).getD a ⟨#[]⟩ = _
  rw [h]
  rfl

/-! ### Sectors of 48 bytes -/
def bd (m n p : Nat) (t : ByteArray) : ByteArray := body m (head n p ++ t) 48
theorem bd_fits {n p : Nat} {t : ByteArray} (hn : n < 128) (hp : p < 128) (ht : t.size ≤ 28) : (head n p ++ t).size + 18 ≤ 48 := by
  rw [ByteArray.size_append, head_two hn hp]
  omega
theorem bd_size {m n p : Nat} {t : ByteArray} (hn : n < 128) (hp : p < 128) (ht : t.size ≤ 28) : (bd m n p t).size = 48 := body_size (bd_fits hn hp ht)
theorem un_bd {m n p : Nat} {t : ByteArray} (h0 : m ≠ 0) (hm : m < 18446744073709551616) (hn : n < 128) (hp : p < 128) (ht : t.size ≤ 28) : un (bd m n p t) = (m, head n p ++ t, true) :=
  un_body h0 hm (bd_fits hn hp ht) (by omega) (by omega)
end Wal
end Go.Proofs.Ytgjejofdmfpdjaa
/-! Logs of eight sectors of 48 bytes whose marks are their numbers, plainly. -/
namespace Go.Proofs.Ytgjejofdmfpdjaa
namespace Wal
open Dsk Slt

/-- Records whose marks are s + 1, s + 2 .. -/
def recs (s : Nat) : List ByteArray → List Rc
  | [] => []
  | t :: l => ⟨s + 1, t⟩ :: recs (s + 1) l
theorem recs_len : ∀ (s : Nat) (l : List ByteArray), (recs s l).length = l.length
  | _, [] => rfl
  | s, t :: l => by rw [recs, List.length_cons, List.length_cons, recs_len (s + 1) l]
theorem recs_at : ∀ (s : Nat) (l : List ByteArray) (i : Nat), (recs s l)[i]? = (l[i]?).map fun t => ⟨s + i + 1, t⟩
  | _, [], i => by simp [recs]
  | s, t :: l, 0 => by simp [recs]
  | s, t :: l, i + 1 => by
    rw [recs, List.getElem?_cons_succ, List.getElem?_cons_succ, recs_at (s + 1) l i]
    congr 1
    funext t
    congr 1
    omega
theorem recs_snoc : ∀ (s : Nat) (l : List ByteArray) (t : ByteArray), recs s (l ++ [t]) = recs s l ++ [⟨s + l.length + 1, t⟩]
  | s, [], t => rfl
  | s, x :: l, t => by
    rw [List.cons_append, recs, recs_snoc (s + 1) l t, recs, List.cons_append, List.length_cons]
    congr 4
    omega
theorem txs_recs : ∀ (s : Nat) (l : List ByteArray), txs (recs s l) = l
  | _, [] => rfl
  | s, t :: l => by
    have ih := txs_recs (s + 1) l
    unfold txs at ih ⊢
    rw [recs, List.map_cons, ih]
theorem txs_append (a b : List Rc) : txs (a ++ b) = txs a ++ txs b := by simp [txs]
theorem txs_take (a : List Rc) (k : Nat) : txs (a.take k) = (txs a).take k := by simp [txs, List.map_take]

theorem cn_new {c z a : Nat} (h : a < c) : cn (Dk.new c z) a = zeros z := by
  unfold cn
  rw [st_quiet rfl]
  show (List.replicate c (zeros z)).getD a ⟨#[]⟩ = _
  rw [List.getD_eq_getElem?_getD, List.getElem?_replicate, if_pos h]
  rfl
theorem sec_new {c z a : Nat} (hc : Dk.can c z = true) (h : a < c) : sec (Dk.new c z) (a : Nat) = (0, ⟨#[]⟩, false) := by
  rw [sec_cn (Dk.ok_new hc) (by show a < (List.replicate c (zeros z)).length; rw [List.length_replicate]; exact h), cn_new h, un_zeros]
theorem great_new {c z a : Nat} (hc : Dk.can c z = true) : ∀ k, a + k ≤ c → greatest (Dk.new c z) a k = 0
  | 0, _ => rfl
  | k + 1, h => by
    have e : greatest (Dk.new c z) a (k + 1) = max (greatest (Dk.new c z) a k) (sec (Dk.new c z) (a + k : Nat)).1 := rfl
    rw [e, great_new hc k (by omega), sec_new hc (by omega)]
    rfl
theorem opened_new {c z a many : Nat} (hc : Dk.can c z = true) (h : a + many ≤ c) (hm : 0 < many) : opened (Dk.new c z) a many 0 0 = ⟨a, many, 0, 0, 1, []⟩ := by
  have he : Ends (Dk.new c z) ⟨a, many, 0, 0, 1, []⟩ := by
    right
    have hp : (a + 1 % many) < c := by have := Nat.mod_lt 1 hm; omega
    show tail (0 + 0 + 1) _ (sec (Dk.new c z) (a + (0 + 0 + 1) % many : Nat)).2.1 = none
    rw [sec_new hc (by show a + 1 % many < c; exact hp)]
    exact tail_empty _ _
  have e := opened_of (D := Dk.new c z) (L := ⟨a, many, 0, 0, 1, []⟩) (fun i r hr => by cases hr) he (Nat.zero_le _)
  have en : nextMark (Dk.new c z) a many = 1 := by
    unfold nextMark
    rw [great_new hc many h]
    rfl
  rw [e, en]

structure Num (L : Lg) (D : Dk) (N : Nat) : Prop where
  from_ : L.from_ = 0
  many : L.many = 8
  last : L.last = N
  le : L.held.length ≤ 8
  next : L.next = N + 1
  mark : L.mark = L.base
  marks : ∀ i r, L.held[i]? = some r → r.mark = L.base + i + 1 ∧ r.text.size ≤ 28
  size : D.size = 48
  len : D.safe.length = 8
  ok : D.ok
  cont : ∀ n, 1 ≤ n → n ≤ N → N < n + 8 → ∃ t : ByteArray, t.size ≤ 28 ∧ cn D (n % 8) = bd n n (n - 1) t ∧ ∀ i r, L.held[i]? = some r → L.base + i + 1 = n → r.text = t
  zero : ∀ n, N < n → n ≤ 8 → cn D (n % 8) = zeros 48
theorem Num.new : Num ⟨0, 8, 0, 0, 1, []⟩ (Dk.new 8 48) 0 := by
  refine ⟨rfl, rfl, rfl, Nat.zero_le _, rfl, rfl, (fun i r hr => by cases hr), rfl, rfl, Dk.ok_new (by decide), fun n h1 h2 => by omega, fun n _ _ => cn_new (Nat.mod_lt _ (by decide))⟩
theorem Num.markAt {L : Lg} {D : Dk} {N : Nat} (h : Num L D N) : ∀ {i : Nat}, i ≤ L.held.length → L.markAt i = L.base + i
  | 0, _ => h.mark
  | i + 1, hi => by
    obtain ⟨r, hr⟩ : ∃ r, L.held[i]? = some r := ⟨_, List.getElem?_eq_getElem (by omega)⟩
    rw [markAt_some hr, (h.marks i r hr).1]
    omega
theorem Num.lastMark {L : Lg} {D : Dk} {N : Nat} (h : Num L D N) : L.lastMark = N := by
  have := h.last
  unfold Lg.lastMark
  rw [h.markAt (Nat.le_refl _)]
  exact this
theorem Num.place {L : Lg} {D : Dk} {N : Nat} (h : Num L D N) (n : Nat) : L.place n = n % 8 := by
  unfold Lg.place
  rw [h.from_, h.many, Nat.zero_add]
theorem Num.can {L : Lg} {D : Dk} {N : Nat} (h : Num L D N) (hN : N < 100) (t : ByteArray) : L.can D.size t = decide (L.held.length ≠ 8 ∧ t.size ≤ 28) := by
  have hz : (head (L.last + 1) L.lastMark ++ t).size = 2 + t.size := by
    rw [ByteArray.size_append, h.last, h.lastMark, head_two (by omega) (by omega)]
  unfold Lg.can
  rw [h.size, h.many, hz, h.next]
  refine decide_eq_decide.2 ⟨fun ⟨a, _, c⟩ => ⟨a, by omega⟩, fun ⟨a, c⟩ => ⟨a, by omega, by omega⟩⟩
theorem Num.flush {L : Lg} {D : Dk} {N : Nat} (h : Num L D N) : Num L D.flush N :=
  ⟨h.from_, h.many, h.last, h.le, h.next, h.mark, h.marks, h.size, (after_length _ _ _ _).trans h.len, h.ok.flush, h.cont, h.zero⟩
theorem drop_at {l : List Rc} {k i : Nat} {r : Rc} (h : (l.drop k)[i]? = some r) : l[k + i]? = some r := by rwa [List.getElem?_drop] at h
theorem Num.drop {L : Lg} {D : Dk} {N k : Nat} (h : Num L D N) (hk : k ≤ L.held.length) : Num (L.drop k) D N := by
  have hl : (L.held.drop k).length = L.held.length - k := List.length_drop
  have hlast : L.base + L.held.length = N := h.last
  have hle := h.le
  refine ⟨h.from_, h.many, ?_, ?_, h.next, h.markAt hk, fun i r hr => ?_, h.size, h.len, h.ok, fun n h1 h2 h3 => ?_, h.zero⟩
  · show L.base + k + (L.held.drop k).length = N
    omega
  · show (L.held.drop k).length ≤ 8
    omega
  · have h1 := h.marks _ r (drop_at hr)
    refine ⟨?_, h1.2⟩
    show r.mark = L.base + k + i + 1
    omega
  · obtain ⟨t, ht, hc, hr⟩ := h.cont n h1 h2 h3
    exact ⟨t, ht, hc, fun i r hri e => hr (k + i) r (drop_at hri) (by have e : L.base + k + i + 1 = n := e; omega)⟩
theorem more_at {l : List Rc} {x r : Rc} {i : Nat} (h : (l ++ [x])[i]? = some r) : (i < l.length ∧ l[i]? = some r) ∨ (i = l.length ∧ r = x) := by
  rcases Nat.lt_or_ge i l.length with hi | hi
  · rw [List.getElem?_append_left hi] at h
    exact .inl ⟨hi, h⟩
  · rw [List.getElem?_append_right hi] at h
    have h0 := (List.getElem?_eq_some_iff.1 h).1
    rw [List.length_singleton] at h0
    have e : i - l.length = 0 := by omega
    rw [e] at h
    injection h with h
    exact .inr ⟨by omega, h.symm⟩
theorem Num.more {L : Lg} {D : Dk} {N : Nat} (h : Num L D N) (hN : N < 100) (hl : L.held.length ≠ 8) {t : ByteArray} (ht : t.size ≤ 28) : Num (L.more t) (wrote D L t) (N + 1) := by
  have hlast : L.base + L.held.length = N := h.last
  have hle := h.le
  have hln : (L.more t).held.length = L.held.length + 1 := by show (L.held ++ [_]).length = _; rw [List.length_append]; rfl
  have hw : wrote D L t = D.push ((N + 1) % 8) (bd (N + 1) (N + 1) N t) := by
    unfold wrote bd
    rw [h.place, h.last, h.lastMark, h.next, h.size]
  have hm : (N + 1) % 8 < D.safe.length := by rw [h.len]; exact Nat.mod_lt _ (by decide)
  have hb : (bd (N + 1) (N + 1) N t).size = D.size := by rw [h.size]; exact bd_size (by omega) (by omega) ht
  have hcn := cn_push h.ok hm hb
  rw [hw]
  refine ⟨h.from_, h.many, ?_, by omega, ?_, h.mark, fun i r hr => ?_, h.size, h.len, h.ok.push hm hb, fun n h1 h2 h3 => ?_, fun n h1 h2 => ?_⟩
  · show L.base + (L.more t).held.length = N + 1
    omega
  · show L.next + 1 = N + 1 + 1
    rw [h.next]
  · rcases more_at hr with ⟨hi, hr⟩ | ⟨rfl, rfl⟩
    · exact h.marks i r hr
    · refine ⟨?_, ht⟩
      show L.next = L.base + L.held.length + 1
      rw [h.next, ← hlast]
  · rw [hcn]
    by_cases hn : n = N + 1
    · subst hn
      rw [if_pos rfl]
      refine ⟨t, ht, rfl, fun i r hr e => ?_⟩
      rcases more_at hr with ⟨hi, hr⟩ | ⟨rfl, rfl⟩
      · have e : L.base + i + 1 = N + 1 := e
        omega
      · rfl
    · rw [if_neg (by omega)]
      obtain ⟨u, hu, hc, hr⟩ := h.cont n h1 (by omega) (by omega)
      refine ⟨u, hu, hc, fun i r hri e => ?_⟩
      rcases more_at hri with ⟨hi, hri⟩ | ⟨rfl, rfl⟩
      · exact hr i r hri e
      · have e : L.base + L.held.length + 1 = n := e
        omega
  · rw [hcn, if_neg (by omega)]
    exact h.zero n (by omega) h2
theorem Num.tells {L : Lg} {D : Dk} {N : Nat} (h : Num L D N) (hN : N < 100) : Tells D L := by
  intro i r hr
  have hlast : L.base + L.held.length = N := h.last
  have hle := h.le
  have hi := (List.getElem?_eq_some_iff.1 hr).1
  obtain ⟨t, ht, hc, hrt⟩ := h.cont (L.base + i + 1) (by omega) (by omega) (by omega)
  unfold at_
  rw [h.place, sec_cn h.ok (by rw [h.len]; exact Nat.mod_lt _ (by decide)), hc, un_bd (by omega) (by omega) (by omega) (by omega) ht, h.markAt (by omega), hrt i r hr rfl, Nat.add_sub_cancel]
  exact ⟨tail_same _ _ _, (h.marks i r hr).1.symm⟩
theorem Num.ends {L : Lg} {D : Dk} {N : Nat} (h : Num L D N) (hN : N < 100) : Ends D L := by
  have hlast : L.base + L.held.length = N := h.last
  have hle := h.le
  by_cases h8 : L.held.length = 8
  · exact .inl (by rw [h.many]; exact h8)
  · right
    unfold at_
    rw [h.place, sec_cn h.ok (by rw [h.len]; exact Nat.mod_lt _ (by decide)), h.last, h.lastMark]
    by_cases hz : N + 1 ≤ 8
    · rw [h.zero (N + 1) (by omega) hz, un_zeros]
      exact tail_empty _ _
    · obtain ⟨t, ht, hc, -⟩ := h.cont (N + 1 - 8) (by omega) (by omega) (by omega)
      have e : (N + 1 - 8) % 8 = (N + 1) % 8 := by omega
      rw [e] at hc
      rw [hc, un_bd (by omega) (by omega) (by omega) (by omega) ht]
      cases hx : tail (N + 1) N (head (N + 1 - 8) (N + 1 - 8 - 1) ++ t) with
      | none => rfl
      | some x =>
        have := (tail_inv (by omega) (by omega) (by omega) (by omega) hx).1
        omega
theorem Num.opened {L : Lg} {D : Dk} {N : Nat} (h : Num L D N) (hN : N < 100) : Wal.opened D 0 8 L.base L.mark = { L with next := nextMark D 0 8 } := by
  have e := opened_of (h.tells hN) (h.ends hN) (by rw [h.many]; exact h.le)
  rw [h.from_, h.many] at e ⊢
  exact e
end Wal
end Go.Proofs.Ytgjejofdmfpdjaa
