/-
  Records cut and others written, and a crash, plainly.
-/
import Derived.Test.YtgjejofdmfpdjaaWlR
namespace Go.Proofs.Ytgjejofdmfpdjaa
namespace Wal
open Dsk Slt

/-- What stood in n's sector. -/
def old (ts : List ByteArray) (n : Nat) : ByteArray := match ts[n - 1]? with
  | some t => bd n n (n - 1) t
  | none => zeros 48
/-- The mark of the i-th record, of which the first k are old ones. -/
def mrk (h k i : Nat) : Nat := if i ≤ k then i else h + (i - k)
def neu (h k : Nat) (us : List ByteArray) (n : Nat) : ByteArray := bd (h + (n - k)) n (mrk h k (n - 1)) (us.getD (n - k - 1) ⟨#[]⟩)
def mix (ts us : List ByteArray) (k : Nat) (f : Nat → Nat) (n : Nat) : ByteArray := if k < n ∧ n ≤ k + us.length then cut (neu ts.length k us n) (old ts n) (f (n - k - 1)) else old ts n
/-- The log of the first k texts, and others. -/
def LC (ts us : List ByteArray) (k : Nat) : Lg := ⟨0, 8, 0, 0, ts.length + us.length + 1, (recs 0 ts).take k ++ recs ts.length us⟩
structure Cuts (D : Dk) (ts us : List ByteArray) (k : Nat) : Prop where
  size : D.size = 48
  len : D.safe.length = 8
  ok : D.ok
  pend : D.pend.length = us.length
  ht : ts.length ≤ 8
  hk : k ≤ ts.length
  hu : k + us.length ≤ 8
  st_ : ∀ t ∈ ts, t.size ≤ 28
  su : ∀ t ∈ us, t.size ≤ 28
  cont : ∀ f n, 1 ≤ n → n ≤ 8 → st f D (n % 8) = mix ts us k f n

theorem old_some {ts : List ByteArray} {n : Nat} {t : ByteArray} (h : ts[n - 1]? = some t) : old ts n = bd n n (n - 1) t := by unfold old; rw [h]
theorem old_none {ts : List ByteArray} {n : Nat} (h : ts.length < n) : old ts n = zeros 48 := by unfold old; rw [List.getElem?_eq_none (by omega)]
theorem Cuts.start {ts : List ByteArray} {D : Dk} (h : Num (LN ts) D ts.length) (hp : D.pend = []) (ht : ts.length ≤ 8) (hs : ∀ t ∈ ts, t.size ≤ 28) {k : Nat} (hk : k ≤ ts.length) : Cuts D ts [] k := by
  refine ⟨h.size, h.len, h.ok, by rw [hp]; rfl, ht, hk, (by show k + 0 ≤ 8; omega), hs, (fun t ht => by cases ht), fun f n h1 h2 => ?_⟩
  have e : mix ts [] k f n = old ts n := by unfold mix; rw [if_neg (by show ¬ (k < n ∧ n ≤ k + 0); omega)]
  have ec : st f D (n % 8) = cn D (n % 8) := by unfold cn; rw [st_quiet hp, st_quiet hp]
  rw [e, ec]
  by_cases hn : n ≤ ts.length
  · obtain ⟨t, htx, hc, hr⟩ := h.cont n h1 hn (by omega)
    obtain ⟨u, hu⟩ : ∃ u, ts[n - 1]? = some u := ⟨_, List.getElem?_eq_getElem (by omega)⟩
    have e2 := hr (n - 1) ⟨0 + (n - 1) + 1, u⟩ (by show (recs 0 ts)[n - 1]? = _; rw [recs_at, hu]; rfl) (by show 0 + (n - 1) + 1 = n; omega)
    have e2 : u = t := e2
    rw [hc, old_some hu, e2]
  · rw [h.zero n (by omega) h2, old_none (by omega)]

theorem LC_len {ts us : List ByteArray} {k : Nat} (hk : k ≤ ts.length) : (LC ts us k).held.length = k + us.length := by
  show ((recs 0 ts).take k ++ recs ts.length us).length = _
  rw [List.length_append, List.length_take, recs_len, recs_len]
  omega
theorem LC_old {ts us : List ByteArray} {k i : Nat} (hk : k ≤ ts.length) (hi : i < k) : (LC ts us k).held[i]? = (ts[i]?).map fun t => ⟨i + 1, t⟩ := by
  show ((recs 0 ts).take k ++ recs ts.length us)[i]? = _
  rw [List.getElem?_append_left (by rw [List.length_take, recs_len]; omega), List.getElem?_take_of_lt hi, recs_at, Nat.zero_add]
theorem LC_neu {ts us : List ByteArray} {k i : Nat} (hk : k ≤ ts.length) (hi : k ≤ i) : (LC ts us k).held[i]? = (us[i - k]?).map fun t => ⟨mrk ts.length k (i + 1), t⟩ := by
  have hl : ((recs 0 ts).take k).length = k := by rw [List.length_take, recs_len]; omega
  have e : mrk ts.length k (i + 1) = ts.length + (i - k) + 1 := by unfold mrk; rw [if_neg (by omega)]; omega
  show ((recs 0 ts).take k ++ recs ts.length us)[i]? = _
  rw [List.getElem?_append_right (by rw [hl]; exact hi), hl, recs_at, e]
theorem LC_mark {ts us : List ByteArray} {k : Nat} (hk : k ≤ ts.length) : ∀ {i : Nat}, i ≤ k + us.length → (LC ts us k).markAt i = mrk ts.length k i
  | 0, _ => by
    show 0 = mrk ts.length k 0
    unfold mrk
    rw [if_pos (Nat.zero_le _)]
  | i + 1, hi => by
    rcases Nat.lt_or_ge i k with h | h
    · obtain ⟨t, ht⟩ : ∃ t, ts[i]? = some t := ⟨_, List.getElem?_eq_getElem (by omega)⟩
      have e := LC_old (us := us) hk h
      rw [ht] at e
      rw [markAt_some e]
      show i + 1 = mrk _ _ _
      unfold mrk
      rw [if_pos (by omega)]
    · obtain ⟨t, ht⟩ : ∃ t, us[i - k]? = some t := ⟨_, List.getElem?_eq_getElem (by omega)⟩
      have e := LC_neu (us := us) hk h
      rw [ht] at e
      rw [markAt_some e]
theorem mk_le {h k i : Nat} (hi : i ≤ 8) (hh : h ≤ 8) : mrk h k i ≤ 16 := by
  unfold mrk
  split <;> omega
theorem LC_can {D : Dk} {ts us : List ByteArray} {k : Nat} (h : Cuts D ts us k) (t : ByteArray) : (LC ts us k).can D.size t = decide (k + us.length ≠ 8 ∧ t.size ≤ 28) := by
  have hl := LC_len (us := us) h.hk
  have hm : (LC ts us k).lastMark = mrk ts.length k (k + us.length) := by unfold Lg.lastMark; rw [hl]; exact LC_mark h.hk (Nat.le_refl _)
  have hla : (LC ts us k).last = k + us.length := by show 0 + (LC ts us k).held.length = _; omega
  have hu := h.hu
  have ht := h.ht
  have := mk_le (k := k) hu ht
  have hz : (head ((LC ts us k).last + 1) (LC ts us k).lastMark ++ t).size = 2 + t.size := by
    rw [ByteArray.size_append, hla, hm, head_two (by omega) (by omega)]
  have hn : (LC ts us k).next = ts.length + us.length + 1 := rfl
  have hmm : (LC ts us k).many = 8 := rfl
  unfold Lg.can
  rw [h.size, hmm, hz, hn, hl]
  refine decide_eq_decide.2 ⟨fun ⟨a, _, c⟩ => ⟨a, by omega⟩, fun ⟨a, c⟩ => ⟨a, by omega, by omega⟩⟩
theorem LC_long {D : Dk} {ts us : List ByteArray} {k : Nat} (h : Cuts D ts us k) {t : ByteArray} (ht : ¬ t.size ≤ 28) : ¬ (head ((LC ts us k).last + 1) (LC ts us k).lastMark ++ t).size + 18 ≤ D.size := by
  have hl := LC_len (us := us) h.hk
  have hm : (LC ts us k).lastMark = mrk ts.length k (k + us.length) := by unfold Lg.lastMark; rw [hl]; exact LC_mark h.hk (Nat.le_refl _)
  have hla : (LC ts us k).last = k + us.length := by show 0 + (LC ts us k).held.length = _; omega
  have hu := h.hu
  have := mk_le (k := k) hu h.ht
  rw [ByteArray.size_append, hla, hm, head_two (by omega) (by omega), h.size]
  omega
theorem LC_more {ts us : List ByteArray} {k : Nat} (t : ByteArray) : (LC ts us k).more t = LC ts (us ++ [t]) k := by
  unfold LC Lg.more
  rw [recs_snoc, List.length_append, List.append_assoc]
  rfl
theorem Cuts.more {D : Dk} {ts us : List ByteArray} {k : Nat} (h : Cuts D ts us k) (h8 : k + us.length ≠ 8) {t : ByteArray} (ht : t.size ≤ 28) : Cuts (wrote D (LC ts us k) t) ts (us ++ [t]) k := by
  have hl := LC_len (us := us) h.hk
  have hm : (LC ts us k).lastMark = mrk ts.length k (k + us.length) := by unfold Lg.lastMark; rw [hl]; exact LC_mark h.hk (Nat.le_refl _)
  have hla : (LC ts us k).last = k + us.length := by show 0 + (LC ts us k).held.length = _; omega
  have hu := h.hu
  have htl := h.ht
  have hmk := mk_le (k := k) hu htl
  have hsl : (us ++ [t]).length = us.length + 1 := by rw [List.length_append]; rfl
  have hw : wrote D (LC ts us k) t = D.push ((k + us.length + 1) % 8) (bd (ts.length + us.length + 1) (k + us.length + 1) (mrk ts.length k (k + us.length)) t) := by
    have e1 : (LC ts us k).place ((LC ts us k).last + 1) = (k + us.length + 1) % 8 := by rw [hla]; show 0 + _ % 8 = _; omega
    have e2 : (LC ts us k).next = ts.length + us.length + 1 := rfl
    unfold wrote bd
    rw [e1, e2, hm, hla, h.size]
  have hb : (bd (ts.length + us.length + 1) (k + us.length + 1) (mrk ts.length k (k + us.length)) t).size = D.size := by rw [h.size]; exact bd_size (by omega) (by omega) ht
  have ha : (k + us.length + 1) % 8 < D.safe.length := by rw [h.len]; exact Nat.mod_lt _ (by decide)
  rw [hw]
  refine ⟨h.size, h.len, h.ok.push ha hb, ?_, htl, h.hk, by omega, h.st_, fun x hx => ?_, fun f n h1 h2 => ?_⟩
  · show (D.pend ++ [_]).length = _
    rw [List.length_append, hsl, h.pend]
    rfl
  · rcases List.mem_append.1 hx with hx | hx
    · exact h.su x hx
    · rw [List.mem_singleton.1 hx]; exact ht
  · rw [st_push ha]
    by_cases hn : n = k + us.length + 1
    · subst hn
      have e0 : mix ts us k f (k + us.length + 1) = old ts (k + us.length + 1) := by unfold mix; rw [if_neg (by omega)]
      rw [if_pos rfl, h.cont f _ h1 h2, e0, h.pend]
      unfold mix neu
      rw [if_pos (by omega), show k + us.length + 1 - k - 1 = us.length by omega, show k + us.length + 1 - 1 = k + us.length by omega, show ts.length + (k + us.length + 1 - k) = ts.length + us.length + 1 by omega]
      simp
    · rw [if_neg (by omega), h.cont f n h1 h2]
      unfold mix
      by_cases hc : k < n ∧ n ≤ k + us.length
      · rw [if_pos hc, if_pos (by omega)]
        unfold neu
        rw [List.getD_eq_getElem?_getD, List.getD_eq_getElem?_getD, List.getElem?_append_left (by omega)]
      · rw [if_neg hc, if_neg (by omega)]

/-! ### What a sector says behind it -/
/-- It says nothing, the old record, or the new one. -/
def View (ts us : List ByteArray) (k n : Nat) (s : Nat × ByteArray × Bool) : Prop :=
  s = (0, ⟨#[]⟩, false) ∨ (∃ t, ts[n - 1]? = some t ∧ s = (n, head n (n - 1) ++ t, true)) ∨ (∃ u, k < n ∧ us[n - k - 1]? = some u ∧ s = (mrk ts.length k n, head n (mrk ts.length k (n - 1)) ++ u, true))
section
variable {D : Dk} {ts us : List ByteArray} {k n : Nat} {f : Nat → Nat}
theorem Cuts.un_old (h : Cuts D ts us k) (h1 : 1 ≤ n) (h2 : n ≤ 8) {t : ByteArray} (ht : ts[n - 1]? = some t) : un (old ts n) = (n, head n (n - 1) ++ t, true) := by
  rw [old_some ht]
  exact un_bd (by omega) (by omega) (by omega) (by omega) (h.st_ t (List.mem_of_getElem? ht))
theorem Cuts.un_neu (h : Cuts D ts us k) (h2 : n ≤ 8) (hk : k < n) {u : ByteArray} (hu : us[n - k - 1]? = some u) : un (neu ts.length k us n) = (mrk ts.length k n, head n (mrk ts.length k (n - 1)) ++ u, true) := by
  have hm := mk_le (h := ts.length) (k := k) (i := n - 1) (by omega) h.ht
  have e : mrk ts.length k n = ts.length + (n - k) := by unfold mrk; rw [if_neg (by omega)]
  have ht := h.ht
  unfold neu
  rw [List.getD_eq_getElem?_getD, hu, e]
  exact un_bd (by omega) (by omega) (by omega) (by omega) (h.su u (List.mem_of_getElem? hu))
theorem Cuts.view (h : Cuts D ts us k) (hf : ∀ j, f j ≤ 48) (h1 : 1 ≤ n) (h2 : n ≤ 8) : View ts us k n (un (mix ts us k f n)) := by
  have hold : View ts us k n (un (old ts n)) := by
    by_cases hn : n ≤ ts.length
    · obtain ⟨t, ht⟩ : ∃ t, ts[n - 1]? = some t := ⟨_, List.getElem?_eq_getElem (by omega)⟩
      exact .inr (.inl ⟨t, ht, h.un_old h1 h2 ht⟩)
    · rw [old_none (by omega)]
      exact .inl (un_zeros 48)
  unfold mix
  by_cases hc : k < n ∧ n ≤ k + us.length
  · rw [if_pos hc]
    obtain ⟨u, hu⟩ : ∃ u, us[n - k - 1]? = some u := ⟨_, List.getElem?_eq_getElem (by omega)⟩
    have hs := h.su u (List.mem_of_getElem? hu)
    have hm := mk_le (h := ts.length) (k := k) (i := n - 1) (by omega) h.ht
    have htl := h.ht
    have hto : (un (cut (neu ts.length k us n) (old ts n) (f (n - k - 1)))).2.2 = false ∨ cut (neu ts.length k us n) (old ts n) (f (n - k - 1)) = old ts n ∨ cut (neu ts.length k us n) (old ts n) (f (n - k - 1)) = neu ts.length k us n := by
      have hfit := bd_fits (n := n) (p := mrk ts.length k (n - 1)) (t := us.getD (n - k - 1) ⟨#[]⟩) (by omega) (by omega) (by rw [List.getD_eq_getElem?_getD, hu]; exact hs)
      by_cases hn : n ≤ ts.length
      · obtain ⟨t, ht⟩ : ∃ t, ts[n - 1]? = some t := ⟨_, List.getElem?_eq_getElem (by omega)⟩
        rw [old_some ht]
        exact torn (n := n) (x := head n (n - 1) ++ t) (by omega) (by omega) (by omega) hfit (.inr ⟨by omega, bd_fits (by omega) (by omega) (h.st_ t (List.mem_of_getElem? ht)), rfl⟩) (by omega) (hf _)
      · rw [old_none (by omega)]
        exact torn (n := 0) (x := ⟨#[]⟩) (by omega) (by omega) (by omega) hfit (.inl ⟨rfl, rfl⟩) (by omega) (hf _)
    rcases hto with e | e | e
    · left
      rcases un_cases (cut (neu ts.length k us n) (old ts n) (f (n - k - 1))) with c | c
      · rw [e] at c; cases c.1
      · exact c
    · rw [e]; exact hold
    · rw [e]
      exact .inr (.inr ⟨u, hc.1, hu, h.un_neu h2 hc.1 hu⟩)
  · rw [if_neg hc]
    exact hold
theorem Cuts.there (h : Cuts D ts us k) : (D.settle f).safe.length = 8 := (after_length _ _ _ _).trans h.len
theorem Cuts.at_ (h : Cuts D ts us k) (hf : ∀ j, f j ≤ 48) {L : Lg} (h0 : L.from_ = 0) (h8 : L.many = 8) (h1 : 1 ≤ n) (h2 : n ≤ 8) : Wal.at_ (D.settle f) L n = un (mix ts us k f n) := by
  unfold Wal.at_ Lg.place
  rw [h0, h8, Nat.zero_add, sec_cn (h.ok.settle (by rw [h.size]; exact hf)) (by rw [h.there]; exact Nat.mod_lt _ (by decide)), cn_settle, h.cont f n h1 h2]
/-- What is old for sure. -/
theorem Cuts.first (h : Cuts D ts us k) (h1 : 1 ≤ n) (hn : n ≤ k) : ∃ t, ts[n - 1]? = some t ∧ un (mix ts us k f n) = (n, head n (n - 1) ++ t, true) := by
  have hk := h.hk
  obtain ⟨t, ht⟩ : ∃ t, ts[n - 1]? = some t := ⟨_, List.getElem?_eq_getElem (by omega)⟩
  have e : mix ts us k f n = old ts n := by unfold mix; rw [if_neg (by omega)]
  exact ⟨t, ht, by rw [e]; exact h.un_old h1 (by have := h.ht; omega) ht⟩

/-- What is held behind a crash. -/
theorem Cuts.shape (h : Cuts D ts us k) (hf : ∀ j, f j ≤ 48) {L : Lg} (ht : Tells (D.settle f) L) (he : Ends (D.settle f) L) (h0 : L.from_ = 0) (h8 : L.many = 8) (hb : L.base = 0) (hm : L.mark = 0) (hle : L.held.length ≤ 8) :
    k ≤ L.held.length ∧ ((L.held.length ≤ ts.length ∧ L.held = (recs 0 ts).take L.held.length) ∨ (L.held.length ≤ k + us.length ∧ L.held = (recs 0 ts).take k ++ (recs ts.length us).take (L.held.length - k))) := by
  have hk := h.hk
  have P : ∀ i, i ≤ L.held.length → ((i ≤ ts.length ∧ L.held.take i = (recs 0 ts).take i ∧ L.markAt i = i) ∨ (k ≤ i ∧ i ≤ k + us.length ∧ L.held.take i = (recs 0 ts).take k ++ (recs ts.length us).take (i - k) ∧ L.markAt i = mrk ts.length k i)) := by
    intro i
    induction i with
    | zero => intro _; exact .inl ⟨Nat.zero_le _, by simp, hm⟩
    | succ i ih =>
      intro hi
      have ih := ih (by omega)
      obtain ⟨r, hr⟩ : ∃ r, L.held[i]? = some r := ⟨_, List.getElem?_eq_getElem (by omega)⟩
      obtain ⟨t1, t2⟩ := ht i r hr
      rw [hb, Nat.zero_add, h.at_ hf h0 h8 (by omega) (by omega)] at t1 t2
      have hmi : L.markAt i < 18446744073709551616 := by
        rcases ih with ⟨_, _, e⟩ | ⟨_, _, _, e⟩
        · omega
        · have := mk_le (h := ts.length) (k := k) (i := i) (by omega) h.ht
          omega
      have hmk := mk_le (h := ts.length) (k := k) (i := i) (by omega) h.ht
      have etk : L.held.take (i + 1) = L.held.take i ++ [r] := by rw [List.take_add_one, hr]; rfl
      have emk : L.markAt (i + 1) = r.mark := markAt_some hr
      obtain ⟨rm, rt⟩ := r
      rcases h.view hf (n := i + 1) (by omega) (by omega) with e | ⟨t, hts, e⟩ | ⟨u, hku, hus, e⟩
      · rw [e] at t1
        rw [tail_empty] at t1
        cases t1
      · rw [e] at t1 t2
        have t2 : i + 1 = rm := t2
        obtain ⟨-, q2, q3⟩ := tail_inv (by omega) (by omega) (by omega) hmi t1
        have q3 : rt = t := q3
        have q2 : L.markAt i = i := by omega
        subst q3
        subst t2
        rw [Nat.add_sub_cancel] at hts
        have hil : i < ts.length := (List.getElem?_eq_some_iff.1 hts).1
        have hold : L.held.take i = (recs 0 ts).take i := by
          rcases ih with ⟨_, e, _⟩ | ⟨a, b, c, d⟩
          · exact e
          · have hik : i = k := by
              rw [q2] at d
              unfold mrk at d
              split at d
              · omega
              · omega
            rw [c, hik, Nat.sub_self, List.take_zero, List.append_nil]
        refine .inl ⟨hil, ?_, emk⟩
        rw [etk, hold, List.take_add_one, recs_at, hts, Nat.zero_add]
        rfl
      · rw [e] at t1 t2
        have t2 : mrk ts.length k (i + 1) = rm := t2
        rw [Nat.add_sub_cancel] at t1
        obtain ⟨-, q2, q3⟩ := tail_inv (by omega) (by omega) (by omega) hmi t1
        have q3 : rt = u := q3
        subst q3
        subst t2
        have hul : i + 1 - k - 1 < us.length := (List.getElem?_eq_some_iff.1 hus).1
        have hnew : L.held.take i = (recs 0 ts).take k ++ (recs ts.length us).take (i - k) := by
          rcases ih with ⟨a, c, d⟩ | ⟨_, _, e, _⟩
          · have hik : i = k := by
              rw [d] at q2
              unfold mrk at q2
              split at q2
              · omega
              · omega
            rw [c, hik, Nat.sub_self, List.take_zero, List.append_nil]
          · exact e
        have es : i + 1 - k = i - k + 1 := by omega
        have em : mrk ts.length k (i + 1) = ts.length + (i - k) + 1 := by unfold mrk; rw [if_neg (by omega)]; omega
        refine .inr ⟨by omega, by omega, ?_, emk⟩
        rw [etk, hnew, es, List.take_add_one, recs_at, show i - k = i + 1 - k - 1 by omega, hus, List.append_assoc, em, show i + 1 - k - 1 = i - k by omega]
        rfl
  have hfin := P L.held.length (Nat.le_refl _)
  rw [List.take_length] at hfin
  have hlow : k ≤ L.held.length := by
    rcases Nat.lt_or_ge L.held.length k with hlt | hge
    · exfalso
      rcases hfin with ⟨_, _, e⟩ | ⟨a, _⟩
      · rcases he with he | he
        · have := h.ht; omega
        · have htl := h.ht
          have hla : L.last = L.held.length := by show L.base + L.held.length = _; omega
          have hlm : L.lastMark = L.held.length := e
          rw [hla, hlm, h.at_ hf h0 h8 (by omega) (by omega)] at he
          obtain ⟨t, -, e2⟩ := h.first (f := f) (n := L.held.length + 1) (by omega) (by omega)
          rw [e2, Nat.add_sub_cancel, tail_same] at he
          cases he
      · omega
    · exact hge
  exact ⟨hlow, hfin.imp (fun ⟨a, b, _⟩ => ⟨a, b⟩) (fun ⟨_, a, b, _⟩ => ⟨a, b⟩)⟩
end
end Wal
end Go.Proofs.Ytgjejofdmfpdjaa
