/-
  Behind a crash, or a sync, plainly: what is opened; one more record, and what is opened then.
-/
import Derived.Test.YtgjejofdmfpdjaaWlU
namespace Go.Proofs.Ytgjejofdmfpdjaa
namespace Wal
open Dsk Slt

theorem recs_append : ∀ (s : Nat) (a b : List ByteArray), recs s (a ++ b) = recs s a ++ recs (s + a.length) b
  | s, [], b => rfl
  | s, t :: a, b => by
    rw [List.cons_append, recs, recs_append (s + 1) a b, recs, List.cons_append, List.length_cons]
    congr 3
    omega
theorem recs_take : ∀ (s : Nat) (a : List ByteArray) (k : Nat), (recs s a).take k = recs s (a.take k)
  | s, [], k => by simp [recs]
  | s, t :: a, 0 => by simp [recs]
  | s, t :: a, k + 1 => by rw [recs, List.take_succ_cons, List.take_succ_cons, recs, recs_take (s + 1) a k]
theorem txs_LC {ts us : List ByteArray} {k : Nat} : txs (LC ts us k).held = ts.take k ++ us := by
  show txs ((recs 0 ts).take k ++ recs ts.length us) = _
  rw [txs_append, recs_take, txs_recs, txs_recs]
theorem LN_LC {ts : List ByteArray} : LN ts = LC ts [] ts.length := by
  unfold LN LC
  rw [List.take_of_length_le (by rw [recs_len]; exact Nat.le_refl _), recs, List.append_nil]
  rfl
theorem LN_cut {ts : List ByteArray} {k : Nat} : (LN ts).cut k = LC ts [] k := by
  unfold LN LC Lg.cut
  rw [recs, List.append_nil]
  rfl

/-! ### The next mark -/
theorem greatest_ge (D : Dk) (a : Nat) : ∀ k j, j < k → (sec D (a + j : Nat)).1 ≤ greatest D a k
  | 0, _, h => by omega
  | k + 1, j, h => by
    have e : greatest D a (k + 1) = max (greatest D a k) (sec D (a + k : Nat)).1 := rfl
    rw [e]
    rcases Nat.lt_or_ge j k with h1 | h1
    · exact Nat.le_trans (greatest_ge D a k j h1) (Nat.le_max_left _ _)
    · obtain rfl : j = k := by omega
      exact Nat.le_max_right _ _
theorem greatest_le (D : Dk) (a c : Nat) : ∀ k, (∀ j, j < k → (sec D (a + j : Nat)).1 ≤ c) → greatest D a k ≤ c
  | 0, _ => Nat.zero_le _
  | k + 1, h => by
    have e : greatest D a (k + 1) = max (greatest D a k) (sec D (a + k : Nat)).1 := rfl
    rw [e]
    exact Nat.max_le.2 ⟨greatest_le D a c k fun j hj => h j (by omega), h k (Nat.lt_succ_self k)⟩
section
variable {D : Dk} {ts us : List ByteArray} {k : Nat} {f : Nat → Nat}
theorem Cuts.sec (h : Cuts D ts us k) (hf : ∀ j, f j ≤ 48) {n : Nat} (h1 : 1 ≤ n) (h2 : n ≤ 8) : Slt.sec (D.settle f) (n % 8 : Nat) = un (mix ts us k f n) := by
  rw [sec_cn (h.ok.settle (by rw [h.size]; exact hf)) (by rw [h.there]; exact Nat.mod_lt _ (by decide)), cn_settle, h.cont f n h1 h2]
theorem Cuts.next (h : Cuts D ts us k) (hf : ∀ j, f j ≤ 48) : nextMark (D.settle f) 0 8 ≤ 17 ∧ ∀ n, 1 ≤ n → n ≤ 8 → (un (mix ts us k f n)).1 < nextMark (D.settle f) 0 8 := by
  have hle : greatest (D.settle f) 0 8 ≤ 16 := greatest_le _ 0 16 8 fun j hj => by
    have hv : ∀ n, 1 ≤ n → n ≤ 8 → (un (mix ts us k f n)).1 ≤ 16 := fun n h1 h2 => by
      rcases h.view hf h1 h2 with e | ⟨t, _, e⟩ | ⟨u, _, _, e⟩
      · rw [e]; exact Nat.zero_le _
      · rw [e]; show n ≤ 16; omega
      · rw [e]; exact mk_le h2 h.ht
    rw [Nat.zero_add]
    rcases Nat.eq_zero_or_pos j with rfl | hj0
    · have e := h.sec hf (n := 8) (by decide) (by decide)
      rw [show (8 % 8 : Nat) = 0 by decide] at e
      rw [e]
      exact hv 8 (by decide) (by decide)
    · have e := h.sec hf (n := j) hj0 (by omega)
      rw [Nat.mod_eq_of_lt hj] at e
      rw [e]
      exact hv j hj0 (by omega)
  refine ⟨by unfold nextMark; omega, fun n h1 h2 => ?_⟩
  have hg := greatest_ge (D.settle f) 0 8 (n % 8) (Nat.mod_lt _ (by decide))
  rw [Nat.zero_add, h.sec hf h1 h2] at hg
  unfold nextMark
  omega

/-! ### Behind a sync -/
theorem Cuts.synced (h : Cuts D ts us k) (hu : us ≠ []) : (opened D.flush 0 8 0 0).held = (LC ts us k).held := by
  have hf : ∀ j, (fun _ => D.size : Nat → Nat) j ≤ 48 := fun j => by rw [h.size]; exact Nat.le_refl _
  have hk := h.hk
  have huu := h.hu
  have htl := h.ht
  have hul : 0 < us.length := by
    rcases us with _ | ⟨x, us⟩
    · exact absurd rfl hu
    · simp
  have hll := LC_len (us := us) hk
  have hneu : ∀ n, k < n → n ≤ k + us.length → ∃ u, us[n - k - 1]? = some u ∧ un (mix ts us k (fun _ => D.size) n) = (mrk ts.length k n, head n (mrk ts.length k (n - 1)) ++ u, true) := by
    intro n h1 h2
    obtain ⟨u, hu⟩ : ∃ u, us[n - k - 1]? = some u := ⟨_, List.getElem?_eq_getElem (by omega)⟩
    have hm := mk_le (h := ts.length) (k := k) (i := n - 1) (by omega) htl
    have e : mix ts us k (fun _ => D.size) n = neu ts.length k us n := by
      unfold mix
      rw [if_pos ⟨h1, h2⟩]
      have s1 : (neu ts.length k us n).size = 48 := bd_size (by omega) (by omega) (by rw [List.getD_eq_getElem?_getD, hu]; exact h.su u (List.mem_of_getElem? hu))
      have s2 : (old ts n).size = 48 := by
        by_cases hn : n ≤ ts.length
        · obtain ⟨t, ht⟩ : ∃ t, ts[n - 1]? = some t := ⟨_, List.getElem?_eq_getElem (by omega)⟩
          rw [old_some ht]
          exact bd_size (by omega) (by omega) (h.st_ t (List.mem_of_getElem? ht))
        · rw [old_none (by omega)]; exact zeros_size 48
      rw [h.size]
      exact cut_full s1 s2
    exact ⟨u, hu, by rw [e]; exact h.un_neu (by omega) h1 hu⟩
  have ht : Tells (D.settle fun _ => D.size) (LC ts us k) := by
    intro i r hr
    have hi := (List.getElem?_eq_some_iff.1 hr).1
    rw [hll] at hi
    rw [show (LC ts us k).base + i + 1 = i + 1 by show 0 + i + 1 = _; omega, h.at_ hf rfl rfl (by omega) (by omega), LC_mark hk (by omega)]
    rcases Nat.lt_or_ge i k with hik | hik
    · obtain ⟨t, hts, e⟩ := h.first (f := fun _ => D.size) (n := i + 1) (by omega) (by omega)
      rw [Nat.add_sub_cancel] at hts e
      rw [LC_old hk hik, hts] at hr
      injection hr with hr
      rw [e, ← hr]
      have em : mrk ts.length k i = i := by unfold mrk; rw [if_pos (by omega)]
      rw [em]
      exact ⟨tail_same _ _ _, rfl⟩
    · obtain ⟨u, hus, e⟩ := hneu (i + 1) (by omega) (by omega)
      rw [Nat.add_sub_cancel] at e
      rw [LC_neu hk hik, show i - k = i + 1 - k - 1 by omega, hus] at hr
      injection hr with hr
      rw [e, ← hr]
      exact ⟨tail_same _ _ _, rfl⟩
  have he : Ends (D.settle fun _ => D.size) (LC ts us k) := by
    by_cases h8 : k + us.length = 8
    · exact .inl (by rw [hll]; exact h8)
    · right
      have hla : (LC ts us k).last = k + us.length := by show 0 + (LC ts us k).held.length = _; omega
      have hlm : (LC ts us k).lastMark = ts.length + us.length := by
        unfold Lg.lastMark
        rw [hll, LC_mark hk (Nat.le_refl _)]
        unfold mrk
        rw [if_neg (by omega)]
        omega
      have hmix : mix ts us k (fun _ => D.size) (k + us.length + 1) = old ts (k + us.length + 1) := by unfold mix; rw [if_neg (by omega)]
      rw [hla, hlm, h.at_ hf rfl rfl (by omega) (by omega), hmix]
      by_cases hn : k + us.length + 1 ≤ ts.length
      · obtain ⟨t, hts⟩ : ∃ t, ts[k + us.length + 1 - 1]? = some t := ⟨_, List.getElem?_eq_getElem (by omega)⟩
        rw [h.un_old (by omega) (by omega) hts]
        cases hx : tail (k + us.length + 1) (ts.length + us.length) (head (k + us.length + 1) (k + us.length + 1 - 1) ++ t) with
        | none => rfl
        | some x =>
          have := (tail_inv (by omega) (by omega) (by omega) (by omega) hx).2.1
          omega
      · rw [old_none (by omega), un_zeros]
        exact tail_empty _ _
  have e := opened_of ht he (by rw [hll]; show _ ≤ 8; exact huu)
  show (opened (D.settle fun _ => D.size) (LC ts us k).from_ (LC ts us k).many (LC ts us k).base (LC ts us k).mark).held = _
  rw [e]

/-! ### Behind a crash -/
theorem crash_is (D : Dk) (keep : List Int) (h : D.size = 48) : D.crash keep = D.settle (Dk.keepOf keep 48) := by unfold Dk.crash; rw [h]
/-- What is opened behind a crash, where nothing was cut. -/
theorem Cuts.kept (h : Cuts D ts us ts.length) (hf : ∀ j, f j ≤ 48) : ∃ i, ts.length ≤ i ∧ i ≤ ts.length + us.length ∧ opened (D.settle f) 0 8 0 0 = ⟨0, 8, 0, 0, nextMark (D.settle f) 0 8, recs 0 ((ts ++ us).take i)⟩ := by
  obtain ⟨ht, he, hle, hb, hm, h0, h8, hn⟩ := opened_tells (D.settle f) 0 8 0 0
  obtain ⟨hlow, hs⟩ := h.shape hf ht he h0 h8 hb hm hle
  generalize opened (D.settle f) 0 8 0 0 = L at *
  obtain ⟨a, b, c, d, e, g⟩ := L
  have hb : c = 0 := hb
  have hm : d = 0 := hm
  have h0 : a = 0 := h0
  have h8 : b = 8 := h8
  have hn : e = nextMark (D.settle f) 0 8 := hn
  subst hb hm h0 h8 hn
  have hlow : ts.length ≤ g.length := hlow
  have hall : recs 0 ts ++ recs ts.length us = recs 0 (ts ++ us) := by rw [recs_append, Nat.zero_add]
  refine ⟨g.length, hlow, ?_, ?_⟩
  · rcases hs with ⟨a, _⟩ | ⟨a, _⟩
    · have a : g.length ≤ ts.length := a
      omega
    · exact a
  · have hg : g = (recs 0 (ts ++ us)).take g.length := by
      rcases hs with ⟨a, b⟩ | ⟨_, b⟩
      · have a : g.length ≤ ts.length := a
        have b : g = (recs 0 ts).take g.length := b
        have el : g.length = ts.length := by omega
        have b2 : g = recs 0 ts := b.trans (by rw [el, List.take_of_length_le (by rw [recs_len]; exact Nat.le_refl _)])
        rw [← hall, List.take_append_of_le_length (by rw [recs_len]; omega)]
        exact b
      · have b : g = (recs 0 ts).take ts.length ++ (recs ts.length us).take (g.length - ts.length) := b
        have b2 : g = recs 0 ts ++ (recs ts.length us).take (g.length - ts.length) := b.trans (by rw [List.take_of_length_le (l := recs 0 ts) (by rw [recs_len]; exact Nat.le_refl _)])
        rw [← hall, List.take_append, List.take_of_length_le (l := recs 0 ts) (by rw [recs_len]; exact hlow), recs_len]
        exact b2
    rw [recs_take] at hg
    rw [← hg]

/-! ### One more record -/
def ton : ByteArray := ⟨#[111, 110]⟩
/-- What is opened behind a crash: these texts. -/
def LY (nx : Nat) (vs : List ByteArray) : Lg := ⟨0, 8, 0, 0, nx, recs 0 vs⟩
theorem LY_mark {nx : Nat} {vs : List ByteArray} : ∀ {i : Nat}, i ≤ vs.length → (LY nx vs).markAt i = i
  | 0, _ => rfl
  | i + 1, hi => by
    obtain ⟨t, ht⟩ : ∃ t, vs[i]? = some t := ⟨_, List.getElem?_eq_getElem (by omega)⟩
    have e : (LY nx vs).held[i]? = some ⟨0 + i + 1, t⟩ := by show (recs 0 vs)[i]? = _; rw [recs_at, ht]; rfl
    rw [markAt_some e]
    show 0 + i + 1 = i + 1
    omega
theorem LY_len {nx : Nat} {vs : List ByteArray} : (LY nx vs).held.length = vs.length := recs_len 0 vs
theorem mrk_same (h i : Nat) : mrk h h i = i := by
  unfold mrk
  split
  · rfl
  · omega
theorem markAt_next (L : Lg) (n : Nat) (l : List Rc) : ∀ i, (Lg.mk L.from_ L.many L.base L.mark n l).markAt i = (Lg.mk L.from_ L.many L.base L.mark L.next l).markAt i
  | 0 => rfl
  | _ + 1 => rfl
theorem LY_can {nx : Nat} {vs : List ByteArray} (hn : nx ≤ 17) (h8 : vs.length < 8) : (LY nx vs).can 48 ton = true := by
  have hla : (LY nx vs).last = vs.length := by show 0 + (LY nx vs).held.length = _; rw [LY_len]; omega
  have hlm : (LY nx vs).lastMark = vs.length := by unfold Lg.lastMark; rw [LY_len]; exact LY_mark (Nat.le_refl _)
  refine can_iff.2 ⟨by rw [LY_len]; show _ ≠ 8; omega, by show nx ≠ _; omega, ?_⟩
  rw [hla, hlm]
  exact bd_fits (by omega) (by omega) (by decide)
theorem Cuts.on (h : Cuts D ts us ts.length) (hf : ∀ j, f j ≤ 48) {vs : List ByteArray} (hv : opened (D.settle f) 0 8 0 0 = LY (nextMark (D.settle f) 0 8) vs) (hl : ts.length ≤ vs.length) (h8 : vs.length < 8) :
    (opened (wrote (D.settle f) (LY (nextMark (D.settle f) 0 8) vs) ton).flush 0 8 0 0).held = recs 0 vs ++ [⟨nextMark (D.settle f) 0 8, ton⟩] := by
  obtain ⟨ht, -, -, -, -, -, -, -⟩ := opened_tells (D.settle f) 0 8 0 0
  obtain ⟨n1, n2⟩ := h.next hf
  have n0 : 1 ≤ nextMark (D.settle f) 0 8 := by unfold nextMark; omega
  rw [hv] at ht
  generalize nextMark (D.settle f) 0 8 = nx at *
  have dok : (D.settle f).ok := h.ok.settle (by rw [h.size]; exact hf)
  have dsz : (D.settle f).size = 48 := h.size
  have dln : (D.settle f).safe.length = 8 := h.there
  have hla : (LY nx vs).last = vs.length := by show 0 + (LY nx vs).held.length = _; rw [LY_len]; omega
  have hlm : (LY nx vs).lastMark = vs.length := by unfold Lg.lastMark; rw [LY_len]; exact LY_mark (Nat.le_refl _)
  have hw : wrote (D.settle f) (LY nx vs) ton = (D.settle f).push ((vs.length + 1) % 8) (bd nx (vs.length + 1) vs.length ton) := by
    have e1 : (LY nx vs).place ((LY nx vs).last + 1) = (vs.length + 1) % 8 := by rw [hla]; show 0 + _ % 8 = _; omega
    have e2 : (LY nx vs).next = nx := rfl
    unfold wrote bd
    rw [e1, e2, hlm, hla, dsz]
  have hbs : (bd nx (vs.length + 1) vs.length ton).size = (D.settle f).size := by rw [dsz]; exact bd_size (by omega) (by omega) (by decide)
  have hpl : (vs.length + 1) % 8 < (D.settle f).safe.length := by rw [dln]; exact Nat.mod_lt _ (by decide)
  have hcn := cn_push dok hpl hbs
  have eok : ((D.settle f).push ((vs.length + 1) % 8) (bd nx (vs.length + 1) vs.length ton)).flush.ok := (dok.push hpl hbs).flush
  have eln : ((D.settle f).push ((vs.length + 1) % 8) (bd nx (vs.length + 1) vs.length ton)).flush.safe.length = 8 := (after_length _ _ _ _).trans dln
  have hsec : ∀ n, 1 ≤ n → n ≤ 8 → Slt.sec ((D.settle f).push ((vs.length + 1) % 8) (bd nx (vs.length + 1) vs.length ton)).flush (n % 8 : Nat) = if n = vs.length + 1 then (nx, head (vs.length + 1) vs.length ++ ton, true) else un (mix ts us ts.length f n) := by
    intro n h1 h2
    rw [sec_cn eok (by rw [eln]; exact Nat.mod_lt _ (by decide)), cn_flush, hcn]
    by_cases hn : n = vs.length + 1
    · subst hn
      rw [if_pos rfl, if_pos rfl]
      exact un_bd (by omega) (by omega) (by omega) (by omega) (by decide)
    · rw [if_neg (by omega), if_neg hn, cn_settle, h.cont f n h1 h2]
  rw [hw]
  generalize ((D.settle f).push ((vs.length + 1) % 8) (bd nx (vs.length + 1) vs.length ton)).flush = E at *
  have hma : ∀ i, i ≤ vs.length → ((LY nx vs).more ton).markAt i = i := fun i hi => by
    have e1 := markAt_next (LY nx vs) (nx + 1) ((LY nx vs).held ++ [⟨nx, ton⟩]) i
    have e2 := markAt_take (L := LY nx vs) (l := (LY nx vs).held ++ [⟨nx, ton⟩]) (i := i) (by rw [List.length_append, LY_len]; omega) (fun j hj => by rw [List.getElem?_append_left (by rw [LY_len]; omega)])
    exact (e1.trans e2).trans (LY_mark hi)
  have hla2 : ((LY nx vs).more ton).last = vs.length + 1 := by
    show 0 + ((LY nx vs).held ++ [_]).length = _
    rw [List.length_append, LY_len]
    show 0 + (vs.length + 1) = _
    omega
  have hlen2 : ((LY nx vs).more ton).held.length = vs.length + 1 := by
    show ((LY nx vs).held ++ [_]).length = _
    rw [List.length_append, LY_len]
    rfl
  have ht2 : Tells E ((LY nx vs).more ton) := by
    intro i r hr
    rcases more_at (l := (LY nx vs).held) hr with ⟨hi, hr⟩ | ⟨rfl, rfl⟩
    · rw [LY_len] at hi
      obtain ⟨t1, t2⟩ := ht i r hr
      have e1 : Wal.at_ (D.settle f) (LY nx vs) ((LY nx vs).base + i + 1) = un (mix ts us ts.length f (i + 1)) := by
        rw [show (LY nx vs).base + i + 1 = i + 1 by show 0 + i + 1 = _; omega]
        exact h.at_ hf rfl rfl (by omega) (by omega)
      have e2 : Wal.at_ E ((LY nx vs).more ton) (((LY nx vs).more ton).base + i + 1) = un (mix ts us ts.length f (i + 1)) := by
        rw [show ((LY nx vs).more ton).base + i + 1 = i + 1 by show 0 + i + 1 = _; omega]
        have e := hsec (i + 1) (by omega) (by omega)
        rw [if_neg (by omega)] at e
        show Slt.sec E (0 + (i + 1) % 8 : Nat) = _
        rw [Nat.zero_add]
        exact e
      rw [e1, LY_mark (by omega)] at t1
      rw [e1] at t2
      rw [e2, hma i (by omega)]
      exact ⟨t1, t2⟩
    · rw [LY_len, hma _ (Nat.le_refl _)]
      have e := hsec (vs.length + 1) (by omega) (by omega)
      rw [if_pos rfl] at e
      have e2 : Wal.at_ E ((LY nx vs).more ton) (((LY nx vs).more ton).base + vs.length + 1) = (nx, head (vs.length + 1) vs.length ++ ton, true) := by
        rw [show ((LY nx vs).more ton).base + vs.length + 1 = vs.length + 1 by show 0 + vs.length + 1 = _; omega]
        show Slt.sec E (0 + (vs.length + 1) % 8 : Nat) = _
        rw [Nat.zero_add]
        exact e
      rw [e2, show ((LY nx vs).more ton).base + vs.length + 1 = vs.length + 1 by show 0 + vs.length + 1 = _; omega]
      exact ⟨tail_same _ _ _, rfl⟩
  have he2 : Ends E ((LY nx vs).more ton) := by
    by_cases h7 : vs.length + 1 = 8
    · exact .inl (by rw [hlen2]; exact h7)
    · right
      have hlm2 : ((LY nx vs).more ton).lastMark = nx := by
        unfold Lg.lastMark
        rw [hlen2]
        have e : ((LY nx vs).more ton).held[vs.length]? = some ⟨nx, ton⟩ := by
          show ((LY nx vs).held ++ [_])[vs.length]? = _
          rw [List.getElem?_append_right (by rw [LY_len]; exact Nat.le_refl _), LY_len, Nat.sub_self]
          rfl
        exact markAt_some e
      have e := hsec (vs.length + 2) (by omega) (by omega)
      rw [if_neg (by omega)] at e
      rw [hla2, hlm2]
      have e2 : Wal.at_ E ((LY nx vs).more ton) (vs.length + 1 + 1) = un (mix ts us ts.length f (vs.length + 2)) := by
        show Slt.sec E (0 + (vs.length + 1 + 1) % 8 : Nat) = _
        rw [Nat.zero_add]
        exact e
      have hgt := n2 (vs.length + 2) (by omega) (by omega)
      rw [e2]
      rcases h.view hf (n := vs.length + 2) (by omega) (by omega) with c | ⟨t, hts, c⟩ | ⟨u, hk, hus, c⟩
      · rw [c]; exact tail_empty _ _
      · have := (List.getElem?_eq_some_iff.1 hts).1
        omega
      · rw [c, mrk_same] at hgt
        rw [c, mrk_same, mrk_same]
        cases hx : tail (vs.length + 1 + 1) nx (head (vs.length + 2) (vs.length + 2 - 1) ++ u) with
        | none => rfl
        | some x =>
          have := (tail_inv (by omega) (by omega) (by omega) (by omega) hx).2.1
          have hgt : vs.length + 2 < nx := hgt
          omega
  have e := opened_of ht2 he2 (by rw [hlen2]; show _ ≤ 8; omega)
  show (opened E ((LY nx vs).more ton).from_ ((LY nx vs).more ton).many ((LY nx vs).more ton).base ((LY nx vs).more ton).mark).held = _
  rw [e]
  rfl
end
end Wal
end Go.Proofs.Ytgjejofdmfpdjaa
