/-
  WalDrops: the walk, for every input.
-/
import Derived.Test.YtgjejofdmfpdjaaWlR
namespace Go.Proofs.Ytgjejofdmfpdjaa.Drops10
open Go.RowKit
open Dsk Slt Wal

theorem num_at {w w' : World} {a : Option Addr} {n cap : Nat} {l : List Nat} (h : Kit.Rd w (.slice a n cap) (nums l)) (hb : Below w.heap.size w w') {i : Nat} {t : Nat} (hi : l[i]? = some t) : ∃ ad, a = some ad ∧ w'.cell? (ad.add i) = some (.int .u64 (t : Int)) := by
  have h1 := h.below hb
  refine h1.at_ ?_
  simp [nums, hi]

set_option maxRecDepth 100000 in
set_option maxHeartbeats 16000000 in
theorem drops_any (l : List ByteArray) (hz : ∀ t ∈ l, t.size ≤ 140737488351232) (la : Option Addr) (lc : Nat) (ns : List Nat) (na : Option Addr) (nc : Nat) (w : World) (hl : Kit.Rd w (.slice la l.length lc) (Dsk.strs l)) (hn : Kit.Rd w (.slice na ns.length nc) (nums ns)) :
    Calls Try.prog 5 #[.slice la l.length lc, .slice na ns.length nc] w fun e w' => e = .returned (.bool true) ∧ Below w.heap.size w w' := by
  have HL := Lib.hid hl
  have HNS := Lib.hid hn
  have HZ := Lib.hid hz
  have HA := fun w' => appended_any [] (by simp) none 0 w' (Kit.Rd.nil_ w')
  have HF := fixed_any
  clear hl hz hn
  go_enter Try.func5, Try.ntmps5
  go_wp2_with fail
  refine (HA _).mono ?_
  rintro e w1 ⟨q, p, M, K, D, rv, rfl, hN, hP, O, S⟩
  obtain ⟨ra, rc, rfl, -, -⟩ := row_form S.row
  have hP : D.pend.length = 0 := by rw [hP]; rfl
  have hh : (fit [] 8).length = 0 := rfl
  rw [hh] at hN
  clear S HA
  generalize LN (fit [] 8) = L at *
  go_wp2_with fail
  refine (HF _).mono ?_
  rintro e w2 ⟨rfl, b⟩
  have O1 := O.below b
  clear O b HF
  go_wp2
  go_loopw [9] (fun vi wr => ∃ (i N : Nat) (L : Lg) (D : Dk) (K M : Nat → Prop), i ≤ l.length ∧ i ≤ 60 ∧ vi = .int .i64 (i : Int) ∧ Num L D N ∧ N ≤ i ∧ D.pend.length ≤ i ∧ Lone w.heap.size w wr p K L q M D)
    (fun vi _ => 60 - (intOf vi).toNat)
  case atStart => exact ⟨0, 0, L, D, K, M, Nat.zero_le _, by omega, rfl, hN, Nat.le_refl _, by omega, O1⟩
  case round =>
    obtain ⟨i, N, L, D, K, M, hi1, hi2, rfl, hN, hNi, hP, O⟩ := hrel
    clear O1
    have hlast : L.base + L.held.length = N := hN.last
    by_cases hlt : i < l.length
    · have g1 : (i : Int) < (l.length : Int) := by omega
      by_cases hlt2 : i < 60
      · have g2 : (i : Int) < 60 := by omega
        obtain ⟨t, ht⟩ : ∃ t, l[i]? = some t := ⟨_, List.getElem?_eq_getElem hlt⟩
        have htz := HZ.out t (List.mem_of_getElem? ht)
        obtain ⟨ad, rfl, -⟩ := text_at HL.out O.low ht
        have TA := fun w' (b : Below w.heap.size w w') => (show w'.cell? (ad.add i) = some (.string t) by obtain ⟨ad', e, h⟩ := text_at HL.out b ht; cases e; exact h)
        have HB := fun w (h : LHas w p K L q) => base_any h
        have HLA := fun w (h : LHas w p K L q) => last_any h
        rw [hN.last] at HLA
        have ew : IntKind.u64.wrap ((N : Int) - (L.base : Int)) = (L.held.length : Int) := by rw [IntKind.wrap_u64]; omega
        have OO := Lib.hid O
        have HQ := Lib.hid (And.intro hN (And.intro hNi (And.intro hP (And.intro hlast htz))))
        clear O hN hNi hP hlast ht htz
        go_wp2_with fail
        refine (HLA _ OO.out.duo.l).mono ?_
        rintro e w3 ⟨rfl, b⟩
        have O3 := OO.out.below b
        clear b OO HLA
        go_wp2_with fail
        refine (HB _ O3.duo.l).mono ?_
        rintro e w4 ⟨rfl, b⟩
        have O4 := O3.below b
        clear b O3
        by_cases hfull : L.held.length = 8
        · have gf : ((L.held.length : Int) == 8) = true := by rw [beq_iff_eq]; omega
          by_cases hns : i < ns.length
          · have g3 : (i : Int) < (ns.length : Int) := by omega
            obtain ⟨d, hd⟩ : ∃ d, ns[i]? = some d := ⟨_, List.getElem?_eq_getElem hns⟩
            obtain ⟨bd, rfl, -⟩ := num_at HNS.out O4.low hd
            obtain ⟨k, hk⟩ : ∃ k, k = d % 9 := ⟨_, rfl⟩
            have ek : (d : Int) % 9 = (k : Int) := by omega
            have hk8 : k ≤ 8 := by omega
            have NA := fun w' (b : Below w.heap.size w w') => (show w'.cell? (bd.add i) = some (.int .u64 (d : Int)) ∧ Below w.heap.size w w' by obtain ⟨ad', e, h⟩ := num_at HNS.out b hd; cases e; exact ⟨h, b⟩)
            have HD := fun w (h : LHas w p K L q) => drop_yes h (k := k) (by omega) (L.base + k) rfl
            have hN2 := HQ.out.1.drop (k := k) (by omega)
            have hl2 : (L.drop k).held.length = 8 - k := by show (L.held.drop k).length = _; rw [List.length_drop, hfull]
            have hb2 : (L.drop k).base = L.base + k := rfl
            have etm : (d : Int).tmod 9 = (k : Int) := by rw [hk]; rfl
            have eb : IntKind.u64.wrap ((L.base : Int) + (d : Int).tmod 9) = ((L.base + k : Nat) : Int) := by rw [etm, IntKind.wrap_u64]; have := HQ.out; omega
            have H2 := Lib.hid (And.intro hN2 (And.intro hl2 hb2))
            clear hN2 hl2 hb2 hk hd etm ek
            generalize L.drop k = L2 at *
            generalize hbk : L.base + k = bk at *
            clear hbk
            have S0 := NA _ (O4.low.drew)
            have O4d := O4.below ((Below.refl _ w4).drew)
            go_upto_region 9 with (fail)
            go_region_held3 (fun w' => w'.cell? (bd.add i) = some (.int .u64 (d : Int)) ∧ Below w.heap.size w w')
              (first | exact S0 | exact NA _ O6.low | exact NA _ O5.low)
              (first
                | (go_at_call 19; refine (HD _ O5.duo.l).mono ?_; rintro r w6 ⟨rfl, h6, b6⟩; have O6 := O5.log b6 h6)
                | (go_at_call 18; refine (HB _ O4d.duo.l).mono ?_; rintro r w5 ⟨rfl, b5⟩; have O5 := O4d.below b5))
            clear S0 NA HD HB O4d O4 O5 h6 b5 b6 eb gf g3
            have HLL := Lib.hid (And.intro H2.out.1 HQ.out)
            clear H2
            have a0 := TA _ O6.low
            by_cases hap : L2.held.length ≠ 8 ∧ t.size ≤ 28
            · have H := O6.app HLL.out.1 (by have := HQ.out; omega) (by have := HQ.out; omega) hap.1 hap.2
              have hN3 := HLL.out.1.more (by have := HQ.out; omega) hap.1 hap.2
              have hP3 := wrote_pend D L2 t
              have H3 := Lib.hid (And.intro hN3 (show (wrote D L2 t).pend.length ≤ i + 1 by have := HQ.out; omega))
              clear hN3 hP3 O6 TA
              generalize wrote D L2 t = D3 at *
              generalize L2.more t = L3 at *
              have e3 : wrap64 ((i : Int) + 1) = (i : Int) + 1 := by unfold wrap64; omega
              go_wp2_with fail
              refine H.mono ?_
              rintro e w7 ⟨rfl, K7, M7, O7, -⟩
              clear H a0
              go_wp2
              go_roundw
              case rel => exact ⟨i + 1, N + 1, L3, D3, K7, M7, hlt, by omega, rfl, H3.out.1, by have := HQ.out; omega, H3.out.2, O7⟩
              case measure =>
                have l5 : (intOf (.int .i64 ((i : Int) + 1))).toNat = i + 1 := rfl
                have l6 : (intOf (.int .i64 (i : Int))).toNat = i := rfl
                rw [l5, l6]
                exact Nat.sub_lt_sub_left hlt2 (Nat.lt_succ_self i)
            · have H := O6.refused HLL.out.1 (by have := HQ.out; omega) HQ.out.2.2.2.2 hap
              have OL := Lib.hid O6
              have HN3 := Lib.hid HLL.out.1
              have e3 : wrap64 ((i : Int) + 1) = (i : Int) + 1 := by unfold wrap64; omega
              clear O6 TA
              go_wp2_with fail
              refine H.mono ?_
              rintro e w7 ⟨rfl, b⟩
              have O7 := OL.out.below b
              clear H a0 b OL
              go_wp2
              go_roundw
              case rel => exact ⟨i + 1, N, L2, D, K, M, hlt, by omega, rfl, HN3.out, by have := HQ.out; omega, by have := HQ.out; omega, O7⟩
              case measure =>
                have l5 : (intOf (.int .i64 ((i : Int) + 1))).toNat = i + 1 := rfl
                have l6 : (intOf (.int .i64 (i : Int))).toNat = i := rfl
                rw [l5, l6]
                exact Nat.sub_lt_sub_left hlt2 (Nat.lt_succ_self i)
          · have g3 : ¬ (i : Int) < (ns.length : Int) := by omega
            have g3n : decide (i < ns.length) = false := decide_eq_false hns
            clear HB
            have a0 := TA _ O4.low
            by_cases hap : L.held.length ≠ 8 ∧ t.size ≤ 28
            · have H := O4.app HQ.out.1 (by have := HQ.out; omega) (by have := HQ.out; omega) hap.1 hap.2
              have hN3 := HQ.out.1.more (by have := HQ.out; omega) hap.1 hap.2
              have hP3 := wrote_pend D L t
              have H3 := Lib.hid (And.intro hN3 (show (wrote D L t).pend.length ≤ i + 1 by have := HQ.out; omega))
              clear hN3 hP3 O4 TA
              generalize wrote D L t = D3 at *
              generalize L.more t = L3 at *
              have e3 : wrap64 ((i : Int) + 1) = (i : Int) + 1 := by unfold wrap64; omega
              go_wp2_with fail
              refine H.mono ?_
              rintro e w7 ⟨rfl, K7, M7, O7, -⟩
              clear H a0
              go_wp2
              go_roundw
              case rel => exact ⟨i + 1, N + 1, L3, D3, K7, M7, hlt, by omega, rfl, H3.out.1, by have := HQ.out; omega, H3.out.2, O7⟩
              case measure =>
                have l5 : (intOf (.int .i64 ((i : Int) + 1))).toNat = i + 1 := rfl
                have l6 : (intOf (.int .i64 (i : Int))).toNat = i := rfl
                rw [l5, l6]
                exact Nat.sub_lt_sub_left hlt2 (Nat.lt_succ_self i)
            · have H := O4.refused HQ.out.1 (by have := HQ.out; omega) HQ.out.2.2.2.2 hap
              have OL := Lib.hid O4
              have HN3 := Lib.hid HQ.out.1
              have e3 : wrap64 ((i : Int) + 1) = (i : Int) + 1 := by unfold wrap64; omega
              clear O4 TA
              go_wp2_with fail
              refine H.mono ?_
              rintro e w7 ⟨rfl, b⟩
              have O7 := OL.out.below b
              clear H a0 b OL
              go_wp2
              go_roundw
              case rel => exact ⟨i + 1, N, L, D, K, M, hlt, by omega, rfl, HN3.out, by have := HQ.out; omega, by have := HQ.out; omega, O7⟩
              case measure =>
                have l5 : (intOf (.int .i64 ((i : Int) + 1))).toNat = i + 1 := rfl
                have l6 : (intOf (.int .i64 (i : Int))).toNat = i := rfl
                rw [l5, l6]
                exact Nat.sub_lt_sub_left hlt2 (Nat.lt_succ_self i)
        · have gf : ((L.held.length : Int) == 8) = false := by rw [beq_eq_false_iff_ne]; omega
          clear HB
          by_cases hns : i < ns.length
          · have g3 : (i : Int) < (ns.length : Int) := by omega
            have a0 := TA _ O4.low
            by_cases hap : L.held.length ≠ 8 ∧ t.size ≤ 28
            · have H := O4.app HQ.out.1 (by have := HQ.out; omega) (by have := HQ.out; omega) hap.1 hap.2
              have hN3 := HQ.out.1.more (by have := HQ.out; omega) hap.1 hap.2
              have hP3 := wrote_pend D L t
              have H3 := Lib.hid (And.intro hN3 (show (wrote D L t).pend.length ≤ i + 1 by have := HQ.out; omega))
              clear hN3 hP3 O4 TA
              generalize wrote D L t = D3 at *
              generalize L.more t = L3 at *
              have e3 : wrap64 ((i : Int) + 1) = (i : Int) + 1 := by unfold wrap64; omega
              go_wp2_with fail
              refine H.mono ?_
              rintro e w7 ⟨rfl, K7, M7, O7, -⟩
              clear H a0
              go_wp2
              go_roundw
              case rel => exact ⟨i + 1, N + 1, L3, D3, K7, M7, hlt, by omega, rfl, H3.out.1, by have := HQ.out; omega, H3.out.2, O7⟩
              case measure =>
                have l5 : (intOf (.int .i64 ((i : Int) + 1))).toNat = i + 1 := rfl
                have l6 : (intOf (.int .i64 (i : Int))).toNat = i := rfl
                rw [l5, l6]
                exact Nat.sub_lt_sub_left hlt2 (Nat.lt_succ_self i)
            · have H := O4.refused HQ.out.1 (by have := HQ.out; omega) HQ.out.2.2.2.2 hap
              have OL := Lib.hid O4
              have HN3 := Lib.hid HQ.out.1
              have e3 : wrap64 ((i : Int) + 1) = (i : Int) + 1 := by unfold wrap64; omega
              clear O4 TA
              go_wp2_with fail
              refine H.mono ?_
              rintro e w7 ⟨rfl, b⟩
              have O7 := OL.out.below b
              clear H a0 b OL
              go_wp2
              go_roundw
              case rel => exact ⟨i + 1, N, L, D, K, M, hlt, by omega, rfl, HN3.out, by have := HQ.out; omega, by have := HQ.out; omega, O7⟩
              case measure =>
                have l5 : (intOf (.int .i64 ((i : Int) + 1))).toNat = i + 1 := rfl
                have l6 : (intOf (.int .i64 (i : Int))).toNat = i := rfl
                rw [l5, l6]
                exact Nat.sub_lt_sub_left hlt2 (Nat.lt_succ_self i)
          · have g3 : ¬ (i : Int) < (ns.length : Int) := by omega
            have g3n : decide (i < ns.length) = false := decide_eq_false hns
            have a0 := TA _ O4.low
            by_cases hap : L.held.length ≠ 8 ∧ t.size ≤ 28
            · have H := O4.app HQ.out.1 (by have := HQ.out; omega) (by have := HQ.out; omega) hap.1 hap.2
              have hN3 := HQ.out.1.more (by have := HQ.out; omega) hap.1 hap.2
              have hP3 := wrote_pend D L t
              have H3 := Lib.hid (And.intro hN3 (show (wrote D L t).pend.length ≤ i + 1 by have := HQ.out; omega))
              clear hN3 hP3 O4 TA
              generalize wrote D L t = D3 at *
              generalize L.more t = L3 at *
              have e3 : wrap64 ((i : Int) + 1) = (i : Int) + 1 := by unfold wrap64; omega
              go_wp2_with fail
              refine H.mono ?_
              rintro e w7 ⟨rfl, K7, M7, O7, -⟩
              clear H a0
              go_wp2
              go_roundw
              case rel => exact ⟨i + 1, N + 1, L3, D3, K7, M7, hlt, by omega, rfl, H3.out.1, by have := HQ.out; omega, H3.out.2, O7⟩
              case measure =>
                have l5 : (intOf (.int .i64 ((i : Int) + 1))).toNat = i + 1 := rfl
                have l6 : (intOf (.int .i64 (i : Int))).toNat = i := rfl
                rw [l5, l6]
                exact Nat.sub_lt_sub_left hlt2 (Nat.lt_succ_self i)
            · have H := O4.refused HQ.out.1 (by have := HQ.out; omega) HQ.out.2.2.2.2 hap
              have OL := Lib.hid O4
              have HN3 := Lib.hid HQ.out.1
              have e3 : wrap64 ((i : Int) + 1) = (i : Int) + 1 := by unfold wrap64; omega
              clear O4 TA
              go_wp2_with fail
              refine H.mono ?_
              rintro e w7 ⟨rfl, b⟩
              have O7 := OL.out.below b
              clear H a0 b OL
              go_wp2
              go_roundw
              case rel => exact ⟨i + 1, N, L, D, K, M, hlt, by omega, rfl, HN3.out, by have := HQ.out; omega, by have := HQ.out; omega, O7⟩
              case measure =>
                have l5 : (intOf (.int .i64 ((i : Int) + 1))).toNat = i + 1 := rfl
                have l6 : (intOf (.int .i64 (i : Int))).toNat = i := rfl
                rw [l5, l6]
                exact Nat.sub_lt_sub_left hlt2 (Nat.lt_succ_self i)
      · obtain rfl : i = 60 := by omega
        have hNf := hN.flush
        have hop := hNf.opened (by omega)
        have H := sync_any O.duo.l O.duo.d (by omega)
        have HB := fun w (h : LHas w p K L q) => base_any h
        have HM := fun w (h : LHas w p K L q) => mark_any h
        have HLA := fun w (h : LHas w p K L q) => last_any h
        have HT := fun w (h : LHas w p K L q) => texts_any h
        have HO := fun w (h : Mem w q M D.flush) => open_good h (by show 0 < 2000; decide) 0 8 L.base L.mark (by decide) (by decide) (by rw [hNf.len]; decide) (by omega) (by rw [hN.mark]; omega)
        rw [hop] at HO
        have hle := hN.le
        have ebs : ({ L with next := nextMark D.flush 0 8 } : Lg).base = L.base := rfl
        have eh : ({ L with next := nextMark D.flush 0 8 } : Lg).held = L.held := rfl
        have el : ({ L with next := nextMark D.flush 0 8 } : Lg).last = L.last := rfl
        have HE := Lib.hid (And.intro ebs (And.intro eh el))
        generalize ({ L with next := nextMark D.flush 0 8 } : Lg) = LY at *
        rw [hN.mark] at HO HM
        have HYB := fun w p K (h : LHas w p K LY q) => base_any h
        have HYL := fun w p K (h : LHas w p K LY q) => last_any h
        have HYT := fun w p K (h : LHas w p K LY q) => texts_any h
        rw [HE.out.1] at HYB
        rw [HE.out.2.2, hN.last] at HYL
        rw [HE.out.2.1] at HYT
        rw [hN.last] at HLA
        have HTX := fun v1 v2 w h1 h2 => texts_is (txs L.held) (txs L.held) (by rw [txs_len]; omega) v1 v2 w h1 h2
        rw [decide_eq_true rfl] at HTX
        have ew : IntKind.u64.wrap ((N : Int) - (L.base : Int)) = (L.held.length : Int) := by rw [IntKind.wrap_u64]; omega
        have g8 : decide ((L.held.length : Int) ≤ 8) = true := by rw [decide_eq_true_iff]; omega
        have OO := Lib.hid O
        clear O hN hNf hop hP hNi hlast ebs eh el HE hle
        go_wp2_with fail
        refine H.mono ?_
        rintro e w3 ⟨rfl, h3, b⟩
        have O3 := OO.out.disk b h3
        clear h3 b H OO
        go_wp2_with fail
        refine (HB _ O3.duo.l).mono ?_
        rintro e w4 ⟨rfl, b⟩
        have O4 := O3.below b
        clear O3 b
        go_wp2_with fail
        refine (HM _ O4.duo.l).mono ?_
        rintro e w5 ⟨rfl, b⟩
        have O5 := O4.below b
        clear O4 b HM
        go_wp2_with fail
        refine (HO _ O5.duo.d).mono ?_
        rintro e w6 ⟨py, Ky, rfl, y6, -, -, b⟩
        have O6 := O5.below b
        clear O5 b HO
        go_wp2_with fail
        refine (HYB _ _ _ y6).mono ?_
        rintro e w7 ⟨rfl, b⟩
        have O7 := O6.below b
        have y7 := y6.below b
        clear O6 y6 b HYB
        go_wp2_with fail
        refine (HB _ O7.duo.l).mono ?_
        rintro e w8 ⟨rfl, b⟩
        have O8 := O7.below b
        have y8 := y7.below b
        clear O7 y7 b
        go_wp2_with fail
        refine (HYL _ _ _ y8).mono ?_
        rintro e w9 ⟨rfl, b⟩
        have O9 := O8.below b
        have y9 := y8.below b
        clear O8 y8 b HYL
        go_wp2_with fail
        refine (HLA _ O9.duo.l).mono ?_
        rintro e w10 ⟨rfl, b⟩
        have O10 := O9.below b
        have y10 := y9.below b
        clear O9 y9 b
        go_wp2_with fail
        refine (HT _ O10.duo.l).mono ?_
        rintro e w11 ⟨v1, rfl, r1, b⟩
        have O11 := O10.below b
        have y11 := y10.below b
        clear O10 y10 b HT
        go_wp2_with fail
        refine (HYT _ _ _ y11).mono ?_
        rintro e w12 ⟨v2, rfl, r2, b⟩
        have O12 := O11.below b
        have q1 := (Kit.Rd.of_own r1).below b
        have q2 := Kit.Rd.of_own r2
        clear O11 y11 b HYT r1 r2
        go_wp2_with fail
        refine (HTX _ _ _ q1 q2).mono ?_
        rintro e w13 ⟨rfl, b⟩
        have O13 := O12.below b
        clear O12 b HTX q1 q2
        go_wp2_with fail
        refine (HLA _ O13.duo.l).mono ?_
        rintro e w14 ⟨rfl, b⟩
        have O14 := O13.below b
        clear O13 b HLA
        go_wp2_with fail
        refine (HB _ O14.duo.l).mono ?_
        rintro e w15 ⟨rfl, b⟩
        have fin := (O14.below b).low
        clear O14 b HB
        go_wp2
        go_ret
        exact ⟨rfl, fin⟩
    · obtain rfl : i = l.length := by omega
      have g1 : ¬ (l.length : Int) < (l.length : Int) := by omega
      have hNf := hN.flush
      have hop := hNf.opened (by omega)
      have H := sync_any O.duo.l O.duo.d (by omega)
      have HB := fun w (h : LHas w p K L q) => base_any h
      have HM := fun w (h : LHas w p K L q) => mark_any h
      have HLA := fun w (h : LHas w p K L q) => last_any h
      have HT := fun w (h : LHas w p K L q) => texts_any h
      have HO := fun w (h : Mem w q M D.flush) => open_good h (by show 0 < 2000; decide) 0 8 L.base L.mark (by decide) (by decide) (by rw [hNf.len]; decide) (by omega) (by rw [hN.mark]; omega)
      rw [hop] at HO
      have hle := hN.le
      have ebs : ({ L with next := nextMark D.flush 0 8 } : Lg).base = L.base := rfl
      have eh : ({ L with next := nextMark D.flush 0 8 } : Lg).held = L.held := rfl
      have el : ({ L with next := nextMark D.flush 0 8 } : Lg).last = L.last := rfl
      have HE := Lib.hid (And.intro ebs (And.intro eh el))
      generalize ({ L with next := nextMark D.flush 0 8 } : Lg) = LY at *
      rw [hN.mark] at HO HM
      have HYB := fun w p K (h : LHas w p K LY q) => base_any h
      have HYL := fun w p K (h : LHas w p K LY q) => last_any h
      have HYT := fun w p K (h : LHas w p K LY q) => texts_any h
      rw [HE.out.1] at HYB
      rw [HE.out.2.2, hN.last] at HYL
      rw [HE.out.2.1] at HYT
      rw [hN.last] at HLA
      have HTX := fun v1 v2 w h1 h2 => texts_is (txs L.held) (txs L.held) (by rw [txs_len]; omega) v1 v2 w h1 h2
      rw [decide_eq_true rfl] at HTX
      have ew : IntKind.u64.wrap ((N : Int) - (L.base : Int)) = (L.held.length : Int) := by rw [IntKind.wrap_u64]; omega
      have g8 : decide ((L.held.length : Int) ≤ 8) = true := by rw [decide_eq_true_iff]; omega
      have OO := Lib.hid O
      clear O hN hNf hop hP hNi hlast ebs eh el HE hle
      go_wp2_with fail
      refine H.mono ?_
      rintro e w3 ⟨rfl, h3, b⟩
      have O3 := OO.out.disk b h3
      clear h3 b H OO
      go_wp2_with fail
      refine (HB _ O3.duo.l).mono ?_
      rintro e w4 ⟨rfl, b⟩
      have O4 := O3.below b
      clear O3 b
      go_wp2_with fail
      refine (HM _ O4.duo.l).mono ?_
      rintro e w5 ⟨rfl, b⟩
      have O5 := O4.below b
      clear O4 b HM
      go_wp2_with fail
      refine (HO _ O5.duo.d).mono ?_
      rintro e w6 ⟨py, Ky, rfl, y6, -, -, b⟩
      have O6 := O5.below b
      clear O5 b HO
      go_wp2_with fail
      refine (HYB _ _ _ y6).mono ?_
      rintro e w7 ⟨rfl, b⟩
      have O7 := O6.below b
      have y7 := y6.below b
      clear O6 y6 b HYB
      go_wp2_with fail
      refine (HB _ O7.duo.l).mono ?_
      rintro e w8 ⟨rfl, b⟩
      have O8 := O7.below b
      have y8 := y7.below b
      clear O7 y7 b
      go_wp2_with fail
      refine (HYL _ _ _ y8).mono ?_
      rintro e w9 ⟨rfl, b⟩
      have O9 := O8.below b
      have y9 := y8.below b
      clear O8 y8 b HYL
      go_wp2_with fail
      refine (HLA _ O9.duo.l).mono ?_
      rintro e w10 ⟨rfl, b⟩
      have O10 := O9.below b
      have y10 := y9.below b
      clear O9 y9 b
      go_wp2_with fail
      refine (HT _ O10.duo.l).mono ?_
      rintro e w11 ⟨v1, rfl, r1, b⟩
      have O11 := O10.below b
      have y11 := y10.below b
      clear O10 y10 b HT
      go_wp2_with fail
      refine (HYT _ _ _ y11).mono ?_
      rintro e w12 ⟨v2, rfl, r2, b⟩
      have O12 := O11.below b
      have q1 := (Kit.Rd.of_own r1).below b
      have q2 := Kit.Rd.of_own r2
      clear O11 y11 b HYT r1 r2
      go_wp2_with fail
      refine (HTX _ _ _ q1 q2).mono ?_
      rintro e w13 ⟨rfl, b⟩
      have O13 := O12.below b
      clear O12 b HTX q1 q2
      go_wp2_with fail
      refine (HLA _ O13.duo.l).mono ?_
      rintro e w14 ⟨rfl, b⟩
      have O14 := O13.below b
      clear O13 b HLA
      go_wp2_with fail
      refine (HB _ O14.duo.l).mono ?_
      rintro e w15 ⟨rfl, b⟩
      have fin := (O14.below b).low
      clear O14 b HB
      go_wp2
      go_ret
      exact ⟨rfl, fin⟩
end Go.Proofs.Ytgjejofdmfpdjaa.Drops10
