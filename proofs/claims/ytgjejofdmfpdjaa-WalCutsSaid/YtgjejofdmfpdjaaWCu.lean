/-
  WalCuts: the walk, for every input.
-/
import Derived.Test.YtgjejofdmfpdjaaWlX
namespace Go.Proofs.Ytgjejofdmfpdjaa.Cuts10
open Go.RowKit
open Dsk Slt Wal

set_option maxRecDepth 100000 in
set_option maxHeartbeats 32000000 in
theorem cuts_any (l : List ByteArray) (hz : ∀ t ∈ l, t.size ≤ 140737488351232) (la : Option Addr) (lc : Nat) (m : List ByteArray) (hzm : ∀ t ∈ m, t.size ≤ 140737488351232) (ma : Option Addr) (mc : Nat) (n : Nat) (hn : n < 18446744073709551616) (kp : List Int) (ka : Option Addr) (kc : Nat) (w : World)
    (hl : Kit.Rd w (.slice la l.length lc) (Dsk.strs l)) (hm : Kit.Rd w (.slice ma m.length mc) (Dsk.strs m)) (hk : Kit.Rd w (.slice ka (ints kp).length kc) (ints kp)) :
    Calls Try.prog 4 #[.agg #[.slice la l.length lc, .slice ma m.length mc], .int .u64 (n : Int), .slice ka (ints kp).length kc] w fun e w' => e = .returned (.bool true) ∧ Below w.heap.size w w' := by
  have HA := fun w' (b : Below w.heap.size w w') => appended_any l hz la lc w' (hl.below b)
  have HF := fixed_any
  have HZM := Lib.hid hzm
  have HMK := Lib.hid (And.intro hm hk)
  have hfl := fit_le l 8
  have hfs := fit_small l 8
  have bx := below_lit w (.cells #[.slice la l.length lc, .slice ma m.length mc] 37)
  have X := Box.new w #[.slice la l.length lc, .slice ma m.length mc] 37
  have q0 : (w.alloc (.cells #[.slice la l.length lc, .slice ma m.length mc] 37)).cell? ⟨w.heap.size, 0, none⟩ = some (.slice la l.length lc) := X.cell (j := 0) rfl
  have q1 : (w.alloc (.cells #[.slice la l.length lc, .slice ma m.length mc] 37)).cell? ⟨w.heap.size, 1, none⟩ = some (.slice ma m.length mc) := X.cell (j := 1) rfl
  have BX := Lib.hid bx
  clear hl hz hm hzm hk X bx
  go_enter Try.func4, Try.ntmps4
  go_wp2
  generalize w.alloc (.cells #[.slice la l.length lc, .slice ma m.length mc] 37) = w0 at *
  go_quiet (fail)
  have CF : Hid (Below w.heap.size w (w0.drewN nq)) := Lib.hid (BX.out.trans ((Wal.below_drewN w0 nq).mono BX.out.size))
  clear q0 q1 BX
  generalize w0.drewN nq = wq at *
  have HM := Lib.hid (HMK.out.1.below CF.out)
  have HK := Lib.hid (HMK.out.2.below CF.out)
  clear HMK
  go_wp2_with fail
  refine (HA _ CF.out).mono ?_
  rintro e w1 ⟨q, p, M, K, D, rv, rfl, hN, hP, O, S⟩
  generalize fit l 8 = ts at *
  obtain ⟨ra, rc, rfl, hrc, hrm⟩ := row_form S.row
  have HRC := Lib.hid (And.intro hrc hrm)
  clear HA hrc hrm
  go_wp2_with fail
  refine (HF _).mono ?_
  rintro e w2 ⟨rfl, b⟩
  have O1 := O.below b
  have S1 := S.below b
  clear O S b HF
  have eh : IntKind.u64.wrap (ts.length : Int) = (ts.length : Int) := by rw [IntKind.wrap_u64]; omega
  by_cases hnk : n ≤ ts.length
  · have g1 : decide ((n : Int) ≤ (ts.length : Int)) = true := by rw [decide_eq_true_iff]; omega
    have g1n : decide (n ≤ ts.length) = true := decide_eq_true hnk
    have g2 : decide ((n : Int) > (ts.length : Int)) = false := by rw [decide_eq_false_iff_not]; omega
    have g2n : decide (ts.length < n) = false := by rw [decide_eq_false_iff_not]; omega
    have C0 := Cuts.start hN hP hfl hfs hnk
    have HC := cut_yes O1.duo.l (k := n) (by rw [LN_held]; exact hnk) n (by show n = 0 + n; omega)
    rw [LN_cut] at HC
    have OS := Lib.hid (And.intro O1 S1)
    have ek0 : IntKind.i64.wrap (n : Int) = (n : Int) := by rw [IntKind.wrap_i64]; omega
    clear O1 S1 hN hP hn
    generalize n = k at *
    go_wp2_with fail
    refine HC.mono ?_
    rintro e wS ⟨rfl, h3, b⟩
    have O3 := OS.out.1.log b h3
    have S3 := OS.out.2.step (Step.leftOr ⟨b, fun _ h => .inl h⟩)
    clear HC OS h3 b
    have bl := below_lit wS (.cells #[] 9)
    have ow0 : (wS.alloc (.cells #[] 9)).ownsRow wS.heap.size 9 1 (.slice (some ⟨wS.heap.size, 0, none⟩) 0 0) 0 [] := World.ownsRow_made (base := wS.heap.size) (e := 9) (size := 1) wS #[] 0 (Nat.le_refl _) (by unfold maxLen; omega) rfl
    have hsl := (Wal.Sl.take S3.row hnk).below bl
    have htk : (ts.take k).length = k := by rw [List.length_take]; omega
    have hsn : (Dsk.strs (ts.take k)).length = k := by rw [Dsk.strs_len, htk]
    have hf1 : (0 + (Dsk.strs (ts.take k)).length) * 16 ≤ 140737488355328 := by omega
    have hf2 : 0 + (Dsk.strs (ts.take k)).length ≤ maxLen := by unfold maxLen; omega
    have HSL := Lib.hid hsl
    have hrc1 : k ≤ rc := Nat.le_trans hnk HRC.out.1
    have hrc2 : rc ≤ 9223372036854775807 := HRC.out.2
    have i1 : (k : Int) ≤ (rc : Int) := by omega
    have i2 : (0 : Int) ≤ (k : Int) := by omega
    obtain ⟨is0, zs0, hsi, is1, is2, is3, is4⟩ := Dsk.infoStr
    clear hsl
    go_wp2_with (at_builtin; refine Kit.wpList_append_sl rfl _ _ 22 rfl wS.heap.size 9 is0 zs0 16 Try.underlying22 hsi is1 is2 is3 is4 (.slice (some ⟨wS.heap.size, 0, none⟩) 0 0) 0 [] rfl ow0 (.slice ra k rc) (Dsk.strs (ts.take k)) rfl HSL.out (Dsk.strs_one (ts.take k)) hf2 hf1 bl.size ?_)
    intro va w5 hown hg
    have bg : Below wS.heap.size wS w5 := bl.grown hg bl.size (fun j hj => (ow0.lt j hj).1)
    have O5 := O3.below bg
    have S5 := S3.below bg
    have hown : w5.ownsRow wS.heap.size 9 1 va k (Dsk.strs (ts.take k)) := by
      have e1 : 0 + (Dsk.strs (ts.take k)).length = k := by rw [hsn]; omega
      have h1 := hown
      first | exact h1 | (rw [e1] at h1; exact h1)
    have SA5 : Beside wS.heap.size (Or K M) w5 9 1 va k (Dsk.strs (ts.take k)) := Beside.base hown O3.duo.ltOr (Nat.le_refl _)
    have HSW := Lib.hid O3.size
    have HRB := Lib.hid (fun j (hj : (Value.slice ra ts.length rc).ownBlock = some j) => row_lt S3.row hj)
    have LST : Lone wq.heap.size wq w5 p K (LC ts [] k) q M D ∧ Beside wS.heap.size (Or K M) w5 9 1 va (k + ([] : List ByteArray).length) (Dsk.strs (ts.take k ++ [])) ∧ Beside wq.heap.size (Or K M) w5 9 1 (.slice ra ts.length rc) ts.length (Dsk.strs ts) ∧ wS.heap.size ≤ w5.heap.size :=
      ⟨O5, by rw [List.append_nil]; exact SA5, S5, bg.size⟩
    clear O3 S3 bl ow0 hsn hf1 hf2 HSL hown hg bg O5 S5 SA5 hfl hfs hrc1 hrc2 i1 i2 htk hnk ek0 eh g1 g1n g2 g2n
    go_wp2
    go_loopw [14, 15] (fun va vi wr => ∃ (i : Nat) (us : List ByteArray) (D : Dk) (K M : Nat → Prop), i ≤ m.length ∧ i ≤ 8 ∧ vi = .int .i64 (i : Int) ∧ Cuts D ts us k ∧ Lone wq.heap.size wq wr p K (LC ts us k) q M D ∧ Beside wS.heap.size (Or K M) wr 9 1 va (k + us.length) (Dsk.strs (ts.take k ++ us)) ∧ Beside wq.heap.size (Or K M) wr 9 1 (.slice ra ts.length rc) ts.length (Dsk.strs ts) ∧ wS.heap.size ≤ wr.heap.size)
      (fun _ vi _ => 8 - (intOf vi).toNat)
    case atStart => exact ⟨0, [], D, K, M, Nat.zero_le _, by omega, rfl, C0, LST.1, LST.2.1, LST.2.2.1, LST.2.2.2⟩
    case round =>
      obtain ⟨i, us, D, K, M, hi1, hi2, rfl, hC, O, SA, SH, hSZ⟩ := hrel
      clear LST C0
      obtain ⟨ba, bc, rfl, hbc, hbm⟩ := row_form SA.row
      have hu := hC.hu
      by_cases hlt : i < m.length
      · have g1 : (i : Int) < (m.length : Int) := by omega
        by_cases hlt2 : i < 8
        · have g2 : (i : Int) < 8 := by omega
          obtain ⟨t, ht⟩ : ∃ t, m[i]? = some t := ⟨_, List.getElem?_eq_getElem hlt⟩
          have HT := Lib.hid ht
          have htz := HZM.out t (List.mem_of_getElem? ht)
          obtain ⟨ad, rfl, a0⟩ := text_at HM.out O.low ht
          have OS := Lib.hid (And.intro O (And.intro SA (And.intro SH hSZ)))
          by_cases hap : k + us.length ≠ 8 ∧ t.size ≤ 28
          · have H := O.cutApp hC hap.1 hap.2
            have hC2 := hC.more hap.1 hap.2
            have el : (us ++ [t]).length = us.length + 1 := by rw [List.length_append]; rfl
            have ex : Dsk.strs (ts.take k ++ us) ++ Dsk.strs [t] = Dsk.strs (ts.take k ++ us ++ [t]) := by simp [Dsk.strs]
            have HC := Lib.hid (And.intro hC2 (And.intro el ex))
            have hf1 : (k + us.length + 1) * 16 ≤ 140737488355328 := by omega
            have hf2 : k + us.length + 1 ≤ maxLen := by unfold maxLen; omega
            generalize wrote D (LC ts us k) t = D2 at *
            have e3 : wrap64 ((i : Int) + 1) = (i : Int) + 1 := by unfold wrap64; omega
            clear O SA SH hSZ hC hC2 ht htz el ex hbc hbm
            go_wp2_with fail
            refine H.mono ?_
            rintro e w3 ⟨rfl, K3, M3, O3, st⟩
            obtain ⟨-, SA, SH, hSZ⟩ := OS.out
            have SA3 := SA.step st
            have SH3 := SH.step st
            have hS3 := Nat.le_trans hSZ st.size
            clear st H OS a0 SA SH hSZ
            obtain ⟨ad', e, a0⟩ := text_at HM.out O3.low HT.out
            cases e
            have bl := below_lit w3 (.cells #[.string t] 9)
            have O4 := O3.below bl
            have SA4 := SA3.below bl
            have SH4 := SH3.below bl
            have hS4 := Nat.le_trans hS3 bl.size
            have ow4 := SA4.row
            have bx4 : (w3.alloc (.cells #[.string t] 9)).heap[w3.heap.size]? = some (.cells #[.string t] 9 (0, 0)) := (MapKept.heap_alloc w3 _).1
            have OS := Lib.hid (And.intro O4 (And.intro SA4 (And.intro SH4 hS4)))
            clear O3 SA3 SH3 O4 SA4 SH4 bl hS3 hS4
            obtain ⟨is0, zs0, hsi, is1, is2, is3, is4⟩ := Dsk.infoStr
            go_wp2_with (at_builtin; refine wpList_append_lies _ rfl _ _ 22 rfl 0 9 is0 zs0 1 16 Try.underlying22 hsi is1 is2 is3 is4 (by decide) (.slice ba (k + us.length) bc) (k + us.length) (Dsk.strs (ts.take k ++ us)) rfl ow4 ⟨w3.heap.size, 0, none⟩ 1 1 [.string t] rfl rfl (World.news_of_block bx4) (Dsk.strs_one [t]) (by decide) hf2 hf1 (Nat.zero_le _) _ rfl ?_)
            intro g cap2 w5 hown5 hg hat hlt5
            obtain ⟨hC2, el, ex⟩ := HC.out
            have R := OS.out.1.row2 OS.out.2.1 HSW.out OS.out.2.2.2 hown5 hg (hat.imp id fun e => by rw [e, World.size_alloc])
            have eq1 : [Value.string t] = Dsk.strs [t] := rfl
            rw [eq1, ex] at R
            have SH5 := Wal.Beside.aside OS.out.2.2.1 (rv := .slice ba (k + us.length) bc) (fun j hj e => by have h1 := OS.out.2.1.low j e; have h2 := HRB.out j hj; omega) hg
            have hS5 := Nat.le_trans OS.out.2.2.2 hg.size
            have RR := Lib.hid (And.intro R.1 (And.intro R.2 (And.intro SH5 hS5)))
            have HC3 := Lib.hid (And.intro hC2 el)
            clear R SH5 hS5 hown5 hg hat hlt5 ow4 bx4 hf1 hf2 OS HC hC2 el ex eq1 a0
            go_wp2
            go_roundw
            case rel => exact ⟨i + 1, us ++ [t], D2, K3, M3, hlt, by omega, rfl, HC3.out.1, RR.out.1, by rw [HC3.out.2, ← Nat.add_assoc, ← List.append_assoc]; exact RR.out.2.1, RR.out.2.2.1, RR.out.2.2.2⟩
            case measure =>
              have l5 : (intOf (.int .i64 ((i : Int) + 1))).toNat = i + 1 := rfl
              have l6 : (intOf (.int .i64 (i : Int))).toNat = i := rfl
              rw [l5, l6]
              exact Nat.sub_lt_sub_left hlt2 (Nat.lt_succ_self i)
          · have H := O.cutNo hC htz hap
            have HC := Lib.hid hC
            have e3 : wrap64 ((i : Int) + 1) = (i : Int) + 1 := by unfold wrap64; omega
            clear O SA SH hSZ hC ht htz hbc hbm
            go_wp2_with fail
            refine H.mono ?_
            rintro e w3 ⟨rfl, b⟩
            obtain ⟨O, SA, SH, hSZ⟩ := OS.out
            have RR := Lib.hid (And.intro (O.below b) (And.intro (SA.below b) (And.intro (SH.below b) (Nat.le_trans hSZ b.size))))
            clear b H OS O SA SH hSZ a0
            go_wp2
            go_roundw
            case rel => exact ⟨i + 1, us, D, K, M, hlt, by omega, rfl, HC.out, RR.out.1, RR.out.2.1, RR.out.2.2.1, RR.out.2.2.2⟩
            case measure =>
              have l5 : (intOf (.int .i64 ((i : Int) + 1))).toNat = i + 1 := rfl
              have l6 : (intOf (.int .i64 (i : Int))).toNat = i := rfl
              rw [l5, l6]
              exact Nat.sub_lt_sub_left hlt2 (Nat.lt_succ_self i)
        · obtain rfl : i = 8 := by omega
          have hal : (ts.take k ++ us).length = k + us.length := by rw [List.length_append, List.length_take]; have := hC.hk; omega
          have hP : D.pend.length < 2000 := by rw [hC.pend]; omega
          have htl := hC.ht
          have ek : IntKind.i64.wrap (k : Int) = (k : Int) := by rw [IntKind.wrap_i64]; omega
          have OS := Lib.hid (And.intro O (And.intro SA SH))
          have HBC := Lib.hid (And.intro hbc hbm)
          by_cases hkp : kp = []
          · have e0 : (ints kp).length = 0 := by rw [hkp]; rfl
            have g0 : (((ints kp).length : Nat) : Int) = 0 := by omega
            have HSy := sync_any O.duo.l O.duo.d hP
            have hth : D.flush.safe.length = 8 := (after_length _ _ _ _).trans hC.len
            have HO := fun w (h : Mem w q M D.flush) => open_good h (by show 0 < 2000; decide) 0 8 0 0 (by decide) (by decide) (by rw [hth]; decide) (by decide) (by decide)
            by_cases hus : us = []
            · subst hus
              have hq := hC.quiet
              generalize opened D.flush 0 8 0 0 = LY at *
              have hyl : LY.held.length = ts.length := by rw [hq, recs_len]
              have hyx : txs LY.held = ts := by rw [hq, txs_recs]
              have HTY := fun w p K (h : LHas w p K LY q) => texts_any h
              rw [hyl, hyx] at HTY
              have HT1 := fun v1 v2 w h1 h2 => texts_is ts (ts.take k ++ []) (by omega) v1 v2 w h1 h2
              have HT2 := fun v1 v2 w h1 h2 => texts_is ts ts (by omega) v1 v2 w h1 h2
              rw [decide_eq_true rfl] at HT2
              clear hC O SA SH hSZ hu hbc hbm hP hth hq hyl hyx hal HM HZM HSW HRB HK hkp
              by_cases hkh : ts = ts.take k ++ []
              · rw [decide_eq_true hkh] at HT1
                clear hkh
                go_wp2_with fail
                refine HSy.mono ?_
                rintro e w5 ⟨rfl, h5, b⟩
                obtain ⟨O, SA, SH⟩ := OS.out
                have O5 := O.disk b h5
                have A5 := Kit.Rd.of_own (SA.step (Step.rightOr ⟨b, fun _ h => .inl h⟩)).row
                have H5 := Kit.Rd.of_own (SH.step (Step.rightOr ⟨b, fun _ h => .inl h⟩)).row
                clear HSy OS O SA SH h5 b
                go_wp2_with fail
                refine (HO _ O5.duo.d).mono ?_
                rintro e w6 ⟨py, Ky, rfl, y6, -, -, b⟩
                have O6 := O5.below b
                have A6 := A5.below b
                have H6 := H5.below b
                clear O5 A5 H5 b HO
                go_wp2_with fail
                refine (HTY _ _ _ y6).mono ?_
                rintro e w7 ⟨vn, rfl, r7, b⟩
                have O7 := O6.below b
                have A7 := A6.below b
                have H7 := H6.below b
                have q1 := Kit.Rd.of_own r7
                obtain ⟨na, nc, rfl, -, -⟩ := row_form r7
                clear O6 A6 H6 b r7 y6 HTY
                go_wp2_with fail
                refine (HT1 _ _ _ q1 A7).mono ?_
                rintro e w8 ⟨rfl, b⟩
                have fin := (O7.below b).low
                clear O7 A7 H7 q1 b HT1 HT2
                go_wp2
                go_ret
                exact ⟨rfl, CF.out.trans (fin.mono CF.out.size)⟩
              · rw [decide_eq_false hkh] at HT1
                clear hkh
                go_wp2_with fail
                refine HSy.mono ?_
                rintro e w5 ⟨rfl, h5, b⟩
                obtain ⟨O, SA, SH⟩ := OS.out
                have O5 := O.disk b h5
                have A5 := Kit.Rd.of_own (SA.step (Step.rightOr ⟨b, fun _ h => .inl h⟩)).row
                have H5 := Kit.Rd.of_own (SH.step (Step.rightOr ⟨b, fun _ h => .inl h⟩)).row
                clear HSy OS O SA SH h5 b
                go_wp2_with fail
                refine (HO _ O5.duo.d).mono ?_
                rintro e w6 ⟨py, Ky, rfl, y6, -, -, b⟩
                have O6 := O5.below b
                have A6 := A5.below b
                have H6 := H5.below b
                clear O5 A5 H5 b HO
                go_wp2_with fail
                refine (HTY _ _ _ y6).mono ?_
                rintro e w7 ⟨vn, rfl, r7, b⟩
                have O7 := O6.below b
                have A7 := A6.below b
                have H7 := H6.below b
                have q1 := Kit.Rd.of_own r7
                obtain ⟨na, nc, rfl, -, -⟩ := row_form r7
                clear O6 A6 H6 b r7 y6 HTY
                go_wp2_with fail
                refine (HT1 _ _ _ q1 A7).mono ?_
                rintro e w8 ⟨rfl, b⟩
                have O8 := O7.below b
                have H8 := H7.below b
                have q8 := q1.below b
                clear O7 A7 H7 q1 b HT1
                go_wp2_with fail
                refine (HT2 _ _ _ q8 H8).mono ?_
                rintro e w9 ⟨rfl, b⟩
                have fin := (O8.below b).low
                clear O8 H8 q8 b HT2
                go_wp2
                go_ret
                exact ⟨rfl, CF.out.trans (fin.mono CF.out.size)⟩
            · have hq := hC.synced hus
              have hln := LC_len (us := us) hC.hk
              generalize opened D.flush 0 8 0 0 = LY at *
              have hyl : LY.held.length = k + us.length := by rw [hq, hln]
              have hyx : txs LY.held = ts.take k ++ us := by rw [hq, txs_LC]
              have HTY := fun w p K (h : LHas w p K LY q) => texts_any h
              rw [hyl, hyx] at HTY
              have HT1 := fun v1 v2 w h1 h2 => texts_is (ts.take k ++ us) (ts.take k ++ us) (by omega) v1 v2 w h1 h2
              rw [decide_eq_true rfl] at HT1
              clear hC O SA SH hSZ hu hbc hbm hP hth hq hyl hyx hal hln hus HM HZM HSW HRB HK hkp
              go_wp2_with fail
              refine HSy.mono ?_
              rintro e w5 ⟨rfl, h5, b⟩
              obtain ⟨O, SA, SH⟩ := OS.out
              have O5 := O.disk b h5
              have A5 := Kit.Rd.of_own (SA.step (Step.rightOr ⟨b, fun _ h => .inl h⟩)).row
              have H5 := Kit.Rd.of_own (SH.step (Step.rightOr ⟨b, fun _ h => .inl h⟩)).row
              clear HSy OS O SA SH h5 b
              go_wp2_with fail
              refine (HO _ O5.duo.d).mono ?_
              rintro e w6 ⟨py, Ky, rfl, y6, -, -, b⟩
              have O6 := O5.below b
              have A6 := A5.below b
              have H6 := H5.below b
              clear O5 A5 H5 b HO
              go_wp2_with fail
              refine (HTY _ _ _ y6).mono ?_
              rintro e w7 ⟨vn, rfl, r7, b⟩
              have O7 := O6.below b
              have A7 := A6.below b
              have H7 := H6.below b
              have q1 := Kit.Rd.of_own r7
              obtain ⟨na, nc, rfl, -, -⟩ := row_form r7
              clear O6 A6 H6 b r7 y6 HTY
              go_wp2_with fail
              refine (HT1 _ _ _ q1 A7).mono ?_
              rintro e w8 ⟨rfl, b⟩
              have fin := (O7.below b).low
              clear O7 A7 H7 q1 b HT1
              go_wp2
              go_ret
              exact ⟨rfl, CF.out.trans (fin.mono CF.out.size)⟩
          · have e0 : ¬ (ints kp).length = 0 := fun h => hkp (List.eq_nil_of_length_eq_zero (by simpa [ints] using h))
            have g0 : ((((ints kp).length : Nat) : Int) == 0) = false := by rw [beq_eq_false_iff_ne]; omega
            have hf : ∀ j, Dk.keepOf kp 48 j ≤ 48 := fun j => Dk.keepOf_le kp 48 j
            have hkr : RdK M wr (.slice ka (ints kp).length kc) (ints kp) := (RdK.of_rd HK.out (fun i hi => O.from_ i (.inr hi))).below O.low
            have HCr := crash_any O.duo.d hP hkr
            rw [crash_is D kp hC.size] at HCr
            have hcr := hC.crashed hf
            have hth := hC.there (f := Dk.keepOf kp 48)
            have hpe : (D.settle (Dk.keepOf kp 48)).pend.length = 0 := rfl
            generalize D.settle (Dk.keepOf kp 48) = D' at *
            have HO := fun w (h : Mem w q M D') => open_good h (by rw [hpe]; decide) 0 8 0 0 (by decide) (by decide) (by rw [hth]; decide) (by decide) (by decide)
            generalize opened D' 0 8 0 0 = LY at *
            have HTY := fun w p K (h : LHas w p K LY q) => texts_any h
            rw [hcr.1] at HTY
            generalize txs LY.held = vs at *
            obtain ⟨-, hvk, hv8, hbe⟩ := hcr
            have gl : decide ((vs.length : Int) ≥ (k : Int)) = true := by rw [decide_eq_true_iff]; omega
            have gln : decide (k ≤ vs.length) = true := decide_eq_true hvk
            have HB1 := fun u a cap w h1 h2 h3 h4 => begins_is vs (ts.take k ++ us) (by omega) u a cap w h1 h2 h3 h4
            rw [hal] at HB1
            have HB2 := fun u cap w h1 h2 h3 h4 => begins_is vs ts (by omega) u ra cap w h1 h2 h3 h4
            clear hC O SA SH hSZ hu hP hth hpe hal HM HZM HSW HRB hf hkr hv8 hvk hkp HK
            by_cases hb1 : begins vs (ts.take k ++ us) = true
            · rw [hb1] at HB1
              clear hbe hb1 hbc hbm
              go_wp2_with fail
              refine HCr.mono ?_
              rintro e w5 ⟨rfl, h5, b⟩
              obtain ⟨O, SA, SH⟩ := OS.out
              have O5 := O.disk b h5
              have A5 := Kit.Rd.of_own (SA.step (Step.rightOr ⟨b, fun _ h => .inl h⟩)).row
              have H5 := Kit.Rd.of_own (SH.step (Step.rightOr ⟨b, fun _ h => .inl h⟩)).row
              clear HCr OS O SA SH h5 b
              go_wp2_with fail
              refine (HO _ O5.duo.d).mono ?_
              rintro e w6 ⟨py, Ky, rfl, y6, -, -, b⟩
              have O6 := O5.below b
              have A6 := A5.below b
              have H6 := H5.below b
              clear O5 A5 H5 b HO
              go_wp2_with fail
              refine (HTY _ _ _ y6).mono ?_
              rintro e w7 ⟨vn, rfl, r7, b⟩
              have O7 := O6.below b
              have A7 := A6.below b
              have H7 := H6.below b
              have q1 := Kit.Rd.of_own r7
              obtain ⟨na, nc, rfl, -, -⟩ := row_form r7
              clear O6 A6 H6 b r7 y6 HTY
              go_wp2_with fail
              refine (HB1 _ _ _ _ q1 A7 HBC.out.1 HBC.out.2).mono ?_
              rintro e w8 ⟨rfl, b⟩
              have fin := (O7.below b).low
              clear O7 A7 H7 q1 b HB1 HB2
              go_wp2
              go_ret
              exact ⟨rfl, CF.out.trans (fin.mono CF.out.size)⟩
            · have hb2 := hbe.resolve_left hb1
              have hb1 : begins vs (ts.take k ++ us) = false := by simpa using hb1
              rw [hb1] at HB1
              rw [hb2] at HB2
              clear hbe hb1 hb2 hbc hbm
              go_wp2_with fail
              refine HCr.mono ?_
              rintro e w5 ⟨rfl, h5, b⟩
              obtain ⟨O, SA, SH⟩ := OS.out
              have O5 := O.disk b h5
              have A5 := Kit.Rd.of_own (SA.step (Step.rightOr ⟨b, fun _ h => .inl h⟩)).row
              have H5 := Kit.Rd.of_own (SH.step (Step.rightOr ⟨b, fun _ h => .inl h⟩)).row
              clear HCr OS O SA SH h5 b
              go_wp2_with fail
              refine (HO _ O5.duo.d).mono ?_
              rintro e w6 ⟨py, Ky, rfl, y6, -, -, b⟩
              have O6 := O5.below b
              have A6 := A5.below b
              have H6 := H5.below b
              clear O5 A5 H5 b HO
              go_wp2_with fail
              refine (HTY _ _ _ y6).mono ?_
              rintro e w7 ⟨vn, rfl, r7, b⟩
              have O7 := O6.below b
              have A7 := A6.below b
              have H7 := H6.below b
              have q1 := Kit.Rd.of_own r7
              obtain ⟨na, nc, rfl, -, -⟩ := row_form r7
              clear O6 A6 H6 b r7 y6 HTY
              go_wp2_with fail
              refine (HB1 _ _ _ _ q1 A7 HBC.out.1 HBC.out.2).mono ?_
              rintro e w8 ⟨rfl, b⟩
              have O8 := O7.below b
              have H8 := H7.below b
              have q8 := q1.below b
              clear O7 A7 H7 q1 b HB1
              go_wp2_with fail
              refine (HB2 _ _ _ q8 H8 HRC.out.1 HRC.out.2).mono ?_
              rintro e w9 ⟨rfl, b⟩
              have fin := (O8.below b).low
              clear O8 H8 q8 b HB2
              go_wp2
              go_ret
              exact ⟨rfl, CF.out.trans (fin.mono CF.out.size)⟩
      · obtain rfl : i = m.length := by omega
        have g1 : ¬ (m.length : Int) < (m.length : Int) := by omega
        have hal : (ts.take k ++ us).length = k + us.length := by rw [List.length_append, List.length_take]; have := hC.hk; omega
        have hP : D.pend.length < 2000 := by rw [hC.pend]; omega
        have htl := hC.ht
        have ek : IntKind.i64.wrap (k : Int) = (k : Int) := by rw [IntKind.wrap_i64]; omega
        have OS := Lib.hid (And.intro O (And.intro SA SH))
        have HBC := Lib.hid (And.intro hbc hbm)
        by_cases hkp : kp = []
        · have e0 : (ints kp).length = 0 := by rw [hkp]; rfl
          have g0 : (((ints kp).length : Nat) : Int) = 0 := by omega
          have HSy := sync_any O.duo.l O.duo.d hP
          have hth : D.flush.safe.length = 8 := (after_length _ _ _ _).trans hC.len
          have HO := fun w (h : Mem w q M D.flush) => open_good h (by show 0 < 2000; decide) 0 8 0 0 (by decide) (by decide) (by rw [hth]; decide) (by decide) (by decide)
          by_cases hus : us = []
          · subst hus
            have hq := hC.quiet
            generalize opened D.flush 0 8 0 0 = LY at *
            have hyl : LY.held.length = ts.length := by rw [hq, recs_len]
            have hyx : txs LY.held = ts := by rw [hq, txs_recs]
            have HTY := fun w p K (h : LHas w p K LY q) => texts_any h
            rw [hyl, hyx] at HTY
            have HT1 := fun v1 v2 w h1 h2 => texts_is ts (ts.take k ++ []) (by omega) v1 v2 w h1 h2
            have HT2 := fun v1 v2 w h1 h2 => texts_is ts ts (by omega) v1 v2 w h1 h2
            rw [decide_eq_true rfl] at HT2
            clear hC O SA SH hSZ hu hbc hbm hP hth hq hyl hyx hal HM HZM HSW HRB HK hkp
            by_cases hkh : ts = ts.take k ++ []
            · rw [decide_eq_true hkh] at HT1
              clear hkh
              go_wp2_with fail
              refine HSy.mono ?_
              rintro e w5 ⟨rfl, h5, b⟩
              obtain ⟨O, SA, SH⟩ := OS.out
              have O5 := O.disk b h5
              have A5 := Kit.Rd.of_own (SA.step (Step.rightOr ⟨b, fun _ h => .inl h⟩)).row
              have H5 := Kit.Rd.of_own (SH.step (Step.rightOr ⟨b, fun _ h => .inl h⟩)).row
              clear HSy OS O SA SH h5 b
              go_wp2_with fail
              refine (HO _ O5.duo.d).mono ?_
              rintro e w6 ⟨py, Ky, rfl, y6, -, -, b⟩
              have O6 := O5.below b
              have A6 := A5.below b
              have H6 := H5.below b
              clear O5 A5 H5 b HO
              go_wp2_with fail
              refine (HTY _ _ _ y6).mono ?_
              rintro e w7 ⟨vn, rfl, r7, b⟩
              have O7 := O6.below b
              have A7 := A6.below b
              have H7 := H6.below b
              have q1 := Kit.Rd.of_own r7
              obtain ⟨na, nc, rfl, -, -⟩ := row_form r7
              clear O6 A6 H6 b r7 y6 HTY
              go_wp2_with fail
              refine (HT1 _ _ _ q1 A7).mono ?_
              rintro e w8 ⟨rfl, b⟩
              have fin := (O7.below b).low
              clear O7 A7 H7 q1 b HT1 HT2
              go_wp2
              go_ret
              exact ⟨rfl, CF.out.trans (fin.mono CF.out.size)⟩
            · rw [decide_eq_false hkh] at HT1
              clear hkh
              go_wp2_with fail
              refine HSy.mono ?_
              rintro e w5 ⟨rfl, h5, b⟩
              obtain ⟨O, SA, SH⟩ := OS.out
              have O5 := O.disk b h5
              have A5 := Kit.Rd.of_own (SA.step (Step.rightOr ⟨b, fun _ h => .inl h⟩)).row
              have H5 := Kit.Rd.of_own (SH.step (Step.rightOr ⟨b, fun _ h => .inl h⟩)).row
              clear HSy OS O SA SH h5 b
              go_wp2_with fail
              refine (HO _ O5.duo.d).mono ?_
              rintro e w6 ⟨py, Ky, rfl, y6, -, -, b⟩
              have O6 := O5.below b
              have A6 := A5.below b
              have H6 := H5.below b
              clear O5 A5 H5 b HO
              go_wp2_with fail
              refine (HTY _ _ _ y6).mono ?_
              rintro e w7 ⟨vn, rfl, r7, b⟩
              have O7 := O6.below b
              have A7 := A6.below b
              have H7 := H6.below b
              have q1 := Kit.Rd.of_own r7
              obtain ⟨na, nc, rfl, -, -⟩ := row_form r7
              clear O6 A6 H6 b r7 y6 HTY
              go_wp2_with fail
              refine (HT1 _ _ _ q1 A7).mono ?_
              rintro e w8 ⟨rfl, b⟩
              have O8 := O7.below b
              have H8 := H7.below b
              have q8 := q1.below b
              clear O7 A7 H7 q1 b HT1
              go_wp2_with fail
              refine (HT2 _ _ _ q8 H8).mono ?_
              rintro e w9 ⟨rfl, b⟩
              have fin := (O8.below b).low
              clear O8 H8 q8 b HT2
              go_wp2
              go_ret
              exact ⟨rfl, CF.out.trans (fin.mono CF.out.size)⟩
          · have hq := hC.synced hus
            have hln := LC_len (us := us) hC.hk
            generalize opened D.flush 0 8 0 0 = LY at *
            have hyl : LY.held.length = k + us.length := by rw [hq, hln]
            have hyx : txs LY.held = ts.take k ++ us := by rw [hq, txs_LC]
            have HTY := fun w p K (h : LHas w p K LY q) => texts_any h
            rw [hyl, hyx] at HTY
            have HT1 := fun v1 v2 w h1 h2 => texts_is (ts.take k ++ us) (ts.take k ++ us) (by omega) v1 v2 w h1 h2
            rw [decide_eq_true rfl] at HT1
            clear hC O SA SH hSZ hu hbc hbm hP hth hq hyl hyx hal hln hus HM HZM HSW HRB HK hkp
            go_wp2_with fail
            refine HSy.mono ?_
            rintro e w5 ⟨rfl, h5, b⟩
            obtain ⟨O, SA, SH⟩ := OS.out
            have O5 := O.disk b h5
            have A5 := Kit.Rd.of_own (SA.step (Step.rightOr ⟨b, fun _ h => .inl h⟩)).row
            have H5 := Kit.Rd.of_own (SH.step (Step.rightOr ⟨b, fun _ h => .inl h⟩)).row
            clear HSy OS O SA SH h5 b
            go_wp2_with fail
            refine (HO _ O5.duo.d).mono ?_
            rintro e w6 ⟨py, Ky, rfl, y6, -, -, b⟩
            have O6 := O5.below b
            have A6 := A5.below b
            have H6 := H5.below b
            clear O5 A5 H5 b HO
            go_wp2_with fail
            refine (HTY _ _ _ y6).mono ?_
            rintro e w7 ⟨vn, rfl, r7, b⟩
            have O7 := O6.below b
            have A7 := A6.below b
            have H7 := H6.below b
            have q1 := Kit.Rd.of_own r7
            obtain ⟨na, nc, rfl, -, -⟩ := row_form r7
            clear O6 A6 H6 b r7 y6 HTY
            go_wp2_with fail
            refine (HT1 _ _ _ q1 A7).mono ?_
            rintro e w8 ⟨rfl, b⟩
            have fin := (O7.below b).low
            clear O7 A7 H7 q1 b HT1
            go_wp2
            go_ret
            exact ⟨rfl, CF.out.trans (fin.mono CF.out.size)⟩
        · have e0 : ¬ (ints kp).length = 0 := fun h => hkp (List.eq_nil_of_length_eq_zero (by simpa [ints] using h))
          have g0 : ((((ints kp).length : Nat) : Int) == 0) = false := by rw [beq_eq_false_iff_ne]; omega
          have hf : ∀ j, Dk.keepOf kp 48 j ≤ 48 := fun j => Dk.keepOf_le kp 48 j
          have hkr : RdK M wr (.slice ka (ints kp).length kc) (ints kp) := (RdK.of_rd HK.out (fun i hi => O.from_ i (.inr hi))).below O.low
          have HCr := crash_any O.duo.d hP hkr
          rw [crash_is D kp hC.size] at HCr
          have hcr := hC.crashed hf
          have hth := hC.there (f := Dk.keepOf kp 48)
          have hpe : (D.settle (Dk.keepOf kp 48)).pend.length = 0 := rfl
          generalize D.settle (Dk.keepOf kp 48) = D' at *
          have HO := fun w (h : Mem w q M D') => open_good h (by rw [hpe]; decide) 0 8 0 0 (by decide) (by decide) (by rw [hth]; decide) (by decide) (by decide)
          generalize opened D' 0 8 0 0 = LY at *
          have HTY := fun w p K (h : LHas w p K LY q) => texts_any h
          rw [hcr.1] at HTY
          generalize txs LY.held = vs at *
          obtain ⟨-, hvk, hv8, hbe⟩ := hcr
          have gl : decide ((vs.length : Int) ≥ (k : Int)) = true := by rw [decide_eq_true_iff]; omega
          have gln : decide (k ≤ vs.length) = true := decide_eq_true hvk
          have HB1 := fun u a cap w h1 h2 h3 h4 => begins_is vs (ts.take k ++ us) (by omega) u a cap w h1 h2 h3 h4
          rw [hal] at HB1
          have HB2 := fun u cap w h1 h2 h3 h4 => begins_is vs ts (by omega) u ra cap w h1 h2 h3 h4
          clear hC O SA SH hSZ hu hP hth hpe hal HM HZM HSW HRB hf hkr hv8 hvk hkp HK
          by_cases hb1 : begins vs (ts.take k ++ us) = true
          · rw [hb1] at HB1
            clear hbe hb1 hbc hbm
            go_wp2_with fail
            refine HCr.mono ?_
            rintro e w5 ⟨rfl, h5, b⟩
            obtain ⟨O, SA, SH⟩ := OS.out
            have O5 := O.disk b h5
            have A5 := Kit.Rd.of_own (SA.step (Step.rightOr ⟨b, fun _ h => .inl h⟩)).row
            have H5 := Kit.Rd.of_own (SH.step (Step.rightOr ⟨b, fun _ h => .inl h⟩)).row
            clear HCr OS O SA SH h5 b
            go_wp2_with fail
            refine (HO _ O5.duo.d).mono ?_
            rintro e w6 ⟨py, Ky, rfl, y6, -, -, b⟩
            have O6 := O5.below b
            have A6 := A5.below b
            have H6 := H5.below b
            clear O5 A5 H5 b HO
            go_wp2_with fail
            refine (HTY _ _ _ y6).mono ?_
            rintro e w7 ⟨vn, rfl, r7, b⟩
            have O7 := O6.below b
            have A7 := A6.below b
            have H7 := H6.below b
            have q1 := Kit.Rd.of_own r7
            obtain ⟨na, nc, rfl, -, -⟩ := row_form r7
            clear O6 A6 H6 b r7 y6 HTY
            go_wp2_with fail
            refine (HB1 _ _ _ _ q1 A7 HBC.out.1 HBC.out.2).mono ?_
            rintro e w8 ⟨rfl, b⟩
            have fin := (O7.below b).low
            clear O7 A7 H7 q1 b HB1 HB2
            go_wp2
            go_ret
            exact ⟨rfl, CF.out.trans (fin.mono CF.out.size)⟩
          · have hb2 := hbe.resolve_left hb1
            have hb1 : begins vs (ts.take k ++ us) = false := by simpa using hb1
            rw [hb1] at HB1
            rw [hb2] at HB2
            clear hbe hb1 hb2 hbc hbm
            go_wp2_with fail
            refine HCr.mono ?_
            rintro e w5 ⟨rfl, h5, b⟩
            obtain ⟨O, SA, SH⟩ := OS.out
            have O5 := O.disk b h5
            have A5 := Kit.Rd.of_own (SA.step (Step.rightOr ⟨b, fun _ h => .inl h⟩)).row
            have H5 := Kit.Rd.of_own (SH.step (Step.rightOr ⟨b, fun _ h => .inl h⟩)).row
            clear HCr OS O SA SH h5 b
            go_wp2_with fail
            refine (HO _ O5.duo.d).mono ?_
            rintro e w6 ⟨py, Ky, rfl, y6, -, -, b⟩
            have O6 := O5.below b
            have A6 := A5.below b
            have H6 := H5.below b
            clear O5 A5 H5 b HO
            go_wp2_with fail
            refine (HTY _ _ _ y6).mono ?_
            rintro e w7 ⟨vn, rfl, r7, b⟩
            have O7 := O6.below b
            have A7 := A6.below b
            have H7 := H6.below b
            have q1 := Kit.Rd.of_own r7
            obtain ⟨na, nc, rfl, -, -⟩ := row_form r7
            clear O6 A6 H6 b r7 y6 HTY
            go_wp2_with fail
            refine (HB1 _ _ _ _ q1 A7 HBC.out.1 HBC.out.2).mono ?_
            rintro e w8 ⟨rfl, b⟩
            have O8 := O7.below b
            have H8 := H7.below b
            have q8 := q1.below b
            clear O7 A7 H7 q1 b HB1
            go_wp2_with fail
            refine (HB2 _ _ _ q8 H8 HRC.out.1 HRC.out.2).mono ?_
            rintro e w9 ⟨rfl, b⟩
            have fin := (O8.below b).low
            clear O8 H8 q8 b HB2
            go_wp2
            go_ret
            exact ⟨rfl, CF.out.trans (fin.mono CF.out.size)⟩
  · have g1 : decide ((n : Int) ≤ (ts.length : Int)) = false := by rw [decide_eq_false_iff_not]; omega
    have g1n : decide (n ≤ ts.length) = false := decide_eq_false hnk
    have g2 : decide ((n : Int) > (ts.length : Int)) = true := by rw [decide_eq_true_iff]; omega
    have g2n : decide (ts.length < n) = true := by rw [decide_eq_true_iff]; omega
    have HC := cut_no O1.duo.l n (by have e : (LN ts).last = 0 + (LN ts).held.length := rfl; rw [e, LN_held]; omega)
    have OS := Lib.hid O1
    clear O1 S1 hN hP hn HM HK HZM hfl hfs HRC
    go_wp2_with fail
    refine HC.mono ?_
    rintro e w3 ⟨rfl, b⟩
    have fin := (OS.out.below b).low
    clear OS b HC
    go_wp2
    go_ret
    exact ⟨rfl, CF.out.trans (fin.mono CF.out.size)⟩
end Go.Proofs.Ytgjejofdmfpdjaa.Cuts10
