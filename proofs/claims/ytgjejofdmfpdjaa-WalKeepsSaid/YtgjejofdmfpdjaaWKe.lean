/-
  WalKeeps: the walk, for every input.
-/
import Derived.Test.YtgjejofdmfpdjaaWlW
namespace Go.Proofs.Ytgjejofdmfpdjaa.Keeps10
open Go.RowKit
open Dsk Slt Wal

set_option maxRecDepth 100000 in
set_option maxHeartbeats 32000000 in
theorem keeps_any (l : List ByteArray) (hz : ∀ t ∈ l, t.size ≤ 140737488351232) (la : Option Addr) (lc : Nat) (m : List ByteArray) (hzm : ∀ t ∈ m, t.size ≤ 140737488351232) (ma : Option Addr) (mc : Nat) (kp : List Int) (ka : Option Addr) (kc : Nat) (w : World)
    (hl : Kit.Rd w (.slice la l.length lc) (Dsk.strs l)) (hm : Kit.Rd w (.slice ma m.length mc) (Dsk.strs m)) (hk : Kit.Rd w (.slice ka (ints kp).length kc) (ints kp)) :
    Calls Try.prog 3 #[.slice la l.length lc, .slice ma m.length mc, .slice ka (ints kp).length kc] w fun e w' => e = .returned (.bool true) ∧ Below w.heap.size w w' := by
  have HA := appended_any l hz la lc w hl
  have HF := fixed_any
  have HM := Lib.hid hm
  have HZM := Lib.hid hzm
  have HK := Lib.hid hk
  have hfl := fit_le l 8
  have hfs := fit_small l 8
  clear hl hz hm hzm hk
  go_enter Try.func3, Try.ntmps3
  go_wp2_with fail
  refine HA.mono ?_
  rintro e w1 ⟨q, p, M, K, D, rv, rfl, hN, hP, O, S⟩
  generalize fit l 8 = ts at *
  have C0 := Cuts.start hN hP hfl hfs (Nat.le_refl _)
  rw [LN_LC] at O
  obtain ⟨ra, rc, rfl, -, -⟩ := row_form S.row
  clear hN hP HA
  go_wp2_with fail
  refine (HF _).mono ?_
  rintro e wS ⟨rfl, b⟩
  have O1 := O.below b
  have S1 := S.below b
  clear O S b HF
  have bl := below_lit wS (.cells #[] 9)
  have ow0 : (wS.alloc (.cells #[] 9)).ownsRow wS.heap.size 9 1 (.slice (some ⟨wS.heap.size, 0, none⟩) 0 0) 0 [] := World.ownsRow_made (base := wS.heap.size) (e := 9) (size := 1) wS #[] 0 (Nat.le_refl _) (by unfold maxLen; omega) rfl
  have hsl := (Kit.Sl.of_own S1.row).below bl
  have hsn : (Dsk.strs ts).length = ts.length := Dsk.strs_len ts
  have hf1 : (0 + (Dsk.strs ts).length) * 16 ≤ 140737488355328 := by omega
  have hf2 : 0 + (Dsk.strs ts).length ≤ maxLen := by unfold maxLen; omega
  have HSL := Lib.hid hsl
  obtain ⟨is0, zs0, hsi, is1, is2, is3, is4⟩ := Dsk.infoStr
  clear hsl
  go_wp2_with (at_builtin; refine Kit.wpList_append_sl rfl _ _ 22 rfl wS.heap.size 9 is0 zs0 16 Try.underlying22 hsi is1 is2 is3 is4 (.slice (some ⟨wS.heap.size, 0, none⟩) 0 0) 0 [] rfl ow0 (.slice ra ts.length rc) (Dsk.strs ts) rfl HSL.out (Dsk.strs_one ts) hf2 hf1 bl.size ?_)
  intro va w5 hown hg
  have bg : Below wS.heap.size wS w5 := bl.grown hg bl.size (fun j hj => (ow0.lt j hj).1)
  have O5 := O1.below bg
  have S5 := S1.below bg
  have SA5 : Beside wS.heap.size (Or K M) w5 9 1 va ts.length (Dsk.strs ts) := Beside.base hown O1.duo.ltOr (Nat.le_refl _)
  have HSW := Lib.hid O1.size
  have HRB := Lib.hid (fun j (hj : (Value.slice ra ts.length rc).ownBlock = some j) => row_lt S1.row hj)
  have LST : Lone w.heap.size w w5 p K (LC ts [] ts.length) q M D ∧ Beside wS.heap.size (Or K M) w5 9 1 va (ts.length + ([] : List ByteArray).length) (Dsk.strs (ts ++ [])) ∧ Beside w.heap.size (Or K M) w5 9 1 (.slice ra ts.length rc) ts.length (Dsk.strs ts) ∧ wS.heap.size ≤ w5.heap.size :=
    ⟨O5, by rw [List.append_nil]; exact SA5, S5, bg.size⟩
  clear O1 S1 bl ow0 hsn hf1 hf2 HSL hown hg bg O5 S5 SA5 hfl hfs
  go_wp2
  go_loopw [11, 12] (fun va vi wr => ∃ (i : Nat) (us : List ByteArray) (D : Dk) (K M : Nat → Prop), i ≤ m.length ∧ i ≤ 8 ∧ vi = .int .i64 (i : Int) ∧ Cuts D ts us ts.length ∧ Lone w.heap.size w wr p K (LC ts us ts.length) q M D ∧ Beside wS.heap.size (Or K M) wr 9 1 va (ts.length + us.length) (Dsk.strs (ts ++ us)) ∧ Beside w.heap.size (Or K M) wr 9 1 (.slice ra ts.length rc) ts.length (Dsk.strs ts) ∧ wS.heap.size ≤ wr.heap.size)
    (fun _ vi _ => 8 - (intOf vi).toNat)
  case atStart => exact ⟨0, [], D, K, M, Nat.zero_le _, by omega, rfl, C0, LST.1, LST.2.1, LST.2.2.1, LST.2.2.2⟩
  case round =>
    obtain ⟨i, us, D, K, M, hi1, hi2, rfl, hC, O, SA, SH, hSZ⟩ := hrel
    clear LST C0
    obtain ⟨ba, bc, rfl, hbc, hbm⟩ := row_form SA.row
    have hu := hC.hu
    by_cases hlt : i < m.length
    · have g1 : (i : Int) < (m.length : Int) := by omega
      by_cases hlt2 : i < 8
      · have g2 : (i : Int) < 8 := by omega
        obtain ⟨t, ht⟩ : ∃ t, m[i]? = some t := ⟨_, List.getElem?_eq_getElem hlt⟩
        have HT := Lib.hid ht
        have htz := HZM.out t (List.mem_of_getElem? ht)
        obtain ⟨ad, rfl, a0⟩ := text_at HM.out O.low ht
        have OS := Lib.hid (And.intro O (And.intro SA (And.intro SH hSZ)))
        by_cases hap : ts.length + us.length ≠ 8 ∧ t.size ≤ 28
        · have H := O.cutApp hC hap.1 hap.2
          have hC2 := hC.more hap.1 hap.2
          have el : (us ++ [t]).length = us.length + 1 := by rw [List.length_append]; rfl
          have ex : Dsk.strs (ts ++ us) ++ Dsk.strs [t] = Dsk.strs (ts ++ us ++ [t]) := by simp [Dsk.strs]
          have HC := Lib.hid (And.intro hC2 (And.intro el ex))
          have hf1 : (ts.length + us.length + 1) * 16 ≤ 140737488355328 := by omega
          have hf2 : ts.length + us.length + 1 ≤ maxLen := by unfold maxLen; omega
          generalize wrote D (LC ts us ts.length) t = D2 at *
          have e3 : wrap64 ((i : Int) + 1) = (i : Int) + 1 := by unfold wrap64; omega
          clear O SA SH hSZ hC hC2 ht htz el ex hbc hbm
          go_wp2_with fail
          refine H.mono ?_
          rintro e w3 ⟨rfl, K3, M3, O3, st⟩
          obtain ⟨-, SA, SH, hSZ⟩ := OS.out
          have SA3 := SA.step st
          have SH3 := SH.step st
          have hS3 := Nat.le_trans hSZ st.size
          clear st H OS a0 SA SH hSZ
          obtain ⟨ad', e, a0⟩ := text_at HM.out O3.low HT.out
          cases e
          have bl := below_lit w3 (.cells #[.string t] 9)
          have O4 := O3.below bl
          have SA4 := SA3.below bl
          have SH4 := SH3.below bl
          have hS4 := Nat.le_trans hS3 bl.size
          have ow4 := SA4.row
          have bx4 : (w3.alloc (.cells #[.string t] 9)).heap[w3.heap.size]? = some (.cells #[.string t] 9 (0, 0)) := (MapKept.heap_alloc w3 _).1
          have OS := Lib.hid (And.intro O4 (And.intro SA4 (And.intro SH4 hS4)))
          clear O3 SA3 SH3 O4 SA4 SH4 bl hS3 hS4
          obtain ⟨is0, zs0, hsi, is1, is2, is3, is4⟩ := Dsk.infoStr
          go_wp2_with (at_builtin; refine wpList_append_lies _ rfl _ _ 22 rfl 0 9 is0 zs0 1 16 Try.underlying22 hsi is1 is2 is3 is4 (by decide) (.slice ba (ts.length + us.length) bc) (ts.length + us.length) (Dsk.strs (ts ++ us)) rfl ow4 ⟨w3.heap.size, 0, none⟩ 1 1 [.string t] rfl rfl (World.news_of_block bx4) (Dsk.strs_one [t]) (by decide) hf2 hf1 (Nat.zero_le _) _ rfl ?_)
          intro g cap2 w5 hown5 hg hat hlt5
          obtain ⟨hC2, el, ex⟩ := HC.out
          have R := OS.out.1.row2 OS.out.2.1 HSW.out OS.out.2.2.2 hown5 hg (hat.imp id fun e => by rw [e, World.size_alloc])
          have eq1 : [Value.string t] = Dsk.strs [t] := rfl
          rw [eq1, ex] at R
          have SH5 := Wal.Beside.aside OS.out.2.2.1 (rv := .slice ba (ts.length + us.length) bc) (fun j hj e => by have h1 := OS.out.2.1.low j e; have h2 := HRB.out j hj; omega) hg
          have hS5 := Nat.le_trans OS.out.2.2.2 hg.size
          have RR := Lib.hid (And.intro R.1 (And.intro R.2 (And.intro SH5 hS5)))
          have HC3 := Lib.hid (And.intro hC2 el)
          clear R SH5 hS5 hown5 hg hat hlt5 ow4 bx4 hf1 hf2 OS HC hC2 el ex eq1 a0
          go_wp2
          go_roundw
          case rel => exact ⟨i + 1, us ++ [t], D2, K3, M3, hlt, by omega, rfl, HC3.out.1, RR.out.1, by rw [HC3.out.2, ← Nat.add_assoc, ← List.append_assoc]; exact RR.out.2.1, RR.out.2.2.1, RR.out.2.2.2⟩
          case measure =>
            have l5 : (intOf (.int .i64 ((i : Int) + 1))).toNat = i + 1 := rfl
            have l6 : (intOf (.int .i64 (i : Int))).toNat = i := rfl
            rw [l5, l6]
            exact Nat.sub_lt_sub_left hlt2 (Nat.lt_succ_self i)
        · have H := O.cutNo hC htz hap
          have HC := Lib.hid hC
          have e3 : wrap64 ((i : Int) + 1) = (i : Int) + 1 := by unfold wrap64; omega
          clear O SA SH hSZ hC ht htz hbc hbm
          go_wp2_with fail
          refine H.mono ?_
          rintro e w3 ⟨rfl, b⟩
          obtain ⟨O, SA, SH, hSZ⟩ := OS.out
          have RR := Lib.hid (And.intro (O.below b) (And.intro (SA.below b) (And.intro (SH.below b) (Nat.le_trans hSZ b.size))))
          clear b H OS O SA SH hSZ a0
          go_wp2
          go_roundw
          case rel => exact ⟨i + 1, us, D, K, M, hlt, by omega, rfl, HC.out, RR.out.1, RR.out.2.1, RR.out.2.2.1, RR.out.2.2.2⟩
          case measure =>
            have l5 : (intOf (.int .i64 ((i : Int) + 1))).toNat = i + 1 := rfl
            have l6 : (intOf (.int .i64 (i : Int))).toNat = i := rfl
            rw [l5, l6]
            exact Nat.sub_lt_sub_left hlt2 (Nat.lt_succ_self i)
      · obtain rfl : i = 8 := by omega
        have etk : ts.take ts.length = ts := List.take_length
        have hxl : txs (LC ts us ts.length).held = ts ++ us := by rw [txs_LC, etk]
        have hln := LC_len (us := us) hC.hk
        have hal : (ts ++ us).length = ts.length + us.length := List.length_append
        have HT := fun w (h : LHas w p K (LC ts us ts.length) q) => texts_any h
        rw [hln, hxl] at HT
        have HTX := fun v1 v2 w h1 h2 => texts_is (ts ++ us) (ts ++ us) (by omega) v1 v2 w h1 h2
        rw [decide_eq_true rfl] at HTX
        have hP : D.pend.length < 2000 := by rw [hC.pend]; omega
        have hf : ∀ j, Dk.keepOf kp 48 j ≤ 48 := fun j => Dk.keepOf_le kp 48 j
        have hkr : RdK M wr (.slice ka (ints kp).length kc) (ints kp) := (RdK.of_rd HK.out (fun i hi => O.from_ i (.inr hi))).below O.low
        have HCr := fun w (h : Mem w q M D) (hr : RdK M w (.slice ka (ints kp).length kc) (ints kp)) => crash_any h hP hr
        rw [crash_is D kp hC.size] at HCr
        obtain ⟨n, hn1, hn2, hop⟩ := hC.kept hf
        obtain ⟨nx1, -⟩ := hC.next hf
        have nx0 : 1 ≤ nextMark (D.settle (Dk.keepOf kp 48)) 0 8 := by unfold nextMark; omega
        have hvl : ((ts ++ us).take n).length = n := by rw [List.length_take]; omega
        have hbe : begins ((ts ++ us).take n) (ts ++ us) = true := by
          unfold begins
          rw [hvl]
          exact decide_eq_true ⟨by omega, rfl⟩
        have hon := fun h8 => hC.on hf (vs := (ts ++ us).take n) hop (by rw [hvl]; exact hn1) h8
        have hth := hC.there (f := Dk.keepOf kp 48)
        have hfl : (D.settle (Dk.keepOf kp 48)).flush = D.settle (Dk.keepOf kp 48) := rfl
        have hsz : (D.settle (Dk.keepOf kp 48)).size = 48 := hC.size
        have hpe : (D.settle (Dk.keepOf kp 48)).pend.length = 0 := rfl
        generalize hvs : (ts ++ us).take n = vs at *
        generalize D.settle (Dk.keepOf kp 48) = D' at *
        generalize nextMark D' 0 8 = nx at *
        have HO := fun w (h : Mem w q M D') => open_good h (by rw [hpe]; decide) 0 8 0 0 (by decide) (by decide) (by rw [hth]; decide) (by decide) (by decide)
        have hop2 : opened D' 0 8 0 0 = LY nx vs := hop
        rw [hop2] at HO
        have HQ := Lib.hid (And.intro hop2 (And.intro hon (And.intro hth (And.intro hfl (And.intro hsz (And.intro hpe (And.intro nx1 nx0)))))))
        have HBE := fun u a cap w h1 h2 h3 h4 => begins_is vs (ts ++ us) (by omega) u a cap w h1 h2 h3 h4
        rw [hbe, hal] at HBE
        have HTY := fun w p K (h : LHas w p K (LY nx vs) q) => texts_any h
        have hly : (LY nx vs).held.length = vs.length := LY_len
        have hlx : txs (LY nx vs).held = vs := txs_recs 0 vs
        rw [hly, hlx] at HTY
        have HTV := fun v1 v2 w h1 h2 => texts_is vs vs (by omega) v1 v2 w h1 h2
        rw [decide_eq_true rfl] at HTV
        have gl : decide ((vs.length : Int) < (ts.length : Int)) = false := by rw [decide_eq_false_iff_not]; omega
        have gln : decide (vs.length < ts.length) = false := by rw [decide_eq_false_iff_not]; omega
        have hv8 : vs.length ≤ 8 := by have := hC.ht; omega
        have OS := Lib.hid (And.intro O (And.intro SA (And.intro hkr (And.intro hbc hbm))))
        have HV8 := Lib.hid hv8
        clear O SA SH hSZ hC hu etk hxl hln hP hf hkr hop hop2 nx1 nx0 hvl hbe hon hth hfl hsz hpe hly hlx hv8 hn1 hn2 hvs hal
        clear HM HZM HSW HRB
        go_wp2_with fail
        refine (HT _ OS.out.1.duo.l).mono ?_
        rintro e w3 ⟨v1, rfl, r1, b⟩
        have O3 := OS.out.1.below b
        have S3 := OS.out.2.1.below b
        have k3 := OS.out.2.2.1.below b
        have q1 := Kit.Rd.of_own r1
        have HB := Lib.hid OS.out.2.2.2
        clear b HT OS r1
        go_wp2_with fail
        refine (HTX _ _ _ q1 (Kit.Rd.of_own S3.row)).mono ?_
        rintro e w4 ⟨rfl, b⟩
        have O4 := O3.below b
        have S4 := S3.below b
        have k4 := k3.below b
        clear b HTX O3 S3 k3 q1
        go_wp2_with fail
        refine (HCr _ O4.duo.d k4).mono ?_
        rintro e w5 ⟨rfl, h5, b⟩
        have O5 := O4.disk b h5
        have A5 := Kit.Rd.of_own (S4.step (Step.rightOr ⟨b, fun _ h => .inl h⟩)).row
        clear HCr O4 k4 h5 S4 b
        go_wp2_with fail
        refine (HO _ O5.duo.d).mono ?_
        rintro e w6 ⟨py, Ky, rfl, y6, d6, hK, b⟩
        have Oy := Lone.of O5.duo.d (fun i hi => O5.from_ i (.inr hi)) O5.low O5.size b y6 d6 hK
        have A6 := A5.below b
        clear O5 y6 d6 hK b A5
        go_wp2_with fail
        refine (HO _ Oy.duo.d).mono ?_
        rintro e w7 ⟨pz, Kz, rfl, z7, -, hK, b⟩
        have Y7 : YZ w.heap.size w w7 py Ky (LY nx vs) q M D' pz Kz (LY nx vs) := ⟨Oy.below b, z7, fun i hi hz => by have h1 := Oy.duo.ltOr i hi; have h2 := hK i hz; omega⟩
        have A7 := A6.below b
        clear Oy z7 hK b A6
        go_wp2_with fail
        refine (HTY _ _ _ Y7.y.duo.l).mono ?_
        rintro e w8 ⟨vn, rfl, r8, b⟩
        have S8 : Beside w.heap.size (Or Ky M) w8 9 1 vn vs.length (Dsk.strs vs) := Beside.base r8 Y7.y.duo.ltOr Y7.y.size
        have hnz : ∀ j, vn.ownBlock = some j → ¬ Kz j := fun j hj hz => by have h1 := (r8.lt j hj).1; have h2 := Y7.z.lt j hz; omega
        have Y8 := Y7.below b
        have A8 := A7.below b
        obtain ⟨na, nc, rfl, -, -⟩ := row_form S8.row
        have HNZ := Lib.hid hnz
        clear Y7 b A7 r8 hnz
        go_wp2_with fail
        refine (HBE _ _ _ _ (Kit.Rd.of_own S8.row) A8 HB.out.1 HB.out.2).mono ?_
        rintro e w9 ⟨rfl, b⟩
        have Y9 := Y8.below b
        have S9 := S8.below b
        clear Y8 S8 A8 b HBE HB
        go_wp2_with fail
        refine (HTY _ _ _ Y9.z).mono ?_
        rintro e w10 ⟨v2, rfl, r2, b⟩
        have Y10 := Y9.below b
        have S10 := S9.below b
        have q2 := Kit.Rd.of_own r2
        clear Y9 S9 b r2
        go_wp2_with fail
        refine (HTV _ _ _ (Kit.Rd.of_own S10.row) q2).mono ?_
        rintro e w11 ⟨rfl, b⟩
        have Y11 := Y10.below b
        have S11 := S10.below b
        clear Y10 S10 b q2
        obtain ⟨hop2, hon, hth, hfl, hsz, hpe, nx1, nx0⟩ := HQ.out
        by_cases h8 : vs.length < 8
        · have hon := hon h8
          have hcan := LY_can (vs := vs) nx1 h8
          have hla : (LY nx vs).last = vs.length := by show 0 + (LY nx vs).held.length = _; rw [LY_len]; omega
          have hmo : (LY nx vs).more ton = ⟨0, 8, 0, 0, nx + 1, recs 0 vs ++ [⟨nx, ton⟩]⟩ := rfl
          have HAp := append_yes Y11.y.duo.l Y11.y.duo.d Y11.y.duo.dj (t := ton) (by rw [hpe]; decide) (by rw [hsz]; exact hcan) (by rw [hth, hla]; show 0 + _ % 8 < 8; omega) (by show nx ≠ 0; omega) (by rw [hla]; omega) (by decide)
          have hp2 := wrote_pend D' (LY nx vs) ton
          have hth2 : (wrote D' (LY nx vs) ton).flush.safe.length = 8 := (after_length _ _ _ _).trans hth
          generalize (LY nx vs).more ton = LM at *
          clear hmo
          generalize wrote D' (LY nx vs) ton = D2 at *
          have HSy := fun w p K M (h : LHas w p K LM q) (hd : Mem w q M D2) => sync_any h hd (by rw [hp2, hpe]; decide)
          have HO2 := fun w M (h : Mem w q M D2.flush) => open_good h (by show 0 < 2000; decide) 0 8 0 0 (by decide) (by decide) (by rw [hth2]; decide) (by decide) (by decide)
          generalize opened D2.flush 0 8 0 0 = LW at *
          have HTW := fun w p K (h : LHas w p K LW q) => texts_any h
          have hlw : LW.held.length = vs.length + 1 := by rw [hon, List.length_append, recs_len]; rfl
          have hxw : txs LW.held = vs ++ [ton] := by rw [hon, txs_append, txs_recs]; rfl
          rw [hlw, hxw] at HTW
          have HTV2 := fun v1 v2 w h1 h2 => texts_is (vs ++ [ton]) (vs ++ [ton]) (by rw [List.length_append]; have := HV8.out; show vs.length + 1 ≤ _; omega) v1 v2 w h1 h2
          rw [decide_eq_true rfl] at HTV2
          have gz : decide ((vs.length : Int) < 8) = true := by rw [decide_eq_true_iff]; omega
          have gzn : decide (vs.length < 8) = true := decide_eq_true h8
          have ex : Dsk.strs vs ++ Dsk.strs [ton] = Dsk.strs (vs ++ [ton]) := by simp [Dsk.strs]
          have hf1 : (vs.length + 1) * 16 ≤ 140737488355328 := by omega
          have hf2 : vs.length + 1 ≤ maxLen := by unfold maxLen; omega
          have EX := Lib.hid ex
          have YS := Lib.hid (And.intro Y11 S11)
          simp only [ton] at HAp
          clear Y11 S11 hon hcan hla hp2 hth2 hop2 hth hfl hsz hpe nx1 nx0 hlw hxw ex HQ HTV
          go_wp2_with fail
          refine HAp.mono ?_
          rintro e w12 ⟨rfl, K12, M12, h12, st⟩
          have Y12 := YS.out.1.turn st h12
          have S12 := YS.out.2.step st
          clear st h12 HAp YS
          go_wp2_with fail
          refine (HSy _ _ _ _ Y12.y.duo.l Y12.y.duo.d).mono ?_
          rintro e w13 ⟨rfl, h13, b⟩
          have Y13 := Y12.disk b h13
          have S13 := S12.step (Step.rightOr ⟨b, fun _ h => .inl h⟩)
          clear b h13 Y12 S12 HSy
          go_wp2_with fail
          refine (HO2 _ _ Y13.y.duo.d).mono ?_
          rintro e w14 ⟨pw, Kw, rfl, x14, -, hKw, b⟩
          have Y14 := Y13.below b
          have S14 := S13.below b
          have hnw : ∀ j, (Value.slice na vs.length nc).ownBlock = some j → ¬ Kw j := fun j hj hw => by have h1 := row_lt S13.row hj; have h2 := hKw j hw; omega
          clear b Y13 S13 HO2 hKw
          have bl := below_lit w14 (.cells #[.string ton] 9)
          have Y15 := Y14.below bl
          have S15 := S14.below bl
          have x15 := x14.below bl
          have ow15 := S15.row
          have bx15 : (w14.alloc (.cells #[.string ton] 9)).heap[w14.heap.size]? = some (.cells #[.string ton] 9 (0, 0)) := (MapKept.heap_alloc w14 _).1
          have YS := Lib.hid (And.intro Y15 (And.intro S15 (And.intro x15 hnw)))
          clear Y14 S14 x14 Y15 S15 x15 hnw bl
          obtain ⟨is0, zs0, hsi, is1, is2, is3, is4⟩ := Dsk.infoStr
          simp only [ton] at bx15
          have one : ∀ u ∈ [Value.string ⟨#[111, 110]⟩], u.oneCell' = true := Dsk.strs_one [⟨#[111, 110]⟩]
          simp only [ton] at ow15
          go_wp2_with (at_builtin; refine wpList_append_lies _ rfl _ _ 22 rfl 0 9 is0 zs0 1 16 Try.underlying22 hsi is1 is2 is3 is4 (by decide) (.slice na vs.length nc) vs.length (Dsk.strs vs) rfl ow15 ⟨w14.heap.size, 0, none⟩ 1 1 [.string ⟨#[111, 110]⟩] rfl rfl (World.news_of_block bx15) one (by decide) hf2 hf1 (Nat.zero_le _) _ rfl ?_)
          intro g cap2 w16 hown hg hat hlt16
          have eq1 : [Value.string ⟨#[111, 110]⟩] = Dsk.strs [ton] := rfl
          rw [eq1, EX.out] at hown
          have Y16 := YS.out.1.row YS.out.2.1 HNZ.out hown hg (hat.imp id fun e => by rw [e, World.size_alloc])
          have x16 := YS.out.2.2.1.but (Kit.But.of_grown (S := fun i => (Value.slice na vs.length nc).ownBlock = some i) hg fun _ hk _ => hk) (fun i hi => YS.out.2.2.2 i hi)
          have A16 := Kit.Rd.of_own hown
          clear YS hown hg hat hlt16 ow15 bx15 hf1 hf2 eq1 EX one
          go_wp2_with fail
          refine (HTY _ _ _ Y16.z).mono ?_
          rintro e w17 ⟨v3, rfl, r3, b⟩
          have Y17 := Y16.below b
          have x17 := x16.below b
          have A17 := A16.below b
          obtain ⟨ea, ec, rfl, -, -⟩ := row_form r3
          clear Y16 x16 A16 b r3
          go_wp2_with fail
          refine (HTW _ _ _ x17).mono ?_
          rintro e w18 ⟨v4, rfl, r4, b⟩
          have Y18 := Y17.below b
          have A18 := A17.below b
          have q4 := Kit.Rd.of_own r4
          clear Y17 x17 A17 b r4
          go_wp2_with fail
          refine (HTV2 _ _ _ q4 A18).mono ?_
          rintro e w19 ⟨rfl, b⟩
          have fin := (Y18.below b).y.low
          clear Y18 A18 b q4
          go_wp2
          go_ret
          exact ⟨rfl, fin⟩
        · have h8e : vs.length = 8 := by have := HV8.out; omega
          have HAp := append_full Y11.y.duo.l (by rw [LY_len]; exact h8e) ton
          have HSy := fun w p K M (h : LHas w p K (LY nx vs) q) (hd : Mem w q M D') => sync_any h hd (by rw [hpe]; decide)
          rw [hfl] at HSy
          have gz : decide ((vs.length : Int) < 8) = false := by rw [decide_eq_false_iff_not]; omega
          have gzn : decide (vs.length < 8) = false := decide_eq_false h8
          have YS := Lib.hid (And.intro Y11 S11)
          simp only [ton] at HAp
          clear Y11 S11 hon hop2 hth hfl hsz hpe nx1 nx0 HQ h8e
          go_wp2_with fail
          refine HAp.mono ?_
          rintro e w12 ⟨rfl, b⟩
          have Y12 := YS.out.1.below b
          have S12 := YS.out.2.below b
          clear b HAp YS
          go_wp2_with fail
          refine (HSy _ _ _ _ Y12.y.duo.l Y12.y.duo.d).mono ?_
          rintro e w13 ⟨rfl, h13, b⟩
          have Y13 := Y12.disk b h13
          have S13 := S12.step (Step.rightOr ⟨b, fun _ h => .inl h⟩)
          clear b h13 Y12 S12 HSy
          go_wp2_with fail
          refine (HO _ Y13.y.duo.d).mono ?_
          rintro e w14 ⟨pw, Kw, rfl, x14, -, -, b⟩
          have Y14 := Y13.below b
          have A14 := (Kit.Rd.of_own S13.row).below b
          clear b Y13 S13 HO
          go_wp2_with fail
          refine (HTY _ _ _ Y14.z).mono ?_
          rintro e w17 ⟨v3, rfl, r3, b⟩
          have Y17 := Y14.below b
          have x17 := x14.below b
          have A17 := A14.below b
          obtain ⟨ea, ec, rfl, -, -⟩ := row_form r3
          clear Y14 x14 A14 b r3
          go_wp2_with fail
          refine (HTY _ _ _ x17).mono ?_
          rintro e w18 ⟨v4, rfl, r4, b⟩
          have Y18 := Y17.below b
          have A18 := A17.below b
          have q4 := Kit.Rd.of_own r4
          clear Y17 x17 A17 b r4
          go_wp2_with fail
          refine (HTV _ _ _ q4 A18).mono ?_
          rintro e w19 ⟨rfl, b⟩
          have fin := (Y18.below b).y.low
          clear Y18 A18 b q4
          go_wp2
          go_ret
          exact ⟨rfl, fin⟩
    · obtain rfl : i = m.length := by omega
      have g1 : ¬ (m.length : Int) < (m.length : Int) := by omega
      have etk : ts.take ts.length = ts := List.take_length
      have hxl : txs (LC ts us ts.length).held = ts ++ us := by rw [txs_LC, etk]
      have hln := LC_len (us := us) hC.hk
      have hal : (ts ++ us).length = ts.length + us.length := List.length_append
      have HT := fun w (h : LHas w p K (LC ts us ts.length) q) => texts_any h
      rw [hln, hxl] at HT
      have HTX := fun v1 v2 w h1 h2 => texts_is (ts ++ us) (ts ++ us) (by omega) v1 v2 w h1 h2
      rw [decide_eq_true rfl] at HTX
      have hP : D.pend.length < 2000 := by rw [hC.pend]; omega
      have hf : ∀ j, Dk.keepOf kp 48 j ≤ 48 := fun j => Dk.keepOf_le kp 48 j
      have hkr : RdK M wr (.slice ka (ints kp).length kc) (ints kp) := (RdK.of_rd HK.out (fun i hi => O.from_ i (.inr hi))).below O.low
      have HCr := fun w (h : Mem w q M D) (hr : RdK M w (.slice ka (ints kp).length kc) (ints kp)) => crash_any h hP hr
      rw [crash_is D kp hC.size] at HCr
      obtain ⟨n, hn1, hn2, hop⟩ := hC.kept hf
      obtain ⟨nx1, -⟩ := hC.next hf
      have nx0 : 1 ≤ nextMark (D.settle (Dk.keepOf kp 48)) 0 8 := by unfold nextMark; omega
      have hvl : ((ts ++ us).take n).length = n := by rw [List.length_take]; omega
      have hbe : begins ((ts ++ us).take n) (ts ++ us) = true := by
        unfold begins
        rw [hvl]
        exact decide_eq_true ⟨by omega, rfl⟩
      have hon := fun h8 => hC.on hf (vs := (ts ++ us).take n) hop (by rw [hvl]; exact hn1) h8
      have hth := hC.there (f := Dk.keepOf kp 48)
      have hfl : (D.settle (Dk.keepOf kp 48)).flush = D.settle (Dk.keepOf kp 48) := rfl
      have hsz : (D.settle (Dk.keepOf kp 48)).size = 48 := hC.size
      have hpe : (D.settle (Dk.keepOf kp 48)).pend.length = 0 := rfl
      generalize hvs : (ts ++ us).take n = vs at *
      generalize D.settle (Dk.keepOf kp 48) = D' at *
      generalize nextMark D' 0 8 = nx at *
      have HO := fun w (h : Mem w q M D') => open_good h (by rw [hpe]; decide) 0 8 0 0 (by decide) (by decide) (by rw [hth]; decide) (by decide) (by decide)
      have hop2 : opened D' 0 8 0 0 = LY nx vs := hop
      rw [hop2] at HO
      have HQ := Lib.hid (And.intro hop2 (And.intro hon (And.intro hth (And.intro hfl (And.intro hsz (And.intro hpe (And.intro nx1 nx0)))))))
      have HBE := fun u a cap w h1 h2 h3 h4 => begins_is vs (ts ++ us) (by omega) u a cap w h1 h2 h3 h4
      rw [hbe, hal] at HBE
      have HTY := fun w p K (h : LHas w p K (LY nx vs) q) => texts_any h
      have hly : (LY nx vs).held.length = vs.length := LY_len
      have hlx : txs (LY nx vs).held = vs := txs_recs 0 vs
      rw [hly, hlx] at HTY
      have HTV := fun v1 v2 w h1 h2 => texts_is vs vs (by omega) v1 v2 w h1 h2
      rw [decide_eq_true rfl] at HTV
      have gl : decide ((vs.length : Int) < (ts.length : Int)) = false := by rw [decide_eq_false_iff_not]; omega
      have gln : decide (vs.length < ts.length) = false := by rw [decide_eq_false_iff_not]; omega
      have hv8 : vs.length ≤ 8 := by have := hC.ht; omega
      have OS := Lib.hid (And.intro O (And.intro SA (And.intro hkr (And.intro hbc hbm))))
      have HV8 := Lib.hid hv8
      clear O SA SH hSZ hC hu etk hxl hln hP hf hkr hop hop2 nx1 nx0 hvl hbe hon hth hfl hsz hpe hly hlx hv8 hn1 hn2 hvs hal
      clear HM HZM HSW HRB
      go_wp2_with fail
      refine (HT _ OS.out.1.duo.l).mono ?_
      rintro e w3 ⟨v1, rfl, r1, b⟩
      have O3 := OS.out.1.below b
      have S3 := OS.out.2.1.below b
      have k3 := OS.out.2.2.1.below b
      have q1 := Kit.Rd.of_own r1
      have HB := Lib.hid OS.out.2.2.2
      clear b HT OS r1
      go_wp2_with fail
      refine (HTX _ _ _ q1 (Kit.Rd.of_own S3.row)).mono ?_
      rintro e w4 ⟨rfl, b⟩
      have O4 := O3.below b
      have S4 := S3.below b
      have k4 := k3.below b
      clear b HTX O3 S3 k3 q1
      go_wp2_with fail
      refine (HCr _ O4.duo.d k4).mono ?_
      rintro e w5 ⟨rfl, h5, b⟩
      have O5 := O4.disk b h5
      have A5 := Kit.Rd.of_own (S4.step (Step.rightOr ⟨b, fun _ h => .inl h⟩)).row
      clear HCr O4 k4 h5 S4 b
      go_wp2_with fail
      refine (HO _ O5.duo.d).mono ?_
      rintro e w6 ⟨py, Ky, rfl, y6, d6, hK, b⟩
      have Oy := Lone.of O5.duo.d (fun i hi => O5.from_ i (.inr hi)) O5.low O5.size b y6 d6 hK
      have A6 := A5.below b
      clear O5 y6 d6 hK b A5
      go_wp2_with fail
      refine (HO _ Oy.duo.d).mono ?_
      rintro e w7 ⟨pz, Kz, rfl, z7, -, hK, b⟩
      have Y7 : YZ w.heap.size w w7 py Ky (LY nx vs) q M D' pz Kz (LY nx vs) := ⟨Oy.below b, z7, fun i hi hz => by have h1 := Oy.duo.ltOr i hi; have h2 := hK i hz; omega⟩
      have A7 := A6.below b
      clear Oy z7 hK b A6
      go_wp2_with fail
      refine (HTY _ _ _ Y7.y.duo.l).mono ?_
      rintro e w8 ⟨vn, rfl, r8, b⟩
      have S8 : Beside w.heap.size (Or Ky M) w8 9 1 vn vs.length (Dsk.strs vs) := Beside.base r8 Y7.y.duo.ltOr Y7.y.size
      have hnz : ∀ j, vn.ownBlock = some j → ¬ Kz j := fun j hj hz => by have h1 := (r8.lt j hj).1; have h2 := Y7.z.lt j hz; omega
      have Y8 := Y7.below b
      have A8 := A7.below b
      obtain ⟨na, nc, rfl, -, -⟩ := row_form S8.row
      have HNZ := Lib.hid hnz
      clear Y7 b A7 r8 hnz
      go_wp2_with fail
      refine (HBE _ _ _ _ (Kit.Rd.of_own S8.row) A8 HB.out.1 HB.out.2).mono ?_
      rintro e w9 ⟨rfl, b⟩
      have Y9 := Y8.below b
      have S9 := S8.below b
      clear Y8 S8 A8 b HBE HB
      go_wp2_with fail
      refine (HTY _ _ _ Y9.z).mono ?_
      rintro e w10 ⟨v2, rfl, r2, b⟩
      have Y10 := Y9.below b
      have S10 := S9.below b
      have q2 := Kit.Rd.of_own r2
      clear Y9 S9 b r2
      go_wp2_with fail
      refine (HTV _ _ _ (Kit.Rd.of_own S10.row) q2).mono ?_
      rintro e w11 ⟨rfl, b⟩
      have Y11 := Y10.below b
      have S11 := S10.below b
      clear Y10 S10 b q2
      obtain ⟨hop2, hon, hth, hfl, hsz, hpe, nx1, nx0⟩ := HQ.out
      by_cases h8 : vs.length < 8
      · have hon := hon h8
        have hcan := LY_can (vs := vs) nx1 h8
        have hla : (LY nx vs).last = vs.length := by show 0 + (LY nx vs).held.length = _; rw [LY_len]; omega
        have hmo : (LY nx vs).more ton = ⟨0, 8, 0, 0, nx + 1, recs 0 vs ++ [⟨nx, ton⟩]⟩ := rfl
        have HAp := append_yes Y11.y.duo.l Y11.y.duo.d Y11.y.duo.dj (t := ton) (by rw [hpe]; decide) (by rw [hsz]; exact hcan) (by rw [hth, hla]; show 0 + _ % 8 < 8; omega) (by show nx ≠ 0; omega) (by rw [hla]; omega) (by decide)
        have hp2 := wrote_pend D' (LY nx vs) ton
        have hth2 : (wrote D' (LY nx vs) ton).flush.safe.length = 8 := (after_length _ _ _ _).trans hth
        generalize (LY nx vs).more ton = LM at *
        clear hmo
        generalize wrote D' (LY nx vs) ton = D2 at *
        have HSy := fun w p K M (h : LHas w p K LM q) (hd : Mem w q M D2) => sync_any h hd (by rw [hp2, hpe]; decide)
        have HO2 := fun w M (h : Mem w q M D2.flush) => open_good h (by show 0 < 2000; decide) 0 8 0 0 (by decide) (by decide) (by rw [hth2]; decide) (by decide) (by decide)
        generalize opened D2.flush 0 8 0 0 = LW at *
        have HTW := fun w p K (h : LHas w p K LW q) => texts_any h
        have hlw : LW.held.length = vs.length + 1 := by rw [hon, List.length_append, recs_len]; rfl
        have hxw : txs LW.held = vs ++ [ton] := by rw [hon, txs_append, txs_recs]; rfl
        rw [hlw, hxw] at HTW
        have HTV2 := fun v1 v2 w h1 h2 => texts_is (vs ++ [ton]) (vs ++ [ton]) (by rw [List.length_append]; have := HV8.out; show vs.length + 1 ≤ _; omega) v1 v2 w h1 h2
        rw [decide_eq_true rfl] at HTV2
        have gz : decide ((vs.length : Int) < 8) = true := by rw [decide_eq_true_iff]; omega
        have gzn : decide (vs.length < 8) = true := decide_eq_true h8
        have ex : Dsk.strs vs ++ Dsk.strs [ton] = Dsk.strs (vs ++ [ton]) := by simp [Dsk.strs]
        have hf1 : (vs.length + 1) * 16 ≤ 140737488355328 := by omega
        have hf2 : vs.length + 1 ≤ maxLen := by unfold maxLen; omega
        have EX := Lib.hid ex
        have YS := Lib.hid (And.intro Y11 S11)
        simp only [ton] at HAp
        clear Y11 S11 hon hcan hla hp2 hth2 hop2 hth hfl hsz hpe nx1 nx0 hlw hxw ex HQ HTV
        go_wp2_with fail
        refine HAp.mono ?_
        rintro e w12 ⟨rfl, K12, M12, h12, st⟩
        have Y12 := YS.out.1.turn st h12
        have S12 := YS.out.2.step st
        clear st h12 HAp YS
        go_wp2_with fail
        refine (HSy _ _ _ _ Y12.y.duo.l Y12.y.duo.d).mono ?_
        rintro e w13 ⟨rfl, h13, b⟩
        have Y13 := Y12.disk b h13
        have S13 := S12.step (Step.rightOr ⟨b, fun _ h => .inl h⟩)
        clear b h13 Y12 S12 HSy
        go_wp2_with fail
        refine (HO2 _ _ Y13.y.duo.d).mono ?_
        rintro e w14 ⟨pw, Kw, rfl, x14, -, hKw, b⟩
        have Y14 := Y13.below b
        have S14 := S13.below b
        have hnw : ∀ j, (Value.slice na vs.length nc).ownBlock = some j → ¬ Kw j := fun j hj hw => by have h1 := row_lt S13.row hj; have h2 := hKw j hw; omega
        clear b Y13 S13 HO2 hKw
        have bl := below_lit w14 (.cells #[.string ton] 9)
        have Y15 := Y14.below bl
        have S15 := S14.below bl
        have x15 := x14.below bl
        have ow15 := S15.row
        have bx15 : (w14.alloc (.cells #[.string ton] 9)).heap[w14.heap.size]? = some (.cells #[.string ton] 9 (0, 0)) := (MapKept.heap_alloc w14 _).1
        have YS := Lib.hid (And.intro Y15 (And.intro S15 (And.intro x15 hnw)))
        clear Y14 S14 x14 Y15 S15 x15 hnw bl
        obtain ⟨is0, zs0, hsi, is1, is2, is3, is4⟩ := Dsk.infoStr
        simp only [ton] at bx15
        have one : ∀ u ∈ [Value.string ⟨#[111, 110]⟩], u.oneCell' = true := Dsk.strs_one [⟨#[111, 110]⟩]
        simp only [ton] at ow15
        go_wp2_with (at_builtin; refine wpList_append_lies _ rfl _ _ 22 rfl 0 9 is0 zs0 1 16 Try.underlying22 hsi is1 is2 is3 is4 (by decide) (.slice na vs.length nc) vs.length (Dsk.strs vs) rfl ow15 ⟨w14.heap.size, 0, none⟩ 1 1 [.string ⟨#[111, 110]⟩] rfl rfl (World.news_of_block bx15) one (by decide) hf2 hf1 (Nat.zero_le _) _ rfl ?_)
        intro g cap2 w16 hown hg hat hlt16
        have eq1 : [Value.string ⟨#[111, 110]⟩] = Dsk.strs [ton] := rfl
        rw [eq1, EX.out] at hown
        have Y16 := YS.out.1.row YS.out.2.1 HNZ.out hown hg (hat.imp id fun e => by rw [e, World.size_alloc])
        have x16 := YS.out.2.2.1.but (Kit.But.of_grown (S := fun i => (Value.slice na vs.length nc).ownBlock = some i) hg fun _ hk _ => hk) (fun i hi => YS.out.2.2.2 i hi)
        have A16 := Kit.Rd.of_own hown
        clear YS hown hg hat hlt16 ow15 bx15 hf1 hf2 eq1 EX one
        go_wp2_with fail
        refine (HTY _ _ _ Y16.z).mono ?_
        rintro e w17 ⟨v3, rfl, r3, b⟩
        have Y17 := Y16.below b
        have x17 := x16.below b
        have A17 := A16.below b
        obtain ⟨ea, ec, rfl, -, -⟩ := row_form r3
        clear Y16 x16 A16 b r3
        go_wp2_with fail
        refine (HTW _ _ _ x17).mono ?_
        rintro e w18 ⟨v4, rfl, r4, b⟩
        have Y18 := Y17.below b
        have A18 := A17.below b
        have q4 := Kit.Rd.of_own r4
        clear Y17 x17 A17 b r4
        go_wp2_with fail
        refine (HTV2 _ _ _ q4 A18).mono ?_
        rintro e w19 ⟨rfl, b⟩
        have fin := (Y18.below b).y.low
        clear Y18 A18 b q4
        go_wp2
        go_ret
        exact ⟨rfl, fin⟩
      · have h8e : vs.length = 8 := by have := HV8.out; omega
        have HAp := append_full Y11.y.duo.l (by rw [LY_len]; exact h8e) ton
        have HSy := fun w p K M (h : LHas w p K (LY nx vs) q) (hd : Mem w q M D') => sync_any h hd (by rw [hpe]; decide)
        rw [hfl] at HSy
        have gz : decide ((vs.length : Int) < 8) = false := by rw [decide_eq_false_iff_not]; omega
        have gzn : decide (vs.length < 8) = false := decide_eq_false h8
        have YS := Lib.hid (And.intro Y11 S11)
        simp only [ton] at HAp
        clear Y11 S11 hon hop2 hth hfl hsz hpe nx1 nx0 HQ h8e
        go_wp2_with fail
        refine HAp.mono ?_
        rintro e w12 ⟨rfl, b⟩
        have Y12 := YS.out.1.below b
        have S12 := YS.out.2.below b
        clear b HAp YS
        go_wp2_with fail
        refine (HSy _ _ _ _ Y12.y.duo.l Y12.y.duo.d).mono ?_
        rintro e w13 ⟨rfl, h13, b⟩
        have Y13 := Y12.disk b h13
        have S13 := S12.step (Step.rightOr ⟨b, fun _ h => .inl h⟩)
        clear b h13 Y12 S12 HSy
        go_wp2_with fail
        refine (HO _ Y13.y.duo.d).mono ?_
        rintro e w14 ⟨pw, Kw, rfl, x14, -, -, b⟩
        have Y14 := Y13.below b
        have A14 := (Kit.Rd.of_own S13.row).below b
        clear b Y13 S13 HO
        go_wp2_with fail
        refine (HTY _ _ _ Y14.z).mono ?_
        rintro e w17 ⟨v3, rfl, r3, b⟩
        have Y17 := Y14.below b
        have x17 := x14.below b
        have A17 := A14.below b
        obtain ⟨ea, ec, rfl, -, -⟩ := row_form r3
        clear Y14 x14 A14 b r3
        go_wp2_with fail
        refine (HTY _ _ _ x17).mono ?_
        rintro e w18 ⟨v4, rfl, r4, b⟩
        have Y18 := Y17.below b
        have A18 := A17.below b
        have q4 := Kit.Rd.of_own r4
        clear Y17 x17 A17 b r4
        go_wp2_with fail
        refine (HTV _ _ _ q4 A18).mono ?_
        rintro e w19 ⟨rfl, b⟩
        have fin := (Y18.below b).y.low
        clear Y18 A18 b q4
        go_wp2
        go_ret
        exact ⟨rfl, fin⟩
end Go.Proofs.Ytgjejofdmfpdjaa.Keeps10
