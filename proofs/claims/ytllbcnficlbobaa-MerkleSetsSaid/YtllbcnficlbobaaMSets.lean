/-
  MerkleSets: the tree with another leaf is the tree of the leaves with that one; it fits; each leaf climbs to its root by its path: the walk.
-/
import Derived.Test.YtllbcnficlbobaaMerS
namespace Go.Proofs.Ytllbcnficlbobaa.Sets6
open Go.RowKit Go.ChangeShapes Go.WideShapes Go.ChangeAt
open Ideal Ida Mer Mera

set_option maxRecDepth 100000 in
set_option maxHeartbeats 16000000 in
theorem sets_any (l : List Nat) (hl : l.length * 8 ≤ 140737488355328) (hx : ∀ x ∈ l, x < 18446744073709551616) (dd : Int) (hd1 : -9223372036854775808 ≤ dd) (hd2 : dd ≤ 9223372036854775807) (ls : List ByteArray) (hls : ∀ t ∈ ls, t.size ≤ 140737488351232) (ii : Int) (hi1 : -9223372036854775808 ≤ ii) (hi2 : ii ≤ 9223372036854775807) (s : ByteArray) (hs : s.size ≤ 140737488351232) (dv lv : Value) (w : World) (rl : Kit.Sl w dv (nums l)) (ol : Kit.Off (fun _ => False) w lv (strs ls)) (fl : lv = .slice none 0 0 ∨ ∃ (a : Addr) (n cap : Nat), lv = .slice (some a) n cap) :
    Calls Try.prog 7 #[.agg #[dv, .int .i64 dd, lv], .int .i64 ii, .string s] w fun e W' => e = .returned (.bool true) ∧ Below w.heap.size w W' := by
  obtain ⟨la, lc, rfl, -, hlm⟩ := ol.form
  obtain ⟨i0, hi0, hz0, hz1, hz2⟩ := info_parts infoStr
  rw [strs_len] at ol fl ⊢
  have X := Box.new w #[dv, .int .i64 dd, .slice la ls.length lc] 25
  have c := below_lit w (.cells #[dv, .int .i64 dd, .slice la ls.length lc] 25)
  have HN := new_any l hl hx dv _ (rl.below c)
  have HF := fixed_any
  clear rl hlm hx hl
  go_enter Try.func7, Try.ntmps7
  have Xc0 := X.cell (j := 0) rfl
  have Xc1 := X.cell (j := 1) rfl
  have Xc2 := X.cell (j := 2) rfl
  go_wp2_with fail
  refine HN.mono ?_
  rintro x w1 ⟨M, rfl, h, hin, b⟩
  clear HN
  clear Xc0 Xc1 Xc2
  have Xo : ¬ M.own w.heap.size := fun ho => by have := (hin.own _ ho).1; simp at this; omega
  have hw : ∀ i, M.own i → w.heap.size ≤ i := fun i hi => by have := (hin.own i hi).1; simp at this; omega
  have LV := arg_off ol hw c
  clear hin ol
  replace X := X.below b
  replace LV := LV.below b
  replace c := c.trans (b.mono c.size)
  clear b
  have hrows : (Or.new l).rows = [] := rfl
  generalize Or.new l = Om at *
  by_cases hok : Or.may dd ls
  · obtain ⟨d, rfl⟩ : ∃ d : Nat, dd = (d : Int) := ⟨dd.toNat, by have := hok.1; omega⟩
    have hd8 : d ≤ 8 := by have := hok.2.1; omega
    have hlsd : ls.length ≤ 2 ^ d := by have := hok.2.2; simpa using this
    have HB := build_yes h (by rw [hrows]; decide) d hd8 ls (fun t ht => leaf_fits (hls t ht)) hlsd _ LV
    have h0 := h
    have hfO := h.2
    have hfw := Or.lv_few (O := Om) ls hd8 (Nat.le_refl d)
    have hfw2 : (Om.built ls d).rows.length ≤ 512 := Nat.le_trans (show (Om.built ls d).rows.length ≤ Om.rows.length + 512 from hfw) (by rw [hrows]; decide)
    have hbx := built_fine hfO ls hd8 (by rw [hrows]; decide)
    clear hok h hfw
    have Xc0 := X.cell (j := 0) rfl
    have Xc1 := X.cell (j := 1) rfl
    have Xc2 := X.cell (j := 2) rfl
    go_wp2_with fail
    refine HB.mono ?_
    clear HB
    rintro x w2 ⟨vt, rfl, T, h, b⟩
    clear Xc0 Xc1 Xc2
    replace T := tree_off h0 T
    clear h0
    replace X := X.but b Xo
    replace LV := LV.but b
    replace c := c.trans (b.below c.size hw)
    clear b
    obtain ⟨ta0, tc, rfl, -, -⟩ := T.form
    rw [Or.tree_length] at T ⊢
    obtain ⟨ad0, la0, lc0, rfl, hc0, -, -⟩ := T.at_ (k := 0) (by simp)
    rw [add_zero', tree0] at hc0
    have had : ¬ M.own ad0.block := T.off_block (by simp)
    have hlt0 := World.block_lt_of_cell? _ _ hc0
    have hd0 : (0 : Int) < (d : Int) + 1 := by omega
    have hd01 : 0 < d + 1 := by omega
    have Xc0 := X.cell (j := 0) rfl
    have Xc1 := X.cell (j := 1) rfl
    have Xc2 := X.cell (j := 2) rfl
    go_wp2_with fail
    refine (HF _).mono ?_
    rintro x w3 ⟨rfl, b⟩
    clear Xc0 Xc1 Xc2
    replace hc0 := (b.cell hlt0).trans hc0
    replace hlt0 := Nat.lt_of_lt_of_le hlt0 b.size
    replace X := X.below b
    replace LV := LV.below b
    replace T := T.below b
    replace h := h.below b
    replace c := c.trans (b.mono c.size)
    clear b
    by_cases hin : 0 ≤ ii ∧ ii < ((2 ^ d : Nat) : Int)
    · obtain ⟨i, rfl⟩ : ∃ i : Nat, ii = (i : Int) := ⟨ii.toNat, by omega⟩
      have hip : i < 2 ^ d := by have := hin.2; omega
      have hi0' : (0 : Int) ≤ (i : Int) := by omega
      have hsh := Or.tree_shaped (O := Om) ls hd8
      have HS := set_yes h (by omega) (Om.tree ls d) hsh hbx i (by rw [tree0]; exact hip) s (leaf_fits hs) _ T
      rw [Or.tree_length] at HS
      rw [show d + 1 - 1 = d by omega] at HS
      have hall := fun ls' hls => sets_all (O := Om) ls hd8 s i hip ls' hls _ rfl _ rfl
      have hfew := setO_few (P := Om.built ls d) (Om.tree ls d) i s d
      obtain ⟨F, hF⟩ : ∃ F, F = setO (Om.built ls d) (Om.tree ls d) i s d := ⟨_, rfl⟩
      obtain ⟨U, hU⟩ : ∃ U, U = setL (Om.built ls d) (Om.tree ls d) i s := ⟨_, rfl⟩
      rw [← hF, ← hU] at HS hall
      rw [← hF] at hfew
      have hF600 : F.rows.length ≤ 600 := by omega
      have h0 := h
      clear hF hU hfew hfw2 hbx h hsh
      have Xc0 := X.cell (j := 0) rfl
      have Xc1 := X.cell (j := 1) rfl
      have Xc2 := X.cell (j := 2) rfl
      go_wp2_with fail
      refine HS.mono ?_
      clear HS
      rintro x w4 ⟨vu, rfl, TU, h, b⟩
      clear Xc0 Xc1 Xc2
      replace TU := tree_off h0 TU
      clear h0
      replace hc0 := (b.cell hlt0 had).trans hc0
      replace X := X.but b Xo
      replace LV := LV.but b
      replace T := T.but b
      replace c := c.trans (b.below c.size hw)
      clear b
      clear had hlt0 T
      obtain ⟨hrow0, d0⟩ := made_str (Below.refl w4.heap.size w4)
      have SL : Kit.Sl (w4.alloc (.cells #[] 9)) (.slice la ls.length lc) (strs ls) := (Mero.off_sl LV fl).below d0
      have hm : maxLen = 9223372036854775807 := rfl
      have hd256 := Or.pow_le hd8
      have hl1 : 0 + (strs ls).length ≤ maxLen := by rw [strs_len]; omega
      have hl2 : (0 + (strs ls).length) * 16 ≤ 140737488355328 := by rw [strs_len]; omega
      have hz := d0.size
      generalize hnn : 2 ^ d = n at *
      have g1 : (i : Int) < (n : Int) := hin.2
      have Hnn := Lib.hid hnn
      clear hm hin hnn
      have Xd := X.alloc (.cells #[] 9)
      clear fl
      have Xc2 := Xd.cell (j := 2) rfl
      go_wp2_with (at_builtin; refine Kit.wpList_append_sl rfl _ _ 23 rfl w4.heap.size 9 i0 (.string ⟨#[]⟩) 16 Try.underlying23 hi0 hz0 hz1 hz2 rfl _ _ _ rfl hrow0 _ (strs ls) rfl SL (strs_one ls) hl1 hl2 hz ?_)
      intro v1 wa hrow1 g3
      have d1 := d0.grown g3 d0.size (fun j hj => (hrow0.lt j hj).1)
      rw [strs_len] at hrow1
      obtain ⟨va1, vc1, rfl⟩ := Kit.own_form hrow1
      clear SL hrow0 d0 hl1 hl2 hz g3 Xc2 Xd hc0
      have hlow : ∀ i, M.own i → i < w4.heap.size := fun i hi => h.lt hi
      go_wp2
      go_loopw [13] (fun va wr => ∃ k m : Nat, m = ls.length + k ∧ m ≤ n ∧ wr.ownsRow w4.heap.size 9 1 va m (strs (pad ls k)) ∧ Below w4.heap.size w4 wr) (fun va _ => n - lenOf va)
      case atStart => exact ⟨0, ls.length, rfl, hlsd, by rw [pad_zero]; exact hrow1, d1⟩
      case round =>
        clear hrow1 d1
        obtain ⟨k, m, hmk, hmn, hrow, d1⟩ := hrel
        obtain ⟨va, vc, rfl⟩ := Kit.own_form hrow
        have Hmk := Lib.hid hmk
        clear hmk
        by_cases hlt : m < n
        · have hlt2 : (m : Int) < (n : Int) := by omega
          have hm : maxLen = 9223372036854775807 := rfl
          have hl1 : m + 1 ≤ maxLen := by omega
          have hl2 : (m + 1) * 16 ≤ 140737488355328 := by omega
          have hz := d1.size
          clear hm
          go_wp2_with (at_builtin; refine Kit.wpList_append_one rfl _ _ 23 rfl w4.heap.size 9 i0 (.string ⟨#[]⟩) 16 Try.underlying23 hi0 hz0 hz1 hz2 rfl _ _ _ rfl hrow (.string ⟨#[]⟩) 9 rfl rfl hl1 hl2 hz ?_)
          intro v' w3 hrow3 b3 _
          have d3 := d1.trans b3
          rw [pad_succ] at hrow3
          obtain ⟨vb, vd, rfl⟩ := Kit.own_form hrow3
          go_wp2
          go_roundw
          case rel => exact ⟨k + 1, m + 1, by have := Hmk.out; omega, hlt, hrow3, d3⟩
          case measure => simp [lenOf]; omega
        · obtain rfl : m = n := by omega
          have hd0 : decide ((m : Int) < (m : Int)) = false := by rw [decide_eq_false_iff_not]; omega
          have him : i < m := hip
          obtain ⟨g, cap, hg⟩ : ∃ g cap, Value.slice va m vc = .slice (some ⟨g, 0, none⟩) m cap := by
            rcases hrow.2 with ⟨-, h⟩ | ⟨g, cap, cur, h, -⟩
            · omega
            · exact ⟨g, cap, h⟩
          simp only [Value.slice.injEq] at hg
          obtain ⟨rfl, -, rfl⟩ := hg
          have hgb := (hrow.lt g rfl).1
          have hci := hrow.cellAt i (by omega)
          have hil : i < (pad ls k).length := by rw [pad_length, ← Hmk.out]; exact him
          rw [strs_at hil] at hci
          have hfz := hrow.frozenAt i
          have hst := (hrow.stored i (.string s)).1
          rw [strs_set] at hst
          have hlen' : ((pad ls k).set i s).length = m := by rw [List.length_set, pad_length, ← Hmk.out]
          have hfit := pad_fits (k := k) (i := i) hls hs
          have hpd := pad_set ls k i s (by rw [← Hmk.out]; exact him)
          obtain ⟨hs1, hs2, hs3, hs4⟩ := hall ((pad ls k).set i s) (fun j _ => hpd j)
          have d2 := d1.setCell (p := ⟨g, i, none⟩) hgb (.string s)
          clear hall hpd hil hgb hrow d1 hlt hmn
          generalize (pad ls k).set i s = ls2 at *
          have LW : Kit.Off M.own _ _ (strs ls2) := Kit.Off.of_own hst hlow
          clear hst hlow
          replace X := X.below d2
          replace LV := LV.below d2
          replace TU := TU.below d2
          replace h := h.below d2
          replace c := c.trans (d2.mono c.size)
          clear d2
          have Hs1 := Lib.hid hs1
          have Hs2 := Lib.hid hs2
          have Hs3 := Lib.hid hs3
          have Hs4 := Lib.hid hs4
          have Hlen := Lib.hid hlen'
          clear hs1 hs2 hs3 hs4 hlen'
          have HH := o_drawn h
          go_wp2_with fail
          refine HH.mono ?_
          clear HH
          rintro x w5 ⟨rfl, b⟩
          clear hci hfz
          replace X := X.below b
          replace LV := LV.below b
          replace TU := TU.below b
          replace LW := LW.below b
          replace h := h.below b
          replace c := c.trans (b.mono c.size)
          clear b
          have HB := build_yes h (by omega) d hd8 ls2 hfit (by rw [Hnn.out, Hlen.out]; exact Nat.le_refl _) _ LW
          rw [Hs1.out, Hs2.out] at HB
          have hxU := built_fine h.2 ls2 hd8 (by omega)
          rw [Hs2.out] at hxU
          have h0 := h
          clear h
          have Xc0 := X.cell (j := 0) rfl
          have Xc1 := X.cell (j := 1) rfl
          have Xc2 := X.cell (j := 2) rfl
          go_wp2_with fail
          refine HB.mono ?_
          clear HB
          rintro x w6 ⟨v2, rfl, T2, h, b⟩
          clear Xc0 Xc1 Xc2
          replace T2 := tree_off h0 T2
          clear h0
          replace X := X.but b Xo
          replace LV := LV.but b
          replace TU := TU.but b
          replace LW := LW.but b
          replace c := c.trans (b.below c.size hw)
          clear b
          clear LW LV
          have hUl : U.length = d + 1 := by rw [← Hs2.out]; exact Or.tree_length _ _
          have hUs : shaped U = true := by rw [← Hs2.out]; exact Or.tree_shaped ls2 hd8
          have hU0 : i < (U.getD 0 []).length := by rw [← Hs2.out, tree0, Hnn.out]; exact him
          have HH := path_yes U hUs i hU0 _ _ TU
          have hpl : (path U i).length = d := by rw [path_length, hUl]; rfl
          rw [show U.length - 1 = d by omega] at HH
          have Hul := Lib.hid hUl
          have Hpl := Lib.hid hpl
          clear hUl hUs hU0 hpl
          have Xc0 := X.cell (j := 0) rfl
          have Xc1 := X.cell (j := 1) rfl
          have Xc2 := X.cell (j := 2) rfl
          go_wp2_with fail
          refine HH.mono ?_
          clear HH
          rintro x w7 ⟨vp, rfl, P, b⟩
          clear Xc0 Xc1 Xc2
          replace P := Kit.Off.of_own (S := M.own) P (fun i hi => h.lt hi)
          replace X := X.below b
          replace TU := TU.below b
          replace T2 := T2.below b
          replace h := h.below b
          replace c := c.trans (b.mono c.size)
          clear b
          have HC := climb_yes h (by omega) s (leaf_fits hs) i (path U i) (by rw [Hpl.out]; exact hd8) (by rw [Hpl.out, Hnn.out]; exact him) (path_lt i hxU) _ P
          rw [Hs3.out] at HC
          obtain ⟨root, hroot⟩ : ∃ r, r = ((F.lv ls2 d d).2).getD 0 0 := ⟨_, rfl⟩
          rw [← hroot] at HC
          have Hroot := Lib.hid hroot
          clear hroot
          have HH := HC
          clear HC P
          have Xc0 := X.cell (j := 0) rfl
          have Xc1 := X.cell (j := 1) rfl
          have Xc2 := X.cell (j := 2) rfl
          go_wp2_with fail
          refine HH.mono ?_
          clear HH
          clear h
          rintro x w8 ⟨rfl, h, b⟩
          clear Xc0 Xc1 Xc2
          replace X := X.but b Xo
          replace TU := TU.but b
          replace T2 := T2.but b
          replace c := c.trans (b.below c.size hw)
          clear b
          have HI := is_any U U _ _ _ TU T2
          rw [decide_eq_true rfl] at HI
          have HH := HI
          clear HI
          have Xc0 := X.cell (j := 0) rfl
          have Xc1 := X.cell (j := 1) rfl
          have Xc2 := X.cell (j := 2) rfl
          go_wp2_with fail
          refine HH.mono ?_
          clear HH
          rintro x w9 ⟨rfl, b⟩
          clear Xc0 Xc1 Xc2
          replace X := X.below b
          replace TU := TU.below b
          replace T2 := T2.below b
          replace h := h.below b
          replace c := c.trans (b.mono c.size)
          clear b
          have HT := fits_any h (by omega) U hxU _ TU
          rw [Hs4.out] at HT
          clear T2
          have HH := HT
          clear HT
          have Xc0 := X.cell (j := 0) rfl
          have Xc1 := X.cell (j := 1) rfl
          have Xc2 := X.cell (j := 2) rfl
          go_wp2_with fail
          refine HH.mono ?_
          clear HH
          clear h
          rintro x w10 ⟨rfl, h, b⟩
          clear Xc0 Xc1 Xc2
          replace X := X.but b Xo
          replace TU := TU.but b
          replace c := c.trans (b.below c.size hw)
          clear b
          obtain ⟨ua, uc, rfl, -, -⟩ := TU.form
          rw [← Hs2.out, Or.tree_length] at TU
          rw [← Hs2.out, Or.tree_length]
          obtain ⟨ta, ra, rc, e9, rt1, rt2, -, -⟩ := root_at TU
          subst e9
          rw [← Hroot.out] at rt2
          have hd9 : (0 : Int) ≤ (d : Int) := by omega
          have hd10 : (d : Int) < (d : Int) + 1 := by omega
          have HD := o_drawn h
          clear TU hxU
          have HH := HD
          clear HD
          have Xc0 := X.cell (j := 0) rfl
          have Xc1 := X.cell (j := 1) rfl
          have Xc2 := X.cell (j := 2) rfl
          go_wp2_with fail
          refine HH.mono ?_
          clear HH
          rintro x w11 ⟨rfl, b⟩
          clear Xc0 Xc1 Xc2
          replace X := X.below b
          replace h := h.below b
          replace c := c.trans (b.mono c.size)
          clear b
          have Xc0 := X.cell (j := 0) rfl
          have Xc1 := X.cell (j := 1) rfl
          have Xc2 := X.cell (j := 2) rfl
          go_wp2
          go_ret
          exact ⟨rfl, c⟩
    · have HS := set_no (L := M) (Om.tree ls d) ii (by rw [tree0]; exact fun h => hin h.2) s _ _ T
      have hb63 : (2 ^ d : Nat) ≤ 256 := Or.pow_le hd8
      have Xc0 := X.cell (j := 0) rfl
      have Xc1 := X.cell (j := 1) rfl
      have Xc2 := X.cell (j := 2) rfl
      go_wp2_with fail
      refine HS.mono ?_
      clear HS
      rintro x w4 ⟨rfl, b⟩
      clear Xc0 Xc1 Xc2
      replace hc0 := (b.cell hlt0).trans hc0
      replace X := X.below b
      replace LV := LV.below b
      replace T := T.below b
      replace h := h.below b
      replace c := c.trans (b.mono c.size)
      clear b
      generalize 2 ^ d = n at *
      by_cases hneg : 0 ≤ ii
      · have g1 : decide (ii ≥ 0) = true := decide_eq_true hneg
        have g2 : decide (ii < (n : Int)) = false := decide_eq_false (fun h => hin ⟨hneg, h⟩)
        clear hin
        have Xc0 := X.cell (j := 0) rfl
        have Xc1 := X.cell (j := 1) rfl
        have Xc2 := X.cell (j := 2) rfl
        go_wp2
        go_ret
        exact ⟨rfl, c⟩
      · have g1 : decide (ii ≥ 0) = false := decide_eq_false hneg
        clear hin hneg
        have Xc0 := X.cell (j := 0) rfl
        have Xc1 := X.cell (j := 1) rfl
        have Xc2 := X.cell (j := 2) rfl
        go_wp2
        go_ret
        exact ⟨rfl, c⟩
  · have HB := build_no h dd hd1 hd2 ls hok _ LV.rd
    clear hok
    have HH := HB
    clear HB
    have Xc0 := X.cell (j := 0) rfl
    have Xc1 := X.cell (j := 1) rfl
    have Xc2 := X.cell (j := 2) rfl
    go_wp2_with fail
    refine HH.mono ?_
    clear HH
    rintro x w2 ⟨rfl, b⟩
    clear Xc0 Xc1 Xc2
    replace X := X.below b
    replace LV := LV.below b
    replace h := h.below b
    replace c := c.trans (b.mono c.size)
    clear b
    have Xc0 := X.cell (j := 0) rfl
    have Xc1 := X.cell (j := 1) rfl
    have Xc2 := X.cell (j := 2) rfl
    go_wp2_with fail
    refine (HF _).mono ?_
    rintro x w3 ⟨rfl, b⟩
    clear Xc0 Xc1 Xc2
    replace X := X.below b
    replace LV := LV.below b
    replace h := h.below b
    replace c := c.trans (b.mono c.size)
    clear b
    have Xc0 := X.cell (j := 0) rfl
    have Xc1 := X.cell (j := 1) rfl
    have Xc2 := X.cell (j := 2) rfl
    go_wp2_with fail
    refine (HF _).mono ?_
    rintro x w4 ⟨rfl, b⟩
    clear Xc0 Xc1 Xc2
    replace X := X.below b
    replace LV := LV.below b
    replace h := h.below b
    replace c := c.trans (b.mono c.size)
    clear b
    have Xc0 := X.cell (j := 0) rfl
    have Xc1 := X.cell (j := 1) rfl
    have Xc2 := X.cell (j := 2) rfl
    go_wp2
    go_ret
    exact ⟨rfl, c⟩
end Go.Proofs.Ytllbcnficlbobaa.Sets6
