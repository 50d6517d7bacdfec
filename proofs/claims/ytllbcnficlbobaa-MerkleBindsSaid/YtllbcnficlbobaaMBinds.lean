/-
  MerkleBinds: if nothing bad happened, what climbs to the root of a tree, at a place, is the leaf there, with the path there: no other text, and no other path, does: the walk.
-/
import Derived.Test.YtllbcnficlbobaaMerQ
namespace Go.Proofs.Ytllbcnficlbobaa.Binds6
open Go.RowKit Go.ChangeShapes Go.WideShapes Go.ChangeAt
open Ideal Ida Mer Mera

set_option maxRecDepth 100000 in
set_option maxHeartbeats 16000000 in
theorem binds_any (l : List Nat) (hl : l.length * 8 ≤ 140737488355328) (hx : ∀ x ∈ l, x < 18446744073709551616) (dd : Int) (hd1 : -9223372036854775808 ≤ dd) (hd2 : dd ≤ 9223372036854775807) (ls : List ByteArray) (hls : ∀ t ∈ ls, t.size ≤ 140737488351232) (ii : Int) (hi1 : -9223372036854775808 ≤ ii) (hi2 : ii ≤ 9223372036854775807) (s : ByteArray) (hs : s.size ≤ 140737488351232) (p : List Nat) (hpx : ∀ x ∈ p, x < 18446744073709551616) (dv lv pv : Value) (w : World) (rl : Kit.Sl w dv (nums l)) (ol : Kit.Off (fun _ => False) w lv (strs ls)) (op : Kit.Off (fun _ => False) w pv (nums p)) :
    Calls Try.prog 5 #[.agg #[dv, .int .i64 dd, lv], .agg #[.int .i64 ii, .string s, pv]] w fun e W' => e = .returned (.bool true) ∧ Below w.heap.size w W' := by
  obtain ⟨la, lc, rfl, -, hlm⟩ := ol.form
  obtain ⟨pa, pc, rfl, hpc, hpm⟩ := op.form
  rw [show (strs ls).length = ls.length by simp [strs]] at ol ⊢
  rw [nums_len] at op hpc ⊢
  have X := (Box.new w #[dv, .int .i64 dd, .slice la ls.length lc] 25).alloc (.cells #[.int .i64 ii, .string s, .slice pa p.length pc] 39)
  have Y := Box.new (w.alloc (.cells #[dv, .int .i64 dd, .slice la ls.length lc] 25)) #[.int .i64 ii, .string s, .slice pa p.length pc] 39
  have c0 := below_lit w (.cells #[dv, .int .i64 dd, .slice la ls.length lc] 25)
  have c := c0.trans ((below_lit (w.alloc (.cells #[dv, .int .i64 dd, .slice la ls.length lc] 25)) (.cells #[.int .i64 ii, .string s, .slice pa p.length pc] 39)).mono c0.size)
  rw [World.size_alloc] at Y
  have HN := new_any l hl hx dv _ (rl.below c)
  have HF := fixed_any
  have hpl63 : p.length ≤ 9223372036854775807 := by have : maxLen = 9223372036854775807 := rfl; omega
  clear rl c0 hpc hpm hlm hx hl
  go_enter Try.func5, Try.ntmps5
  have Xc0 := X.cell (j := 0) rfl
  have Xc1 := X.cell (j := 1) rfl
  have Xc2 := X.cell (j := 2) rfl
  have Yc0 := Y.cell (j := 0) rfl
  have Yc1 := Y.cell (j := 1) rfl
  have Yc2 := Y.cell (j := 2) rfl
  go_wp2_with fail
  refine HN.mono ?_
  rintro x w1 ⟨M, rfl, h, hin, b⟩
  clear HN
  clear Xc0 Xc1 Xc2 Yc0 Yc1 Yc2
  have Xo : ¬ M.own w.heap.size := fun ho => by have := (hin.own _ ho).1; simp at this; omega
  have Yo : ¬ M.own (w.heap.size + 1) := fun ho => by have := (hin.own _ ho).1; simp at this; omega
  have hw : ∀ i, M.own i → w.heap.size ≤ i := fun i hi => by have := (hin.own i hi).1; simp at this; omega
  have LV := arg_off ol hw c
  have PV := arg_off op hw c
  clear hin ol op
  replace X := X.below b
  replace Y := Y.below b
  replace LV := LV.below b
  replace PV := PV.below b
  replace c := c.trans (b.mono c.size)
  clear b
  have hO0 : (Or.new l).rows = [] := rfl
  have hinv0 := Or.inv_new l
  generalize Or.new l = Oz at *
  generalize hq : p.take 9 = q at *
  have hql : q.length = min 9 p.length := by rw [← hq, List.length_take]
  have hqp : ∀ k (hk : k < q.length), q[k] = p.getD k 0 := fun k hk => by
    subst hq
    have hk2 : k < p.length := by rw [List.length_take] at hk; omega
    rw [getD_at hk2, List.getElem_take]
  have Hql := Lib.hid hql
  have Hqp := Lib.hid hqp
  clear hql hqp hq
  have Xc0 := X.cell (j := 0) rfl
  have Xc1 := X.cell (j := 1) rfl
  have Xc2 := X.cell (j := 2) rfl
  have Yc0 := Y.cell (j := 0) rfl
  have Yc1 := Y.cell (j := 1) rfl
  have Yc2 := Y.cell (j := 2) rfl
  go_wp2
  clear Xc0 Xc1 Xc2 Yc0 Yc1 Yc2
  go_loopw [6] (fun vi wr => ∃ k : Nat, k ≤ q.length ∧ vi = .int .i64 (k : Int) ∧ Box w.heap.size wr #[dv, .int .i64 dd, .slice la ls.length lc] 25 ∧ Box (w.heap.size + 1) wr #[.int .i64 ii, .string s, .slice pa p.length pc] 39 ∧ Kit.Off M.own wr (.slice la ls.length lc) (strs ls) ∧ Kit.Off M.own wr (.slice pa p.length pc) (nums p) ∧ Orc wr M (Oz.meets (q.take k)) ∧ Below w.heap.size w wr) (fun vi _ => q.length - (intOf vi).toNat)
  case atStart => exact ⟨0, Nat.zero_le _, rfl, X, Y, LV, PV, h, c⟩
  case round =>
    clear X Y LV PV h c
    obtain ⟨k, hk, rfl, X, Y, LV, PV, h, c⟩ := hrel
    by_cases hlt : k < q.length
    · have hk9 : k < 9 := by have := Hql.out; omega
      have hkp : k < p.length := by have := Hql.out; omega
      have hlt2 : (k : Int) < (p.length : Int) := by omega
      have hlt3 : (k : Int) < 9 := by omega
      have h0 : (0 : Int) ≤ (k : Int) := by omega
      obtain ⟨ad, rfl, hc⟩ := PV.at_ (nums_at hkp)
      have hxk : p.getD k 0 < 18446744073709551616 := by rw [getD_at hkp]; exact hpx _ (List.getElem_mem _)
      have hms : Oz.meets (q.take (k + 1)) = (Oz.meets (q.take k)).meet (p.getD k 0) := by rw [List.take_succ_eq_append_getElem hlt, Or.meets_snoc, Hqp.out k hlt]
      have HM := o_meet h (p.getD k 0) hxk
      have Hms := Lib.hid hms
      have Hpx := Lib.hid hpx
      rw [getD_at hkp] at hc HM Hms
      generalize p[k] = x at *
      clear hxk hms hpx
      have HH := HM
      have Xc0 := X.cell (j := 0) rfl
      have Xc1 := X.cell (j := 1) rfl
      have Xc2 := X.cell (j := 2) rfl
      have Yc0 := Y.cell (j := 0) rfl
      have Yc1 := Y.cell (j := 1) rfl
      have Yc2 := Y.cell (j := 2) rfl
      go_wp2_with fail
      refine HH.mono ?_
      clear HH
      clear h
      rintro x w2 ⟨rfl, h, b⟩
      clear Xc0 Xc1 Xc2 Yc0 Yc1 Yc2
      replace X := X.but b Xo
      replace Y := Y.but b Yo
      replace LV := LV.but b
      replace PV := PV.but b
      replace c := c.trans (b.below c.size hw)
      clear b
      have hpx := Hpx.out
      have e1 : wrap64 ((k : Int) + 1) = ((k + 1 : Nat) : Int) := wrap_succ (by omega)
      have Xc0 := X.cell (j := 0) rfl
      have Xc1 := X.cell (j := 1) rfl
      have Xc2 := X.cell (j := 2) rfl
      have Yc0 := Y.cell (j := 0) rfl
      have Yc1 := Y.cell (j := 1) rfl
      have Yc2 := Y.cell (j := 2) rfl
      go_wp2
      go_roundw
      case rel => exact ⟨k + 1, hlt, by go_num, X, Y, LV, PV, by rw [Hms.out]; exact h, c⟩
      case measure => simp [intOf]; omega
    · obtain rfl : k = q.length := by omega
      rw [List.take_length] at h
      have hrows := (Or.meets_rows q Oz).trans hO0
      have hinv := Or.meets_inv q Oz hinv0
      generalize Oz.meets q = Om at *
      have hql := Hql.out
      clear hlt hk Hqp hO0 hinv0 Hql
      generalize q.length = k at *
      by_cases hp9 : p.length ≤ 8
      · obtain rfl : k = p.length := by omega
        have hd0 : decide ((p.length : Int) < (p.length : Int)) = false := decide_eq_false (by omega)
        clear hql
        by_cases hok : Or.may dd ls
        · obtain ⟨d, rfl⟩ : ∃ d : Nat, dd = (d : Int) := ⟨dd.toNat, by have := hok.1; omega⟩
          have hd8 : d ≤ 8 := by have := hok.2.1; omega
          have hlsd : ls.length ≤ 2 ^ d := by have := hok.2.2; simpa using this
          have HB := build_yes h (by rw [hrows]; decide) d hd8 ls (fun t ht => leaf_fits (hls t ht)) hlsd _ LV
          have h0 := h
          clear hok h
          have Xc0 := X.cell (j := 0) rfl
          have Xc1 := X.cell (j := 1) rfl
          have Xc2 := X.cell (j := 2) rfl
          have Yc0 := Y.cell (j := 0) rfl
          have Yc1 := Y.cell (j := 1) rfl
          have Yc2 := Y.cell (j := 2) rfl
          go_wp2_with fail
          refine HB.mono ?_
          clear HB
          rintro x w2 ⟨vt, rfl, T, h, b⟩
          clear Xc0 Xc1 Xc2 Yc0 Yc1 Yc2
          replace T := tree_off h0 T
          replace X := X.but b Xo
          replace Y := Y.but b Yo
          replace LV := LV.but b
          replace PV := PV.but b
          replace c := c.trans (b.below c.size hw)
          clear b
          obtain ⟨ta0, tc, rfl, -, -⟩ := T.form
          rw [Or.tree_length] at T ⊢
          by_cases hpd : p.length = d
          · have g1 : ((p.length : Int) != (d : Int)) = false := by rw [bne_eq_false_iff_eq]; omega
            have g2 : (p.length != d) = false := by rw [bne_eq_false_iff_eq]; omega
            rw [hpd] at Y PV g1 g2
            try rw [hpd]
            have Hpd := Lib.hid hpd
            clear hpd
            have Xc0 := X.cell (j := 0) rfl
            have Xc1 := X.cell (j := 1) rfl
            have Xc2 := X.cell (j := 2) rfl
            have Yc0 := Y.cell (j := 0) rfl
            have Yc1 := Y.cell (j := 1) rfl
            have Yc2 := Y.cell (j := 2) rfl
            go_wp2_with fail
            refine (HF _).mono ?_
            rintro x w3 ⟨rfl, b⟩
            clear Xc0 Xc1 Xc2 Yc0 Yc1 Yc2
            replace X := X.below b
            replace Y := Y.below b
            replace LV := LV.below b
            replace PV := PV.below b
            replace T := T.below b
            replace h := h.below b
            replace c := c.trans (b.mono c.size)
            clear b
            by_cases hin : 0 ≤ ii ∧ ii < ((2 ^ d : Nat) : Int)
            · obtain ⟨i, rfl⟩ : ∃ i : Nat, ii = (i : Int) := ⟨ii.toNat, by omega⟩
              have hip : i < 2 ^ d := by have := hin.2; omega
              have hfw := Or.lv_few (O := Om) ls hd8 (Nat.le_refl d)
              have hr0 : Om.rows.length = 0 := by rw [hrows]; rfl
              have hfw2 : (Om.built ls d).rows.length ≤ 512 := Nat.le_trans (show (Om.built ls d).rows.length ≤ Om.rows.length + 512 from hfw) (by omega)
              have HH := path_yes (Om.tree ls d) (Or.tree_shaped ls hd8) i (by rw [tree0]; exact hip) _ _ T
              have Xc0 := X.cell (j := 0) rfl
              have Xc1 := X.cell (j := 1) rfl
              have Xc2 := X.cell (j := 2) rfl
              have Yc0 := Y.cell (j := 0) rfl
              have Yc1 := Y.cell (j := 1) rfl
              have Yc2 := Y.cell (j := 2) rfl
              go_wp2_with fail
              refine HH.mono ?_
              clear HH
              rintro x w4 ⟨vp, rfl, P, b⟩
              clear Xc0 Xc1 Xc2 Yc0 Yc1 Yc2
              replace P := Kit.Off.of_own (S := M.own) P (fun i hi => h.lt hi)
              replace X := X.below b
              replace Y := Y.below b
              replace LV := LV.below b
              replace PV := PV.below b
              replace T := T.below b
              replace h := h.below b
              replace c := c.trans (b.mono c.size)
              clear b
              have hbin := Or.binds_all h0.2 hinv (by rw [hrows]; decide) ls hd8 s i hip p Hpd.out hpx
              have HC := climb_yes h (by omega) s (leaf_fits hs) i p (by rw [Hpd.out]; exact hd8) (by rw [Hpd.out]; exact hip) hpx _ PV
              obtain ⟨pth, hpth⟩ : ∃ q, q = path (Om.tree ls d) i := ⟨_, rfl⟩
              rw [← hpth] at hbin P
              generalize ((((Om.built ls d).ask (qh (leafT s))).climb ((Om.built ls d).val (qh (leafT s))) i p).1) = c1 at *
              generalize ((((Om.built ls d).ask (qh (leafT s))).climb ((Om.built ls d).val (qh (leafT s))) i p).2) = O3 at *
              have HH := HC
              clear HC
              have Xc0 := X.cell (j := 0) rfl
              have Xc1 := X.cell (j := 1) rfl
              have Xc2 := X.cell (j := 2) rfl
              have Yc0 := Y.cell (j := 0) rfl
              have Yc1 := Y.cell (j := 1) rfl
              have Yc2 := Y.cell (j := 2) rfl
              go_wp2_with fail
              refine HH.mono ?_
              clear HH
              clear h
              rintro x w5 ⟨rfl, h, b⟩
              clear Xc0 Xc1 Xc2 Yc0 Yc1 Yc2
              replace X := X.but b Xo
              replace Y := Y.but b Yo
              replace LV := LV.but b
              replace PV := PV.but b
              replace T := T.but b
              replace P := P.but b
              replace c := c.trans (b.below c.size hw)
              clear b
              have HH := o_bad h
              have Xc0 := X.cell (j := 0) rfl
              have Xc1 := X.cell (j := 1) rfl
              have Xc2 := X.cell (j := 2) rfl
              have Yc0 := Y.cell (j := 0) rfl
              have Yc1 := Y.cell (j := 1) rfl
              have Yc2 := Y.cell (j := 2) rfl
              go_wp2_with fail
              refine HH.mono ?_
              clear HH
              rintro x w6 ⟨rfl, b⟩
              clear Xc0 Xc1 Xc2 Yc0 Yc1 Yc2
              replace X := X.below b
              replace Y := Y.below b
              replace LV := LV.below b
              replace PV := PV.below b
              replace T := T.below b
              replace P := P.below b
              replace h := h.below b
              replace c := c.trans (b.mono c.size)
              clear b
              by_cases hb0 : O3.bads = 0
              · have hd0 : decide (0 < O3.bads) = false := decide_eq_false (by omega)
                replace hbin := hbin hb0
                have hroot := root_at T
                obtain ⟨ta, ra, rc, e9, rt1, rt2, rl2, rl1⟩ := hroot
                subst e9
                generalize ((Om.lv ls d d).2).getD 0 0 = root at *
                have hd9 : (0 : Int) ≤ (d : Int) := by omega
                have hd10 : (d : Int) < (d : Int) + 1 := by omega
                by_cases hil : i < ls.length
                · obtain ⟨af, rfl, hcf⟩ := LV.at_ (k := i) (u := .string (ls.getD i .empty)) (by simp [strs, hil])
                  have hi0 : (0 : Int) ≤ (i : Int) := by omega
                  have hi3 : (i : Int) < (ls.length : Int) := by omega
                  generalize ls.getD i .empty = lf at *
                  clear hb0 hin hip hfw hfw2 hd8 hlsd hrows hinv h0 hpth
                  have Xc0 := X.cell (j := 0) rfl
                  have Xc1 := X.cell (j := 1) rfl
                  have Xc2 := X.cell (j := 2) rfl
                  have Yc0 := Y.cell (j := 0) rfl
                  have Yc1 := Y.cell (j := 1) rfl
                  have Yc2 := Y.cell (j := 2) rfl
                  go_wp2
                  clear Xc0 Xc1 Xc2 Yc0 Yc1 Yc2
                  clear hcf hd0
                  have hcl : ∀ w', Below w6.heap.size w6 w' → w'.cell? ⟨w.heap.size, 1, none⟩ = some (.int .i64 (d : Int)) ∧ w'.cell? ⟨w.heap.size + 1, 1, none⟩ = some (.string s) ∧ w'.cell? ⟨w.heap.size + 1, 2, none⟩ = some (.slice pa d pc) ∧ w'.cell? (ta.add d) = some (.slice (some ra) 1 rc) ∧ w'.cell? ra = some (.int .u64 (root : Int)) := fun w' b => ⟨(X.below b).cell rfl, (Y.below b).cell rfl, (Y.below b).cell rfl, (b.cell rl1).trans rt1, (b.cell rl2).trans rt2⟩
                  have HNM := fun w' (b : Below w6.heap.size w6 w') => nums_is p pth hpl63 (.slice pa d pc) vp w' (PV.below b).rd (P.below b).rd
                  have hend := fun w' (b : Below w6.heap.size w6 w') => c.trans (b.mono c.size)
                  have b0 : Below w6.heap.size w6 w6.drew := (Below.refl _ _).drew
                  clear X Y LV PV T P h c
                  by_cases hsl : s = lf
                  · subst hsl
                    by_cases hpp : p = pth
                    · have e1 : c1 = root := hbin.2 ⟨rfl, hpp⟩
                      subst e1
                      rw [decide_eq_true hpp] at HNM
                      clear hbin hpp
                      go_wp2
                      refine wp_region_noPanic ?_
                      refine wp_region_held_drew (S := Below w6.heap.size w6) (by kernel_rfl) ?_ (fun hHeld => ?_)
                      · exact b0
                      refine wpAnyH_take (i := 0) (oi := ⟨some 101, _, _, _, _, _⟩) (v := ?_) rfl (by kernel_rfl) (by kernel_rfl) (by kernel_rfl) (fun _ _ _ h => h) (Or.inl ⟨by rfl, ?_⟩) (by assumption) ?_
                      rotate_left
                      · (intro w' hSw; obtain ⟨k0, k1, k2, k3, k4⟩ := hcl _ hSw; go_simp; try with_reducible rfl)
                      simp only [Act.put, List.setIfInBounds_toArray, List.set_cons_zero, List.set_cons_succ]
                      refine wpAnyH_take (i := 1) (oi := ⟨some 102, _, _, _, _, _⟩) (v := ?_) rfl (by kernel_rfl) (by kernel_rfl) (by kernel_rfl) (fun _ _ _ h => h) (Or.inl ⟨by rfl, ?_⟩) (by assumption) ?_
                      rotate_left
                      · (intro w' hSw; obtain ⟨k0, k1, k2, k3, k4⟩ := hcl _ hSw; go_simp; try with_reducible rfl)
                      simp only [Act.put, List.setIfInBounds_toArray, List.set_cons_zero, List.set_cons_succ]
                      refine wpAnyH_take (i := 2) (oi := ⟨some 103, _, _, _, _, _⟩) (v := ?_) rfl (by kernel_rfl) (by kernel_rfl) (by kernel_rfl) (fun _ _ _ h => h) (Or.inl ⟨by rfl, ?_⟩) (by assumption) ?_
                      rotate_left
                      · (intro w' hSw; obtain ⟨k0, k1, k2, k3, k4⟩ := hcl _ hSw; go_simp; try with_reducible rfl)
                      simp only [Act.put, List.setIfInBounds_toArray, List.set_cons_zero, List.set_cons_succ]
                      refine wpAnyH_take (i := 3) (oi := ⟨some 104, _, _, _, _, _⟩) (v := ?_) rfl (by kernel_rfl) (by kernel_rfl) (by kernel_rfl) (fun _ _ _ h => h) (Or.inl ⟨by rfl, ?_⟩) (by assumption) ?_
                      rotate_left
                      · (intro w' hSw; obtain ⟨k0, k1, k2, k3, k4⟩ := hcl _ hSw; go_simp; try with_reducible rfl)
                      simp only [Act.put, List.setIfInBounds_toArray, List.set_cons_zero, List.set_cons_succ]
                      refine wpAnyH_take (i := 4) (oi := ⟨some 105, _, _, _, _, _⟩) (v := ?_) rfl (by kernel_rfl) (by kernel_rfl) (by kernel_rfl) (fun _ _ _ h => h) (Or.inl ⟨by rfl, ?_⟩) (by assumption) ?_
                      rotate_left
                      · (intro w' hSw; obtain ⟨k0, k1, k2, k3, k4⟩ := hcl _ hSw; go_simp; try with_reducible rfl)
                      simp only [Act.put, List.setIfInBounds_toArray, List.set_cons_zero, List.set_cons_succ]
                      refine wpAnyH_take (i := 5) (oi := ⟨some 106, _, _, _, _, _⟩) (v := ?_) rfl (by kernel_rfl) (by kernel_rfl) (by kernel_rfl) (fun _ _ _ h => h) (Or.inl ⟨by rfl, ?_⟩) (by assumption) ?_
                      rotate_left
                      · (intro w' hSw; obtain ⟨k0, k1, k2, k3, k4⟩ := hcl _ hSw; go_simp; try with_reducible rfl)
                      simp only [Act.put, List.setIfInBounds_toArray, List.set_cons_zero, List.set_cons_succ]
                      refine wpAnyH_take (i := 6) (oi := ⟨some 107, _, _, _, _, _⟩) (v := ?_) rfl (by kernel_rfl) (by kernel_rfl) (by kernel_rfl) (fun _ _ _ h => h) (Or.inl ⟨by rfl, ?_⟩) (by assumption) ?_
                      rotate_left
                      · (intro w' hSw; obtain ⟨k0, k1, k2, k3, k4⟩ := hcl _ hSw; go_simp; try with_reducible rfl)
                      simp only [Act.put, List.setIfInBounds_toArray, List.set_cons_zero, List.set_cons_succ]
                      refine wpAnyH_take (i := 7) (oi := ⟨some 108, _, _, _, _, _⟩) (v := ?_) rfl (by kernel_rfl) (by kernel_rfl) (by kernel_rfl) (fun _ _ _ h => h) (Or.inl ⟨by rfl, ?_⟩) (by assumption) ?_
                      rotate_left
                      · (intro w' hSw; obtain ⟨k0, k1, k2, k3, k4⟩ := hcl _ hSw; go_simp; try with_reducible rfl)
                      simp only [Act.put, List.setIfInBounds_toArray, List.set_cons_zero, List.set_cons_succ]
                      refine wpAnyH_take (i := 8) (oi := ⟨some 109, _, _, _, _, _⟩) (v := ?_) rfl (by kernel_rfl) (by kernel_rfl) (by kernel_rfl) (fun _ _ _ h => h) (Or.inl ⟨by rfl, ?_⟩) (by assumption) ?_
                      rotate_left
                      · (intro w' hSw; obtain ⟨k0, k1, k2, k3, k4⟩ := hcl _ hSw; go_simp; try with_reducible rfl)
                      simp only [Act.put, List.setIfInBounds_toArray, List.set_cons_zero, List.set_cons_succ]
                      refine wpAnyH_take (i := 9) (oi := ⟨some 110, _, _, _, _, _⟩) (v := ?_) rfl (by kernel_rfl) (by kernel_rfl) (by kernel_rfl) (fun _ _ _ h => h) (Or.inl ⟨by rfl, ?_⟩) (by assumption) ?_
                      rotate_left
                      · (intro w' hSw; obtain ⟨k0, k1, k2, k3, k4⟩ := hcl _ hSw; go_simp; try with_reducible rfl)
                      simp only [Act.put, List.setIfInBounds_toArray, List.set_cons_zero, List.set_cons_succ]
                      refine wpAnyH_take (i := 10) (oi := ⟨some 111, _, _, _, _, _⟩) (v := ?_) rfl (by kernel_rfl) (by kernel_rfl) (by kernel_rfl) (fun _ _ _ h => h) (Or.inl ⟨by rfl, ?_⟩) (by assumption) ?_
                      rotate_left
                      · (intro w' hSw; obtain ⟨k0, k1, k2, k3, k4⟩ := hcl _ hSw; go_simp; try with_reducible rfl)
                      simp only [Act.put, List.setIfInBounds_toArray, List.set_cons_zero, List.set_cons_succ]
                      refine wpAnyH_take (i := 11) (oi := ⟨some 112, _, _, _, _, _⟩) (v := ?_) rfl (by kernel_rfl) (by kernel_rfl) (by kernel_rfl) (fun _ _ _ h => h) (Or.inl ⟨by rfl, ?_⟩) (by assumption) ?_
                      rotate_left
                      · (intro w' hSw; obtain ⟨k0, k1, k2, k3, k4⟩ := hcl _ hSw; go_simp; try with_reducible rfl)
                      simp only [Act.put, List.setIfInBounds_toArray, List.set_cons_zero, List.set_cons_succ]
                      refine wpAnyH_take (i := 12) (oi := ⟨some 113, _, _, _, _, _⟩) (v := ?_) rfl (by kernel_rfl) (by kernel_rfl) (by kernel_rfl) (fun _ _ _ h => h) (Or.inl ⟨by rfl, ?_⟩) (by assumption) ?_
                      rotate_left
                      · (intro w' hSw; obtain ⟨k0, k1, k2, k3, k4⟩ := hcl _ hSw; go_simp; try with_reducible rfl)
                      simp only [Act.put, List.setIfInBounds_toArray, List.set_cons_zero, List.set_cons_succ]
                      refine wpAnyH_take (i := 13) (oi := ⟨some 114, _, _, _, _, _⟩) (v := ?_) rfl (by kernel_rfl) (by kernel_rfl) (by kernel_rfl) (fun _ _ _ h => h) (Or.inl ⟨by rfl, ?_⟩) (by assumption) ?_
                      rotate_left
                      · (intro w' hSw; obtain ⟨k0, k1, k2, k3, k4⟩ := hcl _ hSw; go_simp; try with_reducible rfl)
                      simp only [Act.put, List.setIfInBounds_toArray, List.set_cons_zero, List.set_cons_succ]
                      refine wpAnyH_take (i := 14) (oi := ⟨some 115, _, _, _, _, _⟩) (v := ?_) rfl (by kernel_rfl) (by kernel_rfl) (by kernel_rfl) (fun _ _ _ h => h) (Or.inl ⟨by rfl, ?_⟩) (by assumption) ?_
                      rotate_left
                      · (intro w' hSw; obtain ⟨k0, k1, k2, k3, k4⟩ := hcl _ hSw; go_simp; try with_reducible rfl)
                      simp only [Act.put, List.setIfInBounds_toArray, List.set_cons_zero, List.set_cons_succ]
                      refine wpAnyH_take (i := 15) (oi := ⟨some 116, _, _, _, _, _⟩) (v := ?_) rfl (by kernel_rfl) (by kernel_rfl) (by kernel_rfl) (fun _ _ _ h => h) (Or.inl ⟨by rfl, ?_⟩) (by assumption) ?_
                      rotate_left
                      · (intro w' hSw; obtain ⟨k0, k1, k2, k3, k4⟩ := hcl _ hSw; go_simp; try with_reducible rfl)
                      simp only [Act.put, List.setIfInBounds_toArray, List.set_cons_zero, List.set_cons_succ]
                      refine wpAnyH_take (i := 16) (oi := ⟨some 117, _, _, _, _, _⟩) (v := ?_) rfl (by kernel_rfl) (by kernel_rfl) (by kernel_rfl) (fun _ _ _ h => h) (Or.inl ⟨by rfl, ?_⟩) (by assumption) ?_
                      rotate_left
                      · (intro w' hSw; obtain ⟨k0, k1, k2, k3, k4⟩ := hcl _ hSw; go_simp; try with_reducible rfl)
                      simp only [Act.put, List.setIfInBounds_toArray, List.set_cons_zero, List.set_cons_succ]
                      refine wpAnyH_ready (rs := [17]) (by kernel_rfl) (by simp) ?_
                      refine AllReadyH.cons (o := ⟨some 118, _, _, _, _, _⟩) rfl (fun K hK => ?_) AllReadyH.nil
                      go_simp
                      go_at_call 31
                      refine (HNM _ b0).mono ?_
                      rintro e wc17 ⟨rfl, hb17⟩
                      go_wp2_with fail
                      refine hK.out _ _ (b0.trans (hb17.mono b0.size)) (fun hHeld17 => ?_)
                      clear hK K
                      try simp only [Act.put, List.setIfInBounds_toArray, List.set_cons_zero, List.set_cons_succ]
                      refine wpAnyH_take (i := 18) (oi := ⟨some 119, _, _, _, _, _⟩) (v := ?_) rfl (by kernel_rfl) (by kernel_rfl) (by kernel_rfl) (fun _ _ _ h => h) (Or.inl ⟨by rfl, ?_⟩) (by assumption) ?_
                      rotate_left
                      · (intro w' hSw; obtain ⟨k0, k1, k2, k3, k4⟩ := hcl _ hSw; go_simp; try with_reducible rfl)
                      simp only [Act.put, List.setIfInBounds_toArray, List.set_cons_zero, List.set_cons_succ]
                      refine wpAnyH_take (i := 19) (oi := ⟨some 120, _, _, _, _, _⟩) (v := ?_) rfl (by kernel_rfl) (by kernel_rfl) (by kernel_rfl) (fun _ _ _ h => h) (Or.inl ⟨by rfl, ?_⟩) (by assumption) ?_
                      rotate_left
                      · (intro w' hSw; obtain ⟨k0, k1, k2, k3, k4⟩ := hcl _ hSw; go_simp; try with_reducible rfl)
                      simp only [Act.put, List.setIfInBounds_toArray, List.set_cons_zero, List.set_cons_succ]
                      refine wpAnyH_take (i := 20) (oi := ⟨some 4, _, _, _, _, _⟩) (v := ?_) rfl (by kernel_rfl) (by kernel_rfl) (by kernel_rfl) (fun _ _ _ h => h) (Or.inl ⟨by rfl, ?_⟩) (by assumption) ?_
                      rotate_left
                      · (intro w' hSw; obtain ⟨k0, k1, k2, k3, k4⟩ := hcl _ hSw; go_simp; try with_reducible rfl)
                      simp only [Act.put, List.setIfInBounds_toArray, List.set_cons_zero, List.set_cons_succ]
                      refine wpAnyH_done (by kernel_rfl) ?_ _
                      refine NoPanic.normal ?_
                      go_wp2
                      go_ret
                      exact ⟨rfl, hend _ hHeld17⟩
                    · have e1 : ¬ c1 = root := fun h => hpp (hbin.1 h).2
                      have g1 : ((c1 : Int) == (root : Int)) = false := by rw [beq_eq_false_iff_ne]; omega
                      have g2 : (c1 == root) = false := by rw [beq_eq_false_iff_ne]; exact e1
                      rw [decide_eq_false hpp] at HNM
                      clear hbin hpp e1
                      go_wp2
                      refine wp_region_noPanic ?_
                      refine wp_region_held_drew (S := Below w6.heap.size w6) (by kernel_rfl) ?_ (fun hHeld => ?_)
                      · exact b0
                      refine wpAnyH_take (i := 0) (oi := ⟨some 101, _, _, _, _, _⟩) (v := ?_) rfl (by kernel_rfl) (by kernel_rfl) (by kernel_rfl) (fun _ _ _ h => h) (Or.inl ⟨by rfl, ?_⟩) (by assumption) ?_
                      rotate_left
                      · (intro w' hSw; obtain ⟨k0, k1, k2, k3, k4⟩ := hcl _ hSw; go_simp; try with_reducible rfl)
                      simp only [Act.put, List.setIfInBounds_toArray, List.set_cons_zero, List.set_cons_succ]
                      refine wpAnyH_take (i := 1) (oi := ⟨some 102, _, _, _, _, _⟩) (v := ?_) rfl (by kernel_rfl) (by kernel_rfl) (by kernel_rfl) (fun _ _ _ h => h) (Or.inl ⟨by rfl, ?_⟩) (by assumption) ?_
                      rotate_left
                      · (intro w' hSw; obtain ⟨k0, k1, k2, k3, k4⟩ := hcl _ hSw; go_simp; try with_reducible rfl)
                      simp only [Act.put, List.setIfInBounds_toArray, List.set_cons_zero, List.set_cons_succ]
                      refine wpAnyH_take (i := 2) (oi := ⟨some 103, _, _, _, _, _⟩) (v := ?_) rfl (by kernel_rfl) (by kernel_rfl) (by kernel_rfl) (fun _ _ _ h => h) (Or.inl ⟨by rfl, ?_⟩) (by assumption) ?_
                      rotate_left
                      · (intro w' hSw; obtain ⟨k0, k1, k2, k3, k4⟩ := hcl _ hSw; go_simp; try with_reducible rfl)
                      simp only [Act.put, List.setIfInBounds_toArray, List.set_cons_zero, List.set_cons_succ]
                      refine wpAnyH_take (i := 3) (oi := ⟨some 104, _, _, _, _, _⟩) (v := ?_) rfl (by kernel_rfl) (by kernel_rfl) (by kernel_rfl) (fun _ _ _ h => h) (Or.inl ⟨by rfl, ?_⟩) (by assumption) ?_
                      rotate_left
                      · (intro w' hSw; obtain ⟨k0, k1, k2, k3, k4⟩ := hcl _ hSw; go_simp; try with_reducible rfl)
                      simp only [Act.put, List.setIfInBounds_toArray, List.set_cons_zero, List.set_cons_succ]
                      refine wpAnyH_take (i := 4) (oi := ⟨some 105, _, _, _, _, _⟩) (v := ?_) rfl (by kernel_rfl) (by kernel_rfl) (by kernel_rfl) (fun _ _ _ h => h) (Or.inl ⟨by rfl, ?_⟩) (by assumption) ?_
                      rotate_left
                      · (intro w' hSw; obtain ⟨k0, k1, k2, k3, k4⟩ := hcl _ hSw; go_simp; try with_reducible rfl)
                      simp only [Act.put, List.setIfInBounds_toArray, List.set_cons_zero, List.set_cons_succ]
                      refine wpAnyH_take (i := 5) (oi := ⟨some 106, _, _, _, _, _⟩) (v := ?_) rfl (by kernel_rfl) (by kernel_rfl) (by kernel_rfl) (fun _ _ _ h => h) (Or.inl ⟨by rfl, ?_⟩) (by assumption) ?_
                      rotate_left
                      · (intro w' hSw; obtain ⟨k0, k1, k2, k3, k4⟩ := hcl _ hSw; go_simp; try with_reducible rfl)
                      simp only [Act.put, List.setIfInBounds_toArray, List.set_cons_zero, List.set_cons_succ]
                      refine wpAnyH_take (i := 6) (oi := ⟨some 107, _, _, _, _, _⟩) (v := ?_) rfl (by kernel_rfl) (by kernel_rfl) (by kernel_rfl) (fun _ _ _ h => h) (Or.inl ⟨by rfl, ?_⟩) (by assumption) ?_
                      rotate_left
                      · (intro w' hSw; obtain ⟨k0, k1, k2, k3, k4⟩ := hcl _ hSw; go_simp; try with_reducible rfl)
                      simp only [Act.put, List.setIfInBounds_toArray, List.set_cons_zero, List.set_cons_succ]
                      refine wpAnyH_take (i := 7) (oi := ⟨some 108, _, _, _, _, _⟩) (v := ?_) rfl (by kernel_rfl) (by kernel_rfl) (by kernel_rfl) (fun _ _ _ h => h) (Or.inl ⟨by rfl, ?_⟩) (by assumption) ?_
                      rotate_left
                      · (intro w' hSw; obtain ⟨k0, k1, k2, k3, k4⟩ := hcl _ hSw; go_simp; try with_reducible rfl)
                      simp only [Act.put, List.setIfInBounds_toArray, List.set_cons_zero, List.set_cons_succ]
                      refine wpAnyH_take (i := 8) (oi := ⟨some 109, _, _, _, _, _⟩) (v := ?_) rfl (by kernel_rfl) (by kernel_rfl) (by kernel_rfl) (fun _ _ _ h => h) (Or.inl ⟨by rfl, ?_⟩) (by assumption) ?_
                      rotate_left
                      · (intro w' hSw; obtain ⟨k0, k1, k2, k3, k4⟩ := hcl _ hSw; go_simp; try with_reducible rfl)
                      simp only [Act.put, List.setIfInBounds_toArray, List.set_cons_zero, List.set_cons_succ]
                      refine wpAnyH_take (i := 9) (oi := ⟨some 110, _, _, _, _, _⟩) (v := ?_) rfl (by kernel_rfl) (by kernel_rfl) (by kernel_rfl) (fun _ _ _ h => h) (Or.inl ⟨by rfl, ?_⟩) (by assumption) ?_
                      rotate_left
                      · (intro w' hSw; obtain ⟨k0, k1, k2, k3, k4⟩ := hcl _ hSw; go_simp; try with_reducible rfl)
                      simp only [Act.put, List.setIfInBounds_toArray, List.set_cons_zero, List.set_cons_succ]
                      refine wpAnyH_take (i := 10) (oi := ⟨some 111, _, _, _, _, _⟩) (v := ?_) rfl (by kernel_rfl) (by kernel_rfl) (by kernel_rfl) (fun _ _ _ h => h) (Or.inl ⟨by rfl, ?_⟩) (by assumption) ?_
                      rotate_left
                      · (intro w' hSw; obtain ⟨k0, k1, k2, k3, k4⟩ := hcl _ hSw; go_simp; try with_reducible rfl)
                      simp only [Act.put, List.setIfInBounds_toArray, List.set_cons_zero, List.set_cons_succ]
                      refine wpAnyH_take (i := 11) (oi := ⟨some 112, _, _, _, _, _⟩) (v := ?_) rfl (by kernel_rfl) (by kernel_rfl) (by kernel_rfl) (fun _ _ _ h => h) (Or.inl ⟨by rfl, ?_⟩) (by assumption) ?_
                      rotate_left
                      · (intro w' hSw; obtain ⟨k0, k1, k2, k3, k4⟩ := hcl _ hSw; go_simp; try with_reducible rfl)
                      simp only [Act.put, List.setIfInBounds_toArray, List.set_cons_zero, List.set_cons_succ]
                      refine wpAnyH_take (i := 12) (oi := ⟨some 113, _, _, _, _, _⟩) (v := ?_) rfl (by kernel_rfl) (by kernel_rfl) (by kernel_rfl) (fun _ _ _ h => h) (Or.inl ⟨by rfl, ?_⟩) (by assumption) ?_
                      rotate_left
                      · (intro w' hSw; obtain ⟨k0, k1, k2, k3, k4⟩ := hcl _ hSw; go_simp; try with_reducible rfl)
                      simp only [Act.put, List.setIfInBounds_toArray, List.set_cons_zero, List.set_cons_succ]
                      refine wpAnyH_take (i := 13) (oi := ⟨some 114, _, _, _, _, _⟩) (v := ?_) rfl (by kernel_rfl) (by kernel_rfl) (by kernel_rfl) (fun _ _ _ h => h) (Or.inl ⟨by rfl, ?_⟩) (by assumption) ?_
                      rotate_left
                      · (intro w' hSw; obtain ⟨k0, k1, k2, k3, k4⟩ := hcl _ hSw; go_simp; try with_reducible rfl)
                      simp only [Act.put, List.setIfInBounds_toArray, List.set_cons_zero, List.set_cons_succ]
                      refine wpAnyH_take (i := 14) (oi := ⟨some 115, _, _, _, _, _⟩) (v := ?_) rfl (by kernel_rfl) (by kernel_rfl) (by kernel_rfl) (fun _ _ _ h => h) (Or.inl ⟨by rfl, ?_⟩) (by assumption) ?_
                      rotate_left
                      · (intro w' hSw; obtain ⟨k0, k1, k2, k3, k4⟩ := hcl _ hSw; go_simp; try with_reducible rfl)
                      simp only [Act.put, List.setIfInBounds_toArray, List.set_cons_zero, List.set_cons_succ]
                      refine wpAnyH_take (i := 15) (oi := ⟨some 116, _, _, _, _, _⟩) (v := ?_) rfl (by kernel_rfl) (by kernel_rfl) (by kernel_rfl) (fun _ _ _ h => h) (Or.inl ⟨by rfl, ?_⟩) (by assumption) ?_
                      rotate_left
                      · (intro w' hSw; obtain ⟨k0, k1, k2, k3, k4⟩ := hcl _ hSw; go_simp; try with_reducible rfl)
                      simp only [Act.put, List.setIfInBounds_toArray, List.set_cons_zero, List.set_cons_succ]
                      refine wpAnyH_take (i := 16) (oi := ⟨some 117, _, _, _, _, _⟩) (v := ?_) rfl (by kernel_rfl) (by kernel_rfl) (by kernel_rfl) (fun _ _ _ h => h) (Or.inl ⟨by rfl, ?_⟩) (by assumption) ?_
                      rotate_left
                      · (intro w' hSw; obtain ⟨k0, k1, k2, k3, k4⟩ := hcl _ hSw; go_simp; try with_reducible rfl)
                      simp only [Act.put, List.setIfInBounds_toArray, List.set_cons_zero, List.set_cons_succ]
                      refine wpAnyH_ready (rs := [17]) (by kernel_rfl) (by simp) ?_
                      refine AllReadyH.cons (o := ⟨some 118, _, _, _, _, _⟩) rfl (fun K hK => ?_) AllReadyH.nil
                      go_simp
                      go_at_call 31
                      refine (HNM _ b0).mono ?_
                      rintro e wc17 ⟨rfl, hb17⟩
                      go_wp2_with fail
                      refine hK.out _ _ (b0.trans (hb17.mono b0.size)) (fun hHeld17 => ?_)
                      clear hK K
                      try simp only [Act.put, List.setIfInBounds_toArray, List.set_cons_zero, List.set_cons_succ]
                      refine wpAnyH_take (i := 18) (oi := ⟨some 119, _, _, _, _, _⟩) (v := ?_) rfl (by kernel_rfl) (by kernel_rfl) (by kernel_rfl) (fun _ _ _ h => h) (Or.inl ⟨by rfl, ?_⟩) (by assumption) ?_
                      rotate_left
                      · (intro w' hSw; obtain ⟨k0, k1, k2, k3, k4⟩ := hcl _ hSw; go_simp; try with_reducible rfl)
                      simp only [Act.put, List.setIfInBounds_toArray, List.set_cons_zero, List.set_cons_succ]
                      refine wpAnyH_take (i := 19) (oi := ⟨some 120, _, _, _, _, _⟩) (v := ?_) rfl (by kernel_rfl) (by kernel_rfl) (by kernel_rfl) (fun _ _ _ h => h) (Or.inl ⟨by rfl, ?_⟩) (by assumption) ?_
                      rotate_left
                      · (intro w' hSw; obtain ⟨k0, k1, k2, k3, k4⟩ := hcl _ hSw; go_simp; try with_reducible rfl)
                      simp only [Act.put, List.setIfInBounds_toArray, List.set_cons_zero, List.set_cons_succ]
                      refine wpAnyH_take (i := 20) (oi := ⟨some 4, _, _, _, _, _⟩) (v := ?_) rfl (by kernel_rfl) (by kernel_rfl) (by kernel_rfl) (fun _ _ _ h => h) (Or.inl ⟨by rfl, ?_⟩) (by assumption) ?_
                      rotate_left
                      · (intro w' hSw; obtain ⟨k0, k1, k2, k3, k4⟩ := hcl _ hSw; go_simp; try with_reducible rfl)
                      simp only [Act.put, List.setIfInBounds_toArray, List.set_cons_zero, List.set_cons_succ]
                      refine wpAnyH_done (by kernel_rfl) ?_ _
                      refine NoPanic.normal ?_
                      go_wp2
                      go_ret
                      exact ⟨rfl, hend _ hHeld17⟩
                  · have e1 : ¬ c1 = root := fun h => hsl (hbin.1 h).1
                    have g1 : ((c1 : Int) == (root : Int)) = false := by rw [beq_eq_false_iff_ne]; omega
                    have g2 : (c1 == root) = false := by rw [beq_eq_false_iff_ne]; exact e1
                    have g3 : (s.toList == lf.toList) = false := by rw [beq_eq_false_iff_ne]; exact fun h => hsl (bytes_inj h)
                    clear hbin hsl e1
                    go_wp2
                    refine wp_region_noPanic ?_
                    refine wp_region_held_drew (S := Below w6.heap.size w6) (by kernel_rfl) ?_ (fun hHeld => ?_)
                    · exact b0
                    refine wpAnyH_take (i := 0) (oi := ⟨some 101, _, _, _, _, _⟩) (v := ?_) rfl (by kernel_rfl) (by kernel_rfl) (by kernel_rfl) (fun _ _ _ h => h) (Or.inl ⟨by rfl, ?_⟩) (by assumption) ?_
                    rotate_left
                    · (intro w' hSw; obtain ⟨k0, k1, k2, k3, k4⟩ := hcl _ hSw; go_simp; try with_reducible rfl)
                    simp only [Act.put, List.setIfInBounds_toArray, List.set_cons_zero, List.set_cons_succ]
                    refine wpAnyH_take (i := 1) (oi := ⟨some 102, _, _, _, _, _⟩) (v := ?_) rfl (by kernel_rfl) (by kernel_rfl) (by kernel_rfl) (fun _ _ _ h => h) (Or.inl ⟨by rfl, ?_⟩) (by assumption) ?_
                    rotate_left
                    · (intro w' hSw; obtain ⟨k0, k1, k2, k3, k4⟩ := hcl _ hSw; go_simp; try with_reducible rfl)
                    simp only [Act.put, List.setIfInBounds_toArray, List.set_cons_zero, List.set_cons_succ]
                    refine wpAnyH_take (i := 2) (oi := ⟨some 103, _, _, _, _, _⟩) (v := ?_) rfl (by kernel_rfl) (by kernel_rfl) (by kernel_rfl) (fun _ _ _ h => h) (Or.inl ⟨by rfl, ?_⟩) (by assumption) ?_
                    rotate_left
                    · (intro w' hSw; obtain ⟨k0, k1, k2, k3, k4⟩ := hcl _ hSw; go_simp; try with_reducible rfl)
                    simp only [Act.put, List.setIfInBounds_toArray, List.set_cons_zero, List.set_cons_succ]
                    refine wpAnyH_take (i := 3) (oi := ⟨some 104, _, _, _, _, _⟩) (v := ?_) rfl (by kernel_rfl) (by kernel_rfl) (by kernel_rfl) (fun _ _ _ h => h) (Or.inl ⟨by rfl, ?_⟩) (by assumption) ?_
                    rotate_left
                    · (intro w' hSw; obtain ⟨k0, k1, k2, k3, k4⟩ := hcl _ hSw; go_simp; try with_reducible rfl)
                    simp only [Act.put, List.setIfInBounds_toArray, List.set_cons_zero, List.set_cons_succ]
                    refine wpAnyH_take (i := 4) (oi := ⟨some 105, _, _, _, _, _⟩) (v := ?_) rfl (by kernel_rfl) (by kernel_rfl) (by kernel_rfl) (fun _ _ _ h => h) (Or.inl ⟨by rfl, ?_⟩) (by assumption) ?_
                    rotate_left
                    · (intro w' hSw; obtain ⟨k0, k1, k2, k3, k4⟩ := hcl _ hSw; go_simp; try with_reducible rfl)
                    simp only [Act.put, List.setIfInBounds_toArray, List.set_cons_zero, List.set_cons_succ]
                    refine wpAnyH_take (i := 5) (oi := ⟨some 106, _, _, _, _, _⟩) (v := ?_) rfl (by kernel_rfl) (by kernel_rfl) (by kernel_rfl) (fun _ _ _ h => h) (Or.inl ⟨by rfl, ?_⟩) (by assumption) ?_
                    rotate_left
                    · (intro w' hSw; obtain ⟨k0, k1, k2, k3, k4⟩ := hcl _ hSw; go_simp; try with_reducible rfl)
                    simp only [Act.put, List.setIfInBounds_toArray, List.set_cons_zero, List.set_cons_succ]
                    refine wpAnyH_take (i := 6) (oi := ⟨some 107, _, _, _, _, _⟩) (v := ?_) rfl (by kernel_rfl) (by kernel_rfl) (by kernel_rfl) (fun _ _ _ h => h) (Or.inl ⟨by rfl, ?_⟩) (by assumption) ?_
                    rotate_left
                    · (intro w' hSw; obtain ⟨k0, k1, k2, k3, k4⟩ := hcl _ hSw; go_simp; try with_reducible rfl)
                    simp only [Act.put, List.setIfInBounds_toArray, List.set_cons_zero, List.set_cons_succ]
                    refine wpAnyH_take (i := 7) (oi := ⟨some 108, _, _, _, _, _⟩) (v := ?_) rfl (by kernel_rfl) (by kernel_rfl) (by kernel_rfl) (fun _ _ _ h => h) (Or.inl ⟨by rfl, ?_⟩) (by assumption) ?_
                    rotate_left
                    · (intro w' hSw; obtain ⟨k0, k1, k2, k3, k4⟩ := hcl _ hSw; go_simp; try with_reducible rfl)
                    simp only [Act.put, List.setIfInBounds_toArray, List.set_cons_zero, List.set_cons_succ]
                    refine wpAnyH_take (i := 8) (oi := ⟨some 109, _, _, _, _, _⟩) (v := ?_) rfl (by kernel_rfl) (by kernel_rfl) (by kernel_rfl) (fun _ _ _ h => h) (Or.inl ⟨by rfl, ?_⟩) (by assumption) ?_
                    rotate_left
                    · (intro w' hSw; obtain ⟨k0, k1, k2, k3, k4⟩ := hcl _ hSw; go_simp; try with_reducible rfl)
                    simp only [Act.put, List.setIfInBounds_toArray, List.set_cons_zero, List.set_cons_succ]
                    refine wpAnyH_take (i := 9) (oi := ⟨some 110, _, _, _, _, _⟩) (v := ?_) rfl (by kernel_rfl) (by kernel_rfl) (by kernel_rfl) (fun _ _ _ h => h) (Or.inl ⟨by rfl, ?_⟩) (by assumption) ?_
                    rotate_left
                    · (intro w' hSw; obtain ⟨k0, k1, k2, k3, k4⟩ := hcl _ hSw; go_simp; try with_reducible rfl)
                    simp only [Act.put, List.setIfInBounds_toArray, List.set_cons_zero, List.set_cons_succ]
                    refine wpAnyH_take (i := 10) (oi := ⟨some 111, _, _, _, _, _⟩) (v := ?_) rfl (by kernel_rfl) (by kernel_rfl) (by kernel_rfl) (fun _ _ _ h => h) (Or.inl ⟨by rfl, ?_⟩) (by assumption) ?_
                    rotate_left
                    · (intro w' hSw; obtain ⟨k0, k1, k2, k3, k4⟩ := hcl _ hSw; go_simp; try with_reducible rfl)
                    simp only [Act.put, List.setIfInBounds_toArray, List.set_cons_zero, List.set_cons_succ]
                    refine wpAnyH_take (i := 11) (oi := ⟨some 112, _, _, _, _, _⟩) (v := ?_) rfl (by kernel_rfl) (by kernel_rfl) (by kernel_rfl) (fun _ _ _ h => h) (Or.inl ⟨by rfl, ?_⟩) (by assumption) ?_
                    rotate_left
                    · (intro w' hSw; obtain ⟨k0, k1, k2, k3, k4⟩ := hcl _ hSw; go_simp; try with_reducible rfl)
                    simp only [Act.put, List.setIfInBounds_toArray, List.set_cons_zero, List.set_cons_succ]
                    refine wpAnyH_take (i := 12) (oi := ⟨some 113, _, _, _, _, _⟩) (v := ?_) rfl (by kernel_rfl) (by kernel_rfl) (by kernel_rfl) (fun _ _ _ h => h) (Or.inl ⟨by rfl, ?_⟩) (by assumption) ?_
                    rotate_left
                    · (intro w' hSw; obtain ⟨k0, k1, k2, k3, k4⟩ := hcl _ hSw; go_simp; try with_reducible rfl)
                    simp only [Act.put, List.setIfInBounds_toArray, List.set_cons_zero, List.set_cons_succ]
                    refine wpAnyH_take (i := 13) (oi := ⟨some 114, _, _, _, _, _⟩) (v := ?_) rfl (by kernel_rfl) (by kernel_rfl) (by kernel_rfl) (fun _ _ _ h => h) (Or.inl ⟨by rfl, ?_⟩) (by assumption) ?_
                    rotate_left
                    · (intro w' hSw; obtain ⟨k0, k1, k2, k3, k4⟩ := hcl _ hSw; go_simp; try with_reducible rfl)
                    simp only [Act.put, List.setIfInBounds_toArray, List.set_cons_zero, List.set_cons_succ]
                    refine wpAnyH_take (i := 14) (oi := ⟨some 115, _, _, _, _, _⟩) (v := undef) rfl (by kernel_rfl) (by kernel_rfl) (by kernel_rfl) (fun _ _ _ h => h) (Or.inr ⟨by rfl, rfl⟩) (by assumption) ?_
                    simp only [Act.put, List.setIfInBounds_toArray, List.set_cons_zero, List.set_cons_succ]
                    refine wpAnyH_take (i := 15) (oi := ⟨some 116, _, _, _, _, _⟩) (v := undef) rfl (by kernel_rfl) (by kernel_rfl) (by kernel_rfl) (fun _ _ _ h => h) (Or.inr ⟨by rfl, rfl⟩) (by assumption) ?_
                    simp only [Act.put, List.setIfInBounds_toArray, List.set_cons_zero, List.set_cons_succ]
                    refine wpAnyH_take (i := 16) (oi := ⟨some 117, _, _, _, _, _⟩) (v := undef) rfl (by kernel_rfl) (by kernel_rfl) (by kernel_rfl) (fun _ _ _ h => h) (Or.inr ⟨by rfl, rfl⟩) (by assumption) ?_
                    simp only [Act.put, List.setIfInBounds_toArray, List.set_cons_zero, List.set_cons_succ]
                    refine wpAnyH_take (i := 17) (oi := ⟨some 118, _, _, _, _, _⟩) (v := undef) rfl (by kernel_rfl) (by kernel_rfl) (by kernel_rfl) (fun _ _ _ h => h) (Or.inr ⟨by rfl, rfl⟩) (by assumption) ?_
                    simp only [Act.put, List.setIfInBounds_toArray, List.set_cons_zero, List.set_cons_succ]
                    refine wpAnyH_take (i := 18) (oi := ⟨some 119, _, _, _, _, _⟩) (v := ?_) rfl (by kernel_rfl) (by kernel_rfl) (by kernel_rfl) (fun _ _ _ h => h) (Or.inl ⟨by rfl, ?_⟩) (by assumption) ?_
                    rotate_left
                    · (intro w' hSw; obtain ⟨k0, k1, k2, k3, k4⟩ := hcl _ hSw; go_simp; try with_reducible rfl)
                    simp only [Act.put, List.setIfInBounds_toArray, List.set_cons_zero, List.set_cons_succ]
                    refine wpAnyH_take (i := 19) (oi := ⟨some 120, _, _, _, _, _⟩) (v := ?_) rfl (by kernel_rfl) (by kernel_rfl) (by kernel_rfl) (fun _ _ _ h => h) (Or.inl ⟨by rfl, ?_⟩) (by assumption) ?_
                    rotate_left
                    · (intro w' hSw; obtain ⟨k0, k1, k2, k3, k4⟩ := hcl _ hSw; go_simp; try with_reducible rfl)
                    simp only [Act.put, List.setIfInBounds_toArray, List.set_cons_zero, List.set_cons_succ]
                    refine wpAnyH_take (i := 20) (oi := ⟨some 4, _, _, _, _, _⟩) (v := ?_) rfl (by kernel_rfl) (by kernel_rfl) (by kernel_rfl) (fun _ _ _ h => h) (Or.inl ⟨by rfl, ?_⟩) (by assumption) ?_
                    rotate_left
                    · (intro w' hSw; obtain ⟨k0, k1, k2, k3, k4⟩ := hcl _ hSw; go_simp; try with_reducible rfl)
                    simp only [Act.put, List.setIfInBounds_toArray, List.set_cons_zero, List.set_cons_succ]
                    refine wpAnyH_done (by kernel_rfl) ?_ _
                    refine NoPanic.normal ?_
                    go_wp2
                    go_ret
                    exact ⟨rfl, hend _ b0⟩
                · have hi3 : decide ((i : Int) < (ls.length : Int)) = false := decide_eq_false (by omega)
                  have hi4 : decide (i < ls.length) = false := decide_eq_false hil
                  have hlf : ls.getD i .empty = ⟨#[]⟩ := by rw [List.getD_eq_getElem?_getD, List.getElem?_eq_none (by omega)]; rfl
                  rw [hlf] at hbin
                  obtain ⟨lf, hlf2⟩ : ∃ lf : ByteArray, lf = ⟨#[]⟩ := ⟨_, rfl⟩
                  rw [← hlf2] at hbin
                  clear hb0 hin hip hfw hfw2 hd8 hlsd hrows hinv h0 hpth hlf
                  have Xc0 := X.cell (j := 0) rfl
                  have Xc1 := X.cell (j := 1) rfl
                  have Xc2 := X.cell (j := 2) rfl
                  have Yc0 := Y.cell (j := 0) rfl
                  have Yc1 := Y.cell (j := 1) rfl
                  have Yc2 := Y.cell (j := 2) rfl
                  go_wp2
                  clear Xc0 Xc1 Xc2 Yc0 Yc1 Yc2
                  rw [← hlf2]
                  clear hd0 hi3 hi4 hlf2
                  have hcl : ∀ w', Below w6.heap.size w6 w' → w'.cell? ⟨w.heap.size, 1, none⟩ = some (.int .i64 (d : Int)) ∧ w'.cell? ⟨w.heap.size + 1, 1, none⟩ = some (.string s) ∧ w'.cell? ⟨w.heap.size + 1, 2, none⟩ = some (.slice pa d pc) ∧ w'.cell? (ta.add d) = some (.slice (some ra) 1 rc) ∧ w'.cell? ra = some (.int .u64 (root : Int)) := fun w' b => ⟨(X.below b).cell rfl, (Y.below b).cell rfl, (Y.below b).cell rfl, (b.cell rl1).trans rt1, (b.cell rl2).trans rt2⟩
                  have HNM := fun w' (b : Below w6.heap.size w6 w') => nums_is p pth hpl63 (.slice pa d pc) vp w' (PV.below b).rd (P.below b).rd
                  have hend := fun w' (b : Below w6.heap.size w6 w') => c.trans (b.mono c.size)
                  have b0 : Below w6.heap.size w6 w6.drew := (Below.refl _ _).drew
                  clear X Y LV PV T P h c
                  by_cases hsl : s = lf
                  · subst hsl
                    by_cases hpp : p = pth
                    · have e1 : c1 = root := hbin.2 ⟨rfl, hpp⟩
                      subst e1
                      rw [decide_eq_true hpp] at HNM
                      clear hbin hpp
                      go_wp2
                      refine wp_region_noPanic ?_
                      refine wp_region_held_drew (S := Below w6.heap.size w6) (by kernel_rfl) ?_ (fun hHeld => ?_)
                      · exact b0
                      refine wpAnyH_take (i := 0) (oi := ⟨some 101, _, _, _, _, _⟩) (v := ?_) rfl (by kernel_rfl) (by kernel_rfl) (by kernel_rfl) (fun _ _ _ h => h) (Or.inl ⟨by rfl, ?_⟩) (by assumption) ?_
                      rotate_left
                      · (intro w' hSw; obtain ⟨k0, k1, k2, k3, k4⟩ := hcl _ hSw; go_simp; try with_reducible rfl)
                      simp only [Act.put, List.setIfInBounds_toArray, List.set_cons_zero, List.set_cons_succ]
                      refine wpAnyH_take (i := 1) (oi := ⟨some 102, _, _, _, _, _⟩) (v := ?_) rfl (by kernel_rfl) (by kernel_rfl) (by kernel_rfl) (fun _ _ _ h => h) (Or.inl ⟨by rfl, ?_⟩) (by assumption) ?_
                      rotate_left
                      · (intro w' hSw; obtain ⟨k0, k1, k2, k3, k4⟩ := hcl _ hSw; go_simp; try with_reducible rfl)
                      simp only [Act.put, List.setIfInBounds_toArray, List.set_cons_zero, List.set_cons_succ]
                      refine wpAnyH_take (i := 2) (oi := ⟨some 103, _, _, _, _, _⟩) (v := ?_) rfl (by kernel_rfl) (by kernel_rfl) (by kernel_rfl) (fun _ _ _ h => h) (Or.inl ⟨by rfl, ?_⟩) (by assumption) ?_
                      rotate_left
                      · (intro w' hSw; obtain ⟨k0, k1, k2, k3, k4⟩ := hcl _ hSw; go_simp; try with_reducible rfl)
                      simp only [Act.put, List.setIfInBounds_toArray, List.set_cons_zero, List.set_cons_succ]
                      refine wpAnyH_take (i := 3) (oi := ⟨some 104, _, _, _, _, _⟩) (v := ?_) rfl (by kernel_rfl) (by kernel_rfl) (by kernel_rfl) (fun _ _ _ h => h) (Or.inl ⟨by rfl, ?_⟩) (by assumption) ?_
                      rotate_left
                      · (intro w' hSw; obtain ⟨k0, k1, k2, k3, k4⟩ := hcl _ hSw; go_simp; try with_reducible rfl)
                      simp only [Act.put, List.setIfInBounds_toArray, List.set_cons_zero, List.set_cons_succ]
                      refine wpAnyH_take (i := 4) (oi := ⟨some 105, _, _, _, _, _⟩) (v := ?_) rfl (by kernel_rfl) (by kernel_rfl) (by kernel_rfl) (fun _ _ _ h => h) (Or.inl ⟨by rfl, ?_⟩) (by assumption) ?_
                      rotate_left
                      · (intro w' hSw; obtain ⟨k0, k1, k2, k3, k4⟩ := hcl _ hSw; go_simp; try with_reducible rfl)
                      simp only [Act.put, List.setIfInBounds_toArray, List.set_cons_zero, List.set_cons_succ]
                      refine wpAnyH_take (i := 5) (oi := ⟨some 106, _, _, _, _, _⟩) (v := ?_) rfl (by kernel_rfl) (by kernel_rfl) (by kernel_rfl) (fun _ _ _ h => h) (Or.inl ⟨by rfl, ?_⟩) (by assumption) ?_
                      rotate_left
                      · (intro w' hSw; obtain ⟨k0, k1, k2, k3, k4⟩ := hcl _ hSw; go_simp; try with_reducible rfl)
                      simp only [Act.put, List.setIfInBounds_toArray, List.set_cons_zero, List.set_cons_succ]
                      refine wpAnyH_take (i := 6) (oi := ⟨some 107, _, _, _, _, _⟩) (v := ?_) rfl (by kernel_rfl) (by kernel_rfl) (by kernel_rfl) (fun _ _ _ h => h) (Or.inl ⟨by rfl, ?_⟩) (by assumption) ?_
                      rotate_left
                      · (intro w' hSw; obtain ⟨k0, k1, k2, k3, k4⟩ := hcl _ hSw; go_simp; try with_reducible rfl)
                      simp only [Act.put, List.setIfInBounds_toArray, List.set_cons_zero, List.set_cons_succ]
                      refine wpAnyH_take (i := 7) (oi := ⟨some 108, _, _, _, _, _⟩) (v := ?_) rfl (by kernel_rfl) (by kernel_rfl) (by kernel_rfl) (fun _ _ _ h => h) (Or.inl ⟨by rfl, ?_⟩) (by assumption) ?_
                      rotate_left
                      · (intro w' hSw; obtain ⟨k0, k1, k2, k3, k4⟩ := hcl _ hSw; go_simp; try with_reducible rfl)
                      simp only [Act.put, List.setIfInBounds_toArray, List.set_cons_zero, List.set_cons_succ]
                      refine wpAnyH_take (i := 8) (oi := ⟨some 109, _, _, _, _, _⟩) (v := ?_) rfl (by kernel_rfl) (by kernel_rfl) (by kernel_rfl) (fun _ _ _ h => h) (Or.inl ⟨by rfl, ?_⟩) (by assumption) ?_
                      rotate_left
                      · (intro w' hSw; obtain ⟨k0, k1, k2, k3, k4⟩ := hcl _ hSw; go_simp; try with_reducible rfl)
                      simp only [Act.put, List.setIfInBounds_toArray, List.set_cons_zero, List.set_cons_succ]
                      refine wpAnyH_take (i := 9) (oi := ⟨some 110, _, _, _, _, _⟩) (v := ?_) rfl (by kernel_rfl) (by kernel_rfl) (by kernel_rfl) (fun _ _ _ h => h) (Or.inl ⟨by rfl, ?_⟩) (by assumption) ?_
                      rotate_left
                      · (intro w' hSw; obtain ⟨k0, k1, k2, k3, k4⟩ := hcl _ hSw; go_simp; try with_reducible rfl)
                      simp only [Act.put, List.setIfInBounds_toArray, List.set_cons_zero, List.set_cons_succ]
                      refine wpAnyH_take (i := 10) (oi := ⟨some 111, _, _, _, _, _⟩) (v := ?_) rfl (by kernel_rfl) (by kernel_rfl) (by kernel_rfl) (fun _ _ _ h => h) (Or.inl ⟨by rfl, ?_⟩) (by assumption) ?_
                      rotate_left
                      · (intro w' hSw; obtain ⟨k0, k1, k2, k3, k4⟩ := hcl _ hSw; go_simp; try with_reducible rfl)
                      simp only [Act.put, List.setIfInBounds_toArray, List.set_cons_zero, List.set_cons_succ]
                      refine wpAnyH_take (i := 11) (oi := ⟨some 112, _, _, _, _, _⟩) (v := ?_) rfl (by kernel_rfl) (by kernel_rfl) (by kernel_rfl) (fun _ _ _ h => h) (Or.inl ⟨by rfl, ?_⟩) (by assumption) ?_
                      rotate_left
                      · (intro w' hSw; obtain ⟨k0, k1, k2, k3, k4⟩ := hcl _ hSw; go_simp; try with_reducible rfl)
                      simp only [Act.put, List.setIfInBounds_toArray, List.set_cons_zero, List.set_cons_succ]
                      refine wpAnyH_take (i := 12) (oi := ⟨some 113, _, _, _, _, _⟩) (v := ?_) rfl (by kernel_rfl) (by kernel_rfl) (by kernel_rfl) (fun _ _ _ h => h) (Or.inl ⟨by rfl, ?_⟩) (by assumption) ?_
                      rotate_left
                      · (intro w' hSw; obtain ⟨k0, k1, k2, k3, k4⟩ := hcl _ hSw; go_simp; try with_reducible rfl)
                      simp only [Act.put, List.setIfInBounds_toArray, List.set_cons_zero, List.set_cons_succ]
                      refine wpAnyH_take (i := 13) (oi := ⟨some 114, _, _, _, _, _⟩) (v := ?_) rfl (by kernel_rfl) (by kernel_rfl) (by kernel_rfl) (fun _ _ _ h => h) (Or.inl ⟨by rfl, ?_⟩) (by assumption) ?_
                      rotate_left
                      · (intro w' hSw; obtain ⟨k0, k1, k2, k3, k4⟩ := hcl _ hSw; go_simp; try with_reducible rfl)
                      simp only [Act.put, List.setIfInBounds_toArray, List.set_cons_zero, List.set_cons_succ]
                      refine wpAnyH_take (i := 14) (oi := ⟨some 115, _, _, _, _, _⟩) (v := ?_) rfl (by kernel_rfl) (by kernel_rfl) (by kernel_rfl) (fun _ _ _ h => h) (Or.inl ⟨by rfl, ?_⟩) (by assumption) ?_
                      rotate_left
                      · (intro w' hSw; obtain ⟨k0, k1, k2, k3, k4⟩ := hcl _ hSw; go_simp; try with_reducible rfl)
                      simp only [Act.put, List.setIfInBounds_toArray, List.set_cons_zero, List.set_cons_succ]
                      refine wpAnyH_take (i := 15) (oi := ⟨some 116, _, _, _, _, _⟩) (v := ?_) rfl (by kernel_rfl) (by kernel_rfl) (by kernel_rfl) (fun _ _ _ h => h) (Or.inl ⟨by rfl, ?_⟩) (by assumption) ?_
                      rotate_left
                      · (intro w' hSw; obtain ⟨k0, k1, k2, k3, k4⟩ := hcl _ hSw; go_simp; try with_reducible rfl)
                      simp only [Act.put, List.setIfInBounds_toArray, List.set_cons_zero, List.set_cons_succ]
                      refine wpAnyH_take (i := 16) (oi := ⟨some 117, _, _, _, _, _⟩) (v := ?_) rfl (by kernel_rfl) (by kernel_rfl) (by kernel_rfl) (fun _ _ _ h => h) (Or.inl ⟨by rfl, ?_⟩) (by assumption) ?_
                      rotate_left
                      · (intro w' hSw; obtain ⟨k0, k1, k2, k3, k4⟩ := hcl _ hSw; go_simp; try with_reducible rfl)
                      simp only [Act.put, List.setIfInBounds_toArray, List.set_cons_zero, List.set_cons_succ]
                      refine wpAnyH_ready (rs := [17]) (by kernel_rfl) (by simp) ?_
                      refine AllReadyH.cons (o := ⟨some 118, _, _, _, _, _⟩) rfl (fun K hK => ?_) AllReadyH.nil
                      go_simp
                      go_at_call 31
                      refine (HNM _ b0).mono ?_
                      rintro e wc17 ⟨rfl, hb17⟩
                      go_wp2_with fail
                      refine hK.out _ _ (b0.trans (hb17.mono b0.size)) (fun hHeld17 => ?_)
                      clear hK K
                      try simp only [Act.put, List.setIfInBounds_toArray, List.set_cons_zero, List.set_cons_succ]
                      refine wpAnyH_take (i := 18) (oi := ⟨some 119, _, _, _, _, _⟩) (v := ?_) rfl (by kernel_rfl) (by kernel_rfl) (by kernel_rfl) (fun _ _ _ h => h) (Or.inl ⟨by rfl, ?_⟩) (by assumption) ?_
                      rotate_left
                      · (intro w' hSw; obtain ⟨k0, k1, k2, k3, k4⟩ := hcl _ hSw; go_simp; try with_reducible rfl)
                      simp only [Act.put, List.setIfInBounds_toArray, List.set_cons_zero, List.set_cons_succ]
                      refine wpAnyH_take (i := 19) (oi := ⟨some 120, _, _, _, _, _⟩) (v := ?_) rfl (by kernel_rfl) (by kernel_rfl) (by kernel_rfl) (fun _ _ _ h => h) (Or.inl ⟨by rfl, ?_⟩) (by assumption) ?_
                      rotate_left
                      · (intro w' hSw; obtain ⟨k0, k1, k2, k3, k4⟩ := hcl _ hSw; go_simp; try with_reducible rfl)
                      simp only [Act.put, List.setIfInBounds_toArray, List.set_cons_zero, List.set_cons_succ]
                      refine wpAnyH_take (i := 20) (oi := ⟨some 4, _, _, _, _, _⟩) (v := ?_) rfl (by kernel_rfl) (by kernel_rfl) (by kernel_rfl) (fun _ _ _ h => h) (Or.inl ⟨by rfl, ?_⟩) (by assumption) ?_
                      rotate_left
                      · (intro w' hSw; obtain ⟨k0, k1, k2, k3, k4⟩ := hcl _ hSw; go_simp; try with_reducible rfl)
                      simp only [Act.put, List.setIfInBounds_toArray, List.set_cons_zero, List.set_cons_succ]
                      refine wpAnyH_done (by kernel_rfl) ?_ _
                      refine NoPanic.normal ?_
                      go_wp2
                      go_ret
                      exact ⟨rfl, hend _ hHeld17⟩
                    · have e1 : ¬ c1 = root := fun h => hpp (hbin.1 h).2
                      have g1 : ((c1 : Int) == (root : Int)) = false := by rw [beq_eq_false_iff_ne]; omega
                      have g2 : (c1 == root) = false := by rw [beq_eq_false_iff_ne]; exact e1
                      rw [decide_eq_false hpp] at HNM
                      clear hbin hpp e1
                      go_wp2
                      refine wp_region_noPanic ?_
                      refine wp_region_held_drew (S := Below w6.heap.size w6) (by kernel_rfl) ?_ (fun hHeld => ?_)
                      · exact b0
                      refine wpAnyH_take (i := 0) (oi := ⟨some 101, _, _, _, _, _⟩) (v := ?_) rfl (by kernel_rfl) (by kernel_rfl) (by kernel_rfl) (fun _ _ _ h => h) (Or.inl ⟨by rfl, ?_⟩) (by assumption) ?_
                      rotate_left
                      · (intro w' hSw; obtain ⟨k0, k1, k2, k3, k4⟩ := hcl _ hSw; go_simp; try with_reducible rfl)
                      simp only [Act.put, List.setIfInBounds_toArray, List.set_cons_zero, List.set_cons_succ]
                      refine wpAnyH_take (i := 1) (oi := ⟨some 102, _, _, _, _, _⟩) (v := ?_) rfl (by kernel_rfl) (by kernel_rfl) (by kernel_rfl) (fun _ _ _ h => h) (Or.inl ⟨by rfl, ?_⟩) (by assumption) ?_
                      rotate_left
                      · (intro w' hSw; obtain ⟨k0, k1, k2, k3, k4⟩ := hcl _ hSw; go_simp; try with_reducible rfl)
                      simp only [Act.put, List.setIfInBounds_toArray, List.set_cons_zero, List.set_cons_succ]
                      refine wpAnyH_take (i := 2) (oi := ⟨some 103, _, _, _, _, _⟩) (v := ?_) rfl (by kernel_rfl) (by kernel_rfl) (by kernel_rfl) (fun _ _ _ h => h) (Or.inl ⟨by rfl, ?_⟩) (by assumption) ?_
                      rotate_left
                      · (intro w' hSw; obtain ⟨k0, k1, k2, k3, k4⟩ := hcl _ hSw; go_simp; try with_reducible rfl)
                      simp only [Act.put, List.setIfInBounds_toArray, List.set_cons_zero, List.set_cons_succ]
                      refine wpAnyH_take (i := 3) (oi := ⟨some 104, _, _, _, _, _⟩) (v := ?_) rfl (by kernel_rfl) (by kernel_rfl) (by kernel_rfl) (fun _ _ _ h => h) (Or.inl ⟨by rfl, ?_⟩) (by assumption) ?_
                      rotate_left
                      · (intro w' hSw; obtain ⟨k0, k1, k2, k3, k4⟩ := hcl _ hSw; go_simp; try with_reducible rfl)
                      simp only [Act.put, List.setIfInBounds_toArray, List.set_cons_zero, List.set_cons_succ]
                      refine wpAnyH_take (i := 4) (oi := ⟨some 105, _, _, _, _, _⟩) (v := ?_) rfl (by kernel_rfl) (by kernel_rfl) (by kernel_rfl) (fun _ _ _ h => h) (Or.inl ⟨by rfl, ?_⟩) (by assumption) ?_
                      rotate_left
                      · (intro w' hSw; obtain ⟨k0, k1, k2, k3, k4⟩ := hcl _ hSw; go_simp; try with_reducible rfl)
                      simp only [Act.put, List.setIfInBounds_toArray, List.set_cons_zero, List.set_cons_succ]
                      refine wpAnyH_take (i := 5) (oi := ⟨some 106, _, _, _, _, _⟩) (v := ?_) rfl (by kernel_rfl) (by kernel_rfl) (by kernel_rfl) (fun _ _ _ h => h) (Or.inl ⟨by rfl, ?_⟩) (by assumption) ?_
                      rotate_left
                      · (intro w' hSw; obtain ⟨k0, k1, k2, k3, k4⟩ := hcl _ hSw; go_simp; try with_reducible rfl)
                      simp only [Act.put, List.setIfInBounds_toArray, List.set_cons_zero, List.set_cons_succ]
                      refine wpAnyH_take (i := 6) (oi := ⟨some 107, _, _, _, _, _⟩) (v := ?_) rfl (by kernel_rfl) (by kernel_rfl) (by kernel_rfl) (fun _ _ _ h => h) (Or.inl ⟨by rfl, ?_⟩) (by assumption) ?_
                      rotate_left
                      · (intro w' hSw; obtain ⟨k0, k1, k2, k3, k4⟩ := hcl _ hSw; go_simp; try with_reducible rfl)
                      simp only [Act.put, List.setIfInBounds_toArray, List.set_cons_zero, List.set_cons_succ]
                      refine wpAnyH_take (i := 7) (oi := ⟨some 108, _, _, _, _, _⟩) (v := ?_) rfl (by kernel_rfl) (by kernel_rfl) (by kernel_rfl) (fun _ _ _ h => h) (Or.inl ⟨by rfl, ?_⟩) (by assumption) ?_
                      rotate_left
                      · (intro w' hSw; obtain ⟨k0, k1, k2, k3, k4⟩ := hcl _ hSw; go_simp; try with_reducible rfl)
                      simp only [Act.put, List.setIfInBounds_toArray, List.set_cons_zero, List.set_cons_succ]
                      refine wpAnyH_take (i := 8) (oi := ⟨some 109, _, _, _, _, _⟩) (v := ?_) rfl (by kernel_rfl) (by kernel_rfl) (by kernel_rfl) (fun _ _ _ h => h) (Or.inl ⟨by rfl, ?_⟩) (by assumption) ?_
                      rotate_left
                      · (intro w' hSw; obtain ⟨k0, k1, k2, k3, k4⟩ := hcl _ hSw; go_simp; try with_reducible rfl)
                      simp only [Act.put, List.setIfInBounds_toArray, List.set_cons_zero, List.set_cons_succ]
                      refine wpAnyH_take (i := 9) (oi := ⟨some 110, _, _, _, _, _⟩) (v := ?_) rfl (by kernel_rfl) (by kernel_rfl) (by kernel_rfl) (fun _ _ _ h => h) (Or.inl ⟨by rfl, ?_⟩) (by assumption) ?_
                      rotate_left
                      · (intro w' hSw; obtain ⟨k0, k1, k2, k3, k4⟩ := hcl _ hSw; go_simp; try with_reducible rfl)
                      simp only [Act.put, List.setIfInBounds_toArray, List.set_cons_zero, List.set_cons_succ]
                      refine wpAnyH_take (i := 10) (oi := ⟨some 111, _, _, _, _, _⟩) (v := ?_) rfl (by kernel_rfl) (by kernel_rfl) (by kernel_rfl) (fun _ _ _ h => h) (Or.inl ⟨by rfl, ?_⟩) (by assumption) ?_
                      rotate_left
                      · (intro w' hSw; obtain ⟨k0, k1, k2, k3, k4⟩ := hcl _ hSw; go_simp; try with_reducible rfl)
                      simp only [Act.put, List.setIfInBounds_toArray, List.set_cons_zero, List.set_cons_succ]
                      refine wpAnyH_take (i := 11) (oi := ⟨some 112, _, _, _, _, _⟩) (v := ?_) rfl (by kernel_rfl) (by kernel_rfl) (by kernel_rfl) (fun _ _ _ h => h) (Or.inl ⟨by rfl, ?_⟩) (by assumption) ?_
                      rotate_left
                      · (intro w' hSw; obtain ⟨k0, k1, k2, k3, k4⟩ := hcl _ hSw; go_simp; try with_reducible rfl)
                      simp only [Act.put, List.setIfInBounds_toArray, List.set_cons_zero, List.set_cons_succ]
                      refine wpAnyH_take (i := 12) (oi := ⟨some 113, _, _, _, _, _⟩) (v := ?_) rfl (by kernel_rfl) (by kernel_rfl) (by kernel_rfl) (fun _ _ _ h => h) (Or.inl ⟨by rfl, ?_⟩) (by assumption) ?_
                      rotate_left
                      · (intro w' hSw; obtain ⟨k0, k1, k2, k3, k4⟩ := hcl _ hSw; go_simp; try with_reducible rfl)
                      simp only [Act.put, List.setIfInBounds_toArray, List.set_cons_zero, List.set_cons_succ]
                      refine wpAnyH_take (i := 13) (oi := ⟨some 114, _, _, _, _, _⟩) (v := ?_) rfl (by kernel_rfl) (by kernel_rfl) (by kernel_rfl) (fun _ _ _ h => h) (Or.inl ⟨by rfl, ?_⟩) (by assumption) ?_
                      rotate_left
                      · (intro w' hSw; obtain ⟨k0, k1, k2, k3, k4⟩ := hcl _ hSw; go_simp; try with_reducible rfl)
                      simp only [Act.put, List.setIfInBounds_toArray, List.set_cons_zero, List.set_cons_succ]
                      refine wpAnyH_take (i := 14) (oi := ⟨some 115, _, _, _, _, _⟩) (v := ?_) rfl (by kernel_rfl) (by kernel_rfl) (by kernel_rfl) (fun _ _ _ h => h) (Or.inl ⟨by rfl, ?_⟩) (by assumption) ?_
                      rotate_left
                      · (intro w' hSw; obtain ⟨k0, k1, k2, k3, k4⟩ := hcl _ hSw; go_simp; try with_reducible rfl)
                      simp only [Act.put, List.setIfInBounds_toArray, List.set_cons_zero, List.set_cons_succ]
                      refine wpAnyH_take (i := 15) (oi := ⟨some 116, _, _, _, _, _⟩) (v := ?_) rfl (by kernel_rfl) (by kernel_rfl) (by kernel_rfl) (fun _ _ _ h => h) (Or.inl ⟨by rfl, ?_⟩) (by assumption) ?_
                      rotate_left
                      · (intro w' hSw; obtain ⟨k0, k1, k2, k3, k4⟩ := hcl _ hSw; go_simp; try with_reducible rfl)
                      simp only [Act.put, List.setIfInBounds_toArray, List.set_cons_zero, List.set_cons_succ]
                      refine wpAnyH_take (i := 16) (oi := ⟨some 117, _, _, _, _, _⟩) (v := ?_) rfl (by kernel_rfl) (by kernel_rfl) (by kernel_rfl) (fun _ _ _ h => h) (Or.inl ⟨by rfl, ?_⟩) (by assumption) ?_
                      rotate_left
                      · (intro w' hSw; obtain ⟨k0, k1, k2, k3, k4⟩ := hcl _ hSw; go_simp; try with_reducible rfl)
                      simp only [Act.put, List.setIfInBounds_toArray, List.set_cons_zero, List.set_cons_succ]
                      refine wpAnyH_ready (rs := [17]) (by kernel_rfl) (by simp) ?_
                      refine AllReadyH.cons (o := ⟨some 118, _, _, _, _, _⟩) rfl (fun K hK => ?_) AllReadyH.nil
                      go_simp
                      go_at_call 31
                      refine (HNM _ b0).mono ?_
                      rintro e wc17 ⟨rfl, hb17⟩
                      go_wp2_with fail
                      refine hK.out _ _ (b0.trans (hb17.mono b0.size)) (fun hHeld17 => ?_)
                      clear hK K
                      try simp only [Act.put, List.setIfInBounds_toArray, List.set_cons_zero, List.set_cons_succ]
                      refine wpAnyH_take (i := 18) (oi := ⟨some 119, _, _, _, _, _⟩) (v := ?_) rfl (by kernel_rfl) (by kernel_rfl) (by kernel_rfl) (fun _ _ _ h => h) (Or.inl ⟨by rfl, ?_⟩) (by assumption) ?_
                      rotate_left
                      · (intro w' hSw; obtain ⟨k0, k1, k2, k3, k4⟩ := hcl _ hSw; go_simp; try with_reducible rfl)
                      simp only [Act.put, List.setIfInBounds_toArray, List.set_cons_zero, List.set_cons_succ]
                      refine wpAnyH_take (i := 19) (oi := ⟨some 120, _, _, _, _, _⟩) (v := ?_) rfl (by kernel_rfl) (by kernel_rfl) (by kernel_rfl) (fun _ _ _ h => h) (Or.inl ⟨by rfl, ?_⟩) (by assumption) ?_
                      rotate_left
                      · (intro w' hSw; obtain ⟨k0, k1, k2, k3, k4⟩ := hcl _ hSw; go_simp; try with_reducible rfl)
                      simp only [Act.put, List.setIfInBounds_toArray, List.set_cons_zero, List.set_cons_succ]
                      refine wpAnyH_take (i := 20) (oi := ⟨some 4, _, _, _, _, _⟩) (v := ?_) rfl (by kernel_rfl) (by kernel_rfl) (by kernel_rfl) (fun _ _ _ h => h) (Or.inl ⟨by rfl, ?_⟩) (by assumption) ?_
                      rotate_left
                      · (intro w' hSw; obtain ⟨k0, k1, k2, k3, k4⟩ := hcl _ hSw; go_simp; try with_reducible rfl)
                      simp only [Act.put, List.setIfInBounds_toArray, List.set_cons_zero, List.set_cons_succ]
                      refine wpAnyH_done (by kernel_rfl) ?_ _
                      refine NoPanic.normal ?_
                      go_wp2
                      go_ret
                      exact ⟨rfl, hend _ hHeld17⟩
                  · have e1 : ¬ c1 = root := fun h => hsl (hbin.1 h).1
                    have g1 : ((c1 : Int) == (root : Int)) = false := by rw [beq_eq_false_iff_ne]; omega
                    have g2 : (c1 == root) = false := by rw [beq_eq_false_iff_ne]; exact e1
                    have g3 : (s.toList == lf.toList) = false := by rw [beq_eq_false_iff_ne]; exact fun h => hsl (bytes_inj h)
                    clear hbin hsl e1
                    go_wp2
                    refine wp_region_noPanic ?_
                    refine wp_region_held_drew (S := Below w6.heap.size w6) (by kernel_rfl) ?_ (fun hHeld => ?_)
                    · exact b0
                    refine wpAnyH_take (i := 0) (oi := ⟨some 101, _, _, _, _, _⟩) (v := ?_) rfl (by kernel_rfl) (by kernel_rfl) (by kernel_rfl) (fun _ _ _ h => h) (Or.inl ⟨by rfl, ?_⟩) (by assumption) ?_
                    rotate_left
                    · (intro w' hSw; obtain ⟨k0, k1, k2, k3, k4⟩ := hcl _ hSw; go_simp; try with_reducible rfl)
                    simp only [Act.put, List.setIfInBounds_toArray, List.set_cons_zero, List.set_cons_succ]
                    refine wpAnyH_take (i := 1) (oi := ⟨some 102, _, _, _, _, _⟩) (v := ?_) rfl (by kernel_rfl) (by kernel_rfl) (by kernel_rfl) (fun _ _ _ h => h) (Or.inl ⟨by rfl, ?_⟩) (by assumption) ?_
                    rotate_left
                    · (intro w' hSw; obtain ⟨k0, k1, k2, k3, k4⟩ := hcl _ hSw; go_simp; try with_reducible rfl)
                    simp only [Act.put, List.setIfInBounds_toArray, List.set_cons_zero, List.set_cons_succ]
                    refine wpAnyH_take (i := 2) (oi := ⟨some 103, _, _, _, _, _⟩) (v := ?_) rfl (by kernel_rfl) (by kernel_rfl) (by kernel_rfl) (fun _ _ _ h => h) (Or.inl ⟨by rfl, ?_⟩) (by assumption) ?_
                    rotate_left
                    · (intro w' hSw; obtain ⟨k0, k1, k2, k3, k4⟩ := hcl _ hSw; go_simp; try with_reducible rfl)
                    simp only [Act.put, List.setIfInBounds_toArray, List.set_cons_zero, List.set_cons_succ]
                    refine wpAnyH_take (i := 3) (oi := ⟨some 104, _, _, _, _, _⟩) (v := ?_) rfl (by kernel_rfl) (by kernel_rfl) (by kernel_rfl) (fun _ _ _ h => h) (Or.inl ⟨by rfl, ?_⟩) (by assumption) ?_
                    rotate_left
                    · (intro w' hSw; obtain ⟨k0, k1, k2, k3, k4⟩ := hcl _ hSw; go_simp; try with_reducible rfl)
                    simp only [Act.put, List.setIfInBounds_toArray, List.set_cons_zero, List.set_cons_succ]
                    refine wpAnyH_take (i := 4) (oi := ⟨some 105, _, _, _, _, _⟩) (v := ?_) rfl (by kernel_rfl) (by kernel_rfl) (by kernel_rfl) (fun _ _ _ h => h) (Or.inl ⟨by rfl, ?_⟩) (by assumption) ?_
                    rotate_left
                    · (intro w' hSw; obtain ⟨k0, k1, k2, k3, k4⟩ := hcl _ hSw; go_simp; try with_reducible rfl)
                    simp only [Act.put, List.setIfInBounds_toArray, List.set_cons_zero, List.set_cons_succ]
                    refine wpAnyH_take (i := 5) (oi := ⟨some 106, _, _, _, _, _⟩) (v := ?_) rfl (by kernel_rfl) (by kernel_rfl) (by kernel_rfl) (fun _ _ _ h => h) (Or.inl ⟨by rfl, ?_⟩) (by assumption) ?_
                    rotate_left
                    · (intro w' hSw; obtain ⟨k0, k1, k2, k3, k4⟩ := hcl _ hSw; go_simp; try with_reducible rfl)
                    simp only [Act.put, List.setIfInBounds_toArray, List.set_cons_zero, List.set_cons_succ]
                    refine wpAnyH_take (i := 6) (oi := ⟨some 107, _, _, _, _, _⟩) (v := ?_) rfl (by kernel_rfl) (by kernel_rfl) (by kernel_rfl) (fun _ _ _ h => h) (Or.inl ⟨by rfl, ?_⟩) (by assumption) ?_
                    rotate_left
                    · (intro w' hSw; obtain ⟨k0, k1, k2, k3, k4⟩ := hcl _ hSw; go_simp; try with_reducible rfl)
                    simp only [Act.put, List.setIfInBounds_toArray, List.set_cons_zero, List.set_cons_succ]
                    refine wpAnyH_take (i := 7) (oi := ⟨some 108, _, _, _, _, _⟩) (v := ?_) rfl (by kernel_rfl) (by kernel_rfl) (by kernel_rfl) (fun _ _ _ h => h) (Or.inl ⟨by rfl, ?_⟩) (by assumption) ?_
                    rotate_left
                    · (intro w' hSw; obtain ⟨k0, k1, k2, k3, k4⟩ := hcl _ hSw; go_simp; try with_reducible rfl)
                    simp only [Act.put, List.setIfInBounds_toArray, List.set_cons_zero, List.set_cons_succ]
                    refine wpAnyH_take (i := 8) (oi := ⟨some 109, _, _, _, _, _⟩) (v := ?_) rfl (by kernel_rfl) (by kernel_rfl) (by kernel_rfl) (fun _ _ _ h => h) (Or.inl ⟨by rfl, ?_⟩) (by assumption) ?_
                    rotate_left
                    · (intro w' hSw; obtain ⟨k0, k1, k2, k3, k4⟩ := hcl _ hSw; go_simp; try with_reducible rfl)
                    simp only [Act.put, List.setIfInBounds_toArray, List.set_cons_zero, List.set_cons_succ]
                    refine wpAnyH_take (i := 9) (oi := ⟨some 110, _, _, _, _, _⟩) (v := ?_) rfl (by kernel_rfl) (by kernel_rfl) (by kernel_rfl) (fun _ _ _ h => h) (Or.inl ⟨by rfl, ?_⟩) (by assumption) ?_
                    rotate_left
                    · (intro w' hSw; obtain ⟨k0, k1, k2, k3, k4⟩ := hcl _ hSw; go_simp; try with_reducible rfl)
                    simp only [Act.put, List.setIfInBounds_toArray, List.set_cons_zero, List.set_cons_succ]
                    refine wpAnyH_take (i := 10) (oi := ⟨some 111, _, _, _, _, _⟩) (v := ?_) rfl (by kernel_rfl) (by kernel_rfl) (by kernel_rfl) (fun _ _ _ h => h) (Or.inl ⟨by rfl, ?_⟩) (by assumption) ?_
                    rotate_left
                    · (intro w' hSw; obtain ⟨k0, k1, k2, k3, k4⟩ := hcl _ hSw; go_simp; try with_reducible rfl)
                    simp only [Act.put, List.setIfInBounds_toArray, List.set_cons_zero, List.set_cons_succ]
                    refine wpAnyH_take (i := 11) (oi := ⟨some 112, _, _, _, _, _⟩) (v := ?_) rfl (by kernel_rfl) (by kernel_rfl) (by kernel_rfl) (fun _ _ _ h => h) (Or.inl ⟨by rfl, ?_⟩) (by assumption) ?_
                    rotate_left
                    · (intro w' hSw; obtain ⟨k0, k1, k2, k3, k4⟩ := hcl _ hSw; go_simp; try with_reducible rfl)
                    simp only [Act.put, List.setIfInBounds_toArray, List.set_cons_zero, List.set_cons_succ]
                    refine wpAnyH_take (i := 12) (oi := ⟨some 113, _, _, _, _, _⟩) (v := ?_) rfl (by kernel_rfl) (by kernel_rfl) (by kernel_rfl) (fun _ _ _ h => h) (Or.inl ⟨by rfl, ?_⟩) (by assumption) ?_
                    rotate_left
                    · (intro w' hSw; obtain ⟨k0, k1, k2, k3, k4⟩ := hcl _ hSw; go_simp; try with_reducible rfl)
                    simp only [Act.put, List.setIfInBounds_toArray, List.set_cons_zero, List.set_cons_succ]
                    refine wpAnyH_take (i := 13) (oi := ⟨some 114, _, _, _, _, _⟩) (v := ?_) rfl (by kernel_rfl) (by kernel_rfl) (by kernel_rfl) (fun _ _ _ h => h) (Or.inl ⟨by rfl, ?_⟩) (by assumption) ?_
                    rotate_left
                    · (intro w' hSw; obtain ⟨k0, k1, k2, k3, k4⟩ := hcl _ hSw; go_simp; try with_reducible rfl)
                    simp only [Act.put, List.setIfInBounds_toArray, List.set_cons_zero, List.set_cons_succ]
                    refine wpAnyH_take (i := 14) (oi := ⟨some 115, _, _, _, _, _⟩) (v := undef) rfl (by kernel_rfl) (by kernel_rfl) (by kernel_rfl) (fun _ _ _ h => h) (Or.inr ⟨by rfl, rfl⟩) (by assumption) ?_
                    simp only [Act.put, List.setIfInBounds_toArray, List.set_cons_zero, List.set_cons_succ]
                    refine wpAnyH_take (i := 15) (oi := ⟨some 116, _, _, _, _, _⟩) (v := undef) rfl (by kernel_rfl) (by kernel_rfl) (by kernel_rfl) (fun _ _ _ h => h) (Or.inr ⟨by rfl, rfl⟩) (by assumption) ?_
                    simp only [Act.put, List.setIfInBounds_toArray, List.set_cons_zero, List.set_cons_succ]
                    refine wpAnyH_take (i := 16) (oi := ⟨some 117, _, _, _, _, _⟩) (v := undef) rfl (by kernel_rfl) (by kernel_rfl) (by kernel_rfl) (fun _ _ _ h => h) (Or.inr ⟨by rfl, rfl⟩) (by assumption) ?_
                    simp only [Act.put, List.setIfInBounds_toArray, List.set_cons_zero, List.set_cons_succ]
                    refine wpAnyH_take (i := 17) (oi := ⟨some 118, _, _, _, _, _⟩) (v := undef) rfl (by kernel_rfl) (by kernel_rfl) (by kernel_rfl) (fun _ _ _ h => h) (Or.inr ⟨by rfl, rfl⟩) (by assumption) ?_
                    simp only [Act.put, List.setIfInBounds_toArray, List.set_cons_zero, List.set_cons_succ]
                    refine wpAnyH_take (i := 18) (oi := ⟨some 119, _, _, _, _, _⟩) (v := ?_) rfl (by kernel_rfl) (by kernel_rfl) (by kernel_rfl) (fun _ _ _ h => h) (Or.inl ⟨by rfl, ?_⟩) (by assumption) ?_
                    rotate_left
                    · (intro w' hSw; obtain ⟨k0, k1, k2, k3, k4⟩ := hcl _ hSw; go_simp; try with_reducible rfl)
                    simp only [Act.put, List.setIfInBounds_toArray, List.set_cons_zero, List.set_cons_succ]
                    refine wpAnyH_take (i := 19) (oi := ⟨some 120, _, _, _, _, _⟩) (v := ?_) rfl (by kernel_rfl) (by kernel_rfl) (by kernel_rfl) (fun _ _ _ h => h) (Or.inl ⟨by rfl, ?_⟩) (by assumption) ?_
                    rotate_left
                    · (intro w' hSw; obtain ⟨k0, k1, k2, k3, k4⟩ := hcl _ hSw; go_simp; try with_reducible rfl)
                    simp only [Act.put, List.setIfInBounds_toArray, List.set_cons_zero, List.set_cons_succ]
                    refine wpAnyH_take (i := 20) (oi := ⟨some 4, _, _, _, _, _⟩) (v := ?_) rfl (by kernel_rfl) (by kernel_rfl) (by kernel_rfl) (fun _ _ _ h => h) (Or.inl ⟨by rfl, ?_⟩) (by assumption) ?_
                    rotate_left
                    · (intro w' hSw; obtain ⟨k0, k1, k2, k3, k4⟩ := hcl _ hSw; go_simp; try with_reducible rfl)
                    simp only [Act.put, List.setIfInBounds_toArray, List.set_cons_zero, List.set_cons_succ]
                    refine wpAnyH_done (by kernel_rfl) ?_ _
                    refine NoPanic.normal ?_
                    go_wp2
                    go_ret
                    exact ⟨rfl, hend _ b0⟩
              · have hd0 : decide (0 < O3.bads) = true := decide_eq_true (by omega)
                clear hbin hb0
                have Xc0 := X.cell (j := 0) rfl
                have Xc1 := X.cell (j := 1) rfl
                have Xc2 := X.cell (j := 2) rfl
                have Yc0 := Y.cell (j := 0) rfl
                have Yc1 := Y.cell (j := 1) rfl
                have Yc2 := Y.cell (j := 2) rfl
                go_wp2
                go_ret
                exact ⟨rfl, c⟩
            · have HP := path_no (Om.tree ls d) ii (by rw [tree0]; exact fun h => hin h.2) _ _ T
              have HC := fun w' (h : Kit.Rd w' (.slice pa d pc) (nums p)) => climb_no (L := M) s ii p (fun h => hin ⟨h.2.1, by have := h.2.2; rw [Hpd.out] at this; push_cast; exact this⟩) _ w' h
              clear hin
              have HH := HP
              clear HP
              have Xc0 := X.cell (j := 0) rfl
              have Xc1 := X.cell (j := 1) rfl
              have Xc2 := X.cell (j := 2) rfl
              have Yc0 := Y.cell (j := 0) rfl
              have Yc1 := Y.cell (j := 1) rfl
              have Yc2 := Y.cell (j := 2) rfl
              go_wp2_with fail
              refine HH.mono ?_
              clear HH
              rintro x w4 ⟨rfl, b⟩
              clear Xc0 Xc1 Xc2 Yc0 Yc1 Yc2
              replace X := X.below b
              replace Y := Y.below b
              replace LV := LV.below b
              replace PV := PV.below b
              replace T := T.below b
              replace h := h.below b
              replace c := c.trans (b.mono c.size)
              clear b
              have HH := HC _ PV.rd
              clear HC
              have Xc0 := X.cell (j := 0) rfl
              have Xc1 := X.cell (j := 1) rfl
              have Xc2 := X.cell (j := 2) rfl
              have Yc0 := Y.cell (j := 0) rfl
              have Yc1 := Y.cell (j := 1) rfl
              have Yc2 := Y.cell (j := 2) rfl
              go_wp2_with fail
              refine HH.mono ?_
              clear HH
              rintro x w5 ⟨rfl, b⟩
              clear Xc0 Xc1 Xc2 Yc0 Yc1 Yc2
              replace X := X.below b
              replace Y := Y.below b
              replace LV := LV.below b
              replace PV := PV.below b
              replace T := T.below b
              replace h := h.below b
              replace c := c.trans (b.mono c.size)
              clear b
              have Xc0 := X.cell (j := 0) rfl
              have Xc1 := X.cell (j := 1) rfl
              have Xc2 := X.cell (j := 2) rfl
              have Yc0 := Y.cell (j := 0) rfl
              have Yc1 := Y.cell (j := 1) rfl
              have Yc2 := Y.cell (j := 2) rfl
              go_wp2
              go_ret
              exact ⟨rfl, c⟩
          · have g1 : ((p.length : Int) != (d : Int)) = true := by rw [bne_iff_ne]; omega
            have g2 : (p.length != d) = true := by rw [bne_iff_ne]; omega
            clear h0
            have Xc0 := X.cell (j := 0) rfl
            have Xc1 := X.cell (j := 1) rfl
            have Xc2 := X.cell (j := 2) rfl
            have Yc0 := Y.cell (j := 0) rfl
            have Yc1 := Y.cell (j := 1) rfl
            have Yc2 := Y.cell (j := 2) rfl
            go_wp2_with fail
            refine (HF _).mono ?_
            rintro x w3 ⟨rfl, b⟩
            clear Xc0 Xc1 Xc2 Yc0 Yc1 Yc2
            replace X := X.below b
            replace Y := Y.below b
            replace LV := LV.below b
            replace PV := PV.below b
            replace T := T.below b
            replace h := h.below b
            replace c := c.trans (b.mono c.size)
            clear b
            have Xc0 := X.cell (j := 0) rfl
            have Xc1 := X.cell (j := 1) rfl
            have Xc2 := X.cell (j := 2) rfl
            have Yc0 := Y.cell (j := 0) rfl
            have Yc1 := Y.cell (j := 1) rfl
            have Yc2 := Y.cell (j := 2) rfl
            go_wp2_with fail
            refine (HF _).mono ?_
            rintro x w4 ⟨rfl, b⟩
            clear Xc0 Xc1 Xc2 Yc0 Yc1 Yc2
            replace X := X.below b
            replace Y := Y.below b
            replace LV := LV.below b
            replace PV := PV.below b
            replace T := T.below b
            replace h := h.below b
            replace c := c.trans (b.mono c.size)
            clear b
            have Xc0 := X.cell (j := 0) rfl
            have Xc1 := X.cell (j := 1) rfl
            have Xc2 := X.cell (j := 2) rfl
            have Yc0 := Y.cell (j := 0) rfl
            have Yc1 := Y.cell (j := 1) rfl
            have Yc2 := Y.cell (j := 2) rfl
            go_wp2
            go_ret
            exact ⟨rfl, c⟩
        · have HB := build_no h dd hd1 hd2 ls hok _ LV.rd
          clear hok
          have HH := HB
          clear HB
          have Xc0 := X.cell (j := 0) rfl
          have Xc1 := X.cell (j := 1) rfl
          have Xc2 := X.cell (j := 2) rfl
          have Yc0 := Y.cell (j := 0) rfl
          have Yc1 := Y.cell (j := 1) rfl
          have Yc2 := Y.cell (j := 2) rfl
          go_wp2_with fail
          refine HH.mono ?_
          clear HH
          rintro x w2 ⟨rfl, b⟩
          clear Xc0 Xc1 Xc2 Yc0 Yc1 Yc2
          replace X := X.below b
          replace Y := Y.below b
          replace LV := LV.below b
          replace PV := PV.below b
          replace h := h.below b
          replace c := c.trans (b.mono c.size)
          clear b
          have Xc0 := X.cell (j := 0) rfl
          have Xc1 := X.cell (j := 1) rfl
          have Xc2 := X.cell (j := 2) rfl
          have Yc0 := Y.cell (j := 0) rfl
          have Yc1 := Y.cell (j := 1) rfl
          have Yc2 := Y.cell (j := 2) rfl
          go_wp2_with fail
          refine (HF _).mono ?_
          rintro x w3 ⟨rfl, b⟩
          clear Xc0 Xc1 Xc2 Yc0 Yc1 Yc2
          replace X := X.below b
          replace Y := Y.below b
          replace LV := LV.below b
          replace PV := PV.below b
          replace h := h.below b
          replace c := c.trans (b.mono c.size)
          clear b
          have Xc0 := X.cell (j := 0) rfl
          have Xc1 := X.cell (j := 1) rfl
          have Xc2 := X.cell (j := 2) rfl
          have Yc0 := Y.cell (j := 0) rfl
          have Yc1 := Y.cell (j := 1) rfl
          have Yc2 := Y.cell (j := 2) rfl
          go_wp2_with fail
          refine (HF _).mono ?_
          rintro x w4 ⟨rfl, b⟩
          clear Xc0 Xc1 Xc2 Yc0 Yc1 Yc2
          replace X := X.below b
          replace Y := Y.below b
          replace LV := LV.below b
          replace PV := PV.below b
          replace h := h.below b
          replace c := c.trans (b.mono c.size)
          clear b
          have Xc0 := X.cell (j := 0) rfl
          have Xc1 := X.cell (j := 1) rfl
          have Xc2 := X.cell (j := 2) rfl
          have Yc0 := Y.cell (j := 0) rfl
          have Yc1 := Y.cell (j := 1) rfl
          have Yc2 := Y.cell (j := 2) rfl
          go_wp2
          go_ret
          exact ⟨rfl, c⟩
      · obtain rfl : k = 9 := by omega
        clear hql
        by_cases hp99 : p.length = 9
        · have hd0 : decide ((9 : Int) < (p.length : Int)) = false := decide_eq_false (by omega)
          have hd3 : decide (9 < p.length) = false := decide_eq_false (by omega)
          have Hp99 := Lib.hid hp99
          clear hp99
          by_cases hok : Or.may dd ls
          · obtain ⟨d, rfl⟩ : ∃ d : Nat, dd = (d : Int) := ⟨dd.toNat, by have := hok.1; omega⟩
            have hd8 : d ≤ 8 := by have := hok.2.1; omega
            have hlsd : ls.length ≤ 2 ^ d := by have := hok.2.2; simpa using this
            have HB := build_yes h (by rw [hrows]; decide) d hd8 ls (fun t ht => leaf_fits (hls t ht)) hlsd _ LV
            have h0 := h
            clear hok h
            have Xc0 := X.cell (j := 0) rfl
            have Xc1 := X.cell (j := 1) rfl
            have Xc2 := X.cell (j := 2) rfl
            have Yc0 := Y.cell (j := 0) rfl
            have Yc1 := Y.cell (j := 1) rfl
            have Yc2 := Y.cell (j := 2) rfl
            go_wp2_with fail
            refine HB.mono ?_
            clear HB
            rintro x w2 ⟨vt, rfl, T, h, b⟩
            clear Xc0 Xc1 Xc2 Yc0 Yc1 Yc2
            replace T := tree_off h0 T
            replace X := X.but b Xo
            replace Y := Y.but b Yo
            replace LV := LV.but b
            replace PV := PV.but b
            replace c := c.trans (b.below c.size hw)
            clear b
            obtain ⟨ta0, tc, rfl, -, -⟩ := T.form
            rw [Or.tree_length] at T ⊢
            have g1 : ((p.length : Int) != (d : Int)) = true := by rw [bne_iff_ne]; omega
            have g2 : (p.length != d) = true := by rw [bne_iff_ne]; omega
            clear h0
            have Xc0 := X.cell (j := 0) rfl
            have Xc1 := X.cell (j := 1) rfl
            have Xc2 := X.cell (j := 2) rfl
            have Yc0 := Y.cell (j := 0) rfl
            have Yc1 := Y.cell (j := 1) rfl
            have Yc2 := Y.cell (j := 2) rfl
            go_wp2_with fail
            refine (HF _).mono ?_
            rintro x w3 ⟨rfl, b⟩
            clear Xc0 Xc1 Xc2 Yc0 Yc1 Yc2
            replace X := X.below b
            replace Y := Y.below b
            replace LV := LV.below b
            replace PV := PV.below b
            replace T := T.below b
            replace h := h.below b
            replace c := c.trans (b.mono c.size)
            clear b
            have Xc0 := X.cell (j := 0) rfl
            have Xc1 := X.cell (j := 1) rfl
            have Xc2 := X.cell (j := 2) rfl
            have Yc0 := Y.cell (j := 0) rfl
            have Yc1 := Y.cell (j := 1) rfl
            have Yc2 := Y.cell (j := 2) rfl
            go_wp2_with fail
            refine (HF _).mono ?_
            rintro x w4 ⟨rfl, b⟩
            clear Xc0 Xc1 Xc2 Yc0 Yc1 Yc2
            replace X := X.below b
            replace Y := Y.below b
            replace LV := LV.below b
            replace PV := PV.below b
            replace T := T.below b
            replace h := h.below b
            replace c := c.trans (b.mono c.size)
            clear b
            have Xc0 := X.cell (j := 0) rfl
            have Xc1 := X.cell (j := 1) rfl
            have Xc2 := X.cell (j := 2) rfl
            have Yc0 := Y.cell (j := 0) rfl
            have Yc1 := Y.cell (j := 1) rfl
            have Yc2 := Y.cell (j := 2) rfl
            go_wp2
            go_ret
            exact ⟨rfl, c⟩
          · have HB := build_no h dd hd1 hd2 ls hok _ LV.rd
            clear hok
            have HH := HB
            clear HB
            have Xc0 := X.cell (j := 0) rfl
            have Xc1 := X.cell (j := 1) rfl
            have Xc2 := X.cell (j := 2) rfl
            have Yc0 := Y.cell (j := 0) rfl
            have Yc1 := Y.cell (j := 1) rfl
            have Yc2 := Y.cell (j := 2) rfl
            go_wp2_with fail
            refine HH.mono ?_
            clear HH
            rintro x w2 ⟨rfl, b⟩
            clear Xc0 Xc1 Xc2 Yc0 Yc1 Yc2
            replace X := X.below b
            replace Y := Y.below b
            replace LV := LV.below b
            replace PV := PV.below b
            replace h := h.below b
            replace c := c.trans (b.mono c.size)
            clear b
            have Xc0 := X.cell (j := 0) rfl
            have Xc1 := X.cell (j := 1) rfl
            have Xc2 := X.cell (j := 2) rfl
            have Yc0 := Y.cell (j := 0) rfl
            have Yc1 := Y.cell (j := 1) rfl
            have Yc2 := Y.cell (j := 2) rfl
            go_wp2_with fail
            refine (HF _).mono ?_
            rintro x w3 ⟨rfl, b⟩
            clear Xc0 Xc1 Xc2 Yc0 Yc1 Yc2
            replace X := X.below b
            replace Y := Y.below b
            replace LV := LV.below b
            replace PV := PV.below b
            replace h := h.below b
            replace c := c.trans (b.mono c.size)
            clear b
            have Xc0 := X.cell (j := 0) rfl
            have Xc1 := X.cell (j := 1) rfl
            have Xc2 := X.cell (j := 2) rfl
            have Yc0 := Y.cell (j := 0) rfl
            have Yc1 := Y.cell (j := 1) rfl
            have Yc2 := Y.cell (j := 2) rfl
            go_wp2_with fail
            refine (HF _).mono ?_
            rintro x w4 ⟨rfl, b⟩
            clear Xc0 Xc1 Xc2 Yc0 Yc1 Yc2
            replace X := X.below b
            replace Y := Y.below b
            replace LV := LV.below b
            replace PV := PV.below b
            replace h := h.below b
            replace c := c.trans (b.mono c.size)
            clear b
            have Xc0 := X.cell (j := 0) rfl
            have Xc1 := X.cell (j := 1) rfl
            have Xc2 := X.cell (j := 2) rfl
            have Yc0 := Y.cell (j := 0) rfl
            have Yc1 := Y.cell (j := 1) rfl
            have Yc2 := Y.cell (j := 2) rfl
            go_wp2
            go_ret
            exact ⟨rfl, c⟩
        · have hd0 : (9 : Int) < (p.length : Int) := by omega
          have hd3 : 9 < p.length := by omega
          clear hp99
          by_cases hok : Or.may dd ls
          · obtain ⟨d, rfl⟩ : ∃ d : Nat, dd = (d : Int) := ⟨dd.toNat, by have := hok.1; omega⟩
            have hd8 : d ≤ 8 := by have := hok.2.1; omega
            have hlsd : ls.length ≤ 2 ^ d := by have := hok.2.2; simpa using this
            have HB := build_yes h (by rw [hrows]; decide) d hd8 ls (fun t ht => leaf_fits (hls t ht)) hlsd _ LV
            have h0 := h
            clear hok h
            have Xc0 := X.cell (j := 0) rfl
            have Xc1 := X.cell (j := 1) rfl
            have Xc2 := X.cell (j := 2) rfl
            have Yc0 := Y.cell (j := 0) rfl
            have Yc1 := Y.cell (j := 1) rfl
            have Yc2 := Y.cell (j := 2) rfl
            go_wp2_with fail
            refine HB.mono ?_
            clear HB
            rintro x w2 ⟨vt, rfl, T, h, b⟩
            clear Xc0 Xc1 Xc2 Yc0 Yc1 Yc2
            replace T := tree_off h0 T
            replace X := X.but b Xo
            replace Y := Y.but b Yo
            replace LV := LV.but b
            replace PV := PV.but b
            replace c := c.trans (b.below c.size hw)
            clear b
            obtain ⟨ta0, tc, rfl, -, -⟩ := T.form
            rw [Or.tree_length] at T ⊢
            have g1 : ((p.length : Int) != (d : Int)) = true := by rw [bne_iff_ne]; omega
            have g2 : (p.length != d) = true := by rw [bne_iff_ne]; omega
            clear h0
            have Xc0 := X.cell (j := 0) rfl
            have Xc1 := X.cell (j := 1) rfl
            have Xc2 := X.cell (j := 2) rfl
            have Yc0 := Y.cell (j := 0) rfl
            have Yc1 := Y.cell (j := 1) rfl
            have Yc2 := Y.cell (j := 2) rfl
            go_wp2_with fail
            refine (HF _).mono ?_
            rintro x w3 ⟨rfl, b⟩
            clear Xc0 Xc1 Xc2 Yc0 Yc1 Yc2
            replace X := X.below b
            replace Y := Y.below b
            replace LV := LV.below b
            replace PV := PV.below b
            replace T := T.below b
            replace h := h.below b
            replace c := c.trans (b.mono c.size)
            clear b
            have Xc0 := X.cell (j := 0) rfl
            have Xc1 := X.cell (j := 1) rfl
            have Xc2 := X.cell (j := 2) rfl
            have Yc0 := Y.cell (j := 0) rfl
            have Yc1 := Y.cell (j := 1) rfl
            have Yc2 := Y.cell (j := 2) rfl
            go_wp2_with fail
            refine (HF _).mono ?_
            rintro x w4 ⟨rfl, b⟩
            clear Xc0 Xc1 Xc2 Yc0 Yc1 Yc2
            replace X := X.below b
            replace Y := Y.below b
            replace LV := LV.below b
            replace PV := PV.below b
            replace T := T.below b
            replace h := h.below b
            replace c := c.trans (b.mono c.size)
            clear b
            have Xc0 := X.cell (j := 0) rfl
            have Xc1 := X.cell (j := 1) rfl
            have Xc2 := X.cell (j := 2) rfl
            have Yc0 := Y.cell (j := 0) rfl
            have Yc1 := Y.cell (j := 1) rfl
            have Yc2 := Y.cell (j := 2) rfl
            go_wp2
            go_ret
            exact ⟨rfl, c⟩
          · have HB := build_no h dd hd1 hd2 ls hok _ LV.rd
            clear hok
            have HH := HB
            clear HB
            have Xc0 := X.cell (j := 0) rfl
            have Xc1 := X.cell (j := 1) rfl
            have Xc2 := X.cell (j := 2) rfl
            have Yc0 := Y.cell (j := 0) rfl
            have Yc1 := Y.cell (j := 1) rfl
            have Yc2 := Y.cell (j := 2) rfl
            go_wp2_with fail
            refine HH.mono ?_
            clear HH
            rintro x w2 ⟨rfl, b⟩
            clear Xc0 Xc1 Xc2 Yc0 Yc1 Yc2
            replace X := X.below b
            replace Y := Y.below b
            replace LV := LV.below b
            replace PV := PV.below b
            replace h := h.below b
            replace c := c.trans (b.mono c.size)
            clear b
            have Xc0 := X.cell (j := 0) rfl
            have Xc1 := X.cell (j := 1) rfl
            have Xc2 := X.cell (j := 2) rfl
            have Yc0 := Y.cell (j := 0) rfl
            have Yc1 := Y.cell (j := 1) rfl
            have Yc2 := Y.cell (j := 2) rfl
            go_wp2_with fail
            refine (HF _).mono ?_
            rintro x w3 ⟨rfl, b⟩
            clear Xc0 Xc1 Xc2 Yc0 Yc1 Yc2
            replace X := X.below b
            replace Y := Y.below b
            replace LV := LV.below b
            replace PV := PV.below b
            replace h := h.below b
            replace c := c.trans (b.mono c.size)
            clear b
            have Xc0 := X.cell (j := 0) rfl
            have Xc1 := X.cell (j := 1) rfl
            have Xc2 := X.cell (j := 2) rfl
            have Yc0 := Y.cell (j := 0) rfl
            have Yc1 := Y.cell (j := 1) rfl
            have Yc2 := Y.cell (j := 2) rfl
            go_wp2_with fail
            refine (HF _).mono ?_
            rintro x w4 ⟨rfl, b⟩
            clear Xc0 Xc1 Xc2 Yc0 Yc1 Yc2
            replace X := X.below b
            replace Y := Y.below b
            replace LV := LV.below b
            replace PV := PV.below b
            replace h := h.below b
            replace c := c.trans (b.mono c.size)
            clear b
            have Xc0 := X.cell (j := 0) rfl
            have Xc1 := X.cell (j := 1) rfl
            have Xc2 := X.cell (j := 2) rfl
            have Yc0 := Y.cell (j := 0) rfl
            have Yc1 := Y.cell (j := 1) rfl
            have Yc2 := Y.cell (j := 2) rfl
            go_wp2
            go_ret
            exact ⟨rfl, c⟩
end Go.Proofs.Ytllbcnficlbobaa.Binds6
