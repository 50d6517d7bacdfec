/-
  MerkleShown: if nothing bad happened, what an enemy shows behind the tree, be it values of the tree at other places, leads to the root only as the leaf at its place, with its path: the walk.
-/
import Derived.Test.YtllbcnficlbobaaMerQ
import Derived.Test.YtllbcnficlbobaaMerO
namespace Go.Proofs.Ytllbcnficlbobaa.Shown6
open Go.RowKit Go.ChangeShapes Go.WideShapes Go.ChangeAt
open Ideal Ida Mer Mera

theorem nums_app (a b : List Nat) : nums (a ++ b) = nums a ++ nums b := by simp [nums]
theorem sl_off {S : Nat → Prop} {w : World} {v : Value} {xs : List Value} (h : Kit.Off S w v xs) (hx : xs ≠ []) : Kit.Sl w v xs := by
  obtain ⟨a, cap, rfl, -, h⟩ := h
  obtain ⟨ad, rfl, -, hc⟩ := h.resolve_left hx
  exact .inr ⟨ad, cap, rfl, hc⟩
theorem getD_list {t : List (List Nat)} {k : Nat} (h : k < t.length) : t.getD k [] = t[k] := by simp [h]
theorem cat_len {t : List (List Nat)} (hs : shaped t = true) : ∀ k, k ≤ t.length → ((t.take k).flatten).length ≤ 256 * k
  | 0, _ => by simp
  | k + 1, hk => by
    have ih := cat_len hs k (by omega)
    obtain ⟨h1, h2, h3⟩ := shaped_iff.1 hs
    have h4 := h3 k (by omega)
    have h5 : 2 ^ (t.length - 1 - k) ≤ 256 := Or.pow_le (by omega)
    rw [getD_list (by omega)] at h4
    rw [List.take_succ_eq_append_getElem (by omega), List.flatten_append, List.length_append]
    simp only [List.flatten_cons, List.flatten_nil, List.append_nil]
    omega
theorem cat_succ {t : List (List Nat)} {k : Nat} (hk : k < t.length) : (t.take (k + 1)).flatten = (t.take k).flatten ++ t.getD k [] := by
  rw [getD_list hk, List.take_succ_eq_append_getElem hk, List.flatten_append]
  simp
theorem cat_pos {t : List (List Nat)} (hs : shaped t = true) : 1 ≤ (t.flatten).length := by
  obtain ⟨h1, h2, h3⟩ := shaped_iff.1 hs
  have h4 := h3 0 (by omega)
  have h5 : 1 ≤ 2 ^ (t.length - 1 - 0) := Nat.one_le_two_pow
  cases t with
  | nil => simp at h1
  | cons a t =>
    simp at h4
    simp
    have := Nat.one_le_two_pow (n := t.length)
    omega
theorem made {B : Nat} {w w' : World} (_ : Below B w w') : (w'.alloc (.cells #[] 42)).ownsRow w'.heap.size 42 1 (.slice (some ⟨w'.heap.size, 0, none⟩) 0 0) 0 [] ∧ Below w'.heap.size w' (w'.alloc (.cells #[] 42)) :=
  ⟨World.ownsRow_made w' #[] 0 (Nat.le_refl _) (by unfold maxLen; omega) rfl, (Below.refl w'.heap.size w').alloc (Nat.le_refl _) (.cells #[] 42)⟩
theorem pick_lt {z : Int} {n : Nat} (h1 : 1 ≤ n) : ∃ j : Nat, (z.tmod n + n).tmod n = (j : Int) ∧ j < n ∧ -(n : Int) < z.tmod n ∧ z.tmod n < n := by
  have h2 : z.tmod n < n := Int.tmod_lt_of_pos z (by omega)
  have h3 : -(n : Int) < z.tmod n := by
    have := Int.neg_tmod (a := z) (b := (n : Int))
    have h4 : (-z).tmod n < n := Int.tmod_lt_of_pos (-z) (by omega)
    omega
  have h5 : 0 ≤ (z.tmod n + n).tmod n := Int.tmod_nonneg _ (by omega)
  have h6 : (z.tmod n + n).tmod n < n := Int.tmod_lt_of_pos _ (by omega)
  exact ⟨((z.tmod n + n).tmod n).toNat, by omega, by omega, h3, h2⟩

set_option maxRecDepth 100000 in
set_option maxHeartbeats 16000000 in
theorem shown_any (l : List Nat) (hl : l.length * 8 ≤ 140737488355328) (hx : ∀ x ∈ l, x < 18446744073709551616) (dd : Int) (hd1 : -9223372036854775808 ≤ dd) (hd2 : dd ≤ 9223372036854775807) (ls : List ByteArray) (hls : ∀ t ∈ ls, t.size ≤ 140737488351232) (ii : Int) (hi1 : -9223372036854775808 ≤ ii) (hi2 : ii ≤ 9223372036854775807) (s : ByteArray) (hs : s.size ≤ 140737488351232) (qs : List Int) (hqs : ∀ z ∈ qs, -9223372036854775808 ≤ z ∧ z ≤ 9223372036854775807) (dv lv pv qv : Value) (w : World) (rl : Kit.Sl w dv (nums l)) (ol : Kit.Off (fun _ => False) w lv (strs ls)) (oq : Kit.Off (fun _ => False) w qv (Mero.ints qs)) :
    Calls Try.prog 6 #[.agg #[dv, .int .i64 dd, lv], .agg #[.int .i64 ii, .string s, pv], qv] w fun e W' => e = .returned (.bool true) ∧ Below w.heap.size w W' := by
  obtain ⟨la, lc, rfl, -, hlm⟩ := ol.form
  obtain ⟨qa, qc, rfl, -, hqm⟩ := oq.form
  obtain ⟨i0, hi0, hz0, hz1, hz2⟩ := info_parts infoU64
  rw [show (strs ls).length = ls.length by simp [strs]] at ol ⊢
  rw [show (Mero.ints qs).length = qs.length by simp [Mero.ints]] at oq ⊢
  have X := (Box.new w #[dv, .int .i64 dd, .slice la ls.length lc] 25).alloc (.cells #[.int .i64 ii, .string s, pv] 39)
  have Y := Box.new (w.alloc (.cells #[dv, .int .i64 dd, .slice la ls.length lc] 25)) #[.int .i64 ii, .string s, pv] 39
  have c0 := below_lit w (.cells #[dv, .int .i64 dd, .slice la ls.length lc] 25)
  have c := c0.trans ((below_lit (w.alloc (.cells #[dv, .int .i64 dd, .slice la ls.length lc] 25)) (.cells #[.int .i64 ii, .string s, pv] 39)).mono c0.size)
  rw [World.size_alloc] at Y
  have HN := new_any l hl hx dv _ (rl.below c)
  have HF := fixed_any
  clear rl c0 hlm hqm hx hl
  go_enter Try.func6, Try.ntmps6
  have Xc0 := X.cell (j := 0) rfl
  have Xc1 := X.cell (j := 1) rfl
  have Xc2 := X.cell (j := 2) rfl
  have Yc0 := Y.cell (j := 0) rfl
  have Yc1 := Y.cell (j := 1) rfl
  have Yc2 := Y.cell (j := 2) rfl
  go_wp2_with fail
  refine HN.mono ?_
  rintro x w1 ⟨M, rfl, h, hin, b⟩
  clear HN
  clear Xc0 Xc1 Xc2 Yc0 Yc1 Yc2
  have Xo : ¬ M.own w.heap.size := fun ho => by have := (hin.own _ ho).1; simp at this; omega
  have Yo : ¬ M.own (w.heap.size + 1) := fun ho => by have := (hin.own _ ho).1; simp at this; omega
  have hw : ∀ i, M.own i → w.heap.size ≤ i := fun i hi => by have := (hin.own i hi).1; simp at this; omega
  have LV := arg_off ol hw c
  have QV := arg_off oq hw c
  clear hin ol oq
  replace X := X.below b
  replace Y := Y.below b
  replace LV := LV.below b
  replace QV := QV.below b
  replace c := c.trans (b.mono c.size)
  clear b
  have hrows : (Or.new l).rows = [] := rfl
  have hinv := Or.inv_new l
  generalize Or.new l = Om at *
  by_cases hok : Or.may dd ls
  · obtain ⟨d, rfl⟩ : ∃ d : Nat, dd = (d : Int) := ⟨dd.toNat, by have := hok.1; omega⟩
    have hd8 : d ≤ 8 := by have := hok.2.1; omega
    have hlsd : ls.length ≤ 2 ^ d := by have := hok.2.2; simpa using this
    have HB := build_yes h (by rw [hrows]; decide) d hd8 ls (fun t ht => leaf_fits (hls t ht)) hlsd _ LV
    have h0 := h
    have hfO := h.2
    clear hok h
    have Xc0 := X.cell (j := 0) rfl
    have Xc1 := X.cell (j := 1) rfl
    have Xc2 := X.cell (j := 2) rfl
    have Yc0 := Y.cell (j := 0) rfl
    have Yc1 := Y.cell (j := 1) rfl
    have Yc2 := Y.cell (j := 2) rfl
    go_wp2_with fail
    refine HB.mono ?_
    clear HB
    rintro x w2 ⟨vt, rfl, T, h, b⟩
    clear Xc0 Xc1 Xc2 Yc0 Yc1 Yc2
    replace T := tree_off h0 T
    clear h0
    replace X := X.but b Xo
    replace Y := Y.but b Yo
    replace LV := LV.but b
    replace QV := QV.but b
    replace c := c.trans (b.below c.size hw)
    clear b
    obtain ⟨ta0, tc, rfl, -, -⟩ := T.form
    rw [Or.tree_length] at T ⊢
    have Xc0 := X.cell (j := 0) rfl
    have Xc1 := X.cell (j := 1) rfl
    have Xc2 := X.cell (j := 2) rfl
    have Yc0 := Y.cell (j := 0) rfl
    have Yc1 := Y.cell (j := 1) rfl
    have Yc2 := Y.cell (j := 2) rfl
    go_wp2_with fail
    refine (HF _).mono ?_
    rintro x w3 ⟨rfl, b⟩
    clear Xc0 Xc1 Xc2 Yc0 Yc1 Yc2
    replace X := X.below b
    replace Y := Y.below b
    replace LV := LV.below b
    replace QV := QV.below b
    replace T := T.below b
    replace h := h.below b
    replace c := c.trans (b.mono c.size)
    clear b
    have hlow : ∀ i, M.own i → i < w3.heap.size := fun i hi => h.lt hi
    have hsh := Or.tree_shaped (O := Om) ls hd8
    have htl : (Om.tree ls d).length = d + 1 := Or.tree_length _ _
    have hbx : ∀ x ∈ (Om.tree ls d).flatten, x < 18446744073709551616 := fun x hx => by
      obtain ⟨y, hy, hxy⟩ := List.mem_flatten.1 hx
      obtain ⟨j, hj, rfl⟩ := List.getElem_of_mem hy
      exact built_fine hfO ls hd8 (by rw [hrows]; decide) j x (by rw [getD_list hj]; exact hxy)
    have hcl9 := cat_len hsh
    have hcp := cat_pos hsh
    have hcs := @cat_succ (Om.tree ls d)
    have hct : ((Om.tree ls d).take (d + 1)).flatten = (Om.tree ls d).flatten := by rw [List.take_of_length_le (by omega)]
    rw [htl] at hcl9
    obtain ⟨cat, hcat⟩ : ∃ cat : Nat → List Nat, cat = fun k => ((Om.tree ls d).take k).flatten := ⟨_, rfl⟩
    have hc0 : cat 0 = [] := by rw [hcat]; rfl
    replace hcs : ∀ k, k < d + 1 → cat (k + 1) = cat k ++ (Om.tree ls d).getD k [] := fun k hk => by rw [hcat]; exact hcs (by omega)
    replace hcl9 : ∀ k, k ≤ d + 1 → (cat k).length ≤ 256 * k := fun k hk => by rw [hcat]; exact hcl9 k hk
    replace hct : cat (d + 1) = (Om.tree ls d).flatten := by rw [hcat]; exact hct
    rw [← hct] at hbx hcp
    clear hcat hct hsh
    have hrow0 : (w3.alloc (.cells #[] 42)).ownsRow w3.heap.size 42 1 (.slice (some ⟨w3.heap.size, 0, none⟩) 0 0) 0 [] := World.ownsRow_made w3 #[] 0 (Nat.le_refl _) (by unfold maxLen; omega) rfl
    have d1 : Below w3.heap.size w3 (w3.alloc (.cells #[] 42)) := (Below.refl w3.heap.size w3).alloc (Nat.le_refl _) (.cells #[] 42)
    have HX := Lib.hid hbx
    have HCS := Lib.hid hcs
    have HC0 := Lib.hid hc0
    have HCP := Lib.hid hcp
    have HTL := Lib.hid htl
    have HR := Lib.hid hrows
    have HCL := Lib.hid hcl9
    have Hd8 := Lib.hid hd8
    clear hbx hcs hc0 hcp htl hcl9 hlsd
    clear hrows hd8
    have Xc0 := X.cell (j := 0) rfl
    have Xc1 := X.cell (j := 1) rfl
    have Xc2 := X.cell (j := 2) rfl
    have Yc0 := Y.cell (j := 0) rfl
    have Yc1 := Y.cell (j := 1) rfl
    have Yc2 := Y.cell (j := 2) rfl
    go_wp2
    clear Xc0 Xc1 Xc2 Yc0 Yc1 Yc2
    go_loopw [10, 11] (fun va vi wr => ∃ k : Nat, k ≤ d + 1 ∧ vi = .int .i64 (k : Int) ∧ wr.ownsRow w3.heap.size 42 1 va (cat k).length (nums (cat k)) ∧ Below w3.heap.size w3 wr) (fun _ vi _ => d + 1 - (intOf vi).toNat)
    case atStart => exact ⟨0, Nat.zero_le _, rfl, by rw [HC0.out]; exact hrow0, d1⟩
    case round =>
      clear hrow0 d1
      obtain ⟨k, hk, rfl, hrow, d1⟩ := hrel
      by_cases hlt : k < d + 1
      · have hlt2 : (k : Int) < (d : Int) + 1 := by omega
        have h0 : (0 : Int) ≤ (k : Int) := by omega
        obtain ⟨ad2, la2, lc2, e2, hc, -, ho⟩ := (T.below d1).at_ (k := k) (by rw [HTL.out]; exact hlt)
        subst e2
        have hcs := HCS.out k hlt
        have hle := HCL.out (k + 1) (by omega)
        rw [hcs, List.length_append] at hle
        have hln : (nums ((Om.tree ls d).getD k [])).length = ((Om.tree ls d).getD k []).length := nums_len _
        have hd8 := Hd8.out
        have hm : maxLen = 9223372036854775807 := rfl
        have hl1 : (cat k).length + (nums ((Om.tree ls d).getD k [])).length ≤ maxLen := by rw [hln, hm]; omega
        have hl2 : ((cat k).length + (nums ((Om.tree ls d).getD k [])).length) * 8 ≤ 140737488355328 := by rw [hln]; omega
        have hone : ∀ u ∈ nums ((Om.tree ls d).getD k []), u.oneCell' = true := nums_one _
        have Hcs := Lib.hid hcs
        have Hln := Lib.hid hln
        have hk512 : k < 512 := by omega
        clear hcs hle hm hln
        clear hd8
        have hne : nums ((Om.tree ls d).getD k []) ≠ [] := fun e => by
          have h2 : ((Om.tree ls d).getD k []).length = 0 := by rw [← Hln.out, e]; rfl
          rw [Or.tree_at (by omega), Or.lv_length _ _ _ (by omega)] at h2
          have := Nat.one_le_two_pow (n := d - k)
          omega
        obtain ⟨lvl, hlvl⟩ : ∃ lvl, lvl = (Om.tree ls d).getD k [] := ⟨_, rfl⟩
        rw [← hlvl] at hne Hcs Hln hl1 hl2 hone ho hc
        clear hlvl
        have hsl := sl_off ho hne
        obtain ⟨av, cv, rfl⟩ := Kit.own_form hrow
        have hz := d1.size
        go_wp2_with (at_builtin; refine Kit.wpList_append_sl rfl _ _ 22 rfl w3.heap.size 42 i0 (.int .u64 0) 8 Try.underlying22 hi0 hz0 hz1 hz2 rfl _ _ _ rfl hrow _ (nums lvl) rfl hsl hone hl1 hl2 hz ?_)
        intro v' w3 hrow3 g3
        have d3 := d1.grown g3 d1.size (fun j hj => (hrow.lt j hj).1)
        go_wp2
        go_roundw
        case rel => exact ⟨k + 1, hlt, by go_num, by rw [Hcs.out, nums_app, List.length_append, ← Hln.out]; exact hrow3, d3⟩
        case measure => simp [intOf]; omega
      · have hkd : k = d + 1 := by omega
        have hd0 : decide ((k : Int) < (d : Int) + 1) = false := by rw [decide_eq_false_iff_not]; omega
        have hcp := HCP.out
        have hx2 := HX.out
        have hcl := HCL.out (d + 1) (Nat.le_refl _)
        have hd8 := Hd8.out
        rw [← hkd] at hcp hx2 hcl
        have hk9 : k ≤ 9 := by omega
        have HX2 := Lib.hid hx2
        clear HCP HX HCS HC0 HCL HTL Hd8 hkd hk hlt hx2
        generalize cat k = all at *
        obtain ⟨n, hn⟩ : ∃ n, n = all.length := ⟨_, rfl⟩
        rw [← hn] at hrow hcp hcl
        have Hn := Lib.hid hn
        clear hn
        obtain ⟨av, cv, rfl⟩ := Kit.own_form hrow
        have hn4k : n ≤ 4096 := by omega
        clear hcl
        obtain ⟨hrow1, d2⟩ := made d1
        replace X := X.below d1
        replace Y := Y.below d1
        replace LV := LV.below d1
        replace QV := QV.below d1
        replace T := T.below d1
        replace h := h.below d1
        replace c := c.trans (d1.mono c.size)
        clear d1
        have AV : Kit.Off M.own _ _ (nums all) := Kit.Off.of_own hrow hlow
        obtain ⟨wm, hwm⟩ : ∃ x : World, x = wr := ⟨_, rfl⟩
        subst hwm
        have hlow2 : ∀ i, M.own i → i < wm.heap.size := fun i hi => h.lt hi
        clear hlow hrow
        have Xc0 := X.cell (j := 0) rfl
        have Xc1 := X.cell (j := 1) rfl
        have Xc2 := X.cell (j := 2) rfl
        have Yc0 := Y.cell (j := 0) rfl
        have Yc1 := Y.cell (j := 1) rfl
        have Yc2 := Y.cell (j := 2) rfl
        go_wp2
        clear Xc0 Xc1 Xc2 Yc0 Yc1 Yc2
        go_loopw [12, 13] (fun vq vi wz => ∃ (k : Nat) (q : List Nat), k ≤ d ∧ q.length = k ∧ (∀ x ∈ q, x < 18446744073709551616) ∧ vi = .int .i64 (k : Int) ∧ wz.ownsRow wm.heap.size 42 1 vq k (nums q) ∧ Below wm.heap.size wm wz) (fun _ vi _ => d - (intOf vi).toNat)
        case atStart => exact ⟨0, [], Nat.zero_le _, rfl, by simp, rfl, hrow1, d2⟩
        case round =>
          clear hrow1 d2
          obtain ⟨k, q, hk, hql, hqx, rfl, hrow, d2⟩ := hrel
          by_cases hlt : k < d
          · have hlt2 : (k : Int) < (d : Int) := by omega
            have h0 : (0 : Int) ≤ (k : Int) := by omega
            have hk512 : k < 512 := by omega
            have X := X.below d2
            have Xc1 := X.cell (j := 1) rfl
            have hm : maxLen = 9223372036854775807 := rfl
            have hl1 : k + 1 ≤ maxLen := by omega
            have hl2 : (k + 1) * 8 ≤ 140737488355328 := by omega
            have hz := d2.size
            have QV := QV.below d2
            have AV := AV.below d2
            have Hql := Lib.hid hql
            have Hqx := Lib.hid hqx
            have hn0 : (0 : Int) < (n : Int) := by omega
            clear hm hql hqx
            by_cases hq : k < qs.length
            · have hq2 : (k : Int) < (qs.length : Int) := by omega
              obtain ⟨z, hze⟩ : ∃ z, z = qs[k] := ⟨_, rfl⟩
              obtain ⟨aq, rfl, hcq⟩ := QV.at_ (k := k) (u := .int .i64 z) (by rw [hze]; simp [Mero.ints, hq])
              have hzb := hqs _ (List.getElem_mem hq)
              rw [← hze] at hzb
              clear hze
              obtain ⟨j, hj1, hj2, hj3, hj4⟩ := pick_lt (z := z) hcp
              have hj5 : j < all.length := by rw [← Hn.out]; exact hj2
              obtain ⟨ad, rfl, hcx⟩ := AV.at_ (nums_at hj5)
              have hxx : all.getD j 0 < 18446744073709551616 := HX2.out _ (by rw [getD_at hj5]; exact List.getElem_mem _)
              generalize all.getD j 0 = x at *
              have Hxx := Lib.hid hxx
              have hj6 : (0 : Int) ≤ (j : Int) := by omega
              have hj7 : (j : Int) < (n : Int) := by omega
              clear hxx hj5
              obtain ⟨qva, qvc, rfl⟩ := Kit.own_form hrow
              go_wp2_with (at_builtin; refine Kit.wpList_append_one rfl _ _ 22 rfl wm.heap.size 42 i0 (.int .u64 0) 8 Try.underlying22 hi0 hz0 hz1 hz2 rfl _ _ _ rfl hrow (.int .u64 (x : Int)) 42 rfl rfl hl1 hl2 hz ?_)
              intro v' w3 hrow3 b3 _
              have d3 := d2.trans b3
              go_wp2
              go_roundw
              case rel => exact ⟨k + 1, q ++ [x], hlt, by rw [List.length_append, Hql.out]; rfl, fun y hy => (List.mem_append.1 hy).elim (fun hy => Hqx.out y hy) (fun hy => by rw [List.mem_singleton.1 hy]; exact Hxx.out), by go_num, by rw [nums_snoc1]; exact hrow3, d3⟩
              case measure => simp [intOf]; omega
            · have hq2 : decide ((k : Int) < (qs.length : Int)) = false := by rw [decide_eq_false_iff_not]; omega
              obtain ⟨j, hj0⟩ : ∃ j : Nat, j = 0 := ⟨_, rfl⟩
              have hj2 : j < n := by omega
              have hj5 : j < all.length := by rw [← Hn.out]; exact hj2
              obtain ⟨ad, rfl, hcx⟩ := AV.at_ (nums_at hj5)
              have hxx : all.getD j 0 < 18446744073709551616 := HX2.out _ (by rw [getD_at hj5]; exact List.getElem_mem _)
              generalize all.getD j 0 = x at *
              have Hxx := Lib.hid hxx
              have hj6 : (0 : Int) ≤ (j : Int) := by omega
              have hj7 : (j : Int) < (n : Int) := by omega
              clear hxx hj5
              subst hj0
              rw [add_zero'] at hcx
              clear hj2 hj6 hj7
              obtain ⟨qva, qvc, rfl⟩ := Kit.own_form hrow
              go_wp2_with (at_builtin; refine Kit.wpList_append_one rfl _ _ 22 rfl wm.heap.size 42 i0 (.int .u64 0) 8 Try.underlying22 hi0 hz0 hz1 hz2 rfl _ _ _ rfl hrow (.int .u64 (x : Int)) 42 rfl rfl hl1 hl2 hz ?_)
              intro v' w3 hrow3 b3 _
              have d3 := d2.trans b3
              go_wp2
              go_roundw
              case rel => exact ⟨k + 1, q ++ [x], hlt, by rw [List.length_append, Hql.out]; rfl, fun y hy => (List.mem_append.1 hy).elim (fun hy => Hqx.out y hy) (fun hy => by rw [List.mem_singleton.1 hy]; exact Hxx.out), by go_num, by rw [nums_snoc1]; exact hrow3, d3⟩
              case measure => simp [intOf]; omega
          · obtain rfl : d = k := by omega
            have hd0 : decide ((d : Int) < (d : Int)) = false := by rw [decide_eq_false_iff_not]; omega
            obtain ⟨pa, pc, rfl⟩ := Kit.own_form hrow
            have PV : Kit.Off M.own _ _ (nums q) := Kit.Off.of_own hrow hlow2
            clear hrow AV hlow2 hk hlt
            replace X := X.below d2
            replace Y := Y.below d2
            replace LV := LV.below d2
            replace QV := QV.below d2
            replace T := T.below d2
            replace h := h.below d2
            replace c := c.trans (d2.mono c.size)
            clear d2
            have hrows := HR.out
            have Hpd := Lib.hid hql
            have hpx := hqx
            clear hql hqx HR hcp HX2 Hn
            obtain ⟨p, hpq⟩ : ∃ p, p = q := ⟨_, rfl⟩
            subst hpq
            by_cases hin : 0 ≤ ii ∧ ii < ((2 ^ d : Nat) : Int)
            · obtain ⟨i, rfl⟩ : ∃ i : Nat, ii = (i : Int) := ⟨ii.toNat, by omega⟩
              have hip : i < 2 ^ d := by have := hin.2; omega
              have hfw := Or.lv_few (O := Om) ls hd8 (Nat.le_refl d)
              have hr0 : Om.rows.length = 0 := by rw [hrows]; rfl
              have hfw2 : (Om.built ls d).rows.length ≤ 512 := Nat.le_trans (show (Om.built ls d).rows.length ≤ Om.rows.length + 512 from hfw) (by omega)
              have HH := path_yes (Om.tree ls d) (Or.tree_shaped ls hd8) i (by rw [tree0]; exact hip) _ _ T
              have Xc0 := X.cell (j := 0) rfl
              have Xc1 := X.cell (j := 1) rfl
              have Xc2 := X.cell (j := 2) rfl
              have Yc0 := Y.cell (j := 0) rfl
              have Yc1 := Y.cell (j := 1) rfl
              have Yc2 := Y.cell (j := 2) rfl
              go_wp2_with fail
              refine HH.mono ?_
              clear HH
              rintro x w5 ⟨vp, rfl, P, b⟩
              clear Xc0 Xc1 Xc2 Yc0 Yc1 Yc2
              replace P := Kit.Off.of_own (S := M.own) P (fun i hi => h.lt hi)
              replace X := X.below b
              replace Y := Y.below b
              replace LV := LV.below b
              replace QV := QV.below b
              replace T := T.below b
              replace PV := PV.below b
              replace h := h.below b
              replace c := c.trans (b.mono c.size)
              clear b
              have hbin := Or.binds_all hfO hinv (by rw [hrows]; decide) ls hd8 s i hip p Hpd.out hpx
              have HC := climb_yes h (by omega) s (leaf_fits hs) i p (by rw [Hpd.out]; exact hd8) (by rw [Hpd.out]; exact hip) hpx _ PV
              obtain ⟨pth, hpth⟩ : ∃ q, q = path (Om.tree ls d) i := ⟨_, rfl⟩
              rw [← hpth] at hbin P
              generalize ((((Om.built ls d).ask (qh (leafT s))).climb ((Om.built ls d).val (qh (leafT s))) i p).1) = c1 at *
              generalize ((((Om.built ls d).ask (qh (leafT s))).climb ((Om.built ls d).val (qh (leafT s))) i p).2) = O3 at *
              have HH := HC
              clear HC
              have Xc0 := X.cell (j := 0) rfl
              have Xc1 := X.cell (j := 1) rfl
              have Xc2 := X.cell (j := 2) rfl
              have Yc0 := Y.cell (j := 0) rfl
              have Yc1 := Y.cell (j := 1) rfl
              have Yc2 := Y.cell (j := 2) rfl
              go_wp2_with fail
              refine HH.mono ?_
              clear HH
              clear h
              rintro x w6 ⟨rfl, h, b⟩
              clear Xc0 Xc1 Xc2 Yc0 Yc1 Yc2
              replace X := X.but b Xo
              replace Y := Y.but b Yo
              replace LV := LV.but b
              replace QV := QV.but b
              replace T := T.but b
              replace PV := PV.but b
              replace P := P.but b
              replace c := c.trans (b.below c.size hw)
              clear b
              have HH := o_bad h
              have Xc0 := X.cell (j := 0) rfl
              have Xc1 := X.cell (j := 1) rfl
              have Xc2 := X.cell (j := 2) rfl
              have Yc0 := Y.cell (j := 0) rfl
              have Yc1 := Y.cell (j := 1) rfl
              have Yc2 := Y.cell (j := 2) rfl
              go_wp2_with fail
              refine HH.mono ?_
              clear HH
              rintro x w7 ⟨rfl, b⟩
              clear Xc0 Xc1 Xc2 Yc0 Yc1 Yc2
              replace X := X.below b
              replace Y := Y.below b
              replace LV := LV.below b
              replace QV := QV.below b
              replace T := T.below b
              replace PV := PV.below b
              replace P := P.below b
              replace h := h.below b
              replace c := c.trans (b.mono c.size)
              clear b
              by_cases hb0 : O3.bads = 0
              · have hd0 : decide (0 < O3.bads) = false := decide_eq_false (by omega)
                replace hbin := hbin hb0
                have hroot := root_at T
                obtain ⟨ta, ra, rc, e9, rt1, rt2, rl2, rl1⟩ := hroot
                subst e9
                generalize ((Om.lv ls d d).2).getD 0 0 = root at *
                have hd9 : (0 : Int) ≤ (d : Int) := by omega
                have hd10 : (d : Int) < (d : Int) + 1 := by omega
                by_cases hil : i < ls.length
                · obtain ⟨af, rfl, hcf⟩ := LV.at_ (k := i) (u := .string (ls.getD i .empty)) (by simp [strs, hil])
                  have hi0 : (0 : Int) ≤ (i : Int) := by omega
                  have hi3 : (i : Int) < (ls.length : Int) := by omega
                  generalize ls.getD i .empty = lf at *
                  clear hb0 hin hip hfw hfw2 hrows hinv hfO hpth
                  have Xc0 := X.cell (j := 0) rfl
                  have Xc1 := X.cell (j := 1) rfl
                  have Xc2 := X.cell (j := 2) rfl
                  have Yc0 := Y.cell (j := 0) rfl
                  have Yc1 := Y.cell (j := 1) rfl
                  have Yc2 := Y.cell (j := 2) rfl
                  go_wp2
                  clear Xc0 Xc1 Xc2 Yc0 Yc1 Yc2
                  clear hcf hd0
                  have hcl : ∀ w', Below w7.heap.size w7 w' → w'.cell? ⟨w.heap.size, 1, none⟩ = some (.int .i64 (d : Int)) ∧ w'.cell? ⟨w.heap.size + 1, 1, none⟩ = some (.string s) ∧ w'.cell? (ta.add d) = some (.slice (some ra) 1 rc) ∧ w'.cell? ra = some (.int .u64 (root : Int)) := fun w' b => ⟨(X.below b).cell rfl, (Y.below b).cell rfl, (b.cell rl1).trans rt1, (b.cell rl2).trans rt2⟩
                  have HNM := fun w' (b : Below w7.heap.size w7 w') => nums_is p pth (by rw [Hpd.out]; omega) (.slice pa d pc) vp w' (PV.below b).rd (P.below b).rd
                  have hend := fun w' (b : Below w7.heap.size w7 w') => c.trans (b.mono c.size)
                  have b0 : Below w7.heap.size w7 w7.drew := (Below.refl _ _).drew
                  clear X Y LV QV PV T P h c
                  by_cases hsl : s = lf
                  · subst hsl
                    by_cases hpp : p = pth
                    · have e1 : c1 = root := hbin.2 ⟨rfl, hpp⟩
                      subst e1
                      rw [decide_eq_true hpp] at HNM
                      clear hbin hpp
                      go_wp2
                      refine wp_region_noPanic ?_
                      refine wp_region_held_drew (S := Below w7.heap.size w7) (by kernel_rfl) ?_ (fun hHeld => ?_)
                      · exact b0
                      refine wpAnyH_take (i := 0) (oi := ⟨some 126, _, _, _, _, _⟩) (v := ?_) rfl (by kernel_rfl) (by kernel_rfl) (by kernel_rfl) (fun _ _ _ h => h) (Or.inl ⟨by rfl, ?_⟩) (by assumption) ?_
                      rotate_left
                      · (intro w' hSw; obtain ⟨k0, k1, k3, k4⟩ := hcl _ hSw; go_simp; try with_reducible rfl)
                      simp only [Act.put, List.setIfInBounds_toArray, List.set_cons_zero, List.set_cons_succ]
                      refine wpAnyH_take (i := 1) (oi := ⟨some 127, _, _, _, _, _⟩) (v := ?_) rfl (by kernel_rfl) (by kernel_rfl) (by kernel_rfl) (fun _ _ _ h => h) (Or.inl ⟨by rfl, ?_⟩) (by assumption) ?_
                      rotate_left
                      · (intro w' hSw; obtain ⟨k0, k1, k3, k4⟩ := hcl _ hSw; go_simp; try with_reducible rfl)
                      simp only [Act.put, List.setIfInBounds_toArray, List.set_cons_zero, List.set_cons_succ]
                      refine wpAnyH_take (i := 2) (oi := ⟨some 128, _, _, _, _, _⟩) (v := ?_) rfl (by kernel_rfl) (by kernel_rfl) (by kernel_rfl) (fun _ _ _ h => h) (Or.inl ⟨by rfl, ?_⟩) (by assumption) ?_
                      rotate_left
                      · (intro w' hSw; obtain ⟨k0, k1, k3, k4⟩ := hcl _ hSw; go_simp; try with_reducible rfl)
                      simp only [Act.put, List.setIfInBounds_toArray, List.set_cons_zero, List.set_cons_succ]
                      refine wpAnyH_take (i := 3) (oi := ⟨some 129, _, _, _, _, _⟩) (v := ?_) rfl (by kernel_rfl) (by kernel_rfl) (by kernel_rfl) (fun _ _ _ h => h) (Or.inl ⟨by rfl, ?_⟩) (by assumption) ?_
                      rotate_left
                      · (intro w' hSw; obtain ⟨k0, k1, k3, k4⟩ := hcl _ hSw; go_simp; try with_reducible rfl)
                      simp only [Act.put, List.setIfInBounds_toArray, List.set_cons_zero, List.set_cons_succ]
                      refine wpAnyH_take (i := 4) (oi := ⟨some 130, _, _, _, _, _⟩) (v := ?_) rfl (by kernel_rfl) (by kernel_rfl) (by kernel_rfl) (fun _ _ _ h => h) (Or.inl ⟨by rfl, ?_⟩) (by assumption) ?_
                      rotate_left
                      · (intro w' hSw; obtain ⟨k0, k1, k3, k4⟩ := hcl _ hSw; go_simp; try with_reducible rfl)
                      simp only [Act.put, List.setIfInBounds_toArray, List.set_cons_zero, List.set_cons_succ]
                      refine wpAnyH_take (i := 5) (oi := ⟨some 131, _, _, _, _, _⟩) (v := ?_) rfl (by kernel_rfl) (by kernel_rfl) (by kernel_rfl) (fun _ _ _ h => h) (Or.inl ⟨by rfl, ?_⟩) (by assumption) ?_
                      rotate_left
                      · (intro w' hSw; obtain ⟨k0, k1, k3, k4⟩ := hcl _ hSw; go_simp; try with_reducible rfl)
                      simp only [Act.put, List.setIfInBounds_toArray, List.set_cons_zero, List.set_cons_succ]
                      refine wpAnyH_take (i := 6) (oi := ⟨some 132, _, _, _, _, _⟩) (v := ?_) rfl (by kernel_rfl) (by kernel_rfl) (by kernel_rfl) (fun _ _ _ h => h) (Or.inl ⟨by rfl, ?_⟩) (by assumption) ?_
                      rotate_left
                      · (intro w' hSw; obtain ⟨k0, k1, k3, k4⟩ := hcl _ hSw; go_simp; try with_reducible rfl)
                      simp only [Act.put, List.setIfInBounds_toArray, List.set_cons_zero, List.set_cons_succ]
                      refine wpAnyH_take (i := 7) (oi := ⟨some 133, _, _, _, _, _⟩) (v := ?_) rfl (by kernel_rfl) (by kernel_rfl) (by kernel_rfl) (fun _ _ _ h => h) (Or.inl ⟨by rfl, ?_⟩) (by assumption) ?_
                      rotate_left
                      · (intro w' hSw; obtain ⟨k0, k1, k3, k4⟩ := hcl _ hSw; go_simp; try with_reducible rfl)
                      simp only [Act.put, List.setIfInBounds_toArray, List.set_cons_zero, List.set_cons_succ]
                      refine wpAnyH_take (i := 8) (oi := ⟨some 134, _, _, _, _, _⟩) (v := ?_) rfl (by kernel_rfl) (by kernel_rfl) (by kernel_rfl) (fun _ _ _ h => h) (Or.inl ⟨by rfl, ?_⟩) (by assumption) ?_
                      rotate_left
                      · (intro w' hSw; obtain ⟨k0, k1, k3, k4⟩ := hcl _ hSw; go_simp; try with_reducible rfl)
                      simp only [Act.put, List.setIfInBounds_toArray, List.set_cons_zero, List.set_cons_succ]
                      refine wpAnyH_take (i := 9) (oi := ⟨some 135, _, _, _, _, _⟩) (v := ?_) rfl (by kernel_rfl) (by kernel_rfl) (by kernel_rfl) (fun _ _ _ h => h) (Or.inl ⟨by rfl, ?_⟩) (by assumption) ?_
                      rotate_left
                      · (intro w' hSw; obtain ⟨k0, k1, k3, k4⟩ := hcl _ hSw; go_simp; try with_reducible rfl)
                      simp only [Act.put, List.setIfInBounds_toArray, List.set_cons_zero, List.set_cons_succ]
                      refine wpAnyH_take (i := 10) (oi := ⟨some 136, _, _, _, _, _⟩) (v := ?_) rfl (by kernel_rfl) (by kernel_rfl) (by kernel_rfl) (fun _ _ _ h => h) (Or.inl ⟨by rfl, ?_⟩) (by assumption) ?_
                      rotate_left
                      · (intro w' hSw; obtain ⟨k0, k1, k3, k4⟩ := hcl _ hSw; go_simp; try with_reducible rfl)
                      simp only [Act.put, List.setIfInBounds_toArray, List.set_cons_zero, List.set_cons_succ]
                      refine wpAnyH_take (i := 11) (oi := ⟨some 137, _, _, _, _, _⟩) (v := ?_) rfl (by kernel_rfl) (by kernel_rfl) (by kernel_rfl) (fun _ _ _ h => h) (Or.inl ⟨by rfl, ?_⟩) (by assumption) ?_
                      rotate_left
                      · (intro w' hSw; obtain ⟨k0, k1, k3, k4⟩ := hcl _ hSw; go_simp; try with_reducible rfl)
                      simp only [Act.put, List.setIfInBounds_toArray, List.set_cons_zero, List.set_cons_succ]
                      refine wpAnyH_take (i := 12) (oi := ⟨some 138, _, _, _, _, _⟩) (v := ?_) rfl (by kernel_rfl) (by kernel_rfl) (by kernel_rfl) (fun _ _ _ h => h) (Or.inl ⟨by rfl, ?_⟩) (by assumption) ?_
                      rotate_left
                      · (intro w' hSw; obtain ⟨k0, k1, k3, k4⟩ := hcl _ hSw; go_simp; try with_reducible rfl)
                      simp only [Act.put, List.setIfInBounds_toArray, List.set_cons_zero, List.set_cons_succ]
                      refine wpAnyH_take (i := 13) (oi := ⟨some 139, _, _, _, _, _⟩) (v := ?_) rfl (by kernel_rfl) (by kernel_rfl) (by kernel_rfl) (fun _ _ _ h => h) (Or.inl ⟨by rfl, ?_⟩) (by assumption) ?_
                      rotate_left
                      · (intro w' hSw; obtain ⟨k0, k1, k3, k4⟩ := hcl _ hSw; go_simp; try with_reducible rfl)
                      simp only [Act.put, List.setIfInBounds_toArray, List.set_cons_zero, List.set_cons_succ]
                      refine wpAnyH_take (i := 14) (oi := ⟨some 140, _, _, _, _, _⟩) (v := ?_) rfl (by kernel_rfl) (by kernel_rfl) (by kernel_rfl) (fun _ _ _ h => h) (Or.inl ⟨by rfl, ?_⟩) (by assumption) ?_
                      rotate_left
                      · (intro w' hSw; obtain ⟨k0, k1, k3, k4⟩ := hcl _ hSw; go_simp; try with_reducible rfl)
                      simp only [Act.put, List.setIfInBounds_toArray, List.set_cons_zero, List.set_cons_succ]
                      refine wpAnyH_take (i := 15) (oi := ⟨some 141, _, _, _, _, _⟩) (v := ?_) rfl (by kernel_rfl) (by kernel_rfl) (by kernel_rfl) (fun _ _ _ h => h) (Or.inl ⟨by rfl, ?_⟩) (by assumption) ?_
                      rotate_left
                      · (intro w' hSw; obtain ⟨k0, k1, k3, k4⟩ := hcl _ hSw; go_simp; try with_reducible rfl)
                      simp only [Act.put, List.setIfInBounds_toArray, List.set_cons_zero, List.set_cons_succ]
                      refine wpAnyH_ready (rs := [16]) (by kernel_rfl) (by simp) ?_
                      refine AllReadyH.cons (o := ⟨some 142, _, _, _, _, _⟩) rfl (fun K hK => ?_) AllReadyH.nil
                      go_simp
                      go_at_call 31
                      refine (HNM _ b0).mono ?_
                      rintro e wc16 ⟨rfl, hb16⟩
                      go_wp2_with fail
                      refine hK.out _ _ (b0.trans (hb16.mono b0.size)) (fun hHeld16 => ?_)
                      clear hK K
                      try simp only [Act.put, List.setIfInBounds_toArray, List.set_cons_zero, List.set_cons_succ]
                      refine wpAnyH_take (i := 17) (oi := ⟨some 143, _, _, _, _, _⟩) (v := ?_) rfl (by kernel_rfl) (by kernel_rfl) (by kernel_rfl) (fun _ _ _ h => h) (Or.inl ⟨by rfl, ?_⟩) (by assumption) ?_
                      rotate_left
                      · (intro w' hSw; obtain ⟨k0, k1, k3, k4⟩ := hcl _ hSw; go_simp; try with_reducible rfl)
                      simp only [Act.put, List.setIfInBounds_toArray, List.set_cons_zero, List.set_cons_succ]
                      refine wpAnyH_take (i := 18) (oi := ⟨some 144, _, _, _, _, _⟩) (v := ?_) rfl (by kernel_rfl) (by kernel_rfl) (by kernel_rfl) (fun _ _ _ h => h) (Or.inl ⟨by rfl, ?_⟩) (by assumption) ?_
                      rotate_left
                      · (intro w' hSw; obtain ⟨k0, k1, k3, k4⟩ := hcl _ hSw; go_simp; try with_reducible rfl)
                      simp only [Act.put, List.setIfInBounds_toArray, List.set_cons_zero, List.set_cons_succ]
                      refine wpAnyH_take (i := 19) (oi := ⟨some 6, _, _, _, _, _⟩) (v := ?_) rfl (by kernel_rfl) (by kernel_rfl) (by kernel_rfl) (fun _ _ _ h => h) (Or.inl ⟨by rfl, ?_⟩) (by assumption) ?_
                      rotate_left
                      · (intro w' hSw; obtain ⟨k0, k1, k3, k4⟩ := hcl _ hSw; go_simp; try with_reducible rfl)
                      simp only [Act.put, List.setIfInBounds_toArray, List.set_cons_zero, List.set_cons_succ]
                      refine wpAnyH_done (by kernel_rfl) ?_ _
                      refine NoPanic.normal ?_
                      go_wp2
                      go_ret
                      exact ⟨rfl, hend _ hHeld16⟩
                    · have e1 : ¬ c1 = root := fun h => hpp (hbin.1 h).2
                      have g1 : ((c1 : Int) == (root : Int)) = false := by rw [beq_eq_false_iff_ne]; omega
                      have g2 : (c1 == root) = false := by rw [beq_eq_false_iff_ne]; exact e1
                      rw [decide_eq_false hpp] at HNM
                      clear hbin hpp e1
                      go_wp2
                      refine wp_region_noPanic ?_
                      refine wp_region_held_drew (S := Below w7.heap.size w7) (by kernel_rfl) ?_ (fun hHeld => ?_)
                      · exact b0
                      refine wpAnyH_take (i := 0) (oi := ⟨some 126, _, _, _, _, _⟩) (v := ?_) rfl (by kernel_rfl) (by kernel_rfl) (by kernel_rfl) (fun _ _ _ h => h) (Or.inl ⟨by rfl, ?_⟩) (by assumption) ?_
                      rotate_left
                      · (intro w' hSw; obtain ⟨k0, k1, k3, k4⟩ := hcl _ hSw; go_simp; try with_reducible rfl)
                      simp only [Act.put, List.setIfInBounds_toArray, List.set_cons_zero, List.set_cons_succ]
                      refine wpAnyH_take (i := 1) (oi := ⟨some 127, _, _, _, _, _⟩) (v := ?_) rfl (by kernel_rfl) (by kernel_rfl) (by kernel_rfl) (fun _ _ _ h => h) (Or.inl ⟨by rfl, ?_⟩) (by assumption) ?_
                      rotate_left
                      · (intro w' hSw; obtain ⟨k0, k1, k3, k4⟩ := hcl _ hSw; go_simp; try with_reducible rfl)
                      simp only [Act.put, List.setIfInBounds_toArray, List.set_cons_zero, List.set_cons_succ]
                      refine wpAnyH_take (i := 2) (oi := ⟨some 128, _, _, _, _, _⟩) (v := ?_) rfl (by kernel_rfl) (by kernel_rfl) (by kernel_rfl) (fun _ _ _ h => h) (Or.inl ⟨by rfl, ?_⟩) (by assumption) ?_
                      rotate_left
                      · (intro w' hSw; obtain ⟨k0, k1, k3, k4⟩ := hcl _ hSw; go_simp; try with_reducible rfl)
                      simp only [Act.put, List.setIfInBounds_toArray, List.set_cons_zero, List.set_cons_succ]
                      refine wpAnyH_take (i := 3) (oi := ⟨some 129, _, _, _, _, _⟩) (v := ?_) rfl (by kernel_rfl) (by kernel_rfl) (by kernel_rfl) (fun _ _ _ h => h) (Or.inl ⟨by rfl, ?_⟩) (by assumption) ?_
                      rotate_left
                      · (intro w' hSw; obtain ⟨k0, k1, k3, k4⟩ := hcl _ hSw; go_simp; try with_reducible rfl)
                      simp only [Act.put, List.setIfInBounds_toArray, List.set_cons_zero, List.set_cons_succ]
                      refine wpAnyH_take (i := 4) (oi := ⟨some 130, _, _, _, _, _⟩) (v := ?_) rfl (by kernel_rfl) (by kernel_rfl) (by kernel_rfl) (fun _ _ _ h => h) (Or.inl ⟨by rfl, ?_⟩) (by assumption) ?_
                      rotate_left
                      · (intro w' hSw; obtain ⟨k0, k1, k3, k4⟩ := hcl _ hSw; go_simp; try with_reducible rfl)
                      simp only [Act.put, List.setIfInBounds_toArray, List.set_cons_zero, List.set_cons_succ]
                      refine wpAnyH_take (i := 5) (oi := ⟨some 131, _, _, _, _, _⟩) (v := ?_) rfl (by kernel_rfl) (by kernel_rfl) (by kernel_rfl) (fun _ _ _ h => h) (Or.inl ⟨by rfl, ?_⟩) (by assumption) ?_
                      rotate_left
                      · (intro w' hSw; obtain ⟨k0, k1, k3, k4⟩ := hcl _ hSw; go_simp; try with_reducible rfl)
                      simp only [Act.put, List.setIfInBounds_toArray, List.set_cons_zero, List.set_cons_succ]
                      refine wpAnyH_take (i := 6) (oi := ⟨some 132, _, _, _, _, _⟩) (v := ?_) rfl (by kernel_rfl) (by kernel_rfl) (by kernel_rfl) (fun _ _ _ h => h) (Or.inl ⟨by rfl, ?_⟩) (by assumption) ?_
                      rotate_left
                      · (intro w' hSw; obtain ⟨k0, k1, k3, k4⟩ := hcl _ hSw; go_simp; try with_reducible rfl)
                      simp only [Act.put, List.setIfInBounds_toArray, List.set_cons_zero, List.set_cons_succ]
                      refine wpAnyH_take (i := 7) (oi := ⟨some 133, _, _, _, _, _⟩) (v := ?_) rfl (by kernel_rfl) (by kernel_rfl) (by kernel_rfl) (fun _ _ _ h => h) (Or.inl ⟨by rfl, ?_⟩) (by assumption) ?_
                      rotate_left
                      · (intro w' hSw; obtain ⟨k0, k1, k3, k4⟩ := hcl _ hSw; go_simp; try with_reducible rfl)
                      simp only [Act.put, List.setIfInBounds_toArray, List.set_cons_zero, List.set_cons_succ]
                      refine wpAnyH_take (i := 8) (oi := ⟨some 134, _, _, _, _, _⟩) (v := ?_) rfl (by kernel_rfl) (by kernel_rfl) (by kernel_rfl) (fun _ _ _ h => h) (Or.inl ⟨by rfl, ?_⟩) (by assumption) ?_
                      rotate_left
                      · (intro w' hSw; obtain ⟨k0, k1, k3, k4⟩ := hcl _ hSw; go_simp; try with_reducible rfl)
                      simp only [Act.put, List.setIfInBounds_toArray, List.set_cons_zero, List.set_cons_succ]
                      refine wpAnyH_take (i := 9) (oi := ⟨some 135, _, _, _, _, _⟩) (v := ?_) rfl (by kernel_rfl) (by kernel_rfl) (by kernel_rfl) (fun _ _ _ h => h) (Or.inl ⟨by rfl, ?_⟩) (by assumption) ?_
                      rotate_left
                      · (intro w' hSw; obtain ⟨k0, k1, k3, k4⟩ := hcl _ hSw; go_simp; try with_reducible rfl)
                      simp only [Act.put, List.setIfInBounds_toArray, List.set_cons_zero, List.set_cons_succ]
                      refine wpAnyH_take (i := 10) (oi := ⟨some 136, _, _, _, _, _⟩) (v := ?_) rfl (by kernel_rfl) (by kernel_rfl) (by kernel_rfl) (fun _ _ _ h => h) (Or.inl ⟨by rfl, ?_⟩) (by assumption) ?_
                      rotate_left
                      · (intro w' hSw; obtain ⟨k0, k1, k3, k4⟩ := hcl _ hSw; go_simp; try with_reducible rfl)
                      simp only [Act.put, List.setIfInBounds_toArray, List.set_cons_zero, List.set_cons_succ]
                      refine wpAnyH_take (i := 11) (oi := ⟨some 137, _, _, _, _, _⟩) (v := ?_) rfl (by kernel_rfl) (by kernel_rfl) (by kernel_rfl) (fun _ _ _ h => h) (Or.inl ⟨by rfl, ?_⟩) (by assumption) ?_
                      rotate_left
                      · (intro w' hSw; obtain ⟨k0, k1, k3, k4⟩ := hcl _ hSw; go_simp; try with_reducible rfl)
                      simp only [Act.put, List.setIfInBounds_toArray, List.set_cons_zero, List.set_cons_succ]
                      refine wpAnyH_take (i := 12) (oi := ⟨some 138, _, _, _, _, _⟩) (v := ?_) rfl (by kernel_rfl) (by kernel_rfl) (by kernel_rfl) (fun _ _ _ h => h) (Or.inl ⟨by rfl, ?_⟩) (by assumption) ?_
                      rotate_left
                      · (intro w' hSw; obtain ⟨k0, k1, k3, k4⟩ := hcl _ hSw; go_simp; try with_reducible rfl)
                      simp only [Act.put, List.setIfInBounds_toArray, List.set_cons_zero, List.set_cons_succ]
                      refine wpAnyH_take (i := 13) (oi := ⟨some 139, _, _, _, _, _⟩) (v := ?_) rfl (by kernel_rfl) (by kernel_rfl) (by kernel_rfl) (fun _ _ _ h => h) (Or.inl ⟨by rfl, ?_⟩) (by assumption) ?_
                      rotate_left
                      · (intro w' hSw; obtain ⟨k0, k1, k3, k4⟩ := hcl _ hSw; go_simp; try with_reducible rfl)
                      simp only [Act.put, List.setIfInBounds_toArray, List.set_cons_zero, List.set_cons_succ]
                      refine wpAnyH_take (i := 14) (oi := ⟨some 140, _, _, _, _, _⟩) (v := ?_) rfl (by kernel_rfl) (by kernel_rfl) (by kernel_rfl) (fun _ _ _ h => h) (Or.inl ⟨by rfl, ?_⟩) (by assumption) ?_
                      rotate_left
                      · (intro w' hSw; obtain ⟨k0, k1, k3, k4⟩ := hcl _ hSw; go_simp; try with_reducible rfl)
                      simp only [Act.put, List.setIfInBounds_toArray, List.set_cons_zero, List.set_cons_succ]
                      refine wpAnyH_take (i := 15) (oi := ⟨some 141, _, _, _, _, _⟩) (v := ?_) rfl (by kernel_rfl) (by kernel_rfl) (by kernel_rfl) (fun _ _ _ h => h) (Or.inl ⟨by rfl, ?_⟩) (by assumption) ?_
                      rotate_left
                      · (intro w' hSw; obtain ⟨k0, k1, k3, k4⟩ := hcl _ hSw; go_simp; try with_reducible rfl)
                      simp only [Act.put, List.setIfInBounds_toArray, List.set_cons_zero, List.set_cons_succ]
                      refine wpAnyH_ready (rs := [16]) (by kernel_rfl) (by simp) ?_
                      refine AllReadyH.cons (o := ⟨some 142, _, _, _, _, _⟩) rfl (fun K hK => ?_) AllReadyH.nil
                      go_simp
                      go_at_call 31
                      refine (HNM _ b0).mono ?_
                      rintro e wc16 ⟨rfl, hb16⟩
                      go_wp2_with fail
                      refine hK.out _ _ (b0.trans (hb16.mono b0.size)) (fun hHeld16 => ?_)
                      clear hK K
                      try simp only [Act.put, List.setIfInBounds_toArray, List.set_cons_zero, List.set_cons_succ]
                      refine wpAnyH_take (i := 17) (oi := ⟨some 143, _, _, _, _, _⟩) (v := ?_) rfl (by kernel_rfl) (by kernel_rfl) (by kernel_rfl) (fun _ _ _ h => h) (Or.inl ⟨by rfl, ?_⟩) (by assumption) ?_
                      rotate_left
                      · (intro w' hSw; obtain ⟨k0, k1, k3, k4⟩ := hcl _ hSw; go_simp; try with_reducible rfl)
                      simp only [Act.put, List.setIfInBounds_toArray, List.set_cons_zero, List.set_cons_succ]
                      refine wpAnyH_take (i := 18) (oi := ⟨some 144, _, _, _, _, _⟩) (v := ?_) rfl (by kernel_rfl) (by kernel_rfl) (by kernel_rfl) (fun _ _ _ h => h) (Or.inl ⟨by rfl, ?_⟩) (by assumption) ?_
                      rotate_left
                      · (intro w' hSw; obtain ⟨k0, k1, k3, k4⟩ := hcl _ hSw; go_simp; try with_reducible rfl)
                      simp only [Act.put, List.setIfInBounds_toArray, List.set_cons_zero, List.set_cons_succ]
                      refine wpAnyH_take (i := 19) (oi := ⟨some 6, _, _, _, _, _⟩) (v := ?_) rfl (by kernel_rfl) (by kernel_rfl) (by kernel_rfl) (fun _ _ _ h => h) (Or.inl ⟨by rfl, ?_⟩) (by assumption) ?_
                      rotate_left
                      · (intro w' hSw; obtain ⟨k0, k1, k3, k4⟩ := hcl _ hSw; go_simp; try with_reducible rfl)
                      simp only [Act.put, List.setIfInBounds_toArray, List.set_cons_zero, List.set_cons_succ]
                      refine wpAnyH_done (by kernel_rfl) ?_ _
                      refine NoPanic.normal ?_
                      go_wp2
                      go_ret
                      exact ⟨rfl, hend _ hHeld16⟩
                  · have e1 : ¬ c1 = root := fun h => hsl (hbin.1 h).1
                    have g1 : ((c1 : Int) == (root : Int)) = false := by rw [beq_eq_false_iff_ne]; omega
                    have g2 : (c1 == root) = false := by rw [beq_eq_false_iff_ne]; exact e1
                    have g3 : (s.toList == lf.toList) = false := by rw [beq_eq_false_iff_ne]; exact fun h => hsl (bytes_inj h)
                    clear hbin hsl e1
                    go_wp2
                    refine wp_region_noPanic ?_
                    refine wp_region_held_drew (S := Below w7.heap.size w7) (by kernel_rfl) ?_ (fun hHeld => ?_)
                    · exact b0
                    refine wpAnyH_take (i := 0) (oi := ⟨some 126, _, _, _, _, _⟩) (v := ?_) rfl (by kernel_rfl) (by kernel_rfl) (by kernel_rfl) (fun _ _ _ h => h) (Or.inl ⟨by rfl, ?_⟩) (by assumption) ?_
                    rotate_left
                    · (intro w' hSw; obtain ⟨k0, k1, k3, k4⟩ := hcl _ hSw; go_simp; try with_reducible rfl)
                    simp only [Act.put, List.setIfInBounds_toArray, List.set_cons_zero, List.set_cons_succ]
                    refine wpAnyH_take (i := 1) (oi := ⟨some 127, _, _, _, _, _⟩) (v := ?_) rfl (by kernel_rfl) (by kernel_rfl) (by kernel_rfl) (fun _ _ _ h => h) (Or.inl ⟨by rfl, ?_⟩) (by assumption) ?_
                    rotate_left
                    · (intro w' hSw; obtain ⟨k0, k1, k3, k4⟩ := hcl _ hSw; go_simp; try with_reducible rfl)
                    simp only [Act.put, List.setIfInBounds_toArray, List.set_cons_zero, List.set_cons_succ]
                    refine wpAnyH_take (i := 2) (oi := ⟨some 128, _, _, _, _, _⟩) (v := ?_) rfl (by kernel_rfl) (by kernel_rfl) (by kernel_rfl) (fun _ _ _ h => h) (Or.inl ⟨by rfl, ?_⟩) (by assumption) ?_
                    rotate_left
                    · (intro w' hSw; obtain ⟨k0, k1, k3, k4⟩ := hcl _ hSw; go_simp; try with_reducible rfl)
                    simp only [Act.put, List.setIfInBounds_toArray, List.set_cons_zero, List.set_cons_succ]
                    refine wpAnyH_take (i := 3) (oi := ⟨some 129, _, _, _, _, _⟩) (v := ?_) rfl (by kernel_rfl) (by kernel_rfl) (by kernel_rfl) (fun _ _ _ h => h) (Or.inl ⟨by rfl, ?_⟩) (by assumption) ?_
                    rotate_left
                    · (intro w' hSw; obtain ⟨k0, k1, k3, k4⟩ := hcl _ hSw; go_simp; try with_reducible rfl)
                    simp only [Act.put, List.setIfInBounds_toArray, List.set_cons_zero, List.set_cons_succ]
                    refine wpAnyH_take (i := 4) (oi := ⟨some 130, _, _, _, _, _⟩) (v := ?_) rfl (by kernel_rfl) (by kernel_rfl) (by kernel_rfl) (fun _ _ _ h => h) (Or.inl ⟨by rfl, ?_⟩) (by assumption) ?_
                    rotate_left
                    · (intro w' hSw; obtain ⟨k0, k1, k3, k4⟩ := hcl _ hSw; go_simp; try with_reducible rfl)
                    simp only [Act.put, List.setIfInBounds_toArray, List.set_cons_zero, List.set_cons_succ]
                    refine wpAnyH_take (i := 5) (oi := ⟨some 131, _, _, _, _, _⟩) (v := ?_) rfl (by kernel_rfl) (by kernel_rfl) (by kernel_rfl) (fun _ _ _ h => h) (Or.inl ⟨by rfl, ?_⟩) (by assumption) ?_
                    rotate_left
                    · (intro w' hSw; obtain ⟨k0, k1, k3, k4⟩ := hcl _ hSw; go_simp; try with_reducible rfl)
                    simp only [Act.put, List.setIfInBounds_toArray, List.set_cons_zero, List.set_cons_succ]
                    refine wpAnyH_take (i := 6) (oi := ⟨some 132, _, _, _, _, _⟩) (v := ?_) rfl (by kernel_rfl) (by kernel_rfl) (by kernel_rfl) (fun _ _ _ h => h) (Or.inl ⟨by rfl, ?_⟩) (by assumption) ?_
                    rotate_left
                    · (intro w' hSw; obtain ⟨k0, k1, k3, k4⟩ := hcl _ hSw; go_simp; try with_reducible rfl)
                    simp only [Act.put, List.setIfInBounds_toArray, List.set_cons_zero, List.set_cons_succ]
                    refine wpAnyH_take (i := 7) (oi := ⟨some 133, _, _, _, _, _⟩) (v := ?_) rfl (by kernel_rfl) (by kernel_rfl) (by kernel_rfl) (fun _ _ _ h => h) (Or.inl ⟨by rfl, ?_⟩) (by assumption) ?_
                    rotate_left
                    · (intro w' hSw; obtain ⟨k0, k1, k3, k4⟩ := hcl _ hSw; go_simp; try with_reducible rfl)
                    simp only [Act.put, List.setIfInBounds_toArray, List.set_cons_zero, List.set_cons_succ]
                    refine wpAnyH_take (i := 8) (oi := ⟨some 134, _, _, _, _, _⟩) (v := ?_) rfl (by kernel_rfl) (by kernel_rfl) (by kernel_rfl) (fun _ _ _ h => h) (Or.inl ⟨by rfl, ?_⟩) (by assumption) ?_
                    rotate_left
                    · (intro w' hSw; obtain ⟨k0, k1, k3, k4⟩ := hcl _ hSw; go_simp; try with_reducible rfl)
                    simp only [Act.put, List.setIfInBounds_toArray, List.set_cons_zero, List.set_cons_succ]
                    refine wpAnyH_take (i := 9) (oi := ⟨some 135, _, _, _, _, _⟩) (v := ?_) rfl (by kernel_rfl) (by kernel_rfl) (by kernel_rfl) (fun _ _ _ h => h) (Or.inl ⟨by rfl, ?_⟩) (by assumption) ?_
                    rotate_left
                    · (intro w' hSw; obtain ⟨k0, k1, k3, k4⟩ := hcl _ hSw; go_simp; try with_reducible rfl)
                    simp only [Act.put, List.setIfInBounds_toArray, List.set_cons_zero, List.set_cons_succ]
                    refine wpAnyH_take (i := 10) (oi := ⟨some 136, _, _, _, _, _⟩) (v := ?_) rfl (by kernel_rfl) (by kernel_rfl) (by kernel_rfl) (fun _ _ _ h => h) (Or.inl ⟨by rfl, ?_⟩) (by assumption) ?_
                    rotate_left
                    · (intro w' hSw; obtain ⟨k0, k1, k3, k4⟩ := hcl _ hSw; go_simp; try with_reducible rfl)
                    simp only [Act.put, List.setIfInBounds_toArray, List.set_cons_zero, List.set_cons_succ]
                    refine wpAnyH_take (i := 11) (oi := ⟨some 137, _, _, _, _, _⟩) (v := ?_) rfl (by kernel_rfl) (by kernel_rfl) (by kernel_rfl) (fun _ _ _ h => h) (Or.inl ⟨by rfl, ?_⟩) (by assumption) ?_
                    rotate_left
                    · (intro w' hSw; obtain ⟨k0, k1, k3, k4⟩ := hcl _ hSw; go_simp; try with_reducible rfl)
                    simp only [Act.put, List.setIfInBounds_toArray, List.set_cons_zero, List.set_cons_succ]
                    refine wpAnyH_take (i := 12) (oi := ⟨some 138, _, _, _, _, _⟩) (v := ?_) rfl (by kernel_rfl) (by kernel_rfl) (by kernel_rfl) (fun _ _ _ h => h) (Or.inl ⟨by rfl, ?_⟩) (by assumption) ?_
                    rotate_left
                    · (intro w' hSw; obtain ⟨k0, k1, k3, k4⟩ := hcl _ hSw; go_simp; try with_reducible rfl)
                    simp only [Act.put, List.setIfInBounds_toArray, List.set_cons_zero, List.set_cons_succ]
                    refine wpAnyH_take (i := 13) (oi := ⟨some 139, _, _, _, _, _⟩) (v := ?_) rfl (by kernel_rfl) (by kernel_rfl) (by kernel_rfl) (fun _ _ _ h => h) (Or.inl ⟨by rfl, ?_⟩) (by assumption) ?_
                    rotate_left
                    · (intro w' hSw; obtain ⟨k0, k1, k3, k4⟩ := hcl _ hSw; go_simp; try with_reducible rfl)
                    simp only [Act.put, List.setIfInBounds_toArray, List.set_cons_zero, List.set_cons_succ]
                    refine wpAnyH_take (i := 14) (oi := ⟨some 140, _, _, _, _, _⟩) (v := undef) rfl (by kernel_rfl) (by kernel_rfl) (by kernel_rfl) (fun _ _ _ h => h) (Or.inr ⟨by rfl, rfl⟩) (by assumption) ?_
                    simp only [Act.put, List.setIfInBounds_toArray, List.set_cons_zero, List.set_cons_succ]
                    refine wpAnyH_take (i := 15) (oi := ⟨some 141, _, _, _, _, _⟩) (v := undef) rfl (by kernel_rfl) (by kernel_rfl) (by kernel_rfl) (fun _ _ _ h => h) (Or.inr ⟨by rfl, rfl⟩) (by assumption) ?_
                    simp only [Act.put, List.setIfInBounds_toArray, List.set_cons_zero, List.set_cons_succ]
                    refine wpAnyH_take (i := 16) (oi := ⟨some 142, _, _, _, _, _⟩) (v := undef) rfl (by kernel_rfl) (by kernel_rfl) (by kernel_rfl) (fun _ _ _ h => h) (Or.inr ⟨by rfl, rfl⟩) (by assumption) ?_
                    simp only [Act.put, List.setIfInBounds_toArray, List.set_cons_zero, List.set_cons_succ]
                    refine wpAnyH_take (i := 17) (oi := ⟨some 143, _, _, _, _, _⟩) (v := ?_) rfl (by kernel_rfl) (by kernel_rfl) (by kernel_rfl) (fun _ _ _ h => h) (Or.inl ⟨by rfl, ?_⟩) (by assumption) ?_
                    rotate_left
                    · (intro w' hSw; obtain ⟨k0, k1, k3, k4⟩ := hcl _ hSw; go_simp; try with_reducible rfl)
                    simp only [Act.put, List.setIfInBounds_toArray, List.set_cons_zero, List.set_cons_succ]
                    refine wpAnyH_take (i := 18) (oi := ⟨some 144, _, _, _, _, _⟩) (v := ?_) rfl (by kernel_rfl) (by kernel_rfl) (by kernel_rfl) (fun _ _ _ h => h) (Or.inl ⟨by rfl, ?_⟩) (by assumption) ?_
                    rotate_left
                    · (intro w' hSw; obtain ⟨k0, k1, k3, k4⟩ := hcl _ hSw; go_simp; try with_reducible rfl)
                    simp only [Act.put, List.setIfInBounds_toArray, List.set_cons_zero, List.set_cons_succ]
                    refine wpAnyH_take (i := 19) (oi := ⟨some 6, _, _, _, _, _⟩) (v := ?_) rfl (by kernel_rfl) (by kernel_rfl) (by kernel_rfl) (fun _ _ _ h => h) (Or.inl ⟨by rfl, ?_⟩) (by assumption) ?_
                    rotate_left
                    · (intro w' hSw; obtain ⟨k0, k1, k3, k4⟩ := hcl _ hSw; go_simp; try with_reducible rfl)
                    simp only [Act.put, List.setIfInBounds_toArray, List.set_cons_zero, List.set_cons_succ]
                    refine wpAnyH_done (by kernel_rfl) ?_ _
                    refine NoPanic.normal ?_
                    go_wp2
                    go_ret
                    exact ⟨rfl, hend _ b0⟩
                · have hi3 : decide ((i : Int) < (ls.length : Int)) = false := decide_eq_false (by omega)
                  have hi4 : decide (i < ls.length) = false := decide_eq_false hil
                  have hlf : ls.getD i .empty = ⟨#[]⟩ := by rw [List.getD_eq_getElem?_getD, List.getElem?_eq_none (by omega)]; rfl
                  rw [hlf] at hbin
                  obtain ⟨lf, hlf2⟩ : ∃ lf : ByteArray, lf = ⟨#[]⟩ := ⟨_, rfl⟩
                  rw [← hlf2] at hbin
                  clear hb0 hin hip hfw hfw2 hrows hinv hfO hpth hlf
                  have Xc0 := X.cell (j := 0) rfl
                  have Xc1 := X.cell (j := 1) rfl
                  have Xc2 := X.cell (j := 2) rfl
                  have Yc0 := Y.cell (j := 0) rfl
                  have Yc1 := Y.cell (j := 1) rfl
                  have Yc2 := Y.cell (j := 2) rfl
                  go_wp2
                  clear Xc0 Xc1 Xc2 Yc0 Yc1 Yc2
                  rw [← hlf2]
                  clear hd0 hi3 hi4 hlf2
                  have hcl : ∀ w', Below w7.heap.size w7 w' → w'.cell? ⟨w.heap.size, 1, none⟩ = some (.int .i64 (d : Int)) ∧ w'.cell? ⟨w.heap.size + 1, 1, none⟩ = some (.string s) ∧ w'.cell? (ta.add d) = some (.slice (some ra) 1 rc) ∧ w'.cell? ra = some (.int .u64 (root : Int)) := fun w' b => ⟨(X.below b).cell rfl, (Y.below b).cell rfl, (b.cell rl1).trans rt1, (b.cell rl2).trans rt2⟩
                  have HNM := fun w' (b : Below w7.heap.size w7 w') => nums_is p pth (by rw [Hpd.out]; omega) (.slice pa d pc) vp w' (PV.below b).rd (P.below b).rd
                  have hend := fun w' (b : Below w7.heap.size w7 w') => c.trans (b.mono c.size)
                  have b0 : Below w7.heap.size w7 w7.drew := (Below.refl _ _).drew
                  clear X Y LV QV PV T P h c
                  by_cases hsl : s = lf
                  · subst hsl
                    by_cases hpp : p = pth
                    · have e1 : c1 = root := hbin.2 ⟨rfl, hpp⟩
                      subst e1
                      rw [decide_eq_true hpp] at HNM
                      clear hbin hpp
                      go_wp2
                      refine wp_region_noPanic ?_
                      refine wp_region_held_drew (S := Below w7.heap.size w7) (by kernel_rfl) ?_ (fun hHeld => ?_)
                      · exact b0
                      refine wpAnyH_take (i := 0) (oi := ⟨some 126, _, _, _, _, _⟩) (v := ?_) rfl (by kernel_rfl) (by kernel_rfl) (by kernel_rfl) (fun _ _ _ h => h) (Or.inl ⟨by rfl, ?_⟩) (by assumption) ?_
                      rotate_left
                      · (intro w' hSw; obtain ⟨k0, k1, k3, k4⟩ := hcl _ hSw; go_simp; try with_reducible rfl)
                      simp only [Act.put, List.setIfInBounds_toArray, List.set_cons_zero, List.set_cons_succ]
                      refine wpAnyH_take (i := 1) (oi := ⟨some 127, _, _, _, _, _⟩) (v := ?_) rfl (by kernel_rfl) (by kernel_rfl) (by kernel_rfl) (fun _ _ _ h => h) (Or.inl ⟨by rfl, ?_⟩) (by assumption) ?_
                      rotate_left
                      · (intro w' hSw; obtain ⟨k0, k1, k3, k4⟩ := hcl _ hSw; go_simp; try with_reducible rfl)
                      simp only [Act.put, List.setIfInBounds_toArray, List.set_cons_zero, List.set_cons_succ]
                      refine wpAnyH_take (i := 2) (oi := ⟨some 128, _, _, _, _, _⟩) (v := ?_) rfl (by kernel_rfl) (by kernel_rfl) (by kernel_rfl) (fun _ _ _ h => h) (Or.inl ⟨by rfl, ?_⟩) (by assumption) ?_
                      rotate_left
                      · (intro w' hSw; obtain ⟨k0, k1, k3, k4⟩ := hcl _ hSw; go_simp; try with_reducible rfl)
                      simp only [Act.put, List.setIfInBounds_toArray, List.set_cons_zero, List.set_cons_succ]
                      refine wpAnyH_take (i := 3) (oi := ⟨some 129, _, _, _, _, _⟩) (v := ?_) rfl (by kernel_rfl) (by kernel_rfl) (by kernel_rfl) (fun _ _ _ h => h) (Or.inl ⟨by rfl, ?_⟩) (by assumption) ?_
                      rotate_left
                      · (intro w' hSw; obtain ⟨k0, k1, k3, k4⟩ := hcl _ hSw; go_simp; try with_reducible rfl)
                      simp only [Act.put, List.setIfInBounds_toArray, List.set_cons_zero, List.set_cons_succ]
                      refine wpAnyH_take (i := 4) (oi := ⟨some 130, _, _, _, _, _⟩) (v := ?_) rfl (by kernel_rfl) (by kernel_rfl) (by kernel_rfl) (fun _ _ _ h => h) (Or.inl ⟨by rfl, ?_⟩) (by assumption) ?_
                      rotate_left
                      · (intro w' hSw; obtain ⟨k0, k1, k3, k4⟩ := hcl _ hSw; go_simp; try with_reducible rfl)
                      simp only [Act.put, List.setIfInBounds_toArray, List.set_cons_zero, List.set_cons_succ]
                      refine wpAnyH_take (i := 5) (oi := ⟨some 131, _, _, _, _, _⟩) (v := ?_) rfl (by kernel_rfl) (by kernel_rfl) (by kernel_rfl) (fun _ _ _ h => h) (Or.inl ⟨by rfl, ?_⟩) (by assumption) ?_
                      rotate_left
                      · (intro w' hSw; obtain ⟨k0, k1, k3, k4⟩ := hcl _ hSw; go_simp; try with_reducible rfl)
                      simp only [Act.put, List.setIfInBounds_toArray, List.set_cons_zero, List.set_cons_succ]
                      refine wpAnyH_take (i := 6) (oi := ⟨some 132, _, _, _, _, _⟩) (v := ?_) rfl (by kernel_rfl) (by kernel_rfl) (by kernel_rfl) (fun _ _ _ h => h) (Or.inl ⟨by rfl, ?_⟩) (by assumption) ?_
                      rotate_left
                      · (intro w' hSw; obtain ⟨k0, k1, k3, k4⟩ := hcl _ hSw; go_simp; try with_reducible rfl)
                      simp only [Act.put, List.setIfInBounds_toArray, List.set_cons_zero, List.set_cons_succ]
                      refine wpAnyH_take (i := 7) (oi := ⟨some 133, _, _, _, _, _⟩) (v := ?_) rfl (by kernel_rfl) (by kernel_rfl) (by kernel_rfl) (fun _ _ _ h => h) (Or.inl ⟨by rfl, ?_⟩) (by assumption) ?_
                      rotate_left
                      · (intro w' hSw; obtain ⟨k0, k1, k3, k4⟩ := hcl _ hSw; go_simp; try with_reducible rfl)
                      simp only [Act.put, List.setIfInBounds_toArray, List.set_cons_zero, List.set_cons_succ]
                      refine wpAnyH_take (i := 8) (oi := ⟨some 134, _, _, _, _, _⟩) (v := ?_) rfl (by kernel_rfl) (by kernel_rfl) (by kernel_rfl) (fun _ _ _ h => h) (Or.inl ⟨by rfl, ?_⟩) (by assumption) ?_
                      rotate_left
                      · (intro w' hSw; obtain ⟨k0, k1, k3, k4⟩ := hcl _ hSw; go_simp; try with_reducible rfl)
                      simp only [Act.put, List.setIfInBounds_toArray, List.set_cons_zero, List.set_cons_succ]
                      refine wpAnyH_take (i := 9) (oi := ⟨some 135, _, _, _, _, _⟩) (v := ?_) rfl (by kernel_rfl) (by kernel_rfl) (by kernel_rfl) (fun _ _ _ h => h) (Or.inl ⟨by rfl, ?_⟩) (by assumption) ?_
                      rotate_left
                      · (intro w' hSw; obtain ⟨k0, k1, k3, k4⟩ := hcl _ hSw; go_simp; try with_reducible rfl)
                      simp only [Act.put, List.setIfInBounds_toArray, List.set_cons_zero, List.set_cons_succ]
                      refine wpAnyH_take (i := 10) (oi := ⟨some 136, _, _, _, _, _⟩) (v := ?_) rfl (by kernel_rfl) (by kernel_rfl) (by kernel_rfl) (fun _ _ _ h => h) (Or.inl ⟨by rfl, ?_⟩) (by assumption) ?_
                      rotate_left
                      · (intro w' hSw; obtain ⟨k0, k1, k3, k4⟩ := hcl _ hSw; go_simp; try with_reducible rfl)
                      simp only [Act.put, List.setIfInBounds_toArray, List.set_cons_zero, List.set_cons_succ]
                      refine wpAnyH_take (i := 11) (oi := ⟨some 137, _, _, _, _, _⟩) (v := ?_) rfl (by kernel_rfl) (by kernel_rfl) (by kernel_rfl) (fun _ _ _ h => h) (Or.inl ⟨by rfl, ?_⟩) (by assumption) ?_
                      rotate_left
                      · (intro w' hSw; obtain ⟨k0, k1, k3, k4⟩ := hcl _ hSw; go_simp; try with_reducible rfl)
                      simp only [Act.put, List.setIfInBounds_toArray, List.set_cons_zero, List.set_cons_succ]
                      refine wpAnyH_take (i := 12) (oi := ⟨some 138, _, _, _, _, _⟩) (v := ?_) rfl (by kernel_rfl) (by kernel_rfl) (by kernel_rfl) (fun _ _ _ h => h) (Or.inl ⟨by rfl, ?_⟩) (by assumption) ?_
                      rotate_left
                      · (intro w' hSw; obtain ⟨k0, k1, k3, k4⟩ := hcl _ hSw; go_simp; try with_reducible rfl)
                      simp only [Act.put, List.setIfInBounds_toArray, List.set_cons_zero, List.set_cons_succ]
                      refine wpAnyH_take (i := 13) (oi := ⟨some 139, _, _, _, _, _⟩) (v := ?_) rfl (by kernel_rfl) (by kernel_rfl) (by kernel_rfl) (fun _ _ _ h => h) (Or.inl ⟨by rfl, ?_⟩) (by assumption) ?_
                      rotate_left
                      · (intro w' hSw; obtain ⟨k0, k1, k3, k4⟩ := hcl _ hSw; go_simp; try with_reducible rfl)
                      simp only [Act.put, List.setIfInBounds_toArray, List.set_cons_zero, List.set_cons_succ]
                      refine wpAnyH_take (i := 14) (oi := ⟨some 140, _, _, _, _, _⟩) (v := ?_) rfl (by kernel_rfl) (by kernel_rfl) (by kernel_rfl) (fun _ _ _ h => h) (Or.inl ⟨by rfl, ?_⟩) (by assumption) ?_
                      rotate_left
                      · (intro w' hSw; obtain ⟨k0, k1, k3, k4⟩ := hcl _ hSw; go_simp; try with_reducible rfl)
                      simp only [Act.put, List.setIfInBounds_toArray, List.set_cons_zero, List.set_cons_succ]
                      refine wpAnyH_take (i := 15) (oi := ⟨some 141, _, _, _, _, _⟩) (v := ?_) rfl (by kernel_rfl) (by kernel_rfl) (by kernel_rfl) (fun _ _ _ h => h) (Or.inl ⟨by rfl, ?_⟩) (by assumption) ?_
                      rotate_left
                      · (intro w' hSw; obtain ⟨k0, k1, k3, k4⟩ := hcl _ hSw; go_simp; try with_reducible rfl)
                      simp only [Act.put, List.setIfInBounds_toArray, List.set_cons_zero, List.set_cons_succ]
                      refine wpAnyH_ready (rs := [16]) (by kernel_rfl) (by simp) ?_
                      refine AllReadyH.cons (o := ⟨some 142, _, _, _, _, _⟩) rfl (fun K hK => ?_) AllReadyH.nil
                      go_simp
                      go_at_call 31
                      refine (HNM _ b0).mono ?_
                      rintro e wc16 ⟨rfl, hb16⟩
                      go_wp2_with fail
                      refine hK.out _ _ (b0.trans (hb16.mono b0.size)) (fun hHeld16 => ?_)
                      clear hK K
                      try simp only [Act.put, List.setIfInBounds_toArray, List.set_cons_zero, List.set_cons_succ]
                      refine wpAnyH_take (i := 17) (oi := ⟨some 143, _, _, _, _, _⟩) (v := ?_) rfl (by kernel_rfl) (by kernel_rfl) (by kernel_rfl) (fun _ _ _ h => h) (Or.inl ⟨by rfl, ?_⟩) (by assumption) ?_
                      rotate_left
                      · (intro w' hSw; obtain ⟨k0, k1, k3, k4⟩ := hcl _ hSw; go_simp; try with_reducible rfl)
                      simp only [Act.put, List.setIfInBounds_toArray, List.set_cons_zero, List.set_cons_succ]
                      refine wpAnyH_take (i := 18) (oi := ⟨some 144, _, _, _, _, _⟩) (v := ?_) rfl (by kernel_rfl) (by kernel_rfl) (by kernel_rfl) (fun _ _ _ h => h) (Or.inl ⟨by rfl, ?_⟩) (by assumption) ?_
                      rotate_left
                      · (intro w' hSw; obtain ⟨k0, k1, k3, k4⟩ := hcl _ hSw; go_simp; try with_reducible rfl)
                      simp only [Act.put, List.setIfInBounds_toArray, List.set_cons_zero, List.set_cons_succ]
                      refine wpAnyH_take (i := 19) (oi := ⟨some 6, _, _, _, _, _⟩) (v := ?_) rfl (by kernel_rfl) (by kernel_rfl) (by kernel_rfl) (fun _ _ _ h => h) (Or.inl ⟨by rfl, ?_⟩) (by assumption) ?_
                      rotate_left
                      · (intro w' hSw; obtain ⟨k0, k1, k3, k4⟩ := hcl _ hSw; go_simp; try with_reducible rfl)
                      simp only [Act.put, List.setIfInBounds_toArray, List.set_cons_zero, List.set_cons_succ]
                      refine wpAnyH_done (by kernel_rfl) ?_ _
                      refine NoPanic.normal ?_
                      go_wp2
                      go_ret
                      exact ⟨rfl, hend _ hHeld16⟩
                    · have e1 : ¬ c1 = root := fun h => hpp (hbin.1 h).2
                      have g1 : ((c1 : Int) == (root : Int)) = false := by rw [beq_eq_false_iff_ne]; omega
                      have g2 : (c1 == root) = false := by rw [beq_eq_false_iff_ne]; exact e1
                      rw [decide_eq_false hpp] at HNM
                      clear hbin hpp e1
                      go_wp2
                      refine wp_region_noPanic ?_
                      refine wp_region_held_drew (S := Below w7.heap.size w7) (by kernel_rfl) ?_ (fun hHeld => ?_)
                      · exact b0
                      refine wpAnyH_take (i := 0) (oi := ⟨some 126, _, _, _, _, _⟩) (v := ?_) rfl (by kernel_rfl) (by kernel_rfl) (by kernel_rfl) (fun _ _ _ h => h) (Or.inl ⟨by rfl, ?_⟩) (by assumption) ?_
                      rotate_left
                      · (intro w' hSw; obtain ⟨k0, k1, k3, k4⟩ := hcl _ hSw; go_simp; try with_reducible rfl)
                      simp only [Act.put, List.setIfInBounds_toArray, List.set_cons_zero, List.set_cons_succ]
                      refine wpAnyH_take (i := 1) (oi := ⟨some 127, _, _, _, _, _⟩) (v := ?_) rfl (by kernel_rfl) (by kernel_rfl) (by kernel_rfl) (fun _ _ _ h => h) (Or.inl ⟨by rfl, ?_⟩) (by assumption) ?_
                      rotate_left
                      · (intro w' hSw; obtain ⟨k0, k1, k3, k4⟩ := hcl _ hSw; go_simp; try with_reducible rfl)
                      simp only [Act.put, List.setIfInBounds_toArray, List.set_cons_zero, List.set_cons_succ]
                      refine wpAnyH_take (i := 2) (oi := ⟨some 128, _, _, _, _, _⟩) (v := ?_) rfl (by kernel_rfl) (by kernel_rfl) (by kernel_rfl) (fun _ _ _ h => h) (Or.inl ⟨by rfl, ?_⟩) (by assumption) ?_
                      rotate_left
                      · (intro w' hSw; obtain ⟨k0, k1, k3, k4⟩ := hcl _ hSw; go_simp; try with_reducible rfl)
                      simp only [Act.put, List.setIfInBounds_toArray, List.set_cons_zero, List.set_cons_succ]
                      refine wpAnyH_take (i := 3) (oi := ⟨some 129, _, _, _, _, _⟩) (v := ?_) rfl (by kernel_rfl) (by kernel_rfl) (by kernel_rfl) (fun _ _ _ h => h) (Or.inl ⟨by rfl, ?_⟩) (by assumption) ?_
                      rotate_left
                      · (intro w' hSw; obtain ⟨k0, k1, k3, k4⟩ := hcl _ hSw; go_simp; try with_reducible rfl)
                      simp only [Act.put, List.setIfInBounds_toArray, List.set_cons_zero, List.set_cons_succ]
                      refine wpAnyH_take (i := 4) (oi := ⟨some 130, _, _, _, _, _⟩) (v := ?_) rfl (by kernel_rfl) (by kernel_rfl) (by kernel_rfl) (fun _ _ _ h => h) (Or.inl ⟨by rfl, ?_⟩) (by assumption) ?_
                      rotate_left
                      · (intro w' hSw; obtain ⟨k0, k1, k3, k4⟩ := hcl _ hSw; go_simp; try with_reducible rfl)
                      simp only [Act.put, List.setIfInBounds_toArray, List.set_cons_zero, List.set_cons_succ]
                      refine wpAnyH_take (i := 5) (oi := ⟨some 131, _, _, _, _, _⟩) (v := ?_) rfl (by kernel_rfl) (by kernel_rfl) (by kernel_rfl) (fun _ _ _ h => h) (Or.inl ⟨by rfl, ?_⟩) (by assumption) ?_
                      rotate_left
                      · (intro w' hSw; obtain ⟨k0, k1, k3, k4⟩ := hcl _ hSw; go_simp; try with_reducible rfl)
                      simp only [Act.put, List.setIfInBounds_toArray, List.set_cons_zero, List.set_cons_succ]
                      refine wpAnyH_take (i := 6) (oi := ⟨some 132, _, _, _, _, _⟩) (v := ?_) rfl (by kernel_rfl) (by kernel_rfl) (by kernel_rfl) (fun _ _ _ h => h) (Or.inl ⟨by rfl, ?_⟩) (by assumption) ?_
                      rotate_left
                      · (intro w' hSw; obtain ⟨k0, k1, k3, k4⟩ := hcl _ hSw; go_simp; try with_reducible rfl)
                      simp only [Act.put, List.setIfInBounds_toArray, List.set_cons_zero, List.set_cons_succ]
                      refine wpAnyH_take (i := 7) (oi := ⟨some 133, _, _, _, _, _⟩) (v := ?_) rfl (by kernel_rfl) (by kernel_rfl) (by kernel_rfl) (fun _ _ _ h => h) (Or.inl ⟨by rfl, ?_⟩) (by assumption) ?_
                      rotate_left
                      · (intro w' hSw; obtain ⟨k0, k1, k3, k4⟩ := hcl _ hSw; go_simp; try with_reducible rfl)
                      simp only [Act.put, List.setIfInBounds_toArray, List.set_cons_zero, List.set_cons_succ]
                      refine wpAnyH_take (i := 8) (oi := ⟨some 134, _, _, _, _, _⟩) (v := ?_) rfl (by kernel_rfl) (by kernel_rfl) (by kernel_rfl) (fun _ _ _ h => h) (Or.inl ⟨by rfl, ?_⟩) (by assumption) ?_
                      rotate_left
                      · (intro w' hSw; obtain ⟨k0, k1, k3, k4⟩ := hcl _ hSw; go_simp; try with_reducible rfl)
                      simp only [Act.put, List.setIfInBounds_toArray, List.set_cons_zero, List.set_cons_succ]
                      refine wpAnyH_take (i := 9) (oi := ⟨some 135, _, _, _, _, _⟩) (v := ?_) rfl (by kernel_rfl) (by kernel_rfl) (by kernel_rfl) (fun _ _ _ h => h) (Or.inl ⟨by rfl, ?_⟩) (by assumption) ?_
                      rotate_left
                      · (intro w' hSw; obtain ⟨k0, k1, k3, k4⟩ := hcl _ hSw; go_simp; try with_reducible rfl)
                      simp only [Act.put, List.setIfInBounds_toArray, List.set_cons_zero, List.set_cons_succ]
                      refine wpAnyH_take (i := 10) (oi := ⟨some 136, _, _, _, _, _⟩) (v := ?_) rfl (by kernel_rfl) (by kernel_rfl) (by kernel_rfl) (fun _ _ _ h => h) (Or.inl ⟨by rfl, ?_⟩) (by assumption) ?_
                      rotate_left
                      · (intro w' hSw; obtain ⟨k0, k1, k3, k4⟩ := hcl _ hSw; go_simp; try with_reducible rfl)
                      simp only [Act.put, List.setIfInBounds_toArray, List.set_cons_zero, List.set_cons_succ]
                      refine wpAnyH_take (i := 11) (oi := ⟨some 137, _, _, _, _, _⟩) (v := ?_) rfl (by kernel_rfl) (by kernel_rfl) (by kernel_rfl) (fun _ _ _ h => h) (Or.inl ⟨by rfl, ?_⟩) (by assumption) ?_
                      rotate_left
                      · (intro w' hSw; obtain ⟨k0, k1, k3, k4⟩ := hcl _ hSw; go_simp; try with_reducible rfl)
                      simp only [Act.put, List.setIfInBounds_toArray, List.set_cons_zero, List.set_cons_succ]
                      refine wpAnyH_take (i := 12) (oi := ⟨some 138, _, _, _, _, _⟩) (v := ?_) rfl (by kernel_rfl) (by kernel_rfl) (by kernel_rfl) (fun _ _ _ h => h) (Or.inl ⟨by rfl, ?_⟩) (by assumption) ?_
                      rotate_left
                      · (intro w' hSw; obtain ⟨k0, k1, k3, k4⟩ := hcl _ hSw; go_simp; try with_reducible rfl)
                      simp only [Act.put, List.setIfInBounds_toArray, List.set_cons_zero, List.set_cons_succ]
                      refine wpAnyH_take (i := 13) (oi := ⟨some 139, _, _, _, _, _⟩) (v := ?_) rfl (by kernel_rfl) (by kernel_rfl) (by kernel_rfl) (fun _ _ _ h => h) (Or.inl ⟨by rfl, ?_⟩) (by assumption) ?_
                      rotate_left
                      · (intro w' hSw; obtain ⟨k0, k1, k3, k4⟩ := hcl _ hSw; go_simp; try with_reducible rfl)
                      simp only [Act.put, List.setIfInBounds_toArray, List.set_cons_zero, List.set_cons_succ]
                      refine wpAnyH_take (i := 14) (oi := ⟨some 140, _, _, _, _, _⟩) (v := ?_) rfl (by kernel_rfl) (by kernel_rfl) (by kernel_rfl) (fun _ _ _ h => h) (Or.inl ⟨by rfl, ?_⟩) (by assumption) ?_
                      rotate_left
                      · (intro w' hSw; obtain ⟨k0, k1, k3, k4⟩ := hcl _ hSw; go_simp; try with_reducible rfl)
                      simp only [Act.put, List.setIfInBounds_toArray, List.set_cons_zero, List.set_cons_succ]
                      refine wpAnyH_take (i := 15) (oi := ⟨some 141, _, _, _, _, _⟩) (v := ?_) rfl (by kernel_rfl) (by kernel_rfl) (by kernel_rfl) (fun _ _ _ h => h) (Or.inl ⟨by rfl, ?_⟩) (by assumption) ?_
                      rotate_left
                      · (intro w' hSw; obtain ⟨k0, k1, k3, k4⟩ := hcl _ hSw; go_simp; try with_reducible rfl)
                      simp only [Act.put, List.setIfInBounds_toArray, List.set_cons_zero, List.set_cons_succ]
                      refine wpAnyH_ready (rs := [16]) (by kernel_rfl) (by simp) ?_
                      refine AllReadyH.cons (o := ⟨some 142, _, _, _, _, _⟩) rfl (fun K hK => ?_) AllReadyH.nil
                      go_simp
                      go_at_call 31
                      refine (HNM _ b0).mono ?_
                      rintro e wc16 ⟨rfl, hb16⟩
                      go_wp2_with fail
                      refine hK.out _ _ (b0.trans (hb16.mono b0.size)) (fun hHeld16 => ?_)
                      clear hK K
                      try simp only [Act.put, List.setIfInBounds_toArray, List.set_cons_zero, List.set_cons_succ]
                      refine wpAnyH_take (i := 17) (oi := ⟨some 143, _, _, _, _, _⟩) (v := ?_) rfl (by kernel_rfl) (by kernel_rfl) (by kernel_rfl) (fun _ _ _ h => h) (Or.inl ⟨by rfl, ?_⟩) (by assumption) ?_
                      rotate_left
                      · (intro w' hSw; obtain ⟨k0, k1, k3, k4⟩ := hcl _ hSw; go_simp; try with_reducible rfl)
                      simp only [Act.put, List.setIfInBounds_toArray, List.set_cons_zero, List.set_cons_succ]
                      refine wpAnyH_take (i := 18) (oi := ⟨some 144, _, _, _, _, _⟩) (v := ?_) rfl (by kernel_rfl) (by kernel_rfl) (by kernel_rfl) (fun _ _ _ h => h) (Or.inl ⟨by rfl, ?_⟩) (by assumption) ?_
                      rotate_left
                      · (intro w' hSw; obtain ⟨k0, k1, k3, k4⟩ := hcl _ hSw; go_simp; try with_reducible rfl)
                      simp only [Act.put, List.setIfInBounds_toArray, List.set_cons_zero, List.set_cons_succ]
                      refine wpAnyH_take (i := 19) (oi := ⟨some 6, _, _, _, _, _⟩) (v := ?_) rfl (by kernel_rfl) (by kernel_rfl) (by kernel_rfl) (fun _ _ _ h => h) (Or.inl ⟨by rfl, ?_⟩) (by assumption) ?_
                      rotate_left
                      · (intro w' hSw; obtain ⟨k0, k1, k3, k4⟩ := hcl _ hSw; go_simp; try with_reducible rfl)
                      simp only [Act.put, List.setIfInBounds_toArray, List.set_cons_zero, List.set_cons_succ]
                      refine wpAnyH_done (by kernel_rfl) ?_ _
                      refine NoPanic.normal ?_
                      go_wp2
                      go_ret
                      exact ⟨rfl, hend _ hHeld16⟩
                  · have e1 : ¬ c1 = root := fun h => hsl (hbin.1 h).1
                    have g1 : ((c1 : Int) == (root : Int)) = false := by rw [beq_eq_false_iff_ne]; omega
                    have g2 : (c1 == root) = false := by rw [beq_eq_false_iff_ne]; exact e1
                    have g3 : (s.toList == lf.toList) = false := by rw [beq_eq_false_iff_ne]; exact fun h => hsl (bytes_inj h)
                    clear hbin hsl e1
                    go_wp2
                    refine wp_region_noPanic ?_
                    refine wp_region_held_drew (S := Below w7.heap.size w7) (by kernel_rfl) ?_ (fun hHeld => ?_)
                    · exact b0
                    refine wpAnyH_take (i := 0) (oi := ⟨some 126, _, _, _, _, _⟩) (v := ?_) rfl (by kernel_rfl) (by kernel_rfl) (by kernel_rfl) (fun _ _ _ h => h) (Or.inl ⟨by rfl, ?_⟩) (by assumption) ?_
                    rotate_left
                    · (intro w' hSw; obtain ⟨k0, k1, k3, k4⟩ := hcl _ hSw; go_simp; try with_reducible rfl)
                    simp only [Act.put, List.setIfInBounds_toArray, List.set_cons_zero, List.set_cons_succ]
                    refine wpAnyH_take (i := 1) (oi := ⟨some 127, _, _, _, _, _⟩) (v := ?_) rfl (by kernel_rfl) (by kernel_rfl) (by kernel_rfl) (fun _ _ _ h => h) (Or.inl ⟨by rfl, ?_⟩) (by assumption) ?_
                    rotate_left
                    · (intro w' hSw; obtain ⟨k0, k1, k3, k4⟩ := hcl _ hSw; go_simp; try with_reducible rfl)
                    simp only [Act.put, List.setIfInBounds_toArray, List.set_cons_zero, List.set_cons_succ]
                    refine wpAnyH_take (i := 2) (oi := ⟨some 128, _, _, _, _, _⟩) (v := ?_) rfl (by kernel_rfl) (by kernel_rfl) (by kernel_rfl) (fun _ _ _ h => h) (Or.inl ⟨by rfl, ?_⟩) (by assumption) ?_
                    rotate_left
                    · (intro w' hSw; obtain ⟨k0, k1, k3, k4⟩ := hcl _ hSw; go_simp; try with_reducible rfl)
                    simp only [Act.put, List.setIfInBounds_toArray, List.set_cons_zero, List.set_cons_succ]
                    refine wpAnyH_take (i := 3) (oi := ⟨some 129, _, _, _, _, _⟩) (v := ?_) rfl (by kernel_rfl) (by kernel_rfl) (by kernel_rfl) (fun _ _ _ h => h) (Or.inl ⟨by rfl, ?_⟩) (by assumption) ?_
                    rotate_left
                    · (intro w' hSw; obtain ⟨k0, k1, k3, k4⟩ := hcl _ hSw; go_simp; try with_reducible rfl)
                    simp only [Act.put, List.setIfInBounds_toArray, List.set_cons_zero, List.set_cons_succ]
                    refine wpAnyH_take (i := 4) (oi := ⟨some 130, _, _, _, _, _⟩) (v := ?_) rfl (by kernel_rfl) (by kernel_rfl) (by kernel_rfl) (fun _ _ _ h => h) (Or.inl ⟨by rfl, ?_⟩) (by assumption) ?_
                    rotate_left
                    · (intro w' hSw; obtain ⟨k0, k1, k3, k4⟩ := hcl _ hSw; go_simp; try with_reducible rfl)
                    simp only [Act.put, List.setIfInBounds_toArray, List.set_cons_zero, List.set_cons_succ]
                    refine wpAnyH_take (i := 5) (oi := ⟨some 131, _, _, _, _, _⟩) (v := ?_) rfl (by kernel_rfl) (by kernel_rfl) (by kernel_rfl) (fun _ _ _ h => h) (Or.inl ⟨by rfl, ?_⟩) (by assumption) ?_
                    rotate_left
                    · (intro w' hSw; obtain ⟨k0, k1, k3, k4⟩ := hcl _ hSw; go_simp; try with_reducible rfl)
                    simp only [Act.put, List.setIfInBounds_toArray, List.set_cons_zero, List.set_cons_succ]
                    refine wpAnyH_take (i := 6) (oi := ⟨some 132, _, _, _, _, _⟩) (v := ?_) rfl (by kernel_rfl) (by kernel_rfl) (by kernel_rfl) (fun _ _ _ h => h) (Or.inl ⟨by rfl, ?_⟩) (by assumption) ?_
                    rotate_left
                    · (intro w' hSw; obtain ⟨k0, k1, k3, k4⟩ := hcl _ hSw; go_simp; try with_reducible rfl)
                    simp only [Act.put, List.setIfInBounds_toArray, List.set_cons_zero, List.set_cons_succ]
                    refine wpAnyH_take (i := 7) (oi := ⟨some 133, _, _, _, _, _⟩) (v := ?_) rfl (by kernel_rfl) (by kernel_rfl) (by kernel_rfl) (fun _ _ _ h => h) (Or.inl ⟨by rfl, ?_⟩) (by assumption) ?_
                    rotate_left
                    · (intro w' hSw; obtain ⟨k0, k1, k3, k4⟩ := hcl _ hSw; go_simp; try with_reducible rfl)
                    simp only [Act.put, List.setIfInBounds_toArray, List.set_cons_zero, List.set_cons_succ]
                    refine wpAnyH_take (i := 8) (oi := ⟨some 134, _, _, _, _, _⟩) (v := ?_) rfl (by kernel_rfl) (by kernel_rfl) (by kernel_rfl) (fun _ _ _ h => h) (Or.inl ⟨by rfl, ?_⟩) (by assumption) ?_
                    rotate_left
                    · (intro w' hSw; obtain ⟨k0, k1, k3, k4⟩ := hcl _ hSw; go_simp; try with_reducible rfl)
                    simp only [Act.put, List.setIfInBounds_toArray, List.set_cons_zero, List.set_cons_succ]
                    refine wpAnyH_take (i := 9) (oi := ⟨some 135, _, _, _, _, _⟩) (v := ?_) rfl (by kernel_rfl) (by kernel_rfl) (by kernel_rfl) (fun _ _ _ h => h) (Or.inl ⟨by rfl, ?_⟩) (by assumption) ?_
                    rotate_left
                    · (intro w' hSw; obtain ⟨k0, k1, k3, k4⟩ := hcl _ hSw; go_simp; try with_reducible rfl)
                    simp only [Act.put, List.setIfInBounds_toArray, List.set_cons_zero, List.set_cons_succ]
                    refine wpAnyH_take (i := 10) (oi := ⟨some 136, _, _, _, _, _⟩) (v := ?_) rfl (by kernel_rfl) (by kernel_rfl) (by kernel_rfl) (fun _ _ _ h => h) (Or.inl ⟨by rfl, ?_⟩) (by assumption) ?_
                    rotate_left
                    · (intro w' hSw; obtain ⟨k0, k1, k3, k4⟩ := hcl _ hSw; go_simp; try with_reducible rfl)
                    simp only [Act.put, List.setIfInBounds_toArray, List.set_cons_zero, List.set_cons_succ]
                    refine wpAnyH_take (i := 11) (oi := ⟨some 137, _, _, _, _, _⟩) (v := ?_) rfl (by kernel_rfl) (by kernel_rfl) (by kernel_rfl) (fun _ _ _ h => h) (Or.inl ⟨by rfl, ?_⟩) (by assumption) ?_
                    rotate_left
                    · (intro w' hSw; obtain ⟨k0, k1, k3, k4⟩ := hcl _ hSw; go_simp; try with_reducible rfl)
                    simp only [Act.put, List.setIfInBounds_toArray, List.set_cons_zero, List.set_cons_succ]
                    refine wpAnyH_take (i := 12) (oi := ⟨some 138, _, _, _, _, _⟩) (v := ?_) rfl (by kernel_rfl) (by kernel_rfl) (by kernel_rfl) (fun _ _ _ h => h) (Or.inl ⟨by rfl, ?_⟩) (by assumption) ?_
                    rotate_left
                    · (intro w' hSw; obtain ⟨k0, k1, k3, k4⟩ := hcl _ hSw; go_simp; try with_reducible rfl)
                    simp only [Act.put, List.setIfInBounds_toArray, List.set_cons_zero, List.set_cons_succ]
                    refine wpAnyH_take (i := 13) (oi := ⟨some 139, _, _, _, _, _⟩) (v := ?_) rfl (by kernel_rfl) (by kernel_rfl) (by kernel_rfl) (fun _ _ _ h => h) (Or.inl ⟨by rfl, ?_⟩) (by assumption) ?_
                    rotate_left
                    · (intro w' hSw; obtain ⟨k0, k1, k3, k4⟩ := hcl _ hSw; go_simp; try with_reducible rfl)
                    simp only [Act.put, List.setIfInBounds_toArray, List.set_cons_zero, List.set_cons_succ]
                    refine wpAnyH_take (i := 14) (oi := ⟨some 140, _, _, _, _, _⟩) (v := undef) rfl (by kernel_rfl) (by kernel_rfl) (by kernel_rfl) (fun _ _ _ h => h) (Or.inr ⟨by rfl, rfl⟩) (by assumption) ?_
                    simp only [Act.put, List.setIfInBounds_toArray, List.set_cons_zero, List.set_cons_succ]
                    refine wpAnyH_take (i := 15) (oi := ⟨some 141, _, _, _, _, _⟩) (v := undef) rfl (by kernel_rfl) (by kernel_rfl) (by kernel_rfl) (fun _ _ _ h => h) (Or.inr ⟨by rfl, rfl⟩) (by assumption) ?_
                    simp only [Act.put, List.setIfInBounds_toArray, List.set_cons_zero, List.set_cons_succ]
                    refine wpAnyH_take (i := 16) (oi := ⟨some 142, _, _, _, _, _⟩) (v := undef) rfl (by kernel_rfl) (by kernel_rfl) (by kernel_rfl) (fun _ _ _ h => h) (Or.inr ⟨by rfl, rfl⟩) (by assumption) ?_
                    simp only [Act.put, List.setIfInBounds_toArray, List.set_cons_zero, List.set_cons_succ]
                    refine wpAnyH_take (i := 17) (oi := ⟨some 143, _, _, _, _, _⟩) (v := ?_) rfl (by kernel_rfl) (by kernel_rfl) (by kernel_rfl) (fun _ _ _ h => h) (Or.inl ⟨by rfl, ?_⟩) (by assumption) ?_
                    rotate_left
                    · (intro w' hSw; obtain ⟨k0, k1, k3, k4⟩ := hcl _ hSw; go_simp; try with_reducible rfl)
                    simp only [Act.put, List.setIfInBounds_toArray, List.set_cons_zero, List.set_cons_succ]
                    refine wpAnyH_take (i := 18) (oi := ⟨some 144, _, _, _, _, _⟩) (v := ?_) rfl (by kernel_rfl) (by kernel_rfl) (by kernel_rfl) (fun _ _ _ h => h) (Or.inl ⟨by rfl, ?_⟩) (by assumption) ?_
                    rotate_left
                    · (intro w' hSw; obtain ⟨k0, k1, k3, k4⟩ := hcl _ hSw; go_simp; try with_reducible rfl)
                    simp only [Act.put, List.setIfInBounds_toArray, List.set_cons_zero, List.set_cons_succ]
                    refine wpAnyH_take (i := 19) (oi := ⟨some 6, _, _, _, _, _⟩) (v := ?_) rfl (by kernel_rfl) (by kernel_rfl) (by kernel_rfl) (fun _ _ _ h => h) (Or.inl ⟨by rfl, ?_⟩) (by assumption) ?_
                    rotate_left
                    · (intro w' hSw; obtain ⟨k0, k1, k3, k4⟩ := hcl _ hSw; go_simp; try with_reducible rfl)
                    simp only [Act.put, List.setIfInBounds_toArray, List.set_cons_zero, List.set_cons_succ]
                    refine wpAnyH_done (by kernel_rfl) ?_ _
                    refine NoPanic.normal ?_
                    go_wp2
                    go_ret
                    exact ⟨rfl, hend _ b0⟩
              · have hd0 : decide (0 < O3.bads) = true := decide_eq_true (by omega)
                clear hbin hb0
                have Xc0 := X.cell (j := 0) rfl
                have Xc1 := X.cell (j := 1) rfl
                have Xc2 := X.cell (j := 2) rfl
                have Yc0 := Y.cell (j := 0) rfl
                have Yc1 := Y.cell (j := 1) rfl
                have Yc2 := Y.cell (j := 2) rfl
                go_wp2
                go_ret
                exact ⟨rfl, c⟩
            · have HP := path_no (Om.tree ls d) ii (by rw [tree0]; exact fun h => hin h.2) _ _ T
              have HC := fun w' (h : Kit.Rd w' (.slice pa d pc) (nums p)) => climb_no (L := M) s ii p (fun h => hin ⟨h.2.1, by have := h.2.2; rw [Hpd.out] at this; push_cast; exact this⟩) _ w' h
              clear hin
              have HH := HP
              clear HP
              have Xc0 := X.cell (j := 0) rfl
              have Xc1 := X.cell (j := 1) rfl
              have Xc2 := X.cell (j := 2) rfl
              have Yc0 := Y.cell (j := 0) rfl
              have Yc1 := Y.cell (j := 1) rfl
              have Yc2 := Y.cell (j := 2) rfl
              go_wp2_with fail
              refine HH.mono ?_
              clear HH
              rintro x w5 ⟨rfl, b⟩
              clear Xc0 Xc1 Xc2 Yc0 Yc1 Yc2
              replace X := X.below b
              replace Y := Y.below b
              replace LV := LV.below b
              replace QV := QV.below b
              replace T := T.below b
              replace PV := PV.below b
              replace h := h.below b
              replace c := c.trans (b.mono c.size)
              clear b
              have HH := HC _ PV.rd
              clear HC
              have Xc0 := X.cell (j := 0) rfl
              have Xc1 := X.cell (j := 1) rfl
              have Xc2 := X.cell (j := 2) rfl
              have Yc0 := Y.cell (j := 0) rfl
              have Yc1 := Y.cell (j := 1) rfl
              have Yc2 := Y.cell (j := 2) rfl
              go_wp2_with fail
              refine HH.mono ?_
              clear HH
              rintro x w6 ⟨rfl, b⟩
              clear Xc0 Xc1 Xc2 Yc0 Yc1 Yc2
              replace X := X.below b
              replace Y := Y.below b
              replace LV := LV.below b
              replace QV := QV.below b
              replace T := T.below b
              replace PV := PV.below b
              replace h := h.below b
              replace c := c.trans (b.mono c.size)
              clear b
              have Xc0 := X.cell (j := 0) rfl
              have Xc1 := X.cell (j := 1) rfl
              have Xc2 := X.cell (j := 2) rfl
              have Yc0 := Y.cell (j := 0) rfl
              have Yc1 := Y.cell (j := 1) rfl
              have Yc2 := Y.cell (j := 2) rfl
              go_wp2
              go_ret
              exact ⟨rfl, c⟩
  · have HB := build_no h dd hd1 hd2 ls hok _ LV.rd
    clear hok
    have HH := HB
    clear HB
    have Xc0 := X.cell (j := 0) rfl
    have Xc1 := X.cell (j := 1) rfl
    have Xc2 := X.cell (j := 2) rfl
    have Yc0 := Y.cell (j := 0) rfl
    have Yc1 := Y.cell (j := 1) rfl
    have Yc2 := Y.cell (j := 2) rfl
    go_wp2_with fail
    refine HH.mono ?_
    clear HH
    rintro x w2 ⟨rfl, b⟩
    clear Xc0 Xc1 Xc2 Yc0 Yc1 Yc2
    replace X := X.below b
    replace Y := Y.below b
    replace LV := LV.below b
    replace QV := QV.below b
    replace h := h.below b
    replace c := c.trans (b.mono c.size)
    clear b
    have Xc0 := X.cell (j := 0) rfl
    have Xc1 := X.cell (j := 1) rfl
    have Xc2 := X.cell (j := 2) rfl
    have Yc0 := Y.cell (j := 0) rfl
    have Yc1 := Y.cell (j := 1) rfl
    have Yc2 := Y.cell (j := 2) rfl
    go_wp2_with fail
    refine (HF _).mono ?_
    rintro x w3 ⟨rfl, b⟩
    clear Xc0 Xc1 Xc2 Yc0 Yc1 Yc2
    replace X := X.below b
    replace Y := Y.below b
    replace LV := LV.below b
    replace QV := QV.below b
    replace h := h.below b
    replace c := c.trans (b.mono c.size)
    clear b
    have Xc0 := X.cell (j := 0) rfl
    have Xc1 := X.cell (j := 1) rfl
    have Xc2 := X.cell (j := 2) rfl
    have Yc0 := Y.cell (j := 0) rfl
    have Yc1 := Y.cell (j := 1) rfl
    have Yc2 := Y.cell (j := 2) rfl
    go_wp2_with fail
    refine (HF _).mono ?_
    rintro x w4 ⟨rfl, b⟩
    clear Xc0 Xc1 Xc2 Yc0 Yc1 Yc2
    replace X := X.below b
    replace Y := Y.below b
    replace LV := LV.below b
    replace QV := QV.below b
    replace h := h.below b
    replace c := c.trans (b.mono c.size)
    clear b
    have Xc0 := X.cell (j := 0) rfl
    have Xc1 := X.cell (j := 1) rfl
    have Xc2 := X.cell (j := 2) rfl
    have Yc0 := Y.cell (j := 0) rfl
    have Yc1 := Y.cell (j := 1) rfl
    have Yc2 := Y.cell (j := 2) rfl
    go_wp2
    go_ret
    exact ⟨rfl, c⟩
end Go.Proofs.Ytllbcnficlbobaa.Shown6
