/-
  MerkleBuilds: the tree of any leaves, and what is drawn for it, is as the document says: the walk.
-/
import Derived.Test.YtllbcnficlbobaaMerQ
import Derived.Test.YtllbcnficlbobaaMr2
import Derived.Test.YtllbcnficlbobaaMerL
namespace Go.Proofs.Ytllbcnficlbobaa.Builds6
open Go.RowKit Go.ChangeShapes Go.WideShapes Go.ChangeAt
open Ideal Ida Mer Mera Mr Ref3

theorem few_new (l : List Nat) : Fw (Or.new l) 4096 := ⟨by show (0 : Nat) + _ < _; decide, by show (0 : Nat) < _; decide, by show (0 : Nat) + _ < _; decide⟩
set_option maxRecDepth 100000 in
set_option maxHeartbeats 16000000 in
theorem builds_any (l : List Nat) (hl : l.length * 8 ≤ 140737488355328) (hx : ∀ x ∈ l, x < 18446744073709551616) (dd : Int) (hd1 : -9223372036854775808 ≤ dd) (hd2 : dd ≤ 9223372036854775807) (ls : List ByteArray) (hls : ∀ t ∈ ls, t.size ≤ 140737488351232) (dv lv : Value) (w : World) (rl : Kit.Sl w dv (nums l)) (ol : Kit.Off (fun _ => False) w lv (strs ls)) :
    Calls Try.prog 3 #[.agg #[dv, .int .i64 dd, lv]] w fun e W' => e = .returned (.bool true) ∧ Below w.heap.size w W' := by
  obtain ⟨la, lc, rfl, -, hlm⟩ := ol.form
  rw [show (strs ls).length = ls.length by simp [strs]] at ol ⊢
  have X := Box.new w #[dv, .int .i64 dd, .slice la ls.length lc] 25
  have c := below_lit w (.cells #[dv, .int .i64 dd, .slice la ls.length lc] 25)
  have HN := fun w' (hw : Below w.heap.size w w') => Ida.new_any l hl hx dv w' (rl.below hw)
  have HM := fun w' (hw : Below w.heap.size w w') => Ref3.new_any l hl hx dv w' (rl.below hw)
  have HF := fixed_any
  have hfw := few_new l
  have hr0 : (Or.new l).rows.length = 0 := rfl
  generalize Or.new l = Oz at *
  clear rl hlm hx hl
  go_enter Try.func3, Try.ntmps3
  go_wp2
  obtain ⟨wa, hwa⟩ : ∃ wa, wa = w.alloc (.cells #[dv, .int .i64 dd, .slice la ls.length lc] 25) := ⟨_, rfl⟩
  rw [← hwa] at X c ⊢
  clear hwa
  have hcl : ∀ w', Below w.heap.size w w' ∧ Box w.heap.size w' #[dv, .int .i64 dd, .slice la ls.length lc] 25 → w'.cell? ⟨w.heap.size, 0, none⟩ = some dv := fun w' b => b.2.cell (j := 0) rfl
  have X0 := X.drew
  have c0 := c.drew
  refine wp_region_noPanic ?_
  refine wp_region_held_drew (S := fun w2 => Below w.heap.size w w2 ∧ Box w.heap.size w2 #[dv, .int .i64 dd, .slice la ls.length lc] 25) (by kernel_rfl) ?_ (fun hHeld => ?_)
  · exact ⟨c0, X0⟩
  refine wpAnyH_take (i := 0) (oi := ⟨some 9, _, _, _, _, _⟩) (v := ?_) rfl (by kernel_rfl) (by kernel_rfl) (by kernel_rfl) (fun _ _ _ h => h) (Or.inl ⟨by rfl, ?_⟩) (by assumption) ?_
  rotate_left
  · (intro w' hSw; have k0 := hcl _ hSw; go_simp; try with_reducible rfl)
  simp only [Act.put, List.setIfInBounds_toArray, List.set_cons_zero, List.set_cons_succ]
  refine wpAnyH_take (i := 1) (oi := ⟨some 10, _, _, _, _, _⟩) (v := ?_) rfl (by kernel_rfl) (by kernel_rfl) (by kernel_rfl) (fun _ _ _ h => h) (Or.inl ⟨by rfl, ?_⟩) (by assumption) ?_
  rotate_left
  · (intro w' hSw; have k0 := hcl _ hSw; go_simp; try with_reducible rfl)
  simp only [Act.put, List.setIfInBounds_toArray, List.set_cons_zero, List.set_cons_succ]
  refine wpAnyH_take (i := 3) (oi := ⟨some 12, _, _, _, _, _⟩) (v := ?_) rfl (by kernel_rfl) (by kernel_rfl) (by kernel_rfl) (fun _ _ _ h => h) (Or.inl ⟨by rfl, ?_⟩) (by assumption) ?_
  rotate_left
  · (intro w' hSw; have k0 := hcl _ hSw; go_simp; try with_reducible rfl)
  simp only [Act.put, List.setIfInBounds_toArray, List.set_cons_zero, List.set_cons_succ]
  refine wpAnyH_take (i := 4) (oi := ⟨some 13, _, _, _, _, _⟩) (v := ?_) rfl (by kernel_rfl) (by kernel_rfl) (by kernel_rfl) (fun _ _ _ h => h) (Or.inl ⟨by rfl, ?_⟩) (by assumption) ?_
  rotate_left
  · (intro w' hSw; have k0 := hcl _ hSw; go_simp; try with_reducible rfl)
  simp only [Act.put, List.setIfInBounds_toArray, List.set_cons_zero, List.set_cons_succ]
  refine wpAnyH_ready (rs := [2]) (by kernel_rfl) (by simp) ?_
  refine AllReadyH.cons (o := ⟨some 11, _, _, _, _, _⟩) rfl (fun K hK => ?_) AllReadyH.nil
  go_simp
  go_at_call 9
  refine (HN _ c0).mono ?_
  rintro e wc2 ⟨M, rfl, h, hin, hb2⟩
  go_wp2_with fail
  refine hK.out _ _ (⟨c0.trans (hb2.mono c0.size), X0.below hb2⟩) (fun hHeld2 => ?_)
  clear hK K
  try simp only [Act.put, List.setIfInBounds_toArray, List.set_cons_zero, List.set_cons_succ]
  have X2 := X0.below hb2
  have c2 := c0.trans (hb2.mono c0.size)
  have Xo : ¬ M.own w.heap.size := fun ho => by have := (hin.own _ ho).1; have := X.lt; simp at *; omega
  have hw : ∀ i, M.own i → w.heap.size ≤ i := fun i hi => by have := (hin.own i hi).1; have := c0.size; omega
  refine wpAnyH_ready (rs := [5]) (by kernel_rfl) (by simp) ?_
  refine AllReadyH.cons (o := ⟨some 14, _, _, _, _, _⟩) rfl (fun K hK => ?_) AllReadyH.nil
  go_simp
  go_at_call 10
  refine (HM _ c2).mono ?_
  rintro e wc5 ⟨q, rfl, r, hb5⟩
  go_wp2_with fail
  refine hK.out _ _ (⟨c2.trans (hb5.mono c2.size), X2.below hb5⟩) (fun hHeld5 => ?_)
  clear hK K
  try simp only [Act.put, List.setIfInBounds_toArray, List.set_cons_zero, List.set_cons_succ]
  refine wpAnyH_take (i := 6) (oi := ⟨some 3, _, _, _, _, _⟩) (v := ?_) rfl (by kernel_rfl) (by kernel_rfl) (by kernel_rfl) (fun _ _ _ h => h) (Or.inl ⟨by rfl, ?_⟩) (by assumption) ?_
  rotate_left
  · (intro w' hSw; have k0 := hcl _ hSw; go_simp; try with_reducible rfl)
  simp only [Act.put, List.setIfInBounds_toArray, List.set_cons_zero, List.set_cons_succ]
  refine wpAnyH_take (i := 7) (oi := ⟨some 4, _, _, _, _, _⟩) (v := ?_) rfl (by kernel_rfl) (by kernel_rfl) (by kernel_rfl) (fun _ _ _ h => h) (Or.inl ⟨by rfl, ?_⟩) (by assumption) ?_
  rotate_left
  · (intro w' hSw; have k0 := hcl _ hSw; go_simp; try with_reducible rfl)
  simp only [Act.put, List.setIfInBounds_toArray, List.set_cons_zero, List.set_cons_succ]
  refine wpAnyH_done (by kernel_rfl) ?_ _
  refine NoPanic.normal ?_
  have X := hHeld5.2
  have c := hHeld5.1
  have h := h.under hin hb5
  have on : On (fun k => k < wc2.heap.size) wc5 := fun k hk => Nat.lt_of_lt_of_le hk hb5.size
  have hMK : ∀ i, M.own i → i < wc2.heap.size := fun i hi => (hin.own i hi).2
  have hXK : w.heap.size < wc2.heap.size := X2.lt
  have hin : M.within 0 wc2.heap.size := hin.wider (Nat.zero_le _) (Nat.le_refl _)
  have hB5 := hb5.size
  obtain ⟨B, hB⟩ : ∃ B, B = wc2.heap.size := ⟨_, rfl⟩
  rw [← hB] at r on hMK hXK hin hB5
  obtain ⟨K1, hK1⟩ : ∃ K : Nat → Prop, K = fun k => k < B := ⟨_, rfl⟩
  have hKB : ∀ i, i < B → K1 i := fun i hi => by rw [hK1]; exact hi
  rw [← hK1] at r on
  clear hHeld5 hHeld2 hHeld hb5 hb2 hB hK1 hcl X0 c0 X2 c2 HN HM
  by_cases hok : Or.may dd ls
  · obtain ⟨d, rfl⟩ : ∃ d : Nat, dd = (d : Int) := ⟨dd.toNat, by have := hok.1; omega⟩
    have hd8 : d ≤ 8 := by have := hok.2.1; omega
    have hlsd : ls.length ≤ 2 ^ d := by have := hok.2.2; simpa using this
    have HB := build_yes h (by rw [hr0]; decide) d hd8 ls (fun t ht => leaf_fits (hls t ht)) hlsd _ (arg_off ol hw c)
    clear hok h
    have Xc0 := X.cell (j := 0) rfl
    have Xc1 := X.cell (j := 1) rfl
    have Xc2 := X.cell (j := 2) rfl
    go_wp2_with fail
    refine HB.mono ?_
    clear HB
    rintro x w6 ⟨va, rfl, T, h, b⟩
    clear Xc0 Xc1 Xc2
    replace r := and_ref r (fun i hi => hKB i (hMK i hi)) b
    replace on := and_on on b.size
    replace T := T.weak (S' := fun i => ¬ And' K1 wc5 w6 i) (fun i hi hn => by
      rcases Nat.lt_or_ge i wc5.heap.size with h9 | h9
      · exact h9
      · exact absurd (.inr ⟨h9, hi⟩) hn)
    replace X := X.but b Xo
    replace c := c.trans (b.below c.size hw)
    have hB6 := Nat.le_trans hB5 b.size
    obtain ⟨K2, hK2⟩ : ∃ K : Nat → Prop, K = And' K1 wc5 w6 := ⟨_, rfl⟩
    have hKB2 : ∀ i, i < B → K2 i := fun i hi => by rw [hK2]; exact .inl (hKB i hi)
    rw [← hK2] at r on T
    have LW : Kit.Off (fun i => ¬ K2 i) w6 (.slice la ls.length lc) (strs ls) := (ol.weak (S' := fun i => ¬ K2 i) (fun i hi hn => hn (hKB2 i (by omega)))).below c
    have HR := rbuild_yes r on (hfw.less (by decide)) d hd8 ls (fun t ht => leaf_fits (hls t ht)) hlsd _ LW
    clear b hKB hK2 r LW
    have Xc0 := X.cell (j := 0) rfl
    have Xc1 := X.cell (j := 1) rfl
    have Xc2 := X.cell (j := 2) rfl
    go_wp2_with fail
    refine HR.mono ?_
    clear HR
    rintro x w7 ⟨vb, rfl, T2, r, f⟩
    clear Xc0 Xc1 Xc2
    replace T := T.but f
    have fb : Below B w6 w7 := f.below hB6 (fun i hn => by
      rcases Nat.lt_or_ge i B with h9 | h9
      · exact absurd (hKB2 i h9) hn
      · exact h9)
    replace h := h.under hin fb
    replace X := X.low fb hXK
    replace c := c.trans (fb.mono (by omega))
    clear f fb on
    generalize Oz.tree ls d = tr at *
    generalize Oz.built ls d = O9 at *
    obtain ⟨vaa, vac, rfl, -, -⟩ := T.form
    obtain ⟨vba, vbc, rfl, -, -⟩ := T2.form
    clear X
    go_wp2_with fail
    refine (HF _).mono ?_
    rintro x w8 ⟨rfl, b⟩
    replace r := r.below b
    replace T := T.below b
    replace T2 := T2.below b
    replace h := h.below b
    replace c := c.trans (b.mono c.size)
    clear b
    have HI := is_any _ _ _ _ _ T T2
    rw [decide_eq_true (Eq.refl tr)] at HI
    clear T T2
    have HH := HI
    clear HI
    go_wp2_with fail
    refine HH.mono ?_
    clear HH
    rintro x w9 ⟨rfl, b⟩
    replace r := r.below b
    replace h := h.below b
    replace c := c.trans (b.mono c.size)
    clear b
    have HH := o_drawn h
    go_wp2_with fail
    refine HH.mono ?_
    clear HH
    rintro x w10 ⟨rfl, b⟩
    replace r := r.below b
    replace h := h.below b
    replace c := c.trans (b.mono c.size)
    clear b
    have HH := Ref3.drawn_any r
    go_wp2_with fail
    refine HH.mono ?_
    clear HH
    rintro x w11 ⟨rfl, b⟩
    replace r := r.below b
    replace h := h.below b
    replace c := c.trans (b.mono c.size)
    clear b
    have HH := o_bad h
    go_wp2_with fail
    refine HH.mono ?_
    clear HH
    rintro x w12 ⟨rfl, b⟩
    replace r := r.below b
    replace h := h.below b
    replace c := c.trans (b.mono c.size)
    clear b
    have HH := Ref3.bad_any r
    go_wp2_with fail
    refine HH.mono ?_
    clear HH
    rintro x w13 ⟨rfl, b⟩
    replace r := r.below b
    replace h := h.below b
    replace c := c.trans (b.mono c.size)
    clear b
    go_wp2
    go_ret
    exact ⟨rfl, c⟩
  · have HB := build_no h dd hd1 hd2 ls hok _ (arg_off ol hw c).rd
    have HR := fun w' (hw : Below w.heap.size w w') => rbuild_no (q := q) (w := w') dd hd1 hd2 ls hok _ (ol.below hw).rd
    clear hok
    have HH := HB
    clear HB
    have Xc0 := X.cell (j := 0) rfl
    have Xc1 := X.cell (j := 1) rfl
    have Xc2 := X.cell (j := 2) rfl
    go_wp2_with fail
    refine HH.mono ?_
    clear HH
    rintro x w6 ⟨rfl, b⟩
    clear Xc0 Xc1 Xc2
    replace X := X.below b
    replace r := r.below b
    replace h := h.below b
    replace c := c.trans (b.mono c.size)
    clear b
    have HR2 := HR _ c
    have HH := HR2
    clear HR2 HR
    have Xc0 := X.cell (j := 0) rfl
    have Xc1 := X.cell (j := 1) rfl
    have Xc2 := X.cell (j := 2) rfl
    go_wp2_with fail
    refine HH.mono ?_
    clear HH
    rintro x w7 ⟨rfl, b⟩
    clear Xc0 Xc1 Xc2
    replace X := X.below b
    replace r := r.below b
    replace h := h.below b
    replace c := c.trans (b.mono c.size)
    clear b
    clear X
    go_wp2_with fail
    refine (HF _).mono ?_
    rintro x w8 ⟨rfl, b⟩
    replace r := r.below b
    replace h := h.below b
    replace c := c.trans (b.mono c.size)
    clear b
    have HI0 : ∀ w, Calls Try.prog 14 #[.slice none 0 0, .slice none 0 0] w fun e w' => e = .returned (.bool true) ∧ Below w.heap.size w w' := fun w => by
      have h9 := is_any [] [] (.slice none 0 0) (.slice none 0 0) w (Kit.Tr.nil_ (fun _ => False) w) (Kit.Tr.nil_ (fun _ => False) w)
      simpa using h9

    have HH := HI0 w8
    go_wp2_with fail
    refine HH.mono ?_
    clear HH
    rintro x w9 ⟨rfl, b⟩
    replace r := r.below b
    replace h := h.below b
    replace c := c.trans (b.mono c.size)
    clear b
    have HH := o_drawn h
    go_wp2_with fail
    refine HH.mono ?_
    clear HH
    rintro x w10 ⟨rfl, b⟩
    replace r := r.below b
    replace h := h.below b
    replace c := c.trans (b.mono c.size)
    clear b
    have HH := Ref3.drawn_any r
    go_wp2_with fail
    refine HH.mono ?_
    clear HH
    rintro x w11 ⟨rfl, b⟩
    replace r := r.below b
    replace h := h.below b
    replace c := c.trans (b.mono c.size)
    clear b
    have HH := o_bad h
    go_wp2_with fail
    refine HH.mono ?_
    clear HH
    rintro x w12 ⟨rfl, b⟩
    replace r := r.below b
    replace h := h.below b
    replace c := c.trans (b.mono c.size)
    clear b
    have HH := Ref3.bad_any r
    go_wp2_with fail
    refine HH.mono ?_
    clear HH
    rintro x w13 ⟨rfl, b⟩
    replace r := r.below b
    replace h := h.below b
    replace c := c.trans (b.mono c.size)
    clear b
    go_wp2
    go_ret
    exact ⟨rfl, c⟩
end Go.Proofs.Ytllbcnficlbobaa.Builds6
