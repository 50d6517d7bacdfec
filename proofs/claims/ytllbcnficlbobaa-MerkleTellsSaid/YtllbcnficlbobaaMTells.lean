/-
  MerkleTells: whether any tree fits, what a leaf and a node are hashed to, the path of any place, where any leaf and path lead, and the tree with another leaf, are as the document says, and as much is drawn: the walk.
-/
import Derived.Test.YtllbcnficlbobaaMerQ
import Derived.Test.YtllbcnficlbobaaMr3
import Derived.Test.YtllbcnficlbobaaMerL
namespace Go.Proofs.Ytllbcnficlbobaa.Tells6
open Go.RowKit Go.ChangeShapes Go.WideShapes Go.ChangeAt
open Ideal Ida Mer Mera Mr Ref3

theorem few_new (l : List Nat) : Fw (Or.new l) 65536 := ⟨by show (0 : Nat) + _ < _; decide, by show (0 : Nat) < _; decide, by show (0 : Nat) + _ < _; decide⟩
set_option maxRecDepth 100000 in
set_option maxHeartbeats 16000000 in
theorem tells_any (l : List Nat) (hl : l.length * 8 ≤ 140737488355328) (hx : ∀ x ∈ l, x < 18446744073709551616) (t : List (List Nat)) (ht : ∀ k x, x ∈ t.getD k [] → x < 18446744073709551616) (ii : Int) (s : ByteArray) (hs : s.size ≤ 140737488351232) (p : List Nat) (hpx : ∀ x ∈ p, x < 18446744073709551616) (dv tv pv : Value) (w : World) (rl : Kit.Sl w dv (nums l)) (ot : Kit.Tr (fun _ => False) w tv t) (op : Kit.Off (fun _ => False) w pv (nums p)) :
    Calls Try.prog 4 #[dv, tv, .agg #[.int .i64 ii, .string s, pv]] w fun e W' => e = .returned (.bool true) ∧ Below w.heap.size w W' := by
  have X := Box.new w #[.int .i64 ii, .string s, pv] 39
  have c := below_lit w (.cells #[.int .i64 ii, .string s, pv] 39)
  have HN := fun w' (hw : Below w.heap.size w w') => Ida.new_any l hl hx dv w' (rl.below hw)
  have HM := fun w' (hw : Below w.heap.size w w') => Ref3.new_any l hl hx dv w' (rl.below hw)
  have HF := fixed_any
  have hfw := few_new l
  generalize Or.new l = Oz at *
  clear rl hx hl
  have hs4 := leaf_fits hs
  clear hs
  go_enter Try.func4, Try.ntmps4
  have HNN := HN _ c
  clear HN
  go_wp2_with fail
  refine HNN.mono ?_
  clear HNN
  rintro x w1 ⟨M, rfl, h, hin, b⟩
  have Xo : ¬ M.own w.heap.size := fun ho => by have := (hin.own _ ho).1; simp at this; omega
  have hw : ∀ i, M.own i → w.heap.size ≤ i := fun i hi => by have := (hin.own i hi).1; simp at this; omega
  replace X := X.below b
  replace c := c.trans (b.mono c.size)
  clear b
  have HMM := HM _ c
  clear HM
  go_wp2_with fail
  refine HMM.mono ?_
  clear HMM
  rintro x w2 ⟨q, rfl, r, b⟩
  have on : On (fun k => k < w1.heap.size) w2 := fun k hk => Nat.lt_of_lt_of_le hk b.size
  have hMB : ∀ i, M.own i → i < w1.heap.size := fun i hi => (hin.own i hi).2
  have hXB : w.heap.size < w1.heap.size := X.lt
  replace hin : M.within 0 w1.heap.size := hin.wider (Nat.zero_le _) (Nat.le_refl _)
  replace h := h.under hin b
  have hB2 := b.size
  replace X := X.below b
  replace c := c.trans (b.mono c.size)
  clear b
  obtain ⟨B, hB⟩ : ∃ B, B = w1.heap.size := ⟨_, rfl⟩
  rw [← hB] at r on hMB hXB hin hB2
  obtain ⟨K1, hK1⟩ : ∃ K : Nat → Prop, K = fun k => k < B := ⟨_, rfl⟩
  have hKB : ∀ i, i < B → K1 i := fun i hi => by rw [hK1]; exact hi
  rw [← hK1] at r on
  clear hB hK1
  have otM : Kit.Tr M.own w tv t := ot.weak (fun i hi ho => by have := hw i ho; omega)
  have opM : Kit.Off M.own w pv (nums p) := op.weak (fun i hi ho => by have := hw i ho; omega)
  have otK : ∀ K : Nat → Prop, (∀ i, i < B → K i) → Kit.Tr (fun i => ¬ K i) w tv t := fun K hK => ot.weak (fun i hi hn => hn (hK i (by omega)))
  have opK : ∀ K : Nat → Prop, (∀ i, i < B → K i) → Kit.Off (fun i => ¬ K i) w pv (nums p) := fun K hK => op.weak (fun i hi hn => hn (hK i (by omega)))
  have ot0 : ∀ w', Below w.heap.size w w' → Kit.Tr (fun _ => False) w' tv t := fun w' b => ot.below b
  clear ot op
  have HH := path_uni t ii _ _ (ot0 _ c)
  have Xc0 := X.cell (j := 0) rfl
  have Xc1 := X.cell (j := 1) rfl
  have Xc2 := X.cell (j := 2) rfl
  go_wp2_with fail
  refine HH.mono ?_
  clear HH
  rintro x w3 ⟨va, rfl, VA, b⟩
  clear Xc0 Xc1 Xc2
  replace r := and_below r b
  replace on := and_on on b.size
  have hK2 : ∀ i, i < B → And' K1 w2 w3 i := fun i hi => .inl (hKB i hi)
  replace VA := VA.weak (S' := Zs (And' K1 w2 w3) B) (fun i hi hz => z_new hB2 hi hz)
  obtain ⟨K2, hKe⟩ : ∃ K : Nat → Prop, K = And' K1 w2 w3 := ⟨_, rfl⟩
  rw [← hKe] at r on hK2 VA 
  clear hKe hKB
  have hKB := hK2
  clear hK2
  replace X := X.below b
  replace h := h.below b
  replace hB2 := Nat.le_trans hB2 b.size
  replace c := c.trans (b.mono c.size)
  clear b
  have HH := rpath_uni t ii _ _ (ot0 _ c)
  have Xc0 := X.cell (j := 0) rfl
  have Xc1 := X.cell (j := 1) rfl
  have Xc2 := X.cell (j := 2) rfl
  go_wp2_with fail
  refine HH.mono ?_
  clear HH
  rintro x w4 ⟨vb, rfl, VB, b⟩
  clear Xc0 Xc1 Xc2
  replace r := and_below r b
  replace on := and_on on b.size
  have hK3 : ∀ i, i < B → And' K2 w3 w4 i := fun i hi => .inl (hKB i hi)
  replace VB := VB.weak (S' := Zs (And' K2 w3 w4) B) (fun i hi hz => z_new hB2 hi hz)
  replace VA := (VA.below b).weak (S' := Zs (And' K2 w3 w4) B) (fun i _ hz => z_sub (fun j hj => .inl hj) hz)
  obtain ⟨K3, hKe⟩ : ∃ K : Nat → Prop, K = And' K2 w3 w4 := ⟨_, rfl⟩
  rw [← hKe] at r on hK3 VB VA
  clear hKe hKB
  have hKB := hK3
  clear hK3
  replace X := X.below b
  replace h := h.below b
  replace hB2 := Nat.le_trans hB2 b.size
  replace c := c.trans (b.mono c.size)
  clear b
  obtain ⟨pl, hpl⟩ : ∃ pl, pl = pth t ii := ⟨_, rfl⟩
  have hpl8 : pl.length ≤ 8 := by rw [hpl]; exact pth_len t ii
  rw [← hpl] at VA VB
  clear hpl
  obtain ⟨vaa, vac, rfl, -, -⟩ := VA.form
  obtain ⟨vba, vbc, rfl, -, -⟩ := VB.form
  rw [nums_len] at VA VB ⊢
  have hfi := h.2
  have HH := climb_uni h (hfw.less (by decide)) s hs4 ii p hpx _ (opM.below c)
  clear h
  have Xc0 := X.cell (j := 0) rfl
  have Xc1 := X.cell (j := 1) rfl
  have Xc2 := X.cell (j := 2) rfl
  go_wp2_with fail
  refine HH.mono ?_
  clear HH
  rintro x w5 ⟨rfl, h, b⟩
  clear Xc0 Xc1 Xc2
  replace X := X.but b Xo
  replace c := c.trans (b.below c.size hw)
  replace VA := VA.but (z_own hMB b)
  replace VB := VB.but (z_own hMB b)
  replace r := ref_but r (fun i hi => hKB i (hMB i hi)) b
  replace on := on_of on b.size
  replace hB2 := Nat.le_trans hB2 b.size
  clear b
  have HH := rclimb_uni r on (hfw.less (by decide)) s hs4 ii p hpx _ ((opK _ hKB).below c)
  clear r
  have Xc0 := X.cell (j := 0) rfl
  have Xc1 := X.cell (j := 1) rfl
  have Xc2 := X.cell (j := 2) rfl
  go_wp2_with fail
  refine HH.mono ?_
  clear HH
  rintro x w6 ⟨rfl, r, f⟩
  clear Xc0 Xc1 Xc2
  have fb := z_below hKB hB2 f
  replace h := h.under hin fb
  replace X := X.low fb hXB
  replace c := c.trans (fb.mono (by omega))
  replace VA := VA.but (z_fr f)
  replace VB := VB.but (z_fr f)
  replace on := on_of on f.size
  replace hB2 := Nat.le_trans hB2 f.size
  clear f fb opM opK
  have hcv := clV_lt hfi (hfw.less (by decide)) s ii p
  replace hfw := Fw.cl (n := 60000) (hfw.less (by decide)) s ii p
  generalize clV Oz s ii p = cv at *
  generalize clO Oz s ii p = O1 at *
  clear hfi
  have HH := set_uni h (hfw.less (by decide)) t ht ii s hs4 _ (otM.below c)
  clear h
  have Xc0 := X.cell (j := 0) rfl
  have Xc1 := X.cell (j := 1) rfl
  have Xc2 := X.cell (j := 2) rfl
  go_wp2_with fail
  refine HH.mono ?_
  clear HH
  rintro x w7 ⟨ve, rfl, VE, h, b⟩
  clear Xc0 Xc1 Xc2
  replace r := and_ref r (fun i hi => hKB i (hMB i hi)) b
  replace on := and_on on b.size
  have hKN : ∀ i, i < B → And' K3 w6 w7 i := fun i hi => .inl (hKB i hi)
  replace VE := VE.weak (S' := Zs (And' K3 w6 w7) B) (fun i hi hz => z_new hB2 hi hz)
  replace X := X.but b Xo
  replace c := c.trans (b.below c.size hw)
  replace VA := VA.but (z_own hMB b)
  replace VB := VB.but (z_own hMB b)
  replace VA := VA.weak (S' := Zs (And' K3 w6 w7) B) (fun i _ hz => z_sub (fun j hj => .inl hj) hz)
  replace VB := VB.weak (S' := Zs (And' K3 w6 w7) B) (fun i _ hz => z_sub (fun j hj => .inl hj) hz)
  obtain ⟨K4, hKe⟩ : ∃ K : Nat → Prop, K = And' K3 w6 w7 := ⟨_, rfl⟩
  rw [← hKe] at r on hKN VA VB VE
  clear hKe hKB
  have hKB := hKN
  clear hKN
  replace hB2 := Nat.le_trans hB2 b.size
  clear b
  have HH := rset_uni r on (hfw.less (by decide)) t ht ii s hs4 _ ((otK _ hKB).below c)
  clear r on
  have Xc0 := X.cell (j := 0) rfl
  have Xc1 := X.cell (j := 1) rfl
  have Xc2 := X.cell (j := 2) rfl
  go_wp2_with fail
  refine HH.mono ?_
  clear HH
  rintro x w8 ⟨vf, K5, rfl, hsub, on, r, f, VF⟩
  clear Xc0 Xc1 Xc2
  have fb := z_below hKB hB2 f
  replace h := h.under hin fb
  replace X := X.low fb hXB
  replace c := c.trans (fb.mono (by omega))
  replace VA := VA.but (z_fr f)
  replace VB := VB.but (z_fr f)
  replace VE := VE.but (z_fr f)
  replace VA := VA.weak (S' := Zs K5 B) (fun i _ hz => z_sub hsub hz)
  replace VB := VB.weak (S' := Zs K5 B) (fun i _ hz => z_sub hsub hz)
  replace VE := VE.weak (S' := Zs K5 B) (fun i _ hz => z_sub hsub hz)
  replace VF := VF.weak (S' := Zs K5 B) (fun i _ hz => hz.imp id (fun hl => by omega))
  replace hKB : ∀ i, i < B → K5 i := fun i hi => hsub i (hKB i hi)
  replace hB2 := Nat.le_trans hB2 f.size
  clear f fb hsub
  replace hfw := Fw.st (n := 50000) (hfw.less (by decide)) t ii s
  generalize stO O1 t ii s = O2 at *
  obtain ⟨U, hU⟩ : ∃ U, U = stT O1 t ii s := ⟨_, rfl⟩
  rw [← hU] at VE VF
  clear hU
  obtain ⟨vea, vec, rfl, -, -⟩ := VE.form
  obtain ⟨vfa, vfc, rfl, -, -⟩ := VF.form
  generalize decide (In t ii) = yi at *
  generalize decide (Cin p ii) = yc at *
  have hcell : ∀ w9 : World, Box w.heap.size w9 #[.int .i64 ii, .string s, pv] 39 → w9.cell? ⟨w.heap.size, 1, none⟩ = some (.string s) := fun w9 b => b.cell (j := 1) rfl
  have hcl := hcell
  clear hcell
  have ewl : IntKind.u64.wrap (pl.length : Int) = (pl.length : Int) := by rw [IntKind.wrap_u64]; omega
  replace X := X.drew
  replace h := h.drew
  replace r := r.below ((Below.refl _ _).drew)
  replace on : On K5 w8.drew := on
  replace c := c.drew
  replace hB2 : B ≤ w8.drew.heap.size := hB2
  replace VA := VA.below ((Below.refl _ _).drew)
  replace VB := VB.below ((Below.refl _ _).drew)
  replace VE := VE.below ((Below.refl _ _).drew)
  replace VF := VF.below ((Below.refl _ _).drew)
  go_wp2
  refine wp_region_noPanic ?_
  refine wp_region_held_drew (S := fun w9 : World => Box w.heap.size w9 #[.int .i64 ii, .string s, pv] 39) (by kernel_rfl) ?_ (fun hHeld => ?_)
  · exact X
  refine wpAnyH_take (i := 0) (oi := ⟨some 82, _, _, _, _, _⟩) (v := ?_) rfl (by kernel_rfl) (by kernel_rfl) (by kernel_rfl) (fun _ _ _ h => h) (Or.inl ⟨by rfl, ?_⟩) (by assumption) ?_
  rotate_left
  · (intro w' hSw; have k0 := hcl _ hSw; go_simp; try with_reducible rfl)
  simp only [Act.put, List.setIfInBounds_toArray, List.set_cons_zero, List.set_cons_succ]
  refine wpAnyH_take (i := 1) (oi := ⟨some 83, _, _, _, _, _⟩) (v := ?_) rfl (by kernel_rfl) (by kernel_rfl) (by kernel_rfl) (fun _ _ _ h => h) (Or.inl ⟨by rfl, ?_⟩) (by assumption) ?_
  rotate_left
  · (intro w' hSw; have k0 := hcl _ hSw; go_simp; try with_reducible rfl)
  simp only [Act.put, List.setIfInBounds_toArray, List.set_cons_zero, List.set_cons_succ]
  refine wpAnyH_take (i := 3) (oi := ⟨some 85, _, _, _, _, _⟩) (v := ?_) rfl (by kernel_rfl) (by kernel_rfl) (by kernel_rfl) (fun _ _ _ h => h) (Or.inl ⟨by rfl, ?_⟩) (by assumption) ?_
  rotate_left
  · (intro w' hSw; have k0 := hcl _ hSw; go_simp; try with_reducible rfl)
  simp only [Act.put, List.setIfInBounds_toArray, List.set_cons_zero, List.set_cons_succ]
  refine wpAnyH_take (i := 4) (oi := ⟨some 86, _, _, _, _, _⟩) (v := ?_) rfl (by kernel_rfl) (by kernel_rfl) (by kernel_rfl) (fun _ _ _ h => h) (Or.inl ⟨by rfl, ?_⟩) (by assumption) ?_
  rotate_left
  · (intro w' hSw; have k0 := hcl _ hSw; go_simp; try with_reducible rfl)
  simp only [Act.put, List.setIfInBounds_toArray, List.set_cons_zero, List.set_cons_succ]
  have hrw := hfw.rows
  refine wpAnyH_ready (rs := [2]) (by kernel_rfl) (by simp) ?_
  refine AllReadyH.cons (o := ⟨some 84, _, _, _, _, _⟩) rfl (fun K hK => ?_) AllReadyH.nil
  go_simp
  go_at_call 25
  refine (fits_any h (by omega) t ht _ (otM.below c)).mono ?_
  rintro e wc2 ⟨rfl, h, hb2⟩
  go_wp2_with fail
  refine hK.out _ _ (X.but hb2 Xo) (fun hHeld2 => ?_)
  clear hK K
  try simp only [Act.put, List.setIfInBounds_toArray, List.set_cons_zero, List.set_cons_succ]
  have b := hb2
  clear hb2
  replace X := X.but b Xo
  replace c := c.trans (b.below c.size hw)
  replace VA := VA.but (z_own hMB b)
  replace VB := VB.but (z_own hMB b)
  replace VE := VE.but (z_own hMB b)
  replace VF := VF.but (z_own hMB b)
  replace r := ref_but r (fun i hi => hKB i (hMB i hi)) b
  replace on := on_of on b.size
  replace hB2 := Nat.le_trans hB2 b.size
  clear b
  refine wpAnyH_ready (rs := [5]) (by kernel_rfl) (by simp) ?_
  refine AllReadyH.cons (o := ⟨some 87, _, _, _, _, _⟩) rfl (fun K hK => ?_) AllReadyH.nil
  go_simp
  go_at_call 26
  refine (rfits_any r on (hfw.less (by decide)) t ht _ ((otK _ hKB).below c)).mono ?_
  rintro e wc5 ⟨rfl, r, hb5⟩
  go_wp2_with fail
  refine hK.out _ _ (X.low (z_below hKB hB2 hb5) hXB) (fun hHeld5 => ?_)
  clear hK K
  try simp only [Act.put, List.setIfInBounds_toArray, List.set_cons_zero, List.set_cons_succ]
  have f := hb5
  clear hb5
  have fb := z_below hKB hB2 f
  replace h := h.under hin fb
  replace X := X.low fb hXB
  replace c := c.trans (fb.mono (by omega))
  replace VA := VA.but (z_fr f)
  replace VB := VB.but (z_fr f)
  replace VE := VE.but (z_fr f)
  replace VF := VF.but (z_fr f)
  replace on := on_of on f.size
  replace hB2 := Nat.le_trans hB2 f.size
  clear f fb
  replace hfw := Fw.fits (n := 40000) (hfw.less (by decide)) t
  generalize (O2.fits t).1 = fb0 at *
  generalize (O2.fits t).2 = O3 at *
  clear hrw
  refine wpAnyH_take (i := 6) (oi := ⟨some 88, _, _, _, _, _⟩) (v := ?_) rfl (by kernel_rfl) (by kernel_rfl) (by kernel_rfl) (fun _ _ _ h => h) (Or.inl ⟨by rfl, ?_⟩) (by assumption) ?_
  rotate_left
  · (intro w' hSw; have k0 := hcl _ hSw; go_simp; try with_reducible rfl)
  simp only [Act.put, List.setIfInBounds_toArray, List.set_cons_zero, List.set_cons_succ]
  refine wpAnyH_take (i := 7) (oi := ⟨some 89, _, _, _, _, _⟩) (v := ?_) rfl (by kernel_rfl) (by kernel_rfl) (by kernel_rfl) (fun _ _ _ h => h) (Or.inl ⟨by rfl, ?_⟩) (by assumption) ?_
  rotate_left
  · (intro w' hSw; have k0 := hcl _ hSw; go_simp; try with_reducible rfl)
  simp only [Act.put, List.setIfInBounds_toArray, List.set_cons_zero, List.set_cons_succ]
  refine wpAnyH_take (i := 8) (oi := ⟨some 90, _, _, _, _, _⟩) (v := ?_) rfl (by kernel_rfl) (by kernel_rfl) (by kernel_rfl) (fun _ _ _ h => h) (Or.inl ⟨by rfl, ?_⟩) (by assumption) ?_
  rotate_left
  · (intro w' hSw; have k0 := hcl _ hSw; go_simp; try with_reducible rfl)
  simp only [Act.put, List.setIfInBounds_toArray, List.set_cons_zero, List.set_cons_succ]
  refine wpAnyH_take (i := 9) (oi := ⟨some 91, _, _, _, _, _⟩) (v := ?_) rfl (by kernel_rfl) (by kernel_rfl) (by kernel_rfl) (fun _ _ _ h => h) (Or.inl ⟨by rfl, ?_⟩) (by assumption) ?_
  rotate_left
  · (intro w' hSw; have k0 := hcl _ hSw; go_simp; try with_reducible rfl)
  simp only [Act.put, List.setIfInBounds_toArray, List.set_cons_zero, List.set_cons_succ]
  refine wpAnyH_take (i := 10) (oi := ⟨some 92, _, _, _, _, _⟩) (v := ?_) rfl (by kernel_rfl) (by kernel_rfl) (by kernel_rfl) (fun _ _ _ h => h) (Or.inl ⟨by rfl, ?_⟩) (by assumption) ?_
  rotate_left
  · (intro w' hSw; have k0 := hcl _ hSw; go_simp; try with_reducible rfl)
  simp only [Act.put, List.setIfInBounds_toArray, List.set_cons_zero, List.set_cons_succ]
  refine wpAnyH_take (i := 12) (oi := ⟨some 94, _, _, _, _, _⟩) (v := ?_) rfl (by kernel_rfl) (by kernel_rfl) (by kernel_rfl) (fun _ _ _ h => h) (Or.inl ⟨by rfl, ?_⟩) (by assumption) ?_
  rotate_left
  · (intro w' hSw; have k0 := hcl _ hSw; go_simp; try with_reducible rfl)
  simp only [Act.put, List.setIfInBounds_toArray, List.set_cons_zero, List.set_cons_succ]
  refine wpAnyH_take (i := 13) (oi := ⟨some 95, _, _, _, _, _⟩) (v := ?_) rfl (by kernel_rfl) (by kernel_rfl) (by kernel_rfl) (fun _ _ _ h => h) (Or.inl ⟨by rfl, ?_⟩) (by assumption) ?_
  rotate_left
  · (intro w' hSw; have k0 := hcl _ hSw; go_simp; try with_reducible rfl)
  simp only [Act.put, List.setIfInBounds_toArray, List.set_cons_zero, List.set_cons_succ]
  refine wpAnyH_take (i := 14) (oi := ⟨some 96, _, _, _, _, _⟩) (v := ?_) rfl (by kernel_rfl) (by kernel_rfl) (by kernel_rfl) (fun _ _ _ h => h) (Or.inl ⟨by rfl, ?_⟩) (by assumption) ?_
  rotate_left
  · (intro w' hSw; have k0 := hcl _ hSw; go_simp; try with_reducible rfl)
  simp only [Act.put, List.setIfInBounds_toArray, List.set_cons_zero, List.set_cons_succ]
  have hrw := hfw.rows
  refine wpAnyH_ready (rs := [11]) (by kernel_rfl) (by simp) ?_
  refine AllReadyH.cons (o := ⟨some 93, _, _, _, _, _⟩) rfl (fun K hK => ?_) AllReadyH.nil
  go_simp
  go_at_call 27
  refine (leaf_any h (by omega) s hs4).mono ?_
  rintro e wc11 ⟨rfl, h, hb11⟩
  go_wp2_with fail
  refine hK.out _ _ (X.but hb11 Xo) (fun hHeld11 => ?_)
  clear hK K
  try simp only [Act.put, List.setIfInBounds_toArray, List.set_cons_zero, List.set_cons_succ]
  have b := hb11
  clear hb11
  replace X := X.but b Xo
  replace c := c.trans (b.below c.size hw)
  replace VA := VA.but (z_own hMB b)
  replace VB := VB.but (z_own hMB b)
  replace VE := VE.but (z_own hMB b)
  replace VF := VF.but (z_own hMB b)
  replace r := ref_but r (fun i hi => hKB i (hMB i hi)) b
  replace on := on_of on b.size
  replace hB2 := Nat.le_trans hB2 b.size
  clear b
  refine wpAnyH_ready (rs := [15]) (by kernel_rfl) (by simp) ?_
  refine AllReadyH.cons (o := ⟨some 97, _, _, _, _, _⟩) rfl (fun K hK => ?_) AllReadyH.nil
  go_simp
  go_at_call 28
  refine (rleaf_any r on hfw.few s hs4).mono ?_
  rintro e wc15 ⟨rfl, r, hb15⟩
  go_wp2_with fail
  refine hK.out _ _ (X.low (z_below hKB hB2 hb15) hXB) (fun hHeld15 => ?_)
  clear hK K
  try simp only [Act.put, List.setIfInBounds_toArray, List.set_cons_zero, List.set_cons_succ]
  have f := hb15
  clear hb15
  have fb := z_below hKB hB2 f
  replace h := h.under hin fb
  replace X := X.low fb hXB
  replace c := c.trans (fb.mono (by omega))
  replace VA := VA.but (z_fr f)
  replace VB := VB.but (z_fr f)
  replace VE := VE.but (z_fr f)
  replace VF := VF.but (z_fr f)
  replace on := on_of on f.size
  replace hB2 := Nat.le_trans hB2 f.size
  clear f fb
  replace hfw := Fw.ask (n := 30000) (hfw.less (by decide)) (qh (leafT s))
  generalize O3.val (qh (leafT s)) = lv0 at *
  generalize O3.ask (qh (leafT s)) = O4 at *
  clear hrw
  refine wpAnyH_take (i := 16) (oi := ⟨some 98, _, _, _, _, _⟩) (v := ?_) rfl (by kernel_rfl) (by kernel_rfl) (by kernel_rfl) (fun _ _ _ h => h) (Or.inl ⟨by rfl, ?_⟩) (by assumption) ?_
  rotate_left
  · (intro w' hSw; have k0 := hcl _ hSw; go_simp; try with_reducible rfl)
  simp only [Act.put, List.setIfInBounds_toArray, List.set_cons_zero, List.set_cons_succ]
  refine wpAnyH_take (i := 17) (oi := ⟨some 99, _, _, _, _, _⟩) (v := ?_) rfl (by kernel_rfl) (by kernel_rfl) (by kernel_rfl) (fun _ _ _ h => h) (Or.inl ⟨by rfl, ?_⟩) (by assumption) ?_
  rotate_left
  · (intro w' hSw; have k0 := hcl _ hSw; go_simp; try with_reducible rfl)
  simp only [Act.put, List.setIfInBounds_toArray, List.set_cons_zero, List.set_cons_succ]
  refine wpAnyH_take (i := 18) (oi := ⟨some 100, _, _, _, _, _⟩) (v := ?_) rfl (by kernel_rfl) (by kernel_rfl) (by kernel_rfl) (fun _ _ _ h => h) (Or.inl ⟨by rfl, ?_⟩) (by assumption) ?_
  rotate_left
  · (intro w' hSw; have k0 := hcl _ hSw; go_simp; try with_reducible rfl)
  simp only [Act.put, List.setIfInBounds_toArray, List.set_cons_zero, List.set_cons_succ]
  refine wpAnyH_take (i := 19) (oi := ⟨some 101, _, _, _, _, _⟩) (v := ?_) rfl (by kernel_rfl) (by kernel_rfl) (by kernel_rfl) (fun _ _ _ h => h) (Or.inl ⟨by rfl, ?_⟩) (by assumption) ?_
  rotate_left
  · (intro w' hSw; have k0 := hcl _ hSw; go_simp; try with_reducible rfl)
  simp only [Act.put, List.setIfInBounds_toArray, List.set_cons_zero, List.set_cons_succ]
  refine wpAnyH_take (i := 20) (oi := ⟨some 102, _, _, _, _, _⟩) (v := ?_) rfl (by kernel_rfl) (by kernel_rfl) (by kernel_rfl) (fun _ _ _ h => h) (Or.inl ⟨by rfl, ?_⟩) (by assumption) ?_
  rotate_left
  · (intro w' hSw; have k0 := hcl _ hSw; go_simp; try with_reducible rfl)
  simp only [Act.put, List.setIfInBounds_toArray, List.set_cons_zero, List.set_cons_succ]
  refine wpAnyH_take (i := 21) (oi := ⟨some 103, _, _, _, _, _⟩) (v := ?_) rfl (by kernel_rfl) (by kernel_rfl) (by kernel_rfl) (fun _ _ _ h => h) (Or.inl ⟨by rfl, ?_⟩) (by assumption) ?_
  rotate_left
  · (intro w' hSw; have k0 := hcl _ hSw; go_simp; try with_reducible rfl)
  simp only [Act.put, List.setIfInBounds_toArray, List.set_cons_zero, List.set_cons_succ]
  refine wpAnyH_take (i := 22) (oi := ⟨some 104, _, _, _, _, _⟩) (v := ?_) rfl (by kernel_rfl) (by kernel_rfl) (by kernel_rfl) (fun _ _ _ h => h) (Or.inl ⟨by rfl, ?_⟩) (by assumption) ?_
  rotate_left
  · (intro w' hSw; have k0 := hcl _ hSw; go_simp; try with_reducible rfl)
  simp only [Act.put, List.setIfInBounds_toArray, List.set_cons_zero, List.set_cons_succ]
  refine wpAnyH_take (i := 23) (oi := ⟨some 105, _, _, _, _, _⟩) (v := ?_) rfl (by kernel_rfl) (by kernel_rfl) (by kernel_rfl) (fun _ _ _ h => h) (Or.inl ⟨by rfl, ?_⟩) (by assumption) ?_
  rotate_left
  · (intro w' hSw; have k0 := hcl _ hSw; go_simp; try with_reducible rfl)
  simp only [Act.put, List.setIfInBounds_toArray, List.set_cons_zero, List.set_cons_succ]
  refine wpAnyH_take (i := 25) (oi := ⟨some 107, _, _, _, _, _⟩) (v := ?_) rfl (by kernel_rfl) (by kernel_rfl) (by kernel_rfl) (fun _ _ _ h => h) (Or.inl ⟨by rfl, ?_⟩) (by assumption) ?_
  rotate_left
  · (intro w' hSw; have k0 := hcl _ hSw; go_simp; try with_reducible rfl)
  simp only [Act.put, List.setIfInBounds_toArray, List.set_cons_zero, List.set_cons_succ]
  refine wpAnyH_take (i := 26) (oi := ⟨some 108, _, _, _, _, _⟩) (v := ?_) rfl (by kernel_rfl) (by kernel_rfl) (by kernel_rfl) (fun _ _ _ h => h) (Or.inl ⟨by rfl, ?_⟩) (by assumption) ?_
  rotate_left
  · (intro w' hSw; have k0 := hcl _ hSw; go_simp; try with_reducible rfl)
  simp only [Act.put, List.setIfInBounds_toArray, List.set_cons_zero, List.set_cons_succ]
  refine wpAnyH_take (i := 27) (oi := ⟨some 109, _, _, _, _, _⟩) (v := ?_) rfl (by kernel_rfl) (by kernel_rfl) (by kernel_rfl) (fun _ _ _ h => h) (Or.inl ⟨by rfl, ?_⟩) (by assumption) ?_
  rotate_left
  · (intro w' hSw; have k0 := hcl _ hSw; go_simp; try with_reducible rfl)
  simp only [Act.put, List.setIfInBounds_toArray, List.set_cons_zero, List.set_cons_succ]
  refine wpAnyH_take (i := 28) (oi := ⟨some 110, _, _, _, _, _⟩) (v := ?_) rfl (by kernel_rfl) (by kernel_rfl) (by kernel_rfl) (fun _ _ _ h => h) (Or.inl ⟨by rfl, ?_⟩) (by assumption) ?_
  rotate_left
  · (intro w' hSw; have k0 := hcl _ hSw; go_simp; try with_reducible rfl)
  simp only [Act.put, List.setIfInBounds_toArray, List.set_cons_zero, List.set_cons_succ]
  refine wpAnyH_take (i := 29) (oi := ⟨some 111, _, _, _, _, _⟩) (v := ?_) rfl (by kernel_rfl) (by kernel_rfl) (by kernel_rfl) (fun _ _ _ h => h) (Or.inl ⟨by rfl, ?_⟩) (by assumption) ?_
  rotate_left
  · (intro w' hSw; have k0 := hcl _ hSw; go_simp; try with_reducible rfl)
  simp only [Act.put, List.setIfInBounds_toArray, List.set_cons_zero, List.set_cons_succ]
  have hrw := hfw.rows
  refine wpAnyH_ready (rs := [24]) (by kernel_rfl) (by simp) ?_
  refine AllReadyH.cons (o := ⟨some 106, _, _, _, _, _⟩) rfl (fun K hK => ?_) AllReadyH.nil
  go_simp
  go_at_call 29
  refine (node_any h (by omega) cv pl.length hcv (by omega)).mono ?_
  rintro e wc24 ⟨rfl, h, hb24⟩
  go_wp2_with fail
  refine hK.out _ _ (X.but hb24 Xo) (fun hHeld24 => ?_)
  clear hK K
  try simp only [Act.put, List.setIfInBounds_toArray, List.set_cons_zero, List.set_cons_succ]
  have b := hb24
  clear hb24
  replace X := X.but b Xo
  replace c := c.trans (b.below c.size hw)
  replace VA := VA.but (z_own hMB b)
  replace VB := VB.but (z_own hMB b)
  replace VE := VE.but (z_own hMB b)
  replace VF := VF.but (z_own hMB b)
  replace r := ref_but r (fun i hi => hKB i (hMB i hi)) b
  replace on := on_of on b.size
  replace hB2 := Nat.le_trans hB2 b.size
  clear b
  refine wpAnyH_ready (rs := [30]) (by kernel_rfl) (by simp) ?_
  refine AllReadyH.cons (o := ⟨some 112, _, _, _, _, _⟩) rfl (fun K hK => ?_) AllReadyH.nil
  go_simp
  go_at_call 30
  refine (rnode_any r on hfw.few cv pl.length hcv (by omega)).mono ?_
  rintro e wc30 ⟨rfl, r, hb30⟩
  go_wp2_with fail
  refine hK.out _ _ (X.low (z_below hKB hB2 hb30) hXB) (fun hHeld30 => ?_)
  clear hK K
  try simp only [Act.put, List.setIfInBounds_toArray, List.set_cons_zero, List.set_cons_succ]
  have f := hb30
  clear hb30
  have fb := z_below hKB hB2 f
  replace h := h.under hin fb
  replace X := X.low fb hXB
  replace c := c.trans (fb.mono (by omega))
  replace VA := VA.but (z_fr f)
  replace VB := VB.but (z_fr f)
  replace VE := VE.but (z_fr f)
  replace VF := VF.but (z_fr f)
  replace on := on_of on f.size
  replace hB2 := Nat.le_trans hB2 f.size
  clear f fb
  generalize O4.val (qh (nodeT cv pl.length)) = nv0 at *
  generalize O4.ask (qh (nodeT cv pl.length)) = O5 at *
  clear hrw hfw
  refine wpAnyH_take (i := 31) (oi := ⟨some 113, _, _, _, _, _⟩) (v := ?_) rfl (by kernel_rfl) (by kernel_rfl) (by kernel_rfl) (fun _ _ _ h => h) (Or.inl ⟨by rfl, ?_⟩) (by assumption) ?_
  rotate_left
  · (intro w' hSw; have k0 := hcl _ hSw; go_simp; try with_reducible rfl)
  simp only [Act.put, List.setIfInBounds_toArray, List.set_cons_zero, List.set_cons_succ]
  refine wpAnyH_take (i := 32) (oi := ⟨some 114, _, _, _, _, _⟩) (v := ?_) rfl (by kernel_rfl) (by kernel_rfl) (by kernel_rfl) (fun _ _ _ h => h) (Or.inl ⟨by rfl, ?_⟩) (by assumption) ?_
  rotate_left
  · (intro w' hSw; have k0 := hcl _ hSw; go_simp; try with_reducible rfl)
  simp only [Act.put, List.setIfInBounds_toArray, List.set_cons_zero, List.set_cons_succ]
  refine wpAnyH_take (i := 33) (oi := ⟨some 21, _, _, _, _, _⟩) (v := ?_) rfl (by kernel_rfl) (by kernel_rfl) (by kernel_rfl) (fun _ _ _ h => h) (Or.inl ⟨by rfl, ?_⟩) (by assumption) ?_
  rotate_left
  · (intro w' hSw; have k0 := hcl _ hSw; go_simp; try with_reducible rfl)
  simp only [Act.put, List.setIfInBounds_toArray, List.set_cons_zero, List.set_cons_succ]
  refine wpAnyH_done (by kernel_rfl) ?_ _
  refine NoPanic.normal ?_
  clear X hcl otM otK ot0 hKB hMB hB2 on hin hs4 hpx ht
  go_wp2_with fail
  refine (HF _).mono ?_
  rintro x w91 ⟨rfl, b⟩
  replace r := r.below b
  replace VA := VA.below b
  replace VB := VB.below b
  replace VE := VE.below b
  replace VF := VF.below b
  replace h := h.below b
  replace c := c.trans (b.mono c.size)
  clear b
  have HNM := nums_is pl pl (by omega) _ _ _ VA.rd VB.rd
  rw [decide_eq_true (Eq.refl pl)] at HNM
  clear VA VB
  have HH := HNM
  clear HNM
  go_wp2_with fail
  refine HH.mono ?_
  clear HH
  rintro x w92 ⟨rfl, b⟩
  replace r := r.below b
  replace VE := VE.below b
  replace VF := VF.below b
  replace h := h.below b
  replace c := c.trans (b.mono c.size)
  clear b
  have HI := is_any _ _ _ _ _ VE VF
  rw [decide_eq_true (Eq.refl U)] at HI
  clear VE VF
  have HH := HI
  clear HI
  go_wp2_with fail
  refine HH.mono ?_
  clear HH
  rintro x w93 ⟨rfl, b⟩
  replace r := r.below b
  replace h := h.below b
  replace c := c.trans (b.mono c.size)
  clear b
  have HH := o_drawn h
  go_wp2_with fail
  refine HH.mono ?_
  clear HH
  rintro x w94 ⟨rfl, b⟩
  replace r := r.below b
  replace h := h.below b
  replace c := c.trans (b.mono c.size)
  clear b
  have HH := Ref3.drawn_any r
  go_wp2_with fail
  refine HH.mono ?_
  clear HH
  rintro x w95 ⟨rfl, b⟩
  replace r := r.below b
  replace h := h.below b
  replace c := c.trans (b.mono c.size)
  clear b
  have HH := o_bad h
  go_wp2_with fail
  refine HH.mono ?_
  clear HH
  rintro x w96 ⟨rfl, b⟩
  replace r := r.below b
  replace h := h.below b
  replace c := c.trans (b.mono c.size)
  clear b
  have HH := Ref3.bad_any r
  go_wp2_with fail
  refine HH.mono ?_
  clear HH
  rintro x w97 ⟨rfl, b⟩
  replace r := r.below b
  replace h := h.below b
  replace c := c.trans (b.mono c.size)
  clear b
  go_wp2
  go_ret
  exact ⟨rfl, c⟩
end Go.Proofs.Ytllbcnficlbobaa.Tells6
