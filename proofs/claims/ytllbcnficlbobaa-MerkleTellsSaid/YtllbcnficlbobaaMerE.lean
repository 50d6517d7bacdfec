/-
  Package merkle: over, the walk.
-/
import Derived.Test.YtllbcnficlbobaaMerD
namespace Go.Proofs.Ytllbcnficlbobaa
open Go.RowKit Go.Shelf
open Ideal Ida Mer

attribute [local go_sem] Oper.semAt_some

namespace Mera
set_option maxRecDepth 100000 in
set_option maxHeartbeats 8000000 in
theorem over_any {L : Lay} {O : Or} {w : World} (h : Orc w L O) (l up : List Nat) (m : Nat) (hl : l.length = 2 * m) (hup : up.length = m) (hm : 1 ≤ m) (hm2 : m ≤ 1000) (hx : ∀ x ∈ l, x < 18446744073709551616) (hn : O.rows.length + m < 1152921504606846976) (vu v : Value) (hu : Kit.Off L.own w vu (nums up)) (hv : Kit.Off L.own w v (nums l)) :
    Calls Try.prog 41 #[ptr L, vu, v] w fun e w' => e = .returned (.bool (O.cmp ((upT l).zip up)).1) ∧ Orc w' L (O.cmp ((upT l).zip up)).2 ∧ Kit.But L.own w w' := by
  obtain ⟨a, cap, rfl, hcap, hmax⟩ := hv.form
  obtain ⟨a', cu, rfl, -, -⟩ := hu.form
  have hne : nums l ≠ [] := fun e => by
    have h9 : l.length = 0 := by rw [← nums_len, e]; rfl
    omega
  have hne2 : nums up ≠ [] := fun e => by
    have h9 : up.length = 0 := by rw [← nums_len, e]; rfl
    omega
  obtain ⟨ad, rfl, -, -⟩ := hv.base hne
  obtain ⟨au, rfl, -, -⟩ := hu.base hne2
  rw [nums_len l, hl] at hcap hv ⊢
  rw [nums_len up, hup] at hu ⊢
  have HC := fun w => chunk_any (some ad) (2 * m) cap w
  refine (callsIn_wide (n := 9)).1 ?_
  refine callsIn_of_wp_marks Try.func41 rfl trivial ?_ rfl
  simp only [Try.ntmps41, List.size_toArray, List.length_cons, List.length_nil, Nat.reduceAdd, Nat.reduceSub, Array.replicate_succ, Array.replicate_zero, List.push_toArray, List.append_toArray, List.nil_append, List.cons_append]
  gi_wp2_with (refine ⟨trivial, ?_⟩; gi_at_call 46; refine (callsIn_wide.2 (HC _)).mono ?_; rintro e w' ⟨rfl, rfl⟩)
  obtain ⟨W6, hW6⟩ : ∃ W6, ((((((w.alloc (.cells #[ptr L] 26)).alloc (.cells #[.slice (some au) m cu] 22)).alloc (.cells #[.bool false] 4)).alloc (.cells #[.int .i64 0] 3)).alloc (.cells #[.slice (some ad) (2 * m) cap] 22)).alloc (.cells #[.int .i64 2] 3)) = W6 := ⟨_, rfl⟩
  have z6 : W6.heap.size = w.heap.size + 6 := by rw [← hW6]; simp
  have bx : ∀ (W : World) (k : Nat) (c : Value) (T : TypeId), W.heap.size = k → Boxed (W.alloc (.cells #[c] T)) k T c := fun W k c T hk => by subst hk; exact Boxed.new W T c
  have bO : Boxed W6 w.heap.size 26 (ptr L) := by rw [← hW6]; exact ((((((bx _ _ _ _ rfl).alloc _).alloc _).alloc _).alloc _).alloc _)
  have bL : Boxed W6 (w.heap.size + 1) 22 (.slice (some au) m cu) := by rw [← hW6]; exact (((((bx _ _ _ _ (by simp)).alloc _).alloc _).alloc _).alloc _)
  have bR : Boxed W6 (w.heap.size + 1 + 1) 4 (.bool false) := by rw [← hW6]; exact ((((bx _ _ _ _ (by simp)).alloc _).alloc _).alloc _)
  have bI : Boxed W6 (w.heap.size + 1 + 1 + 1) 3 (.int .i64 0) := by rw [← hW6]; exact (((bx _ _ _ _ (by simp)).alloc _).alloc _)
  have bS : W6.heap[w.heap.size + 1 + 1 + 1 + 1]? = some (.cells #[.slice (some ad) (2 * m) cap] 22 (0, 0)) := by rw [← hW6]; exact ((bx _ _ _ _ (by simp)).alloc _)
  have bN : W6.heap[w.heap.size + 1 + 1 + 1 + 1 + 1]? = some (.cells #[.int .i64 2] 3 (0, 0)) := by rw [← hW6]; exact (bx _ _ _ _ (by simp))
  have c6 : Below w.heap.size w W6 := by
    rw [← hW6]
    exact ((((((Below.refl _ w).alloc (Nat.le_refl _) _).alloc (by simp) _).alloc (by simp; omega) _).alloc (by simp; omega) _).alloc (by simp; omega) _).alloc (by simp; omega) _
  rw [hW6]
  clear hW6
  have I0 : OvI O L w (.slice (some au) m cu) 0 (O.asks []) W6 := ⟨h.below c6, rfl, Kit.But.of_below c6 (Nat.le_refl _) _, bO, bL, bR, bI, by omega⟩
  have hOI : OwnFrom W6.heap.size (fun (pre : List (Fin m)) W => O.cmp ((pre.map fun x : Fin m => pairT l x.val).zip up) = (true, O.asks (pre.map fun x : Fin m => pairT l x.val)) ∧ OvI O L w (.slice (some au) m cu) pre.length (O.asks (pre.map fun x : Fin m => pairT l x.val)) W) := fun s X Y row hs hg hr => ⟨hs.1, hs.2.grown h hg (fun r e => by have := hr r e; rw [z6] at this; exact this)⟩
  have hOX : ∀ c : Code, OwnFrom W6.heap.size (fun (pre : List (Fin m)) W => c = .ret ∧ ∃ O2 k, O.cmp ((pre.map fun x : Fin m => pairT l x.val).zip up) = (false, O2) ∧ OvI O L w (.slice (some au) m cu) k O2 W) := fun c s X Y row hs hg hr => by
    obtain ⟨h1, O2, k, h2, h3⟩ := hs
    exact ⟨h1, O2, k, h2, h3.grown h hg (fun r e => by have := hr r e; rw [z6] at this; exact this)⟩
  refine wpIn_rangeFunc_ownG rfl (by decide) (gf := 50) (lb := #[.pointer (some ⟨w.heap.size + 1 + 1 + 1 + 1, 0, none⟩), .pointer (some ⟨w.heap.size + 1 + 1 + 1 + 1 + 1, 0, none⟩)]) rfl trivial (enters_of Try.func50 (by kernel_rfl) rfl)
    (pairs_stops 8 (w.heap.size + 1 + 1 + 1 + 1) (w.heap.size + 1 + 1 + 1 + 1 + 1) ad m cap hcap hmax W6 bS bN) (fun h k => h.trans k) (Kp.putObj (by omega) (by omega)) (Below.refl _ _) (fun _ => rfl)
    _ _ hOI hOX ⟨rfl, I0⟩
    (fun x => { tmps := #[ptr L, .slice (some au) m cu, .slice (some ad) (2 * m) cap, .pointer (some ⟨w.heap.size, 0, none⟩), .pointer (some ⟨w.heap.size + 1, 0, none⟩), undef, .pointer (some ⟨w.heap.size + 1 + 1, 0, none⟩), .pointer (some ⟨w.heap.size + 1 + 1 + 1, 0, none⟩), .slice (some (ad.add (2 * x.val))) 2 2, .slice (some ad) (2 * m) cap, .func (.func 50) #[] #[.pointer (some ⟨w.heap.size + 1 + 1 + 1 + 1, 0, none⟩), .pointer (some ⟨w.heap.size + 1 + 1 + 1 + 1 + 1, 0, none⟩)], .slice (some (ad.add (2 * x.val))) 2 2, undef, undef, undef, undef, undef, undef, undef, undef, undef, undef, undef, undef, undef, undef, undef], defers := [] }) ?assign ?body ?done ?stop
  case assign =>
    intro l x W K hK
    gi_wp2
    exact hK
  case body =>
    rintro lp pre x W ⟨hcmp, hI⟩ hlen
    have hx0 : 2 * x.val < l.length := by have := x.isLt; omega
    have hx1 : 2 * x.val + 1 < l.length := by have := x.isLt; omega
    have hsn : (pre ++ [x]).map (fun x : Fin m => pairT l x.val) = (pre.map fun x : Fin m => pairT l x.val) ++ [nodeT (l.getD (2 * x.val) 0) (l.getD (2 * x.val + 1) 0)] := by rw [List.map_append]; rfl
    have hpl : (pre ++ [x]).length = pre.length + 1 := by simp
    obtain ⟨ts, hts⟩ : ∃ ts, ts = pre.map fun x : Fin m => pairT l x.val := ⟨_, rfl⟩
    have hln : ts.length = pre.length := by rw [hts, List.length_map]
    rw [← hts] at hsn hI hcmp
    rw [← hln] at hlen hI hpl
    have hul : ts.length < up.length := by omega
    have hzs := zip_snoc (nodeT (l.getD (2 * x.val) 0) (l.getD (2 * x.val + 1) 0)) hul
    have hcs := Or.cmp_snoc (t := nodeT (l.getD (2 * x.val) 0) (l.getD (2 * x.val + 1) 0)) (v := up.getD ts.length 0) hcmp
    rw [← hzs, ← hsn] at hcs
    have hoa : O.asks (ts ++ [nodeT (l.getD (2 * x.val) 0) (l.getD (2 * x.val + 1) 0)]) = (O.asks ts).ask (qh (nodeT (l.getD (2 * x.val) 0) (l.getD (2 * x.val + 1) 0))) := Or.asks_append _ _ _
    rw [← hsn] at hoa
    have hWz := hI.size
    have hd := Or.len_asks ts O
    have hp : l.getD (2 * x.val) 0 < 18446744073709551616 := by rw [getD_at hx0]; exact hx _ (List.getElem_mem _)
    have hq : l.getD (2 * x.val + 1) 0 < 18446744073709551616 := by rw [getD_at hx1]; exact hx _ (List.getElem_mem _)
    have HN := fun w' (h : Orc w' L (O.asks ts)) => node_any h (by omega) (l.getD (2 * x.val) 0) (l.getD (2 * x.val + 1) 0) hp hq
    have hcl := fun w' (s : OvS L w (.slice (some au) m cu) ts.length w') => s.cells hv hu hx0 hx1 hul
    have s0 : OvS L w (.slice (some au) m cu) ts.length W.drew := ⟨hI.but.drew, hI.bo, hI.bl, hI.bi, fun i hi => h.lt hi⟩
    have h0 : Orc W.drew L (O.asks ts) := hI.orc.drew
    have hI0 : OvI O L w (.slice (some au) m cu) ts.length (O.asks ts) W.drew := ⟨hI.orc.drew, hI.dr, hI.but.drew, hI.bo, hI.bl, hI.br, hI.bi, hI.size⟩
    have hkm : ts.length < m := hlen
    have hi1 : (0 : Int) ≤ (ts.length : Int) := by omega
    have hi2 : (ts.length : Int) < (m : Int) := by omega
    clear hx hn hd hlen hln hts hzs hul hcmp hsn
    generalize l.getD (2 * x.val) 0 = p at *
    generalize l.getD (2 * x.val + 1) 0 = q at *
    generalize up.getD ts.length 0 = u at *
    generalize O.asks ts = O1 at *
    have hdd : (O1.ask (qh (nodeT p q))).draws = O1.draws := Or.draws_ask1 _ _
    generalize O1.val (qh (nodeT p q)) = c at *
    generalize O1.ask (qh (nodeT p q)) = O2 at *
    by_cases he : c = u
    · subst he
      have g1 : ((c : Int) != (c : Int)) = false := by simp
      have g2 : (c != c) = false := by simp
      gi_wp2
      refine Kit.region_round (S := OvS L w (.slice (some au) m cu) ts.length) (by kernel_rfl) (fun ⟨_, _, h⟩ => h) (by kernel_rfl) s0 (fun hHeld => ?_)
      refine wpAnyH_take (i := 0) (oi := ⟨some 12, _, _, _, _, _⟩) (v := ?_) rfl (by kernel_rfl) (by kernel_rfl) (by kernel_rfl) (fun _ _ _ h => h) (Or.inl ⟨by rfl, ?_⟩) (by assumption) ?_
      rotate_left
      · (intro w' hSw; obtain ⟨k0, k1, k2, k3, k4, k5⟩ := hcl _ hSw; go_simp; try with_reducible rfl)
      simp only [Act.put, List.setIfInBounds_toArray, List.set_cons_zero, List.set_cons_succ]
      refine wpAnyH_take (i := 1) (oi := ⟨some 13, _, _, _, _, _⟩) (v := ?_) rfl (by kernel_rfl) (by kernel_rfl) (by kernel_rfl) (fun _ _ _ h => h) (Or.inl ⟨by rfl, ?_⟩) (by assumption) ?_
      rotate_left
      · (intro w' hSw; obtain ⟨k0, k1, k2, k3, k4, k5⟩ := hcl _ hSw; go_simp; try with_reducible rfl)
      simp only [Act.put, List.setIfInBounds_toArray, List.set_cons_zero, List.set_cons_succ]
      refine wpAnyH_take (i := 2) (oi := ⟨some 14, _, _, _, _, _⟩) (v := ?_) rfl (by kernel_rfl) (by kernel_rfl) (by kernel_rfl) (fun _ _ _ h => h) (Or.inl ⟨by rfl, ?_⟩) (by assumption) ?_
      rotate_left
      · (intro w' hSw; obtain ⟨k0, k1, k2, k3, k4, k5⟩ := hcl _ hSw; go_simp; try with_reducible rfl)
      simp only [Act.put, List.setIfInBounds_toArray, List.set_cons_zero, List.set_cons_succ]
      refine wpAnyH_take (i := 3) (oi := ⟨some 15, _, _, _, _, _⟩) (v := ?_) rfl (by kernel_rfl) (by kernel_rfl) (by kernel_rfl) (fun _ _ _ h => h) (Or.inl ⟨by rfl, ?_⟩) (by assumption) ?_
      rotate_left
      · (intro w' hSw; obtain ⟨k0, k1, k2, k3, k4, k5⟩ := hcl _ hSw; go_simp; try with_reducible rfl)
      simp only [Act.put, List.setIfInBounds_toArray, List.set_cons_zero, List.set_cons_succ]
      refine wpAnyH_take (i := 4) (oi := ⟨some 16, _, _, _, _, _⟩) (v := ?_) rfl (by kernel_rfl) (by kernel_rfl) (by kernel_rfl) (fun _ _ _ h => h) (Or.inl ⟨by rfl, ?_⟩) (by assumption) ?_
      rotate_left
      · (intro w' hSw; obtain ⟨k0, k1, k2, k3, k4, k5⟩ := hcl _ hSw; go_simp; try with_reducible rfl)
      simp only [Act.put, List.setIfInBounds_toArray, List.set_cons_zero, List.set_cons_succ]
      refine wpAnyH_take (i := 5) (oi := ⟨some 17, _, _, _, _, _⟩) (v := ?_) rfl (by kernel_rfl) (by kernel_rfl) (by kernel_rfl) (fun _ _ _ h => h) (Or.inl ⟨by rfl, ?_⟩) (by assumption) ?_
      rotate_left
      · (intro w' hSw; obtain ⟨k0, k1, k2, k3, k4, k5⟩ := hcl _ hSw; go_simp; try with_reducible rfl)
      simp only [Act.put, List.setIfInBounds_toArray, List.set_cons_zero, List.set_cons_succ]
      refine wpAnyH_take (i := 6) (oi := ⟨some 18, _, _, _, _, _⟩) (v := ?_) rfl (by kernel_rfl) (by kernel_rfl) (by kernel_rfl) (fun _ _ _ h => h) (Or.inl ⟨by rfl, ?_⟩) (by assumption) ?_
      rotate_left
      · (intro w' hSw; obtain ⟨k0, k1, k2, k3, k4, k5⟩ := hcl _ hSw; go_simp; try with_reducible rfl)
      simp only [Act.put, List.setIfInBounds_toArray, List.set_cons_zero, List.set_cons_succ]
      refine wpAnyH_take (i := 8) (oi := ⟨some 20, _, _, _, _, _⟩) (v := ?_) rfl (by kernel_rfl) (by kernel_rfl) (by kernel_rfl) (fun _ _ _ h => h) (Or.inl ⟨by rfl, ?_⟩) (by assumption) ?_
      rotate_left
      · (intro w' hSw; obtain ⟨k0, k1, k2, k3, k4, k5⟩ := hcl _ hSw; go_simp; try with_reducible rfl)
      simp only [Act.put, List.setIfInBounds_toArray, List.set_cons_zero, List.set_cons_succ]
      refine wpAnyH_take (i := 9) (oi := ⟨some 21, _, _, _, _, _⟩) (v := ?_) rfl (by kernel_rfl) (by kernel_rfl) (by kernel_rfl) (fun _ _ _ h => h) (Or.inl ⟨by rfl, ?_⟩) (by assumption) ?_
      rotate_left
      · (intro w' hSw; obtain ⟨k0, k1, k2, k3, k4, k5⟩ := hcl _ hSw; go_simp; try with_reducible rfl)
      simp only [Act.put, List.setIfInBounds_toArray, List.set_cons_zero, List.set_cons_succ]
      refine wpAnyH_take (i := 10) (oi := ⟨some 22, _, _, _, _, _⟩) (v := ?_) rfl (by kernel_rfl) (by kernel_rfl) (by kernel_rfl) (fun _ _ _ h => h) (Or.inl ⟨by rfl, ?_⟩) (by assumption) ?_
      rotate_left
      · (intro w' hSw; obtain ⟨k0, k1, k2, k3, k4, k5⟩ := hcl _ hSw; go_simp; try with_reducible rfl)
      simp only [Act.put, List.setIfInBounds_toArray, List.set_cons_zero, List.set_cons_succ]
      refine wpAnyH_take (i := 11) (oi := ⟨some 23, _, _, _, _, _⟩) (v := ?_) rfl (by kernel_rfl) (by kernel_rfl) (by kernel_rfl) (fun _ _ _ h => h) (Or.inl ⟨by rfl, ?_⟩) (by assumption) ?_
      rotate_left
      · (intro w' hSw; obtain ⟨k0, k1, k2, k3, k4, k5⟩ := hcl _ hSw; go_simp; try with_reducible rfl)
      simp only [Act.put, List.setIfInBounds_toArray, List.set_cons_zero, List.set_cons_succ]
      refine wpAnyH_ready (rs := [7]) (by kernel_rfl) (by simp) ?_
      refine AllReadyH.cons (o := ⟨some 19, _, _, _, _, _⟩) rfl (fun K hK => ?_) AllReadyH.nil
      go_simp
      go_at_call 29
      refine (HN _ h0).mono ?_
      rintro e w1 ⟨rfl, h1, b1⟩
      have s1 := s0.move b1
      go_wp2_with fail
      refine hK.out _ _ s1 (fun hHeld2 => ?_)
      clear hK K
      try simp only [Act.put, List.setIfInBounds_toArray, List.set_cons_zero, List.set_cons_succ]
      refine wpAnyH_take (i := 12) (oi := ⟨some 24, _, _, _, _, _⟩) (v := ?_) rfl (by kernel_rfl) (by kernel_rfl) (by kernel_rfl) (fun _ _ _ h => h) (Or.inl ⟨by rfl, ?_⟩) (by assumption) ?_
      rotate_left
      · (intro w' hSw; obtain ⟨k0, k1, k2, k3, k4, k5⟩ := hcl _ hSw; go_simp; try with_reducible rfl)
      simp only [Act.put, List.setIfInBounds_toArray, List.set_cons_zero, List.set_cons_succ]
      refine wpAnyH_done (by kernel_rfl) ?_ _
      have bW := (Kit.But.refl L.own W).drew.trans b1
      have m1 := hI0.move h b1 h1 hdd
      have kf1 : KeepsFrom W6.heap.size W w1 := ⟨bW.size, fun k o hk ho _ => by rw [bW.block k (Array.getElem?_eq_some_iff.1 ho).1 (fun hw => by have := h.lt hw; omega)]; exact ho⟩
      have kp1 : Kp (w.heap.size + 1 + 1 + 1 + 1) (w.heap.size + 1 + 1 + 1 + 1 + 1) W w1 := Kp.of_but bW (by omega) (by omega) (fun hw => by have := h.lt hw; omega) (fun hw => by have := h.lt hw; omega)
      have kb := m1.bi.cell
      have kf := m1.bi.frozen
      gi_wp2
      have m2 := m1.count h (ts.length + 1)
      refine ⟨kf1.trans ((KeepsOthers.setCell _ _ _).from _), kp1.trans ⟨heap_setCell_other w1 ⟨w.heap.size + 1 + 1 + 1, 0, none⟩ _ _ (show w.heap.size + 1 + 1 + 1 + 1 ≠ w.heap.size + 1 + 1 + 1 by omega), heap_setCell_other w1 ⟨w.heap.size + 1 + 1 + 1, 0, none⟩ _ _ (show w.heap.size + 1 + 1 + 1 + 1 + 1 ≠ w.heap.size + 1 + 1 + 1 by omega)⟩, ?_, ?_⟩
      · rw [hcs, hoa]
        simp
      · rw [hpl, hoa]
        have e : ((ts.length + 1 : Nat) : Int) = (ts.length : Int) + 1 := by omega
        rw [e] at m2
        exact m2
    · have g1 : ((c : Int) != (u : Int)) = true := by rw [bne_iff_ne]; omega
      have g2 : (c != u) = true := by rw [bne_iff_ne]; exact he
      gi_wp2
      refine Kit.region_round (S := OvS L w (.slice (some au) m cu) ts.length) (by kernel_rfl) (fun ⟨_, _, h⟩ => h) (by kernel_rfl) s0 (fun hHeld => ?_)
      refine wpAnyH_take (i := 0) (oi := ⟨some 12, _, _, _, _, _⟩) (v := ?_) rfl (by kernel_rfl) (by kernel_rfl) (by kernel_rfl) (fun _ _ _ h => h) (Or.inl ⟨by rfl, ?_⟩) (by assumption) ?_
      rotate_left
      · (intro w' hSw; obtain ⟨k0, k1, k2, k3, k4, k5⟩ := hcl _ hSw; go_simp; try with_reducible rfl)
      simp only [Act.put, List.setIfInBounds_toArray, List.set_cons_zero, List.set_cons_succ]
      refine wpAnyH_take (i := 1) (oi := ⟨some 13, _, _, _, _, _⟩) (v := ?_) rfl (by kernel_rfl) (by kernel_rfl) (by kernel_rfl) (fun _ _ _ h => h) (Or.inl ⟨by rfl, ?_⟩) (by assumption) ?_
      rotate_left
      · (intro w' hSw; obtain ⟨k0, k1, k2, k3, k4, k5⟩ := hcl _ hSw; go_simp; try with_reducible rfl)
      simp only [Act.put, List.setIfInBounds_toArray, List.set_cons_zero, List.set_cons_succ]
      refine wpAnyH_take (i := 2) (oi := ⟨some 14, _, _, _, _, _⟩) (v := ?_) rfl (by kernel_rfl) (by kernel_rfl) (by kernel_rfl) (fun _ _ _ h => h) (Or.inl ⟨by rfl, ?_⟩) (by assumption) ?_
      rotate_left
      · (intro w' hSw; obtain ⟨k0, k1, k2, k3, k4, k5⟩ := hcl _ hSw; go_simp; try with_reducible rfl)
      simp only [Act.put, List.setIfInBounds_toArray, List.set_cons_zero, List.set_cons_succ]
      refine wpAnyH_take (i := 3) (oi := ⟨some 15, _, _, _, _, _⟩) (v := ?_) rfl (by kernel_rfl) (by kernel_rfl) (by kernel_rfl) (fun _ _ _ h => h) (Or.inl ⟨by rfl, ?_⟩) (by assumption) ?_
      rotate_left
      · (intro w' hSw; obtain ⟨k0, k1, k2, k3, k4, k5⟩ := hcl _ hSw; go_simp; try with_reducible rfl)
      simp only [Act.put, List.setIfInBounds_toArray, List.set_cons_zero, List.set_cons_succ]
      refine wpAnyH_take (i := 4) (oi := ⟨some 16, _, _, _, _, _⟩) (v := ?_) rfl (by kernel_rfl) (by kernel_rfl) (by kernel_rfl) (fun _ _ _ h => h) (Or.inl ⟨by rfl, ?_⟩) (by assumption) ?_
      rotate_left
      · (intro w' hSw; obtain ⟨k0, k1, k2, k3, k4, k5⟩ := hcl _ hSw; go_simp; try with_reducible rfl)
      simp only [Act.put, List.setIfInBounds_toArray, List.set_cons_zero, List.set_cons_succ]
      refine wpAnyH_take (i := 5) (oi := ⟨some 17, _, _, _, _, _⟩) (v := ?_) rfl (by kernel_rfl) (by kernel_rfl) (by kernel_rfl) (fun _ _ _ h => h) (Or.inl ⟨by rfl, ?_⟩) (by assumption) ?_
      rotate_left
      · (intro w' hSw; obtain ⟨k0, k1, k2, k3, k4, k5⟩ := hcl _ hSw; go_simp; try with_reducible rfl)
      simp only [Act.put, List.setIfInBounds_toArray, List.set_cons_zero, List.set_cons_succ]
      refine wpAnyH_take (i := 6) (oi := ⟨some 18, _, _, _, _, _⟩) (v := ?_) rfl (by kernel_rfl) (by kernel_rfl) (by kernel_rfl) (fun _ _ _ h => h) (Or.inl ⟨by rfl, ?_⟩) (by assumption) ?_
      rotate_left
      · (intro w' hSw; obtain ⟨k0, k1, k2, k3, k4, k5⟩ := hcl _ hSw; go_simp; try with_reducible rfl)
      simp only [Act.put, List.setIfInBounds_toArray, List.set_cons_zero, List.set_cons_succ]
      refine wpAnyH_take (i := 8) (oi := ⟨some 20, _, _, _, _, _⟩) (v := ?_) rfl (by kernel_rfl) (by kernel_rfl) (by kernel_rfl) (fun _ _ _ h => h) (Or.inl ⟨by rfl, ?_⟩) (by assumption) ?_
      rotate_left
      · (intro w' hSw; obtain ⟨k0, k1, k2, k3, k4, k5⟩ := hcl _ hSw; go_simp; try with_reducible rfl)
      simp only [Act.put, List.setIfInBounds_toArray, List.set_cons_zero, List.set_cons_succ]
      refine wpAnyH_take (i := 9) (oi := ⟨some 21, _, _, _, _, _⟩) (v := ?_) rfl (by kernel_rfl) (by kernel_rfl) (by kernel_rfl) (fun _ _ _ h => h) (Or.inl ⟨by rfl, ?_⟩) (by assumption) ?_
      rotate_left
      · (intro w' hSw; obtain ⟨k0, k1, k2, k3, k4, k5⟩ := hcl _ hSw; go_simp; try with_reducible rfl)
      simp only [Act.put, List.setIfInBounds_toArray, List.set_cons_zero, List.set_cons_succ]
      refine wpAnyH_take (i := 10) (oi := ⟨some 22, _, _, _, _, _⟩) (v := ?_) rfl (by kernel_rfl) (by kernel_rfl) (by kernel_rfl) (fun _ _ _ h => h) (Or.inl ⟨by rfl, ?_⟩) (by assumption) ?_
      rotate_left
      · (intro w' hSw; obtain ⟨k0, k1, k2, k3, k4, k5⟩ := hcl _ hSw; go_simp; try with_reducible rfl)
      simp only [Act.put, List.setIfInBounds_toArray, List.set_cons_zero, List.set_cons_succ]
      refine wpAnyH_take (i := 11) (oi := ⟨some 23, _, _, _, _, _⟩) (v := ?_) rfl (by kernel_rfl) (by kernel_rfl) (by kernel_rfl) (fun _ _ _ h => h) (Or.inl ⟨by rfl, ?_⟩) (by assumption) ?_
      rotate_left
      · (intro w' hSw; obtain ⟨k0, k1, k2, k3, k4, k5⟩ := hcl _ hSw; go_simp; try with_reducible rfl)
      simp only [Act.put, List.setIfInBounds_toArray, List.set_cons_zero, List.set_cons_succ]
      refine wpAnyH_ready (rs := [7]) (by kernel_rfl) (by simp) ?_
      refine AllReadyH.cons (o := ⟨some 19, _, _, _, _, _⟩) rfl (fun K hK => ?_) AllReadyH.nil
      go_simp
      go_at_call 29
      refine (HN _ h0).mono ?_
      rintro e w1 ⟨rfl, h1, b1⟩
      have s1 := s0.move b1
      go_wp2_with fail
      refine hK.out _ _ s1 (fun hHeld2 => ?_)
      clear hK K
      try simp only [Act.put, List.setIfInBounds_toArray, List.set_cons_zero, List.set_cons_succ]
      refine wpAnyH_take (i := 12) (oi := ⟨some 24, _, _, _, _, _⟩) (v := ?_) rfl (by kernel_rfl) (by kernel_rfl) (by kernel_rfl) (fun _ _ _ h => h) (Or.inl ⟨by rfl, ?_⟩) (by assumption) ?_
      rotate_left
      · (intro w' hSw; obtain ⟨k0, k1, k2, k3, k4, k5⟩ := hcl _ hSw; go_simp; try with_reducible rfl)
      simp only [Act.put, List.setIfInBounds_toArray, List.set_cons_zero, List.set_cons_succ]
      refine wpAnyH_done (by kernel_rfl) ?_ _
      have bW := (Kit.But.refl L.own W).drew.trans b1
      have m1 := hI0.move h b1 h1 hdd
      have kf1 : KeepsFrom W6.heap.size W w1 := ⟨bW.size, fun k o hk ho _ => by rw [bW.block k (Array.getElem?_eq_some_iff.1 ho).1 (fun hw => by have := h.lt hw; omega)]; exact ho⟩
      have kp1 : Kp (w.heap.size + 1 + 1 + 1 + 1) (w.heap.size + 1 + 1 + 1 + 1 + 1) W w1 := Kp.of_but bW (by omega) (by omega) (fun hw => by have := h.lt hw; omega) (fun hw => by have := h.lt hw; omega)
      have kb := m1.br.cell
      have kf := m1.br.frozen
      gi_wp2
      exact ⟨kf1.trans ((KeepsOthers.setCell _ _ _).from _), rfl, O2, ts.length, by rw [hcs, decide_eq_false he], m1.no h⟩
  case done =>
    rintro D ys W hD rfl ⟨hcmp, hI⟩ hK
    rw [upT_firsts hl] at hcmp hI
    have hc := hI.br.cell
    have hf := hI.br.frozen
    have hz := hI.size
    have b1 : Below w.heap.size W (W.setCell ⟨w.heap.size + 1 + 1, 0, none⟩ (.bool true)) := (Below.refl _ W).setCell (p := ⟨w.heap.size + 1 + 1, 0, none⟩) (show w.heap.size ≤ w.heap.size + 1 + 1 by omega) _
    have hK' := (KeepsOthers.setCell W ⟨w.heap.size + 1 + 1, 0, none⟩ (.bool true)).same D _ hK rfl
    have b2 : Below w.heap.size (W.setCell ⟨w.heap.size + 1 + 1, 0, none⟩ (.bool true)) ((W.setCell ⟨w.heap.size + 1 + 1, 0, none⟩ (.bool true)).putObj D (.deferred none)) := belowK_b (w := W6) (by omega) _ D _ _ hD hK' rfl rfl
    have ho := hI.orc.far h hI.dr (b1.trans b2)
    have hbu := hI.but.low (b1.trans b2)
    have hc5 : ((W.setCell ⟨w.heap.size + 1 + 1, 0, none⟩ (.bool true)).putObj D (.deferred none)).cell? ⟨w.heap.size + 1 + 1, 0, none⟩ = some (.bool true) := by
      have h1 := hI.br.set (.bool true)
      have h2 : Boxed ((W.setCell ⟨w.heap.size + 1 + 1, 0, none⟩ (.bool true)).putObj D (.deferred none)) (w.heap.size + 1 + 1) 4 (.bool true) := (World.putObj_heap_other (by omega)).trans h1
      exact h2.cell
    gi_wp2
    refine ⟨by simp, .inl ⟨_, _, rfl, run_takeDeferred hK', ?_⟩⟩
    refine ⟨.bool true, ?_, by rw [hcmp], by rw [hcmp]; exact ho, hbu⟩
    simp [results, Try.f41, go_sem, hc5]
  case stop =>
    rintro D c pre W hD hpre ⟨rfl, O2, k, hcmp, hI⟩ hK
    obtain ⟨j, hj, rfl⟩ := hpre
    rw [firsts_take hl] at hcmp
    obtain ⟨r, hr⟩ := zip_take_prefix (upT l) up j
    have hcmp2 : O.cmp ((upT l).zip up) = (false, O2) := by rw [hr]; exact Or.cmp_stop hcmp
    have hz := hI.size
    have b2 : Below w.heap.size W (W.putObj D (.deferred none)) := belowK_b (w := W6) (by omega) _ D _ _ hD hK rfl rfl
    have ho := hI.orc.far h hI.dr b2
    have hbu := hI.but.low b2
    have hc5 : (W.putObj D (.deferred none)).cell? ⟨w.heap.size + 1 + 1, 0, none⟩ = some (.bool false) := by
      have h2 : Boxed (W.putObj D (.deferred none)) (w.heap.size + 1 + 1) 4 (.bool false) := (World.putObj_heap_other (by omega)).trans hI.br
      exact h2.cell
    gi_wp2
    refine ⟨by simp, .inl ⟨_, _, rfl, run_takeDeferred hK, ?_⟩⟩
    refine ⟨.bool false, ?_, by rw [hcmp2], by rw [hcmp2]; exact ho, hbu⟩
    simp [results, Try.f41, go_sem, hc5]
end Mera
end Go.Proofs.Ytllbcnficlbobaa
