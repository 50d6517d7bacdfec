/-
  Package merkle: above.
-/
import Derived.Test.YtllbcnficlbobaaMerB
namespace Go.Proofs.Ytllbcnficlbobaa
open Go.RowKit Go.Shelf
open Ideal Ida Mer

attribute [local go_sem] Oper.semAt_some

namespace Mera
theorem drewN_grown (W : World) (n : Nat) : W.grownBy (W.drewN n) none := ⟨rfl, rfl, rfl, Nat.le_refl _, fun _ _ _ => rfl⟩
theorem pairs_stops (n b c : Nat) (ad : Addr) (m cap : Nat) (hcap : 2 * m ≤ cap) (hmax : cap ≤ maxLen) (w : World)
    (hb : w.heap[b]? = some (.cells #[.slice (some ad) (2 * m) cap] 22 (0, 0))) (hc : w.heap[c]? = some (.cells #[.int .i64 2] 3 (0, 0))) :
    SeqStopsK Fence.wide n Try.prog 50 #[.pointer (some ⟨b, 0, none⟩), .pointer (some ⟨c, 0, none⟩)] (fun x : Fin m => #[Value.slice (some (ad.add (2 * x.val))) 2 2]) (Kp b c)
      (fun ys => ys = firsts m m (Nat.le_refl m)) (fun pre => ∃ k, ∃ h : k ≤ m, pre = firsts m k h) m w := fun l J Jx W hW hJ _ hY h0 =>
  pairs_in n l b c ad m cap hcap hmax J Jx (fun pre W nq h => hJ pre W _ none h (drewN_grown W nq) (fun r e => by cases e)) hY W
    ((hW.block b (Array.getElem?_eq_some_iff.1 hb).1).trans hb) ((hW.block c (Array.getElem?_eq_some_iff.1 hc).1).trans hc) h0

def pairT (l : List Nat) (k : Nat) : ByteArray := nodeT (l.getD (2 * k) 0) (l.getD (2 * k + 1) 0)
theorem upT_firsts {l : List Nat} {m : Nat} (hl : l.length = 2 * m) : (firsts m m (Nat.le_refl m)).map (fun x => pairT l x.val) = upT l := by
  have h : (firsts m m (Nat.le_refl m)).map (fun x => pairT l x.val) = ((firsts m m (Nat.le_refl m)).map Fin.val).map (pairT l) := by rw [List.map_map]; rfl
  rw [h, firsts_val]
  unfold upT
  rw [show l.length / 2 = m by omega]
  rfl

/-- What lies there between two rounds. -/
structure AbI (O : Or) (L : Lay) (w : World) (ts : List ByteArray) (W : World) : Prop where
  row : ∃ v, Boxed W (w.heap.size + 1) 22 v ∧ W.ownsRow (w.heap.size + 4) 42 1 v ts.length (nums (O.vals ts))
  orc : Orc W L (O.asks ts)
  but : Kit.But L.own w W
  box : Boxed W w.heap.size 26 (ptr L)
  size : w.heap.size + 4 ≤ W.heap.size
theorem AbI.grown {O : Or} {L : Lay} {w : World} (h0 : Orc w L O) {ts : List ByteArray} {W W' : World} {row : Option Nat} (h : AbI O L w ts W) (hg : W.grownBy W' row) (hr : ∀ r, row = some r → w.heap.size + 4 ≤ r ∧ ∃ o : Obj, W.heap[r]? = some o ∧ o.isCells = false) : AbI O L w ts W' := by
  have hb : Below (w.heap.size + 4) W W' := (Below.refl _ W).grown hg h.size (fun k hk => (hr k hk).1)
  obtain ⟨v, hv, hrow⟩ := h.row
  refine ⟨⟨v, ?_, ?_⟩, h.orc.far h0 (Or.draws_asks _ _) (hb.mono (by omega)), h.but.low (hb.mono (by omega)), ?_, Nat.le_trans h.size hg.size⟩
  · exact (hb.block _ (by omega)).trans hv
  · refine hrow.kept hg ?_
    rcases hrow.2 with ⟨rfl, -⟩ | ⟨g, cap, cur, rfl, -, hgb, -⟩
    · exact .inl rfl
    · refine .inr fun e => ?_
      obtain ⟨-, o, ho, hc⟩ := hr g (by simpa [Value.ownBlock] using e.symm)
      rw [hgb] at ho
      cases ho
      cases hc
  · exact (hb.block _ (by omega)).trans h.box

theorem AbI.fin {O : Or} {L : Lay} {w : World} {ts : List ByteArray} {W : World} {p q : Nat} {v : Value} (h : Orc w L O) (hI : AbI O L w ts W) (hrow : W.ownsRow (w.heap.size + 4) 42 1 v ts.length (nums (O.vals ts))) (B : Nat) (hB : B = w.heap.size + 4)
    {w1 w2 : World} {g cap : Nat} (b1 : Kit.But L.own W.drew w1) (h1 : Orc w1 L ((O.asks ts).ask (qh (nodeT p q))))
    (hown' : w2.ownsRow (w.heap.size + 4) 42 1 (.slice (some ⟨g, 0, none⟩) (ts.length + 1) cap) (ts.length + 1) (nums (O.vals ts) ++ [.int .u64 ((O.asks ts).val (qh (nodeT p q)) : Int)])) (hb2 : Below (w.heap.size + 4) w1 w2)
    (hg2 : (w1.alloc (.cells #[.int .u64 ((O.asks ts).val (qh (nodeT p q)) : Int)] 42)).grownBy w2 v.ownBlock) (t2 : Boxed w2 (w.heap.size + 1) 22 v) :
    KeepsFrom B W (w2.setCell ⟨w.heap.size + 1, 0, none⟩ (.slice (some ⟨g, 0, none⟩) (ts.length + 1) cap)) ∧ Kp (w.heap.size + 1 + 1) (w.heap.size + 1 + 1 + 1) W (w2.setCell ⟨w.heap.size + 1, 0, none⟩ (.slice (some ⟨g, 0, none⟩) (ts.length + 1) cap)) ∧
      AbI O L w (ts ++ [nodeT p q]) (w2.setCell ⟨w.heap.size + 1, 0, none⟩ (.slice (some ⟨g, 0, none⟩) (ts.length + 1) cap)) := by
  have hown : ∀ i, L.own i → i < w.heap.size := fun i hi => h.lt hi
  have hWz := hI.size
  have z1 : W.heap.size ≤ w1.heap.size := b1.size
  have set_off : ∀ k, k ≠ w.heap.size + 1 → (w2.setCell ⟨w.heap.size + 1, 0, none⟩ (.slice (some ⟨g, 0, none⟩) (ts.length + 1) cap)).heap[k]? = w2.heap[k]? := fun k hk => heap_setCell_other w2 ⟨w.heap.size + 1, 0, none⟩ k _ hk
  have low1 : ∀ k, w.heap.size ≤ k → k < W.heap.size → w1.heap[k]? = W.heap[k]? := fun k hk hk2 => b1.block k hk2 (fun ho => by have := hown k ho; omega)
  have hbs : Below (w.heap.size + 1) w1 (w2.setCell ⟨w.heap.size + 1, 0, none⟩ (.slice (some ⟨g, 0, none⟩) (ts.length + 1) cap)) := (hb2.mono (show w.heap.size + 1 ≤ w.heap.size + 4 by omega)).setCell (p := ⟨w.heap.size + 1, 0, none⟩) (Nat.le_refl _) _
  refine ⟨⟨?_, fun k o hk ho hc => ?_⟩, ⟨?_, ?_⟩, ⟨⟨_, t2.set _, ?_⟩, ?_, ?_, ?_, ?_⟩⟩
  · exact Nat.le_trans z1 hbs.size
  · have hk3 : k < W.heap.size := (Array.getElem?_eq_some_iff.1 ho).1
    rw [set_off k (by omega), hg2.block k (by simp; omega) ?_]
    · rw [Below.heap_alloc _ _ _ (by omega), low1 k (by omega) hk3]
      exact ho
    · intro e
      rcases hrow.2 with ⟨rfl, -⟩ | ⟨g', cap', cur, rfl, -, hgb, -⟩
      · cases e
      · obtain rfl : k = g' := by simpa [Value.ownBlock] using e
        rw [hgb] at ho
        cases ho
        cases hc
  · rw [set_off _ (by omega), hb2.block _ (by omega), low1 _ (by omega) (by omega)]
  · rw [set_off _ (by omega), hb2.block _ (by omega), low1 _ (by omega) (by omega)]
  · have hva : O.vals (ts ++ [nodeT p q]) = O.vals ts ++ [(O.asks ts).val (qh (nodeT p q))] := Or.vals_append _ _ _
    rw [hva, nums_snoc1, List.length_append, List.length_singleton]
    refine hown'.kept (grownBy_setCell' w2 (w.heap.size + 1) _) (.inr fun e => ?_)
    have h3 := (hown'.lt _ e).1
    omega
  · have hoa : O.asks (ts ++ [nodeT p q]) = (O.asks ts).ask (qh (nodeT p q)) := Or.asks_append _ _ _
    rw [hoa]
    exact h1.far h ((Or.draws_ask1 _ _).trans (Or.draws_asks _ _)) (hbs.mono (by omega))
  · exact (hI.but.trans (w' := W) (Kit.But.trans (Kit.But.refl _ W).drew b1)).low (hbs.mono (by omega))
  · exact (hbs.block _ (by omega)).trans ((low1 _ (by omega) (by omega)).trans hI.box)
  · have := hbs.size
    omega
/-- What stays while a round goes on. -/
structure AbS (L : Lay) (w w' : World) : Prop where
  box : Boxed w' w.heap.size 26 (ptr L)
  but : Kit.But L.own w w'
  off : ¬ L.own w.heap.size
section
variable {L : Lay} {w w' w'' : World}
theorem AbS.move (h : AbS L w w') (b : Kit.But L.own w' w'') : AbS L w w'' := ⟨(b.block _ h.box.lt h.off).trans h.box, h.but.trans b, h.off⟩
theorem AbS.low (h : AbS L w w') {B : Nat} (b : Below B w' w'') (hB : w.heap.size < B) : AbS L w w'' := ⟨(b.block _ hB).trans h.box, h.but.low (b.mono (by omega)), h.off⟩
theorem AbS.alloc (h : AbS L w w') (o : Obj) : AbS L w (w'.alloc o) := ⟨h.box.alloc o, h.but.alloc o, h.off⟩
theorem AbS.set (h : AbS L w w') (p : Addr) (hp : w.heap.size < p.block) (u : Value) : AbS L w (w'.setCell p u) := ⟨(heap_setCell_other w' p _ u (by omega)).trans h.box, h.but.setCell (fun hl => by omega) u, h.off⟩
theorem AbS.cells (h : AbS L w w') {ad : Addr} {l : List Nat} {n cap x : Nat} (hv : Kit.Off L.own w (.slice (some ad) n cap) (nums l)) (h0 : 2 * x < l.length) (h1 : 2 * x + 1 < l.length) :
    w'.cell? ⟨w.heap.size, 0, none⟩ = some (ptr L) ∧ w'.cell? (ad.add (2 * x)) = some (.int .u64 (l.getD (2 * x) 0 : Nat)) ∧ w'.cell? ⟨(ad.add (2 * x)).block, (ad.add (2 * x)).off + 1, none⟩ = some (.int .u64 (l.getD (2 * x + 1) 0 : Nat)) := by
  have hv' := hv.but h.but
  obtain ⟨a1, e1, g1⟩ := hv'.at_ (nums_at h0)
  obtain ⟨a2, e2, g2⟩ := hv'.at_ (nums_at h1)
  cases e1
  cases e2
  refine ⟨h.box.cell, g1, ?_⟩
  rw [← Go.Deep.add_add] at g2
  exact g2
end

set_option maxRecDepth 100000 in
set_option maxHeartbeats 8000000 in
theorem above_any {L : Lay} {O : Or} {w : World} (h : Orc w L O) (l : List Nat) (m : Nat) (hl : l.length = 2 * m) (hm : 1 ≤ m) (hm2 : m ≤ 1000) (hx : ∀ x ∈ l, x < 18446744073709551616) (hn : O.rows.length + m < 1152921504606846976) (v : Value) (hv : Kit.Off L.own w v (nums l)) :
    Calls Try.prog 35 #[ptr L, v] w fun e w' => ∃ v', e = .returned v' ∧ w'.ownsRow (w.heap.size + 4) 42 1 v' m (nums (O.vals (upT l))) ∧ Orc w' L (O.asks (upT l)) ∧ Kit.But L.own w w' := by
  obtain ⟨a, cap, rfl, hcap, hmax⟩ := hv.form
  have hne : nums l ≠ [] := fun e => by
    have h9 : l.length = 0 := by rw [← nums_len, e]; rfl
    omega
  obtain ⟨ad, rfl, hoff, hcell⟩ := hv.base hne
  rw [nums_len, hl] at hcap hv ⊢
  obtain ⟨i0, hi, hz0, hz1, hz2⟩ := info_parts infoU64
  have HC := fun w => chunk_any (some ad) (2 * m) cap w
  refine (callsIn_wide (n := 9)).1 ?_
  refine callsIn_of_wp_marks Try.func35 rfl trivial ?_ rfl
  simp only [Try.ntmps35, List.size_toArray, List.length_cons, List.length_nil, Nat.reduceAdd, Nat.reduceSub, Array.replicate_succ, Array.replicate_zero, List.push_toArray, List.append_toArray, List.nil_append, List.cons_append]
  gi_wp2_with (refine ⟨trivial, ?_⟩; gi_at_call 46; refine (callsIn_wide.2 (HC _)).mono ?_; rintro e w' ⟨rfl, rfl⟩)
  obtain ⟨W4, hW4⟩ : ∃ W4, ((((w.alloc (.cells #[ptr L] 26)).alloc (.cells #[.slice none 0 0] 22)).alloc (.cells #[.slice (some ad) (2 * m) cap] 22)).alloc (.cells #[.int .i64 2] 3)) = W4 := ⟨_, rfl⟩
  have z4 : W4.heap.size = w.heap.size + 4 := by rw [← hW4]; simp
  have bO : Boxed W4 w.heap.size 26 (ptr L) := by rw [← hW4]; exact (((Boxed.new w _ _).alloc _).alloc _).alloc _
  have bT : Boxed W4 (w.heap.size + 1) 22 (.slice none 0 0) := by
    have := ((Boxed.new (w.alloc (.cells #[ptr L] 26)) 22 (.slice none 0 0)).alloc (.cells #[.slice (some ad) (2 * m) cap] 22)).alloc (.cells #[.int .i64 2] 3)
    rw [World.size_alloc] at this
    rw [← hW4]
    exact this
  have bS : W4.heap[w.heap.size + 1 + 1]? = some (.cells #[.slice (some ad) (2 * m) cap] 22 (0, 0)) := by
    have := (Boxed.new ((w.alloc (.cells #[ptr L] 26)).alloc (.cells #[.slice none 0 0] 22)) 22 (.slice (some ad) (2 * m) cap)).alloc (.cells #[.int .i64 2] 3)
    rw [World.size_alloc, World.size_alloc] at this
    rw [← hW4]
    exact this
  have bN : W4.heap[w.heap.size + 1 + 1 + 1]? = some (.cells #[.int .i64 2] 3 (0, 0)) := by
    have := Boxed.new (((w.alloc (.cells #[ptr L] 26)).alloc (.cells #[.slice none 0 0] 22)).alloc (.cells #[.slice (some ad) (2 * m) cap] 22)) 3 (.int .i64 2)
    rw [World.size_alloc, World.size_alloc, World.size_alloc] at this
    rw [← hW4]
    exact this
  have c4 : Below w.heap.size w W4 := by
    rw [← hW4]
    exact ((((Below.refl _ w).alloc (Nat.le_refl _) _).alloc (by simp) _).alloc (by simp; omega) _).alloc (by simp; omega) _
  rw [hW4]
  clear hW4
  have I0 : AbI O L w [] W4 := ⟨⟨_, bT, World.ownsRow_nil _ _ _ _⟩, h.below c4, Kit.But.of_below c4 (Nat.le_refl _) _, bO, by omega⟩
  have hnl : ¬ L.own w.heap.size := fun ho => Nat.lt_irrefl _ (h.lt ho)
  have hOI : OwnFrom W4.heap.size (fun (pre : List (Fin m)) W => AbI O L w (pre.map fun x : Fin m => pairT l x.val) W) := fun s X Y row hs hg hr => hs.grown h hg (fun r e => by have := hr r e; rw [z4] at this; exact this)
  refine wpIn_rangeFunc_ownG rfl (by decide) (gf := 50) (lb := #[.pointer (some ⟨w.heap.size + 1 + 1, 0, none⟩), .pointer (some ⟨w.heap.size + 1 + 1 + 1, 0, none⟩)]) rfl trivial (enters_of Try.func50 (by kernel_rfl) rfl)
    (pairs_stops 8 (w.heap.size + 1 + 1) (w.heap.size + 1 + 1 + 1) ad m cap hcap hmax W4 bS bN) (fun h k => h.trans k) (Kp.putObj (by omega) (by omega)) (Below.refl _ _) (fun _ => rfl)
    (fun (pre : List (Fin m)) W => AbI O L w (pre.map fun x : Fin m => pairT l x.val) W) (fun _ _ _ => False) hOI (fun _ _ _ _ _ hs _ _ => hs) I0
    (fun x => { tmps := #[ptr L, .slice (some ad) (2 * m) cap, .pointer (some ⟨w.heap.size, 0, none⟩), undef, .slice none 0 0, .pointer (some ⟨w.heap.size + 1, 0, none⟩), .slice (some (ad.add (2 * x.val))) 2 2, .slice (some ad) (2 * m) cap, .func (.func 50) #[] #[.pointer (some ⟨w.heap.size + 1 + 1, 0, none⟩), .pointer (some ⟨w.heap.size + 1 + 1 + 1, 0, none⟩)], .slice (some (ad.add (2 * x.val))) 2 2, undef, undef, undef, undef, undef, undef, undef, undef, undef, undef, undef, undef], defers := [] }) ?assign ?body ?done ?stop
  case assign =>
    intro l x W K hK
    gi_wp2
    exact hK
  case body =>
    rintro lp pre x W hI hlen
    obtain ⟨v, hv1, hrow⟩ := hI.row
    -- BODY
    have hx0 : 2 * x.val < l.length := by have := x.isLt; omega
    have hx1 : 2 * x.val + 1 < l.length := by have := x.isLt; omega
    have hsn : (pre ++ [x]).map (fun x : Fin m => pairT l x.val) = (pre.map fun x : Fin m => pairT l x.val) ++ [nodeT (l.getD (2 * x.val) 0) (l.getD (2 * x.val + 1) 0)] := by rw [List.map_append]; rfl
    obtain ⟨ts, hts⟩ : ∃ ts, ts = pre.map fun x : Fin m => pairT l x.val := ⟨_, rfl⟩
    have hln : ts.length = pre.length := by rw [hts, List.length_map]
    rw [← hts] at hsn hI hrow
    rw [← hln] at hlen
    clear hln hts
    have hWz := hI.size
    have hd := Or.len_asks ts O
    have hp : l.getD (2 * x.val) 0 < 18446744073709551616 := by rw [getD_at hx0]; exact hx _ (List.getElem_mem _)
    have hq : l.getD (2 * x.val + 1) 0 < 18446744073709551616 := by rw [getD_at hx1]; exact hx _ (List.getElem_mem _)
    have HN := fun w' (h : Orc w' L (O.asks ts)) => node_any h (by omega) (l.getD (2 * x.val) 0) (l.getD (2 * x.val + 1) 0) hp hq
    have hcl := fun w' (s : AbS L w w') => s.cells hv hx0 hx1
    have hva : O.vals (ts ++ [nodeT (l.getD (2 * x.val) 0) (l.getD (2 * x.val + 1) 0)]) = O.vals ts ++ [(O.asks ts).val (qh (nodeT (l.getD (2 * x.val) 0) (l.getD (2 * x.val + 1) 0)))] := Or.vals_append _ _ _
    have hoa : O.asks (ts ++ [nodeT (l.getD (2 * x.val) 0) (l.getD (2 * x.val + 1) 0)]) = (O.asks ts).ask (qh (nodeT (l.getD (2 * x.val) 0) (l.getD (2 * x.val + 1) 0))) := Or.asks_append _ _ _
    have s0 : AbS L w W.drew := ⟨hI.box, hI.but.drew, hnl⟩
    have h0 : Orc W.drew L (O.asks ts) := hI.orc.drew
    have hTo : ¬ L.own (w.heap.size + 1) := fun ho => by have := h.lt ho; omega
    have hL4 : ∀ i, L.own i → i < w.heap.size + 4 := fun i hi => by have := h.lt hi; omega
    have hvb : ∀ {w1 : World}, Kit.But L.own W.drew w1 → Boxed w1 (w.heap.size + 1) 22 v := fun b => (b.block _ hv1.lt hTo).trans hv1
    have c0 : W.drew.cell? ⟨w.heap.size + 1, 0, none⟩ = some v := hv1.cell
    have hl1 : ts.length + 1 ≤ maxLen := by have : maxLen = 9223372036854775807 := rfl; omega
    have hl2 : (ts.length + 1) * 8 ≤ 140737488355328 := by omega
    have fin := fun w1 w2 g cap b1 h1 => @AbI.fin O L w ts W (l.getD (2 * x.val) 0) (l.getD (2 * x.val + 1) 0) v h hI hrow W4.heap.size z4 w1 w2 g cap b1 h1
    rw [← hsn] at fin
    generalize l.getD (2 * x.val) 0 = p at *
    generalize l.getD (2 * x.val + 1) 0 = q at *
    generalize O.vals ts = vs at *
    generalize O.asks ts = O1 at *
    gi_wp2
    refine Kit.region_round (S := AbS L w) (by kernel_rfl) (fun ⟨_, _, h⟩ => h) (by kernel_rfl) s0 (fun hHeld => ?_)
    refine wpAnyH_take (i := 1) (oi := ⟨some 11, _, _, _, _, _⟩) (v := ?_) rfl (by kernel_rfl) (by kernel_rfl) (by kernel_rfl) (fun _ _ _ h => h) (Or.inl ⟨by rfl, ?_⟩) (by assumption) ?_
    rotate_left
    · (intro w' hSw; obtain ⟨k0, k1, k2⟩ := hcl _ hSw; go_simp; try with_reducible rfl)
    simp only [Act.put, List.setIfInBounds_toArray, List.set_cons_zero, List.set_cons_succ]
    refine wpAnyH_take (i := 2) (oi := ⟨some 12, _, _, _, _, _⟩) (v := ?_) rfl (by kernel_rfl) (by kernel_rfl) (by kernel_rfl) (fun _ _ _ h => h) (Or.inl ⟨by rfl, ?_⟩) (by assumption) ?_
    rotate_left
    · (intro w' hSw; obtain ⟨k0, k1, k2⟩ := hcl _ hSw; go_simp; try with_reducible rfl)
    simp only [Act.put, List.setIfInBounds_toArray, List.set_cons_zero, List.set_cons_succ]
    refine wpAnyH_take (i := 3) (oi := ⟨some 13, _, _, _, _, _⟩) (v := ?_) rfl (by kernel_rfl) (by kernel_rfl) (by kernel_rfl) (fun _ _ _ h => h) (Or.inl ⟨by rfl, ?_⟩) (by assumption) ?_
    rotate_left
    · (intro w' hSw; obtain ⟨k0, k1, k2⟩ := hcl _ hSw; go_simp; try with_reducible rfl)
    simp only [Act.put, List.setIfInBounds_toArray, List.set_cons_zero, List.set_cons_succ]
    refine wpAnyH_take (i := 4) (oi := ⟨some 14, _, _, _, _, _⟩) (v := ?_) rfl (by kernel_rfl) (by kernel_rfl) (by kernel_rfl) (fun _ _ _ h => h) (Or.inl ⟨by rfl, ?_⟩) (by assumption) ?_
    rotate_left
    · (intro w' hSw; obtain ⟨k0, k1, k2⟩ := hcl _ hSw; go_simp; try with_reducible rfl)
    simp only [Act.put, List.setIfInBounds_toArray, List.set_cons_zero, List.set_cons_succ]
    refine wpAnyH_take (i := 5) (oi := ⟨some 15, _, _, _, _, _⟩) (v := ?_) rfl (by kernel_rfl) (by kernel_rfl) (by kernel_rfl) (fun _ _ _ h => h) (Or.inl ⟨by rfl, ?_⟩) (by assumption) ?_
    rotate_left
    · (intro w' hSw; obtain ⟨k0, k1, k2⟩ := hcl _ hSw; go_simp; try with_reducible rfl)
    simp only [Act.put, List.setIfInBounds_toArray, List.set_cons_zero, List.set_cons_succ]
    refine wpAnyH_take (i := 6) (oi := ⟨some 16, _, _, _, _, _⟩) (v := ?_) rfl (by kernel_rfl) (by kernel_rfl) (by kernel_rfl) (fun _ _ _ h => h) (Or.inl ⟨by rfl, ?_⟩) (by assumption) ?_
    rotate_left
    · (intro w' hSw; obtain ⟨k0, k1, k2⟩ := hcl _ hSw; go_simp; try with_reducible rfl)
    simp only [Act.put, List.setIfInBounds_toArray, List.set_cons_zero, List.set_cons_succ]
    refine wpAnyH_take (i := 7) (oi := ⟨some 17, _, _, _, _, _⟩) (v := ?_) rfl (by kernel_rfl) (by kernel_rfl) (by kernel_rfl) (fun _ _ _ h => h) (Or.inl ⟨by rfl, ?_⟩) (by assumption) ?_
    rotate_left
    · (intro w' hSw; obtain ⟨k0, k1, k2⟩ := hcl _ hSw; go_simp; try with_reducible rfl)
    simp only [Act.put, List.setIfInBounds_toArray, List.set_cons_zero, List.set_cons_succ]
    refine wpAnyH_ready (rs := [0, 8]) (by kernel_rfl) (by simp) ?_
    refine AllReadyH.cons (o := ⟨some 10, _, _, _, _, _⟩) rfl (fun K hK => ?_) ?_
    · go_simp
      refine hK.out _ _ s0 (fun hHeld => ?_)
      clear hK K
      try simp only [Act.put, List.setIfInBounds_toArray, List.set_cons_zero, List.set_cons_succ]
      refine wpAnyH_ready (rs := [8]) (by kernel_rfl) (by simp) ?_
      refine AllReadyH.cons (o := ⟨some 18, _, _, _, _, _⟩) rfl (fun K hK => ?_) AllReadyH.nil
      go_simp
      go_at_call 29
      refine (HN _ h0).mono ?_
      rintro e w1 ⟨rfl, h1, b1⟩
      have s1 := s0.move b1
      have c1 : w1.cell? ⟨w.heap.size + 1, 0, none⟩ = some v := (hvb b1).cell
      go_wp2_with fail
      refine hK.out _ _ s1 (fun hHeld => ?_)
      clear hK K
      try simp only [Act.put, List.setIfInBounds_toArray, List.set_cons_zero, List.set_cons_succ]
      refine wpAnyH_ready (rs := [9]) (by kernel_rfl) (by simp) ?_
      refine AllReadyH.cons (o := ⟨some 19, _, _, _, _, _⟩) rfl (fun K hK => ?_) AllReadyH.nil
      go_simp
      refine hK.out _ _ (s1.alloc _) (fun hHeld => ?_)
      clear hK K
      try simp only [Act.put, List.setIfInBounds_toArray, List.set_cons_zero, List.set_cons_succ]
      have c2 : (w1.alloc (.cells #[.int .u64 (O1.val (qh (nodeT p q)) : Int)] 42)).cell? ⟨w.heap.size + 1, 0, none⟩ = some v := ((hvb b1).alloc _).cell
      refine wpAnyH_ready (rs := [10]) (by kernel_rfl) (by simp) ?_
      refine AllReadyH.cons (o := ⟨some 20, _, _, _, _, _⟩) rfl (fun K hK => ?_) AllReadyH.nil
      refine Kit.step_append_one rfl _ _ 22 rfl (w.heap.size + 4) 42 i0 (.int .u64 0) 8 Try.underlying22 hi hz0 hz1 hz2 rfl v ts.length (nums vs) rfl (Kit.own_but hrow.drew b1 hL4) (.int .u64 (O1.val (qh (nodeT p q)) : Int)) 42 rfl rfl hl1 hl2 (Nat.le_trans hWz b1.size) ?_
      intro v' w2 hown' hb2 hg2
      obtain ⟨g', cap', rfl⟩ := ownsRow_succ hown'
      have s2 := s1.low hb2 (by omega)
      have t2 : Boxed w2 (w.heap.size + 1) 22 v := (hb2.block _ (by omega)).trans (hvb b1)
      have k2 := t2.cell
      have f2 := t2.frozen
      refine hK.out _ _ s2 (fun hHeld => ?_)
      clear hK K
      try simp only [Act.put, List.setIfInBounds_toArray, List.set_cons_zero, List.set_cons_succ]
      refine wpAnyH_ready (rs := [11]) (by kernel_rfl) (by simp) ?_
      refine AllReadyH.cons (o := ⟨none, _, _, _, _, _⟩) rfl (fun K hK => ?_) AllReadyH.nil
      go_simp
      refine hK.out _ _ (s2.set _ (by simp) _) (fun hHeld => ?_)
      clear hK K
      try simp only [Act.put, List.setIfInBounds_toArray, List.set_cons_zero, List.set_cons_succ]
      refine wpAnyH_done (by kernel_rfl) ?_ _
      exact fin _ _ _ _ b1 h1 hown' hb2 hg2 t2
    refine AllReadyH.cons (o := ⟨some 18, _, _, _, _, _⟩) rfl (fun K hK => ?_) AllReadyH.nil
    go_simp
    go_at_call 29
    refine (HN _ h0).mono ?_
    rintro e w1 ⟨rfl, h1, b1⟩
    have s1 := s0.move b1
    have c1 : w1.cell? ⟨w.heap.size + 1, 0, none⟩ = some v := (hvb b1).cell
    go_wp2_with fail
    refine hK.out _ _ s1 (fun hHeld => ?_)
    clear hK K
    try simp only [Act.put, List.setIfInBounds_toArray, List.set_cons_zero, List.set_cons_succ]
    refine wpAnyH_ready (rs := [0, 9]) (by kernel_rfl) (by simp) ?_
    refine AllReadyH.cons (o := ⟨some 10, _, _, _, _, _⟩) rfl (fun K hK => ?_) ?_
    · go_simp
      refine hK.out _ _ s1 (fun hHeld => ?_)
      clear hK K
      try simp only [Act.put, List.setIfInBounds_toArray, List.set_cons_zero, List.set_cons_succ]
      refine wpAnyH_ready (rs := [9]) (by kernel_rfl) (by simp) ?_
      refine AllReadyH.cons (o := ⟨some 19, _, _, _, _, _⟩) rfl (fun K hK => ?_) AllReadyH.nil
      go_simp
      refine hK.out _ _ (s1.alloc _) (fun hHeld => ?_)
      clear hK K
      try simp only [Act.put, List.setIfInBounds_toArray, List.set_cons_zero, List.set_cons_succ]
      have c2 : (w1.alloc (.cells #[.int .u64 (O1.val (qh (nodeT p q)) : Int)] 42)).cell? ⟨w.heap.size + 1, 0, none⟩ = some v := ((hvb b1).alloc _).cell
      refine wpAnyH_ready (rs := [10]) (by kernel_rfl) (by simp) ?_
      refine AllReadyH.cons (o := ⟨some 20, _, _, _, _, _⟩) rfl (fun K hK => ?_) AllReadyH.nil
      refine Kit.step_append_one rfl _ _ 22 rfl (w.heap.size + 4) 42 i0 (.int .u64 0) 8 Try.underlying22 hi hz0 hz1 hz2 rfl v ts.length (nums vs) rfl (Kit.own_but hrow.drew b1 hL4) (.int .u64 (O1.val (qh (nodeT p q)) : Int)) 42 rfl rfl hl1 hl2 (Nat.le_trans hWz b1.size) ?_
      intro v' w2 hown' hb2 hg2
      obtain ⟨g', cap', rfl⟩ := ownsRow_succ hown'
      have s2 := s1.low hb2 (by omega)
      have t2 : Boxed w2 (w.heap.size + 1) 22 v := (hb2.block _ (by omega)).trans (hvb b1)
      have k2 := t2.cell
      have f2 := t2.frozen
      refine hK.out _ _ s2 (fun hHeld => ?_)
      clear hK K
      try simp only [Act.put, List.setIfInBounds_toArray, List.set_cons_zero, List.set_cons_succ]
      refine wpAnyH_ready (rs := [11]) (by kernel_rfl) (by simp) ?_
      refine AllReadyH.cons (o := ⟨none, _, _, _, _, _⟩) rfl (fun K hK => ?_) AllReadyH.nil
      go_simp
      refine hK.out _ _ (s2.set _ (by simp) _) (fun hHeld => ?_)
      clear hK K
      try simp only [Act.put, List.setIfInBounds_toArray, List.set_cons_zero, List.set_cons_succ]
      refine wpAnyH_done (by kernel_rfl) ?_ _
      exact fin _ _ _ _ b1 h1 hown' hb2 hg2 t2
    refine AllReadyH.cons (o := ⟨some 19, _, _, _, _, _⟩) rfl (fun K hK => ?_) AllReadyH.nil
    go_simp
    refine hK.out _ _ (s1.alloc _) (fun hHeld => ?_)
    clear hK K
    try simp only [Act.put, List.setIfInBounds_toArray, List.set_cons_zero, List.set_cons_succ]
    have c2 : (w1.alloc (.cells #[.int .u64 (O1.val (qh (nodeT p q)) : Int)] 42)).cell? ⟨w.heap.size + 1, 0, none⟩ = some v := ((hvb b1).alloc _).cell
    refine wpAnyH_ready (rs := [0]) (by kernel_rfl) (by simp) ?_
    refine AllReadyH.cons (o := ⟨some 10, _, _, _, _, _⟩) rfl (fun K hK => ?_) AllReadyH.nil
    go_simp
    refine hK.out _ _ (s1.alloc _) (fun hHeld => ?_)
    clear hK K
    try simp only [Act.put, List.setIfInBounds_toArray, List.set_cons_zero, List.set_cons_succ]
    refine wpAnyH_ready (rs := [10]) (by kernel_rfl) (by simp) ?_
    refine AllReadyH.cons (o := ⟨some 20, _, _, _, _, _⟩) rfl (fun K hK => ?_) AllReadyH.nil
    refine Kit.step_append_one rfl _ _ 22 rfl (w.heap.size + 4) 42 i0 (.int .u64 0) 8 Try.underlying22 hi hz0 hz1 hz2 rfl v ts.length (nums vs) rfl (Kit.own_but hrow.drew b1 hL4) (.int .u64 (O1.val (qh (nodeT p q)) : Int)) 42 rfl rfl hl1 hl2 (Nat.le_trans hWz b1.size) ?_
    intro v' w2 hown' hb2 hg2
    obtain ⟨g', cap', rfl⟩ := ownsRow_succ hown'
    have s2 := s1.low hb2 (by omega)
    have t2 : Boxed w2 (w.heap.size + 1) 22 v := (hb2.block _ (by omega)).trans (hvb b1)
    have k2 := t2.cell
    have f2 := t2.frozen
    refine hK.out _ _ s2 (fun hHeld => ?_)
    clear hK K
    try simp only [Act.put, List.setIfInBounds_toArray, List.set_cons_zero, List.set_cons_succ]
    refine wpAnyH_ready (rs := [11]) (by kernel_rfl) (by simp) ?_
    refine AllReadyH.cons (o := ⟨none, _, _, _, _, _⟩) rfl (fun K hK => ?_) AllReadyH.nil
    go_simp
    refine hK.out _ _ (s2.set _ (by simp) _) (fun hHeld => ?_)
    clear hK K
    try simp only [Act.put, List.setIfInBounds_toArray, List.set_cons_zero, List.set_cons_succ]
    refine wpAnyH_done (by kernel_rfl) ?_ _
    exact fin _ _ _ _ b1 h1 hown' hb2 hg2 t2
  case done =>
    rintro D ys W hD rfl hI hK
    obtain ⟨v, hv1, hrow⟩ := hI.row
    have hc := hv1.cell
    have hrow2 := ownsRow_putObj hrow (.deferred none) hK rfl
    have hD2 : w.heap.size + 4 ≤ D := by omega
    have hb : Below (w.heap.size + 4) W (W.putObj D (.deferred none)) := belowK_b (w := W4) (by omega) W D _ _ hD hK rfl rfl
    have ho := hI.orc.far h (Or.draws_asks _ _) (hb.mono (by omega))
    have hbu := hI.but.low (hb.mono (by omega))
    rw [upT_firsts hl] at ho hrow2
    have hml : (upT l).length = m := by rw [upT_length]; omega
    rw [hml] at hrow2
    gi_wp2
    refine ⟨by simp, .inl ⟨_, _, rfl, run_takeDeferred hK, ?_⟩⟩
    exact ⟨_, results_tmp rfl _ _ _, v, rfl, hrow2, ho, hbu⟩
  case stop =>
    rintro D c pre W _ _ h _
    exact h.elim
end Mera
end Go.Proofs.Ytllbcnficlbobaa
