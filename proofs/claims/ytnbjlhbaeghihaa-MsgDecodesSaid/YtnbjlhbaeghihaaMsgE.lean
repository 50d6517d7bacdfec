/-
  Package msg: Decode.
-/
import Derived.Test.YtnbjlhbaeghihaaMsgD
import Derived.Laws.ResultCell
namespace Go.Proofs.Ytnbjlhbaeghihaa
open Go.RowKit
open Go.Lib (uvarint uvarint_small uvarint_big uvarint_length64 uvarint_pos byteCells)
open Leb (dec decT decL takeNs takeTs encT encN encL encNs encTs)
open Msg (numOf lowOf highOf form chk enc dm)

/-- What Decode tells: a message that reads as it is told, or the zero message and the error. -/
def DecEnd (o : Except Nat (Nat × List Nat × List (List UInt8))) (e : Ending) (w : World) : Prop :=
  match o with
  | .error c => e = .returned (.tuple #[.agg #[.int .i64 0, .slice none 0 0, .slice none 0 0], .int .i64 (c : Int)])
  | .ok (k, ns, ts) => ∃ vn vt, e = .returned (.tuple #[.agg #[.int .i64 (k : Int), vn, vt], .int .i64 0]) ∧ Kit.Rd w vn (nums ns) ∧ Kit.Rd w vt (strsL ts)

/-- A block of a struct's three cells, in a world. -/
def Three (T : TypeId) (w : World) (b : Nat) (x y z : Value) : Prop := w.heap[b]? = some (.cells #[x, y, z] T (0, 0))
section
variable {T : TypeId} {w w' : World} {b : Nat} {x y z : Value}
theorem Three.lt (h : Three T w b x y z) : b < w.heap.size := by
  rcases Nat.lt_or_ge b w.heap.size with h' | h'
  · exact h'
  · have h : w.heap[b]? = some (.cells #[x, y, z] T (0, 0)) := h
    simp [Array.getElem?_eq_none h'] at h
theorem Three.parts (h : Three T w b x y z) :
    b < w.heap.size ∧ (w.cell? ⟨b, 0, none⟩ = some x ∧ w.cell? ⟨b, 1, none⟩ = some y ∧ w.cell? ⟨b, 2, none⟩ = some z) ∧ w.frozen? ⟨b, 0, none⟩ = false ∧ w.frozen? ⟨b, 1, none⟩ = false ∧ w.frozen? ⟨b, 2, none⟩ = false := by
  refine ⟨h.lt, ⟨?_, ?_, ?_⟩, ?_, ?_, ?_⟩
  · rw [Lib.cell_of_heap h]; rfl
  · rw [Lib.cell_of_heap h]; rfl
  · rw [Lib.cell_of_heap h]; rfl
  · exact Lib.frozen_of_heap h 0
  · exact Lib.frozen_of_heap h 1
  · exact Lib.frozen_of_heap h 2
theorem Three.below (h : Three T w b x y z) (hb : Below w.heap.size w w') : Three T w' b x y z := (hb.block b h.lt).trans h
theorem Three.alloc (h : Three T w b x y z) (o : Obj) : Three T (w.alloc o) b x y z := h.below ((Below.refl _ w).alloc (Nat.le_refl _) o)
theorem Three.new (w : World) (x y z : Value) (T : TypeId) : Three T (w.alloc (.cells #[x, y, z] T)) w.heap.size x y z := heap_alloc_last w _
theorem Three.put (h : Three T w b x y z) (x' y' z' : Value) : Three T (((w.setCell ⟨b, 0, none⟩ x').setCell ⟨b, 1, none⟩ y').setCell ⟨b, 2, none⟩ z') b x' y' z' :=
  heap_setCell_same _ b 2 _ T z' (heap_setCell_same _ b 1 _ T y' (heap_setCell_same w b 0 _ T x' h))
theorem put_other {k : Nat} (hk : k ≠ b) (x' y' z' : Value) : (((w.setCell ⟨b, 0, none⟩ x').setCell ⟨b, 1, none⟩ y').setCell ⟨b, 2, none⟩ z').heap[k]? = w.heap[k]? := by
  rw [heap_setCell_other _ ⟨b, 2, none⟩ k _ hk, heap_setCell_other _ ⟨b, 1, none⟩ k _ hk, heap_setCell_other _ ⟨b, 0, none⟩ k _ hk]
/-- A slice whose elements are not the struct's fields lies elsewhere. -/
theorem Three.apart (h : Three T w b x y z) {v : Value} {xs : List Value} (hr : Kit.Rd w v xs) (hne : ∀ u ∈ xs, u ≠ x ∧ u ≠ y ∧ u ≠ z) (hk : ∀ k, k ≠ b → w'.heap[k]? = w.heap[k]?) : Kit.Rd w' v xs := by
  obtain ⟨a, cap, rfl, hc⟩ := hr
  refine ⟨a, cap, rfl, ?_⟩
  rcases hc with hc | ⟨ad, rfl, hc⟩
  · exact .inl hc
  · refine .inr ⟨ad, rfl, fun j u hu => ?_⟩
    have h1 := hc j u hu
    have h2 : w.heap[b]? = some (.cells #[x, y, z] T (0, 0)) := h
    have hne1 := hne u (List.mem_of_getElem? hu)
    have hbl : (ad.add j).block ≠ b := by
      intro he
      unfold World.cell? at h1
      rw [he, h2] at h1
      simp only at h1
      split at h1
      · cases h1
      · have h3 := List.mem_of_getElem? (l := [x, y, z]) (i := (ad.add j).off) (a := u) (by simpa using h1)
        simp at h3
        rcases h3 with h3 | h3 | h3
        · exact hne1.1 h3
        · exact hne1.2.1 h3
        · exact hne1.2.2 h3
    rw [World.cell?_of_block (w := w) (hk _ hbl)]
    exact h1
end
theorem load_three {T : TypeId} {w : World} {b : Nat} {x y z : Value} (h : Three T w b x y z) : (loadVar 25 ⟨b, 0, none⟩).run Try.prog w = .ok (.agg #[x, y, z]) w := by
  obtain ⟨hlt, ⟨h0, h1, h2⟩, _⟩ := h.parts
  have hl : (loadCells ⟨b, 0, none⟩ 3).run Try.prog w = .ok #[x, y, z] w := run_loadCells_list (P := Try.prog) (w := w) ⟨b, 0, none⟩ [x, y, z] (fun j v hv => by
    match j, hv with
    | 0, hv => simp at hv; subst hv; simpa [Addr.add] using h0
    | 1, hv => simp at hv; subst hv; simpa [Addr.add] using h1
    | 2, hv => simp at hv; subst hv; simpa [Addr.add] using h2)
  simp only [loadVar, Sem.run_bind, Try.isAgg25 w, Result.andThen]
  simp [hl, Result.andThen]
/-- A function's two results, the first a message in a variable. -/
theorem results_three {T : TypeId} {f : Func} {p u : Tmp} (h : f.results = #[.cell p 25, .tmp u]) {tmps : Array Value} {w : World} {b : Nat} {x y z v : Value} (hp : tmps.getD p undef = .pointer (some ⟨b, 0, none⟩)) (hu : tmps.getD u undef = v) (ht : Three T w b x y z) :
    (results f tmps).run Try.prog w = .ok (.tuple #[.agg #[x, y, z], v]) w := by
  rw [results_cell_tmp h, hp]
  simp only [asAddr, Sem.run_pure, Result.andThen, load_three ht, hu]

theorem dm_none {l : List UInt8} (h0 : ¬ 65536 < l.length) (h : dec l = none) : dm l = .error 21 := by unfold dm Msg.take; rw [if_neg h0, h]
theorem dm_kind {l r : List UInt8} {k : Nat} (h0 : ¬ 65536 < l.length) (h : dec l = some (k, r)) (hk : ¬ k < 8) : dm l = .error 20 := by
  unfold dm Msg.take
  rw [if_neg h0, h]
  simp only
  rw [if_pos (by omega)]
theorem dm_nums {l r : List UInt8} {k : Nat} (h0 : ¬ 65536 < l.length) (h : dec l = some (k, r)) (hk : k < 8) (hn : takeNs (numOf k) r = none) : dm l = .error 21 := by
  unfold dm Msg.take
  rw [if_neg h0, h]
  simp only
  rw [if_neg (by omega), hn]
theorem dm_list {l r r2 : List UInt8} {k : Nat} {ns : List Nat} (h0 : ¬ 65536 < l.length) (h : dec l = some (k, r)) (hk : k < 8) (hn : takeNs (numOf k) r = some (ns, r2)) (ht : decL r2 (highOf k) = none) : dm l = .error 21 := by
  unfold dm Msg.take
  rw [if_neg h0, h]
  simp only
  rw [if_neg (by omega), hn]
  simp only
  rw [ht]
theorem dm_few {l r r2 r3 : List UInt8} {k : Nat} {ns : List Nat} {ts : List (List UInt8)} (h0 : ¬ 65536 < l.length) (h : dec l = some (k, r)) (hk : k < 8) (hn : takeNs (numOf k) r = some (ns, r2)) (ht : decL r2 (highOf k) = some (ts, r3)) (hl : ¬ lowOf k ≤ ts.length) : dm l = .error 21 := by
  unfold dm Msg.take
  rw [if_neg h0, h]
  simp only
  rw [if_neg (by omega), hn]
  simp only
  rw [ht]
  simp only
  rw [if_pos (by omega)]
theorem dm_end {l r r2 r3 : List UInt8} {k : Nat} {ns : List Nat} {ts : List (List UInt8)} (h0 : ¬ 65536 < l.length) (h : dec l = some (k, r)) (hk : k < 8) (hn : takeNs (numOf k) r = some (ns, r2)) (ht : decL r2 (highOf k) = some (ts, r3)) (hl : lowOf k ≤ ts.length) :
    dm l = if r3 = [] then .ok (k, ns, ts) else .error 21 := by
  unfold dm Msg.take
  rw [if_neg h0, h]
  simp only
  rw [if_neg (by omega), hn]
  simp only
  rw [ht]
  simp only
  rw [if_neg (by omega)]
theorem takeNs_len {n : Nat} {r r2 : List UInt8} {ns : List Nat} (h : takeNs n r = some (ns, r2)) : r2.length ≤ r.length := by
  obtain ⟨e, _, _⟩ := Leb.takeNs_some _ _ _ _ h
  rw [e, List.length_append]
  omega
theorem takeList_list (l : List UInt8) (hl : l.length ≤ 1099511627776) (m : Nat) (hm : m ≤ 1048576) (w : World) :
    Calls Try.prog 27 #[.string ⟨l.toArray⟩, .int .i64 m] w fun e w' => ListEnd strsL (decL l m) e w' ∧ Below w.heap.size w w' := by
  simpa using takeList_any ⟨l.toArray⟩ (by rw [Kit.size_mk]; exact hl) m (by omega) (by omega) w

set_option maxHeartbeats 4000000 in
set_option maxRecDepth 100000 in
theorem decode_any (l : List UInt8) (hl : l.length ≤ 9223372036854775807) (w : World) :
    Calls Try.prog 13 #[.string ⟨l.toArray⟩] w fun e w' => DecEnd (dm l) e w' ∧ Below w.heap.size w w' := by
  have T0 := Three.new w (.int .i64 0) (.slice none 0 0) (.slice none 0 0) 25
  have c0 : Below w.heap.size w (w.alloc (.cells #[.int .i64 0, .slice none 0 0, .slice none 0 0] 25)) := (Below.refl _ w).alloc (Nat.le_refl _) _
  by_cases h0 : 65536 < l.length
  · have h0i : (65536 : Int) < (l.length : Int) := by omega
    have hres : dm l = .error 22 := by unfold dm; rw [if_pos h0]
    clear T0
    rw [hres]
    go_enter Try.func13, Try.ntmps13
    go_wp2
    go_returns
    exact ⟨rfl, c0⟩
  · have h0i : decide ((65536 : Int) < (l.length : Int)) = false := by rw [decide_eq_false_iff_not]; omega
    have H1 := fun w => takeUint_list l hl w
    cases hd : dec l with
    | none =>
      rw [dm_none h0 hd]
      rw [hd] at H1
      go_enter Try.func13, Try.ntmps13
      go_wp2_with fail
      refine (H1 _).mono ?_
      rintro e w1 ⟨rfl, hb1⟩
      simp only [uintRes]
      have T1 := T0.below hb1
      have c1 := c0.trans (hb1.mono c0.size)
      clear T0 c0 hb1 H1
      obtain ⟨-, ⟨q0, q1, q2⟩, f0, f1, f2⟩ := T1.parts
      go_wp2
      refine bodyPost_ret (results_three rfl rfl rfl (T1.put (.int .i64 0) (.slice none 0 0) (.slice none 0 0))) rfl ?_
      exact ⟨rfl, ((c1.setCell (p := ⟨w.heap.size, 0, none⟩) (Nat.le_refl _) _).setCell (p := ⟨w.heap.size, 1, none⟩) (Nat.le_refl _) _).setCell (p := ⟨w.heap.size, 2, none⟩) (Nat.le_refl _) _⟩
    | some p =>
      obtain ⟨k, r⟩ := p
      rw [hd] at H1
      have hrl := Leb.dec_lt hd
      by_cases hk : k < 8
      · have H2 := fun w => shapeOf_any k w
        unfold shapeRes at H2
        rw [if_pos hk] at H2
        have H3 := fun w => mTakeNums_any r (by omega) (numOf k) (by have := Msg.numOf_le k; omega) w
        have hki : IntKind.i64.wrap (k : Int) = (k : Int) := by rw [IntKind.wrap_i64]; omega
        cases hn : takeNs (numOf k) r with
        | none =>
          rw [dm_nums h0 hd hk hn]
          rw [hn] at H3
          simp only [ListEnd] at H3
          go_enter Try.func13, Try.ntmps13
          go_wp2_with fail
          refine (H1 _).mono ?_
          rintro e w1 ⟨rfl, hb1⟩
          simp only [uintRes]
          have T1 := T0.below hb1
          have c1 := c0.trans (hb1.mono c0.size)
          clear T0 c0 hb1 H1
          go_wp2_with fail
          refine (H2 _).mono ?_
          rintro e w2 ⟨rfl, hb2⟩
          have T2 := (T1.below hb2).alloc (.cells #[.int .i64 (numOf k : Nat), .int .i64 (lowOf k : Nat), .int .i64 (highOf k : Nat)] 43)
          have c2 := (c1.trans (hb2.mono c1.size)).alloc (c1.trans (hb2.mono c1.size)).size (.cells #[.int .i64 (numOf k : Nat), .int .i64 (lowOf k : Nat), .int .i64 (highOf k : Nat)] 43)
          clear T1 c1 hb2 H2
          go_wp2_with fail
          refine (H3 _).mono ?_
          rintro e w3 ⟨rfl, hb3⟩
          have T3 := T2.below hb3
          have c3 := c2.trans (hb3.mono c2.size)
          clear T2 c2 hb3 H3
          obtain ⟨-, ⟨q0, q1, q2⟩, f0, f1, f2⟩ := T3.parts
          go_wp2
          refine bodyPost_ret (results_three rfl rfl rfl (T3.put (.int .i64 0) (.slice none 0 0) (.slice none 0 0))) rfl ?_
          exact ⟨rfl, ((c3.setCell (p := ⟨w.heap.size, 0, none⟩) (Nat.le_refl _) _).setCell (p := ⟨w.heap.size, 1, none⟩) (Nat.le_refl _) _).setCell (p := ⟨w.heap.size, 2, none⟩) (Nat.le_refl _) _⟩
        | some q =>
          obtain ⟨ns, r2⟩ := q
          rw [hn] at H3
          have hr2 := takeNs_len hn
          have H4 := fun w => takeList_list r2 (by omega) (highOf k) (by have := Msg.highOf_le k; omega) w
          have HA := fun (n : Int) w => has_any (numOf k : Nat) (lowOf k : Nat) (highOf k : Nat) n w
          cases ht : decL r2 (highOf k) with
          | none =>
            rw [dm_list h0 hd hk hn ht]
            rw [ht] at H4
            simp only [ListEnd] at H4
            go_enter Try.func13, Try.ntmps13
            go_wp2_with fail
            refine (H1 _).mono ?_
            rintro e w1 ⟨rfl, hb1⟩
            simp only [uintRes]
            have T1 := T0.below hb1
            have c1 := c0.trans (hb1.mono c0.size)
            clear T0 c0 hb1 H1
            go_wp2_with fail
            refine (H2 _).mono ?_
            rintro e w2 ⟨rfl, hb2⟩
            have S2 := Three.new w2 (.int .i64 (numOf k : Nat)) (.int .i64 (lowOf k : Nat)) (.int .i64 (highOf k : Nat)) 43
            have T2 := (T1.below hb2).alloc (.cells #[.int .i64 (numOf k : Nat), .int .i64 (lowOf k : Nat), .int .i64 (highOf k : Nat)] 43)
            have c2 := (c1.trans (hb2.mono c1.size)).alloc (c1.trans (hb2.mono c1.size)).size (.cells #[.int .i64 (numOf k : Nat), .int .i64 (lowOf k : Nat), .int .i64 (highOf k : Nat)] 43)
            clear T1 c1 hb2 H2
            go_wp2_with fail
            refine (H3 _).mono ?_
            rintro e w3 ⟨⟨vn, rfl, hrn⟩, hb3⟩
            obtain ⟨an, cn, rfl⟩ := hrn.form
            rw [show (nums ns).length = ns.length by simp [nums]] at hrn ⊢
            have T3 := T2.below hb3
            have S3 := S2.below hb3
            have c3 := c2.trans (hb3.mono c2.size)
            clear T2 S2 c2 hb3 H3
            obtain ⟨-, ⟨s0, s1, s2⟩, -⟩ := S3.parts
            go_wp2_with fail
            refine (H4 _).mono ?_
            rintro e w4 ⟨rfl, hb4⟩
            have T4 := T3.below hb4
            have c4 := c3.trans (hb4.mono c3.size)
            clear T3 S3 c3 hb4 H4 s0 s1 s2 HA
            obtain ⟨-, ⟨q0, q1, q2⟩, f0, f1, f2⟩ := T4.parts
            go_wp2
            refine bodyPost_ret (results_three rfl rfl rfl (T4.put (.int .i64 0) (.slice none 0 0) (.slice none 0 0))) rfl ?_
            exact ⟨rfl, ((c4.setCell (p := ⟨w.heap.size, 0, none⟩) (Nat.le_refl _) _).setCell (p := ⟨w.heap.size, 1, none⟩) (Nat.le_refl _) _).setCell (p := ⟨w.heap.size, 2, none⟩) (Nat.le_refl _) _⟩
          | some y =>
            obtain ⟨ts, r3⟩ := y
            rw [ht] at H4
            have HA := HA (ts.length : Int)
            have hm := (Leb.decL_some ht).2
            have hll : (strsL ts).length = ts.length := by simp [strsL]
            by_cases hlow : lowOf k ≤ ts.length
            · have hres := dm_end h0 hd hk hn ht hlow
              have g2 : decide (((lowOf k : Nat) : Int) ≤ (ts.length : Int) ∧ (ts.length : Int) ≤ ((highOf k : Nat) : Int)) = true := by rw [decide_eq_true_iff]; omega
              rw [g2] at HA
              clear g2 hm hlow
              cases r3 with
              | nil =>
                rw [if_pos rfl] at hres
                rw [hres]
                clear hres hd hn ht
                go_enter Try.func13, Try.ntmps13
                go_wp2_with fail
                refine (H1 _).mono ?_
                rintro e w1 ⟨rfl, hb1⟩
                simp only [uintRes]
                have T1 := T0.below hb1
                have c1 := c0.trans (hb1.mono c0.size)
                clear T0 c0 hb1 H1
                go_wp2_with fail
                refine (H2 _).mono ?_
                rintro e w2 ⟨rfl, hb2⟩
                have S2 := Three.new w2 (.int .i64 (numOf k : Nat)) (.int .i64 (lowOf k : Nat)) (.int .i64 (highOf k : Nat)) 43
                have T2 := (T1.below hb2).alloc (.cells #[.int .i64 (numOf k : Nat), .int .i64 (lowOf k : Nat), .int .i64 (highOf k : Nat)] 43)
                have c2 := (c1.trans (hb2.mono c1.size)).alloc (c1.trans (hb2.mono c1.size)).size (.cells #[.int .i64 (numOf k : Nat), .int .i64 (lowOf k : Nat), .int .i64 (highOf k : Nat)] 43)
                clear T1 c1 hb2 H2
                go_wp2_with fail
                refine (H3 _).mono ?_
                rintro e w3 ⟨⟨vn, rfl, hrn⟩, hb3⟩
                obtain ⟨an, cn, rfl⟩ := hrn.form
                rw [show (nums ns).length = ns.length by simp [nums]] at hrn ⊢
                have T3 := T2.below hb3
                have S3 := S2.below hb3
                have c3 := c2.trans (hb3.mono c2.size)
                clear T2 S2 c2 hb3 H3
                obtain ⟨-, ⟨s0, s1, s2⟩, -⟩ := S3.parts
                go_wp2_with fail
                refine (H4 _).mono ?_
                rintro e w4 ⟨⟨vt, rfl, hrt⟩, hb4⟩
                have T4 := T3.below hb4
                have S4 := S3.below hb4
                have c4 := c3.trans (hb4.mono c3.size)
                have hrn4 := hrn.below hb4
                clear T3 S3 c3 hb4 H4 s0 s1 s2 hrn
                obtain ⟨av, cv, rfl⟩ := hrt.form
                rw [hll] at hrt ⊢
                obtain ⟨-, ⟨s0, s1, s2⟩, -⟩ := S4.parts
                go_wp2_with fail
                refine (HA _).mono ?_
                rintro e w5 ⟨rfl, hb5⟩
                have T5 := T4.below hb5
                have c5 := c4.trans (hb5.mono c4.size)
                have hrn5 := hrn4.below hb5
                have hrt5 := hrt.below hb5
                clear T4 S4 c4 hb5 HA s0 s1 s2 hrn4 hrt
                obtain ⟨-, ⟨q0, q1, q2⟩, f0, f1, f2⟩ := T5.parts
                have hne1 : ∀ u ∈ nums ns, u ≠ .int .i64 0 ∧ u ≠ .slice none 0 0 ∧ u ≠ .slice none 0 0 := by
                  intro u hu
                  obtain ⟨x, _, rfl⟩ := List.mem_map.1 hu
                  exact ⟨by simp, by simp, by simp⟩
                have hne2 : ∀ u ∈ strsL ts, u ≠ .int .i64 0 ∧ u ≠ .slice none 0 0 ∧ u ≠ .slice none 0 0 := by
                  intro u hu
                  obtain ⟨x, _, rfl⟩ := List.mem_map.1 hu
                  exact ⟨by simp, by simp, by simp⟩
                have hrn6 := fun x y z => T5.apart (w' := ((w5.setCell ⟨w.heap.size, 0, none⟩ x).setCell ⟨w.heap.size, 1, none⟩ y).setCell ⟨w.heap.size, 2, none⟩ z) hrn5 hne1 (fun k hk => put_other hk x y z)
                have hrt6 := fun x y z => T5.apart (w' := ((w5.setCell ⟨w.heap.size, 0, none⟩ x).setCell ⟨w.heap.size, 1, none⟩ y).setCell ⟨w.heap.size, 2, none⟩ z) hrt5 hne2 (fun k hk => put_other hk x y z)
                clear hne1 hne2 hrn5 hrt5
                go_wp2
                refine bodyPost_ret (results_three rfl rfl rfl (T5.put (.int .i64 (k : Int)) (.slice an ns.length cn) (.slice av ts.length cv))) rfl ?_
                exact ⟨⟨_, _, rfl, hrn6 _ _ _, hrt6 _ _ _⟩, ((c5.setCell (p := ⟨w.heap.size, 0, none⟩) (Nat.le_refl _) _).setCell (p := ⟨w.heap.size, 1, none⟩) (Nat.le_refl _) _).setCell (p := ⟨w.heap.size, 2, none⟩) (Nat.le_refl _) _⟩
              | cons ch r4 =>
                rw [if_neg (by simp)] at hres
                rw [hres]
                clear hres hd hn ht
                go_enter Try.func13, Try.ntmps13
                go_wp2_with fail
                refine (H1 _).mono ?_
                rintro e w1 ⟨rfl, hb1⟩
                simp only [uintRes]
                have T1 := T0.below hb1
                have c1 := c0.trans (hb1.mono c0.size)
                clear T0 c0 hb1 H1
                go_wp2_with fail
                refine (H2 _).mono ?_
                rintro e w2 ⟨rfl, hb2⟩
                have S2 := Three.new w2 (.int .i64 (numOf k : Nat)) (.int .i64 (lowOf k : Nat)) (.int .i64 (highOf k : Nat)) 43
                have T2 := (T1.below hb2).alloc (.cells #[.int .i64 (numOf k : Nat), .int .i64 (lowOf k : Nat), .int .i64 (highOf k : Nat)] 43)
                have c2 := (c1.trans (hb2.mono c1.size)).alloc (c1.trans (hb2.mono c1.size)).size (.cells #[.int .i64 (numOf k : Nat), .int .i64 (lowOf k : Nat), .int .i64 (highOf k : Nat)] 43)
                clear T1 c1 hb2 H2
                go_wp2_with fail
                refine (H3 _).mono ?_
                rintro e w3 ⟨⟨vn, rfl, hrn⟩, hb3⟩
                obtain ⟨an, cn, rfl⟩ := hrn.form
                rw [show (nums ns).length = ns.length by simp [nums]] at hrn ⊢
                have T3 := T2.below hb3
                have S3 := S2.below hb3
                have c3 := c2.trans (hb3.mono c2.size)
                clear T2 S2 c2 hb3 H3
                obtain ⟨-, ⟨s0, s1, s2⟩, -⟩ := S3.parts
                go_wp2_with fail
                refine (H4 _).mono ?_
                rintro e w4 ⟨⟨vt, rfl, hrt⟩, hb4⟩
                have T4 := T3.below hb4
                have S4 := S3.below hb4
                have c4 := c3.trans (hb4.mono c3.size)
                clear T3 S3 c3 hb4 H4 s0 s1 s2 hrn
                obtain ⟨av, cv, rfl⟩ := hrt.form
                rw [hll] at hrt ⊢
                obtain ⟨-, ⟨s0, s1, s2⟩, -⟩ := S4.parts
                go_wp2_with fail
                refine (HA _).mono ?_
                rintro e w5 ⟨rfl, hb5⟩
                have T5 := T4.below hb5
                have c5 := c4.trans (hb5.mono c4.size)
                clear T4 S4 c4 hb5 HA s0 s1 s2
                obtain ⟨-, ⟨q0, q1, q2⟩, f0, f1, f2⟩ := T5.parts
                go_wp2
                refine bodyPost_ret (results_three rfl rfl rfl (T5.put (.int .i64 0) (.slice none 0 0) (.slice none 0 0))) rfl ?_
                exact ⟨rfl, ((c5.setCell (p := ⟨w.heap.size, 0, none⟩) (Nat.le_refl _) _).setCell (p := ⟨w.heap.size, 1, none⟩) (Nat.le_refl _) _).setCell (p := ⟨w.heap.size, 2, none⟩) (Nat.le_refl _) _⟩
            · rw [dm_few h0 hd hk hn ht hlow]
              have g2 : decide (((lowOf k : Nat) : Int) ≤ (ts.length : Int) ∧ (ts.length : Int) ≤ ((highOf k : Nat) : Int)) = false := by rw [decide_eq_false_iff_not]; omega
              rw [g2] at HA
              clear g2 hm hlow
              clear hd hn ht
              go_enter Try.func13, Try.ntmps13
              go_wp2_with fail
              refine (H1 _).mono ?_
              rintro e w1 ⟨rfl, hb1⟩
              simp only [uintRes]
              have T1 := T0.below hb1
              have c1 := c0.trans (hb1.mono c0.size)
              clear T0 c0 hb1 H1
              go_wp2_with fail
              refine (H2 _).mono ?_
              rintro e w2 ⟨rfl, hb2⟩
              have S2 := Three.new w2 (.int .i64 (numOf k : Nat)) (.int .i64 (lowOf k : Nat)) (.int .i64 (highOf k : Nat)) 43
              have T2 := (T1.below hb2).alloc (.cells #[.int .i64 (numOf k : Nat), .int .i64 (lowOf k : Nat), .int .i64 (highOf k : Nat)] 43)
              have c2 := (c1.trans (hb2.mono c1.size)).alloc (c1.trans (hb2.mono c1.size)).size (.cells #[.int .i64 (numOf k : Nat), .int .i64 (lowOf k : Nat), .int .i64 (highOf k : Nat)] 43)
              clear T1 c1 hb2 H2
              go_wp2_with fail
              refine (H3 _).mono ?_
              rintro e w3 ⟨⟨vn, rfl, hrn⟩, hb3⟩
              obtain ⟨an, cn, rfl⟩ := hrn.form
              rw [show (nums ns).length = ns.length by simp [nums]] at hrn ⊢
              have T3 := T2.below hb3
              have S3 := S2.below hb3
              have c3 := c2.trans (hb3.mono c2.size)
              clear T2 S2 c2 hb3 H3
              obtain ⟨-, ⟨s0, s1, s2⟩, -⟩ := S3.parts
              go_wp2_with fail
              refine (H4 _).mono ?_
              rintro e w4 ⟨⟨vt, rfl, hrt⟩, hb4⟩
              have T4 := T3.below hb4
              have S4 := S3.below hb4
              have c4 := c3.trans (hb4.mono c3.size)
              clear T3 S3 c3 hb4 H4 s0 s1 s2 hrn
              obtain ⟨av, cv, rfl⟩ := hrt.form
              rw [hll] at hrt ⊢
              obtain ⟨-, ⟨s0, s1, s2⟩, -⟩ := S4.parts
              go_wp2_with fail
              refine (HA _).mono ?_
              rintro e w5 ⟨rfl, hb5⟩
              have T5 := T4.below hb5
              have c5 := c4.trans (hb5.mono c4.size)
              clear T4 S4 c4 hb5 HA s0 s1 s2
              obtain ⟨-, ⟨q0, q1, q2⟩, f0, f1, f2⟩ := T5.parts
              go_wp2
              refine bodyPost_ret (results_three rfl rfl rfl (T5.put (.int .i64 0) (.slice none 0 0) (.slice none 0 0))) rfl ?_
              exact ⟨rfl, ((c5.setCell (p := ⟨w.heap.size, 0, none⟩) (Nat.le_refl _) _).setCell (p := ⟨w.heap.size, 1, none⟩) (Nat.le_refl _) _).setCell (p := ⟨w.heap.size, 2, none⟩) (Nat.le_refl _) _⟩
      · have H2 := fun w => shapeOf_any k w
        unfold shapeRes at H2
        rw [if_neg hk] at H2
        rw [dm_kind h0 hd hk]
        go_enter Try.func13, Try.ntmps13
        go_wp2_with fail
        refine (H1 _).mono ?_
        rintro e w1 ⟨rfl, hb1⟩
        simp only [uintRes]
        have T1 := T0.below hb1
        have c1 := c0.trans (hb1.mono c0.size)
        clear T0 c0 hb1 H1
        go_wp2_with fail
        refine (H2 _).mono ?_
        rintro e w2 ⟨rfl, hb2⟩
        have T2 := (T1.below hb2).alloc (.cells #[.int .i64 0, .int .i64 0, .int .i64 0] 43)
        have c2 := (c1.trans (hb2.mono c1.size)).alloc (c1.trans (hb2.mono c1.size)).size (.cells #[.int .i64 0, .int .i64 0, .int .i64 0] 43)
        clear T1 c1 hb2 H2
        obtain ⟨-, ⟨q0, q1, q2⟩, f0, f1, f2⟩ := T2.parts
        go_wp2
        refine bodyPost_ret (results_three rfl rfl rfl (T2.put (.int .i64 0) (.slice none 0 0) (.slice none 0 0))) rfl ?_
        exact ⟨rfl, ((c2.setCell (p := ⟨w.heap.size, 0, none⟩) (Nat.le_refl _) _).setCell (p := ⟨w.heap.size, 1, none⟩) (Nat.le_refl _) _).setCell (p := ⟨w.heap.size, 2, none⟩) (Nat.le_refl _) _⟩
end Go.Proofs.Ytnbjlhbaeghihaa
