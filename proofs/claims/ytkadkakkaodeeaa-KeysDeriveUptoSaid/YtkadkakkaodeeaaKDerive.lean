/-
  KeysDerive: what key any numbers lead to, behind any calls, is as the document says, and as much is drawn: the walk.
-/
import Derived.Test.YtkadkakkaodeeaaKRef
namespace Go.Proofs.Ytkadkakkaodeeaa.Derive4
open Go.RowKit Go.ChangeShapes Go.WideShapes Go.ChangeAt
open Go.Lib (uvarint uvarint_length64)
open Ideal Ida Kya Ref3

theorem start_few (l : List Nat) (key : Nat) (cl : List Cl) (h : cl.length ≤ 200) (k : Nat) : Few (((Or.new l).meet key).play (cl.take k)) ∧ (((Or.new l).meet key).play (cl.take k)).rows.length ≤ 300 ∧ (((Or.new l).meet key).play (cl.take k)).met.length ≤ 300 ∧ (((Or.new l).meet key).play (cl.take k)).bads ≤ 300 := by
  have h1 := few_play (cl.take k) ((Or.new l).meet key)
  have h2 : (cl.take k).length ≤ 200 := by rw [List.length_take]; omega
  have e1 : ((Or.new l).meet key).rows.length = 0 := by rw [Or.rows_meet]; rfl
  have e2 : ((Or.new l).meet key).met.length ≤ 1 := met_meet (Or.new l) key
  have e3 : ((Or.new l).meet key).bads = 0 := by rw [Or.bads_meet]; rfl
  exact ⟨⟨by omega, by omega, by omega⟩, by omega, by omega, by omega⟩
theorem few_new (l : List Nat) : Few (Or.new l) := ⟨by show (0 : Nat) < _; decide, by show (0 : Nat) < _; decide, by show (0 : Nat) < _; decide⟩

/-- Both oracles, from the same one, plainly. -/
theorem setup (w : World) (O : Or) (key : Nat) (hn : O.rows.length ≤ 300 ∧ O.met.length ≤ 300 ∧ O.bads ≤ 300) (hkey : key < 18446744073709551616) (a : List Nat) (n : Nat) (la : a.length ≤ 1048576) (ha : ∀ x ∈ a, x < 18446744073709551616) (hn0 : n < 18446744073709551616) (va : Value) (ra : Kit.Rd w va (nums a)) :
    ∃ (x y : Nat) (O1 O2 : Or), (∀ M w', (∀ i, M.own i → w.heap.size < i) → Below w.heap.size w w' → Orc w' M (O) → Calls Try.prog 13 #[ptr M, .int .u64 (key : Int), va] w' fun r w'' => r = .returned (.int .u64 (x : Int)) ∧ Orc w'' M (O1) ∧ Kit.But M.own w' w'') ∧
      (∀ K q w', On K w' → (∀ b, b < w.heap.size → K b) → Below w.heap.size w w' → Ref K w' q O → Calls Try.prog 14 #[rptr q, .int .u64 (key : Int), va] w' fun r w'' => r = .returned (.int .u64 (x : Int)) ∧ Ref K w'' q O1 ∧ Fr K w' w'') ∧
      (∀ M w', (∀ i, M.own i → w.heap.size < i) → Below w.heap.size w w' → Orc w' M (O1) → Calls Try.prog 15 #[ptr M, .int .u64 (key : Int), .int .u64 (n : Int), .int .u64 2, .int .u64 3] w' fun r w'' => r = .returned (.int .u64 (y : Int)) ∧ Orc w'' M (O2) ∧ Kit.But M.own w' w'') ∧
      (∀ K q w', On K w' → Ref K w' q O1 → Calls Try.prog 14 #[rptr q, .int .u64 (key : Int), .slice (some ⟨w'.heap.size, 0, none⟩) 3 3] (w'.alloc (.cells #[.int .u64 (n : Int), .int .u64 2, .int .u64 3] 24)) fun r w'' => r = .returned (.int .u64 (y : Int)) ∧ Ref K w'' q O2 ∧ Fr K w' w'') := by
  have h1 := (Or.len_derive a O key).2
  have h2 := few_derive a O key
  have h3 := few_derive [n, 2, 3] (O.derive key a) key
  refine ⟨O.key key a, (O.derive key a).key key [n, 2, 3], O.derive key a, (O.derive key a).derive key [n, 2, 3], ?_, ?_, ?_, ?_⟩
  · intro M w' hm hw h
    exact derive_any h key hkey a (by omega) ha va (ra.below hw) (arg_off ra hm)
  · intro K q w' hK hlow hw h
    refine rderive_any h hK key a ⟨by omega, by omega, by omega⟩ ha va (ra.below hw) (fun hne b hb => hlow b ?_)
    exact rd_lt ra (by intro e; apply hne; simpa [nums] using e) b hb
  · intro M w' hm hw h
    exact volume_any h key hkey n 2 3 hn0 (by decide) (by decide) (by omega)
  · intro K q w' hK h
    have c0 : Below w'.heap.size w' (w'.alloc (.cells #[.int .u64 (n : Int), .int .u64 2, .int .u64 3] 24)) := (Below.refl _ w').alloc (Nat.le_refl _) _
    have h4 : Ref (fun k => K k ∨ k = w'.heap.size) (w'.alloc (.cells #[.int .u64 (n : Int), .int .u64 2, .int .u64 3] 24)) q (O.derive key a) := (h.widen (K' := fun k => K k ∨ k = w'.heap.size) (fun k hk hlt => hk.resolve_right (fun e => by omega))).below c0
    have hK2 : On (fun k => K k ∨ k = w'.heap.size) (w'.alloc (.cells #[.int .u64 (n : Int), .int .u64 2, .int .u64 3] 24)) := by
      intro k hk
      rw [World.size_alloc]
      rcases hk with hk | hk
      · have := hK k hk; omega
      · omega
    have H := rderive_any h4 hK2 key [n, 2, 3] ⟨by simp only [List.length_cons, List.length_nil]; omega, by rw [h2.2.1]; omega, by simp only [List.length_cons, List.length_nil]; omega⟩ (by intro x hx; simp at hx; omega) _ (lit_sl w' [n, 2, 3] 24) (fun _ b hb => .inr (by simp only [Value.ownBlock, Option.some.injEq] at hb; exact hb.symm))
    refine H.mono fun r w'' ⟨e, h5, f⟩ => ⟨e, h5.widen (fun k hk _ => .inl hk), (alloc_but w' _ _).trans (f.wider (fun k _ hk hK => hk (.inl hK)))⟩

set_option maxRecDepth 100000 in
set_option maxHeartbeats 8000000 in
theorem derive4_any (l : List Nat) (hl : l.length * 8 ≤ 140737488355328) (hx : ∀ x ∈ l, x < 18446744073709551616) (cl : List Cl) (hcl : ∀ c ∈ cl, CallFine c) (key : Nat) (hkey : key < 18446744073709551616) (a : List Nat) (n : Nat) (la : a.length ≤ 1048576) (ha : ∀ x ∈ a, x < 18446744073709551616) (hn0 : n < 18446744073709551616) (va : Value) (dv cv : Value) (w : World) (hv : Kit.Sl w dv (nums l)) (hvc : Cls w cv cl) (ra : Kit.Rd w va (nums a)) :
    Calls Try.prog 3 #[.agg #[dv, cv, .int .u64 (key : Int)], va, .int .u64 (n : Int)] w fun e w' => e = .returned (.bool true) ∧ Below w.heap.size w w' := by
  have HF := fixed_any
  have HT := fun w => text_any n hn0 w
  have HU := fun w => rPutUint_any n hn0 w
  have hkk : (⟨#[107, 101, 121]⟩ : ByteArray) ++ ⟨(uvarint n).toArray⟩ = kt n := by
    unfold kt
    apply ByteArray.ext
    simp
  have hks : (⟨(uvarint n).toArray⟩ : ByteArray).size ≤ 10 := by rw [Kit.size_mk]; exact uvarint_length64 hn0
  rw [← hkk] at HT
  clear hkk
  generalize (⟨(uvarint n).toArray⟩ : ByteArray) = tx at *
  have ht : (9223372036854775807 < (3 : Int) + (tx.size : Int)) = False := by simp; omega
  have ht2 : (9223372036854775807 < 3 + tx.size) = False := by simp; omega
  clear hks
  have c0 : Below w.heap.size w (w.alloc (.cells #[dv, cv, .int .u64 (key : Int)] 26)) := (Below.refl _ w).alloc (Nat.le_refl _) _
  have bx : (w.alloc (.cells #[dv, cv, .int .u64 (key : Int)] 26)).heap[w.heap.size]? = some (.cells #[dv, cv, .int .u64 (key : Int)] 26 (0, 0)) := (MapKept.heap_alloc w _).1
  have hS := case_parts (w := w) (w' := w.alloc (.cells #[dv, cv, .int .u64 (key : Int)] 26)) (dv := dv) (cv := cv) (key := key) bx c0
  obtain ⟨ac, cc, rfl, -⟩ := id hvc
  by_cases h200 : 200 < cl.length
  · have hg : (200 : Int) < (cl.length : Int) := by omega
    obtain ⟨x0, x1, x2, -, -⟩ := id hS
    clear hcl hx hl hv hvc ra la ha hn0 hkey HT HU ht ht2 bx
    go_enter Try.func3, Try.ntmps3
    go_wp2_with fail
    refine (HF _).mono ?_
    rintro e w1 ⟨rfl, b⟩
    have b := c0.trans (b.mono c0.size)
    go_wp2
    go_ret
    exact ⟨rfl, b⟩
  · have hg : decide ((200 : Int) < (cl.length : Int)) = false := by rw [decide_eq_false_iff_not]; omega
    have hg2 : decide (200 < cl.length) = false := by rw [decide_eq_false_iff_not]; omega
    have htk : cl.take 200 = cl := List.take_of_length_le (by omega)
    have hS0 := Lib.hid hS
    have HP := played_any l hl hx cl hcl key hkey dv _ _ (hv.below c0) (hvc.below c0)
    rw [htk] at HP
    have HN := fun w' (hw : Below w.heap.size w w') => Ref3.new_any l hl hx dv w' (hv.below hw)
    have HM := fun K q w' (h : Ref K w' q (Or.new l)) hB => Ref3.meet_any h hB (few_new l).rows (few_new l).met key
    have HFW := Lib.hid (fun k => start_few l key cl (by omega) k)
    obtain ⟨x, y, O1, O2, H1, H2, H3, H4⟩ := setup w (((Or.new l).meet key).play cl) key (by have := (start_few l key cl (by omega) cl.length).2; rw [List.take_length] at this; exact this) hkey a n la ha hn0 va ra
    have HVC := Lib.hid hvc
    have Hcl := Lib.hid hcl
    have H200 := Lib.hid h200
    obtain ⟨x0, x1, x2, -, -⟩ := id hS
    clear hcl hx hl hv hvc ra la ha hn0 hkey bx htk h200 hS
    go_enter Try.func3, Try.ntmps3
    go_wp2_with fail
    refine HP.mono ?_
    rintro e w1 ⟨M, rfl, ho, hin, hb⟩
    have hM : ∀ i, M.own i → w.heap.size < i := fun i hi => by have := (hin.own i hi).1; simp at this; omega
    have hMw : ∀ i, M.own i → i < w1.heap.size := fun i hi => (hin.own i hi).2
    have hin : M.within w.heap.size w1.heap.size := hin.wider (by simp) (Nat.le_refl _)
    have hS := case_below hS0.out hb
    have hS1 := Lib.hid hS
    clear HP hb hS0 x0 x1 x2
    obtain ⟨x0, x1, x2, -, hb1⟩ := id hS
    have HNN := HN _ (case_is hS)
    clear HN
    go_wp2_with fail
    refine HNN.mono ?_
    rintro e w2 ⟨q, rfl, hr, b2⟩
    have hS := case_below hS b2
    have ho := ho.below b2
    have hs := b2.size
    clear HNN b2 x0 x1 x2 hb1
    obtain ⟨x0, x1, x2, -, -⟩ := id hS
    have HMM := HM _ _ _ hr (fun k hk => Nat.lt_of_lt_of_le hk hs)
    clear HM hr
    go_wp2_with fail
    refine HMM.mono ?_
    rintro e w3 ⟨rfl, hr, f3⟩
    have b3 := fr_below f3 hs
    have hwl : w.heap.size < w1.heap.size := (Array.getElem?_eq_some_iff.1 hS1.out.2.2.2.1).1
    have hS := case_low hS b3 hwl
    have ho := ho.under hin b3
    have hs := Nat.le_trans hs f3.size
    clear HMM f3 b3 x0 x1 x2
    go_wp2
    go_loopw [9] (fun vi wr => ∃ k : Nat, k ≤ cl.length ∧ vi = .int .i64 (k : Int) ∧ Ref (fun k => k < w1.heap.size) wr q (((Or.new l).meet key).play (cl.take k)) ∧ Orc wr M (((Or.new l).meet key).play cl) ∧ (wr.cell? ⟨w.heap.size, 0, none⟩ = some dv ∧ wr.cell? ⟨w.heap.size, 1, none⟩ = some (.slice ac cl.length cc) ∧ wr.cell? ⟨w.heap.size, 2, none⟩ = some (.int .u64 (key : Int)) ∧ wr.heap[w.heap.size]? = some (.cells #[dv, (.slice ac cl.length cc), .int .u64 (key : Int)] 26 (0, 0)) ∧ Below w.heap.size w wr) ∧ w1.heap.size ≤ wr.heap.size) (fun vi _ => cl.length - (intOf vi).toNat)
    case atStart => exact ⟨0, Nat.zero_le _, rfl, hr, ho, hS, hs⟩
    case round =>
      obtain ⟨k, hk, rfl, r2, h2, hS2, hs2⟩ := hrel
      clear hr ho hS hs
      obtain ⟨x0, x1, x2, -, hb2⟩ := id hS2
      by_cases hlt : k < cl.length
      · have hlt1 : (k : Int) < (cl.length : Int) := by omega
        have hf := (HFW.out k).1
        have HD := Ref3.do_any r2 (fun i hi => Nat.lt_of_lt_of_le hi hs2) hf cl[k]
        have hstep : ((Or.new l).meet key).play (cl.take (k + 1)) = (((Or.new l).meet key).play (cl.take k)).step cl[k] := by rw [List.take_succ_eq_append_getElem hlt, Or.play_snoc]
        have hvc2 := HVC.out.below hb2
        obtain ⟨ad, rfl, g0, g1, g2, g3, g4, g5⟩ := hvc2.at_ (List.getElem?_eq_getElem hlt)
        have Hst := Lib.hid hstep
        generalize cl[k] = c at *
        unfold callCells at HD
        generalize ((Or.new l).meet key).play (cl.take k) = Ok at *
        generalize (Ok.tell c).1 = ta at *
        generalize (Ok.tell c).2.1 = tb at *
        generalize (Ok.tell c).2.2 = tc at *
        have HW := Lib.hid hwl
        have HI := Lib.hid hin
        have Hs2 := Lib.hid hs2
        have H200 := H200.out
        clear hstep hvc2 hf hwl hin hs2 r2
        go_wp2_with fail
        refine HD.mono ?_
        rintro e w4 ⟨rfl, r4, f4⟩
        have b4 := fr_below f4 Hs2.out
        have h4 := h2.under HI.out b4
        have hS4 := case_low hS2 b4 HW.out
        have hs4 := Nat.le_trans Hs2.out f4.size
        clear HD g0 g1 g2 g3 g4 g5 h2 hS2 x0 x1 x2 hb2 b4 f4
        go_wp2
        go_roundw
        case rel => exact ⟨k + 1, by omega, by go_num, by rw [Hst.out]; exact r4, h4, hS4, hs4⟩
        case measure => simp [intOf]; omega
      · obtain rfl : k = cl.length := by omega
        rw [List.take_length] at r2
        have hd1 : decide ((cl.length : Int) < (cl.length : Int)) = false := by rw [decide_eq_false_iff_not]; omega
        have hlow : ∀ b, b < w.heap.size → b < w1.heap.size := fun b hb => Nat.lt_trans hb hwl
        have hKof : ∀ w', w1.heap.size ≤ w'.heap.size → On (fun k => k < w1.heap.size) w' := fun w' hw k hk => Nat.lt_of_lt_of_le hk hw
        generalize ((Or.new l).meet key).play cl = O at *
        have hG1 := H1 _ _ hM hb2 h2
        clear hlt HFW HVC Hcl H200 hb2 h2
        go_wp2_with fail
        refine hG1.mono ?_
        rintro e w4 ⟨rfl, h4, b4⟩
        have r4 := r2.kept (fun i hi hl => b4.block i hl (fun ho => hi (hMw i ho)))
        have hS4 := case_keep hS2 hM b4
        have hs4 := Nat.le_trans hs2 b4.size
        clear hG1 x0 x1 x2 r2 hS2 b4
        obtain ⟨x0, x1, x2, -, hb4⟩ := id hS4
        have hG2 := H2 _ _ _ (hKof _ hs4) hlow hb4 r4
        clear r4 hb4
        go_wp2_with fail
        refine hG2.mono ?_
        rintro e w5 ⟨rfl, r5, f5⟩
        have b5 := fr_below f5 hs4
        have h5 := h4.under hin b5
        have hS5 := case_low hS4 b5 hwl
        have hs5 := Nat.le_trans hs4 f5.size
        clear hG2 x0 x1 x2 h4 hS4 b5 f5 hs4
        obtain ⟨x0, x1, x2, -, hb5⟩ := id hS5
        have hG3 := H3 _ _ hM hb5 h5
        clear h5 hb5
        go_wp2_with fail
        refine hG3.mono ?_
        rintro e w6 ⟨rfl, h6, b6⟩
        have r6 := r5.kept (fun i hi hl => b6.block i hl (fun ho => hi (hMw i ho)))
        have hS6 := case_keep hS5 hM b6
        have hs6 := Nat.le_trans hs5 b6.size
        clear hG3 x0 x1 x2 r5 hS5 b6 hs5
        obtain ⟨x0, x1, x2, -, -⟩ := id hS6
        have hG4 := H4 _ _ _ (hKof _ hs6) r6
        clear r6
        go_wp2_with fail
        refine hG4.mono ?_
        rintro e w7 ⟨rfl, r7, f7⟩
        have b7 := fr_below f7 hs6
        have h7 := h6.under hin b7
        have hS7 := case_low hS6 b7 hwl
        have hs7 := Nat.le_trans hs6 f7.size
        clear hG4 x0 x1 x2 h6 hS6 b7 f7 hs6 H1 H2 H3 H4
        have hBD := fun w' (h : Orc w' M O2) => o_drawn h
        have hBB := fun w' (h : Orc w' M O2) => o_bad h
        have rBD := fun w' (h : Ref (fun k => k < w1.heap.size) w' q O2) => Ref3.drawn_any h
        have rBB := fun w' (h : Ref (fun k => k < w1.heap.size) w' q O2) => Ref3.bad_any h
        generalize decide (0 < O2.bads) = bd at *
        generalize O2.rows.length = dn at *
        go_wp2_with fail
        refine (HF _).mono ?_
        rintro e w8 ⟨rfl, b⟩
        have h8 := h7.below b
        have r8 := r7.below b
        have hS8 := case_below hS7 b
        clear b h7 r7 hS7
        go_wp2_with fail
        refine (hBD _ h8).mono ?_
        rintro e w9 ⟨rfl, b⟩
        have h9 := Orc.below h8 b
        have r9 := r8.below b
        have hS9 := case_below hS8 b
        clear b h8 r8 hS8
        go_wp2_with fail
        refine (rBD _ r9).mono ?_
        rintro e w10 ⟨rfl, b⟩
        have h10 := Orc.below h9 b
        have r10 := r9.below b
        have hS10 := case_below hS9 b
        clear b h9 r9 hS9
        go_wp2_with fail
        refine (hBB _ h10).mono ?_
        rintro e w11 ⟨rfl, b⟩
        have r11 := r10.below b
        have hS11 := case_below hS10 b
        clear b h10 r10 hS10
        go_wp2_with fail
        refine (rBB _ r11).mono ?_
        rintro e w12 ⟨rfl, b⟩
        have hS12 := case_below hS11 b
        clear b r11 hS11
        go_wp2_with fail
        refine (HT _).mono ?_
        rintro e w13 ⟨rfl, b⟩
        have hS13 := case_below hS12 b
        clear b hS12
        go_wp2_with fail
        refine (HU _).mono ?_
        rintro e w14 ⟨rfl, b⟩
        have fin := case_is (case_below hS13 b)
        clear b hS13
        go_wp2
        go_ret
        exact ⟨rfl, fin⟩
end Go.Proofs.Ytkadkakkaodeeaa.Derive4
