/-
  IdealPlays: what an oracle answers to any calls, by any draws, how many it drew, and whether something bad happened, is as the document says, call by call: the walk, for every input.
-/
import Derived.Test.YtmnemjpikkdhbaaIRefG
namespace Go.Proofs.Ytmnemjpikkdhbaa.Plays3
open Go.RowKit Go.ChangeShapes Go.WideShapes Go.ChangeAt
open Ideal Ida

theorem met_meet (O : Or) (v : Nat) : (O.meet v).met.length ≤ O.met.length + 1 := by
  unfold Or.meet
  split <;> simp
theorem few_step (O : Or) (c : Cl) : (O.step c).rows.length ≤ O.rows.length + 1 ∧ (O.step c).met.length ≤ O.met.length + 1 ∧ (O.step c).bads ≤ O.bads + 1 := by
  refine ⟨Or.len_step c, ?_, ?_⟩
  · have ha : ∀ x, (O.ask x).met.length ≤ O.met.length + 1 := fun x => by unfold Or.ask; split <;> simp [Or.draw]
    have hv : ∀ k s t, (O.verify k s t).met.length ≤ O.met.length + 1 := fun k s t => by
      unfold Or.verify
      split
      · omega
      · exact met_meet O _
    have hr : ∀ k n a t, (O.reopen k n a t).met.length ≤ O.met.length + 1 := fun k n a t => by
      unfold Or.reopen
      split
      · omega
      · exact met_meet O _
    unfold Or.step
    iterate 7 (split; · first | exact ha _ | exact hv _ _ _ | exact hr _ _ _ _ | exact met_meet O _ | (simp [Or.draw]))
    omega
  · have hd : ∀ x, (O.draw x).bads ≤ O.bads + 1 := fun x => by unfold Or.draw; simp only; split <;> omega
    have ha : ∀ x, (O.ask x).bads ≤ O.bads + 1 := fun x => by
      unfold Or.ask
      split
      · omega
      · exact hd x
    unfold Or.step
    iterate 7 (split; · first | exact hd _ | exact ha _ | (rw [Or.bads_verify]; omega) | (rw [Or.bads_reopen]; omega) | (rw [Or.bads_meet]; omega))
    omega
theorem few_play : ∀ (l : List Cl) (O : Or), (O.play l).rows.length ≤ O.rows.length + l.length ∧ (O.play l).met.length ≤ O.met.length + l.length ∧ (O.play l).bads ≤ O.bads + l.length
  | [], O => ⟨Nat.le_refl _, Nat.le_refl _, Nat.le_refl _⟩
  | c :: l, O => by
    have h1 := few_step O c
    have h2 := few_play l (O.step c)
    simp only [List.length_cons]
    show ((O.step c).play l).rows.length ≤ _ ∧ ((O.step c).play l).met.length ≤ _ ∧ ((O.step c).play l).bads ≤ _
    omega
theorem few_of (l : List Nat) (cl : List Cl) (h : cl.length ≤ 200) (k : Nat) : Ref3.Few ((Or.new l).play (cl.take k)) := by
  have h1 := few_play (cl.take k) (Or.new l)
  have h2 : (cl.take k).length ≤ 200 := by rw [List.length_take]; omega
  have e1 : (Or.new l).rows.length = 0 := rfl
  have e2 : (Or.new l).met.length = 0 := rfl
  have e3 : (Or.new l).bads = 0 := rfl
  exact ⟨by omega, by omega, by omega⟩

set_option maxRecDepth 100000 in
set_option maxHeartbeats 4000000 in
theorem plays_any (l : List Nat) (hl : l.length * 8 ≤ 140737488355328) (hx : ∀ x ∈ l, x < 18446744073709551616) (cl : List Cl) (hcl : ∀ c ∈ cl, CallFine c)
    (v vc : Value) (w : World) (hv : Kit.Sl w v (nums l)) (hvc : Cls w vc cl) :
    Calls Try.prog 3 #[v, vc] w fun e w' => e = .returned (.bool true) ∧ Below w.heap.size w w' := by
  have HF := fixed_any
  have HN := new_any l hl hx v w hv
  have HR := fun w1 (b : Below w.heap.size w w1) => Ref3.new_any l hl hx v w1 (hv.below b)
  obtain ⟨ac, cc, rfl, -⟩ := id hvc
  by_cases h200 : 200 < cl.length
  · have hg : (200 : Int) < (cl.length : Int) := by omega
    clear HN HR hv hvc hcl hx
    go_enter Try.func3, Try.ntmps3
    go_wp2_with fail
    refine (HF _).mono ?_
    rintro e w1 ⟨rfl, b⟩
    go_wp2
    go_ret
    exact ⟨rfl, b⟩
  · have hg : decide ((200 : Int) < (cl.length : Int)) = false := by rw [decide_eq_false_iff_not]; omega
    have hg2 : decide (200 < cl.length) = false := by rw [decide_eq_false_iff_not]; omega
    have HFW := Lib.hid (fun k => few_of l cl (by omega) k)
    have Hcl := Lib.hid hcl
    have H200 := Lib.hid h200
    clear hcl hv h200 hx
    go_enter Try.func3, Try.ntmps3
    go_wp2_with fail
    refine HN.mono ?_
    rintro e w1 ⟨L, rfl, ho, hin, b1⟩
    go_wp2_with fail
    refine (HR _ b1).mono ?_
    rintro e w2 ⟨q, rfl, hr, b2⟩
    have hb := b1.trans (b2.mono b1.size)
    have ho2 := ho.under hin b2
    have hs := b2.size
    have Hin := Lib.hid hin
    have B1 := Lib.hid b1.size
    clear HN HR ho hin b1 b2
    go_wp2
    go_loopw [7] (fun vi wr => ∃ k : Nat, k ≤ cl.length ∧ vi = .int .i64 (k : Int) ∧ Orc wr L ((Or.new l).play (cl.take k)) ∧ Ref3.Ref w1.heap.size wr q ((Or.new l).play (cl.take k)) ∧ Below w.heap.size w wr ∧ w1.heap.size ≤ wr.heap.size) (fun vi _ => cl.length - (intOf vi).toNat)
    case atStart => exact ⟨0, Nat.zero_le _, rfl, ho2, hr, hb, hs⟩
    case round =>
      obtain ⟨k, hk, rfl, h2, r2, hb2, hs2⟩ := hrel
      clear ho2 hr hb hs
      by_cases hlt : k < cl.length
      · have hlt1 : (k : Int) < (cl.length : Int) := by omega
        have hf := HFW.out k
        have hf2 := HFW.out (k + 1)
        have HD := do_any h2 hf.rows cl[k] (Hcl.out _ (List.getElem_mem hlt))
        have HDR := fun w' (r : Ref3.Ref w1.heap.size w' q ((Or.new l).play (cl.take k))) hB => Ref3.do_any r hB hf cl[k]
        have hstep : (Or.new l).play (cl.take (k + 1)) = ((Or.new l).play (cl.take k)).step cl[k] := by rw [List.take_succ_eq_append_getElem hlt, Or.play_snoc]
        have hvc2 := hvc.below (hb2.mono (Nat.le_refl _))
        obtain ⟨ad, rfl, g0, g1, g2, g3, g4, g5⟩ := hvc2.at_ (List.getElem?_eq_getElem hlt)
        have HV := Lib.hid hvc2
        have Hget := Lib.hid (List.getElem?_eq_getElem hlt)
        have Hst := Lib.hid hstep
        generalize cl[k] = c at *
        unfold callCells at HD HDR
        generalize (Or.new l).play (cl.take k) = O at *
        have hBD := fun w' (h : Orc w' L (O.step c)) => o_drawn h
        have hBB := fun w' (h : Orc w' L (O.step c)) => o_bad h
        have rBD := fun w' (h : Ref3.Ref w1.heap.size w' q (O.step c)) => Ref3.drawn_any h
        have rBB := fun w' (h : Ref3.Ref w1.heap.size w' q (O.step c)) => Ref3.bad_any h
        generalize (O.tell c).1 = ta at *
        generalize (O.tell c).2.1 = tb at *
        generalize (O.tell c).2.2 = tc at *
        clear hstep hvc2 hf hf2
        go_wp2_with fail
        refine HD.mono ?_
        rintro e w3 ⟨rfl, h3, b3⟩
        have r3 := r2.kept (fun i hi hl => b3.block i hl (fun ho => by have := (Hin.out.own i ho).2; omega))
        have b3' := b3.below hb2.size (fun i hi => (Hin.out.own i hi).1)
        have hb3 := hb2.trans b3'
        have hs3 := Nat.le_trans hs2 b3.size
        have hv3 := hvc.below (hb3.mono (Nat.le_refl _))
        obtain ⟨ad', he', g0', g1', g2', g3', g4', g5'⟩ := hv3.at_ Hget.out
        cases he'
        have HDD := HDR _ r3 hs3
        clear HD HDR g0 g1 g2 g3 g4 g5 h2 r2 b3 b3' hb2 hs2 hv3 r3
        go_wp2_with fail
        refine HDD.mono ?_
        rintro e w4 ⟨rfl, r4, b4⟩
        have h4 := Orc.under h3 Hin.out b4
        have hb4 := hb3.trans (b4.mono B1.out)
        have hs4 := Nat.le_trans hs3 b4.size
        clear HDD g0' g1' g2' g3' g4' g5' h3 b4 hb3 hs3
        go_wp2_with fail
        refine (hBD _ h4).mono ?_
        rintro e w5 ⟨rfl, b⟩
        have h5 := h4.below b
        have r5 := r4.below b
        have hb5 := hb4.trans (b.mono hb4.size)
        have hs5 := Nat.le_trans hs4 b.size
        clear b h4 r4 hb4 hs4
        go_wp2_with fail
        refine (rBD _ r5).mono ?_
        rintro e w6 ⟨rfl, b⟩
        have h6 := Orc.below h5 b
        have r6 := r5.below b
        have hb6 := hb5.trans (b.mono hb5.size)
        have hs6 := Nat.le_trans hs5 b.size
        clear b h5 r5 hb5 hs5
        go_wp2_with fail
        refine (hBB _ h6).mono ?_
        rintro e w7 ⟨rfl, b⟩
        have h7 := Orc.below h6 b
        have r7 := r6.below b
        have hb7 := hb6.trans (b.mono hb6.size)
        have hs7 := Nat.le_trans hs6 b.size
        clear b h6 r6 hb6 hs6
        go_wp2_with fail
        refine (rBB _ r7).mono ?_
        rintro e w8 ⟨rfl, b⟩
        have h8 := Orc.below h7 b
        have r8 := r7.below b
        have hb8 := hb7.trans (b.mono hb7.size)
        have hs8 := Nat.le_trans hs7 b.size
        have hk200 := H200.out
        clear b h7 r7 hb7 hs7
        go_wp2
        go_roundw
        case rel => exact ⟨k + 1, by omega, by go_num, by rw [Hst.out]; exact h8, by rw [Hst.out]; exact r8, hb8, hs8⟩
        case measure => simp [intOf]; omega
      · obtain rfl : k = cl.length := by omega
        clear hlt h2 r2
        go_wp2_with fail
        refine (HF _).mono ?_
        rintro e w3 ⟨rfl, b⟩
        have hb3 := hb2.trans (b.mono hb2.size)
        go_wp2
        go_ret
        exact ⟨rfl, hb3⟩
end Go.Proofs.Ytmnemjpikkdhbaa.Plays3
