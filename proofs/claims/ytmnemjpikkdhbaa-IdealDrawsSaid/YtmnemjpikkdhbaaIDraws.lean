/-
  IdealDraws: values come as they are drawn: the walk, for every input.
-/
import Derived.Test.YtmnemjpikkdhbaaIdJ
namespace Go.Proofs.Ytmnemjpikkdhbaa.Draws3
open Go.RowKit Go.ChangeShapes Go.WideShapes Go.ChangeAt
open Ideal Ida

theorem draws_step (O : Or) (c : Cl) : (O.step c).draws = O.draws := by
  unfold Or.step
  have hm : ∀ v, (O.meet v).draws = O.draws := fun v => by unfold Or.meet; split <;> rfl
  have ha : ∀ x, (O.ask x).draws = O.draws := fun x => by unfold Or.ask; split <;> rfl
  have hv : ∀ k s tag, (O.verify k s tag).draws = O.draws := fun k s tag => by
    unfold Or.verify
    split
    · rfl
    · exact hm _
  have hr : ∀ k n a v, (O.reopen k n a v).draws = O.draws := fun k n a v => by
    unfold Or.reopen
    split
    · rfl
    · exact hm _
  iterate 7 (split; · first | rfl | exact ha _ | exact hv _ _ _ | exact hr _ _ _ _ | exact hm _)
  rfl
theorem draws_play (cl : List Cl) : ∀ O : Or, (O.play cl).draws = O.draws := by
  induction cl with
  | nil => intro O; rfl
  | cons c cl ih => intro O; exact (ih _).trans (draws_step O c)
set_option maxHeartbeats 2000000 in
theorem setup (l : List Nat) (O : Or) (hd : O.draws = l) (hf : O.fine) (hn : O.rows.length ≤ 200) (s : ByteArray) (hs : s.size ≤ 140737488355328) :
    ∃ (k t a d : Nat) (O1 : Or), t = (l[k]?).getD (9223372036854775808 + k) ∧ k ≤ 200 ∧ ((d = k) ∨ (a = t ∧ d = k + 1)) ∧ (∀ w M, Orc w M (O) → Calls Try.prog 14 #[ptr M] w fun r w' => r = .returned (.int .i64 (k : Int)) ∧ Orc w' M (O) ∧ Kit.But M.own w w') ∧ (∀ w M, Orc w M (O) → Calls Try.prog 20 #[ptr M, .int .u64 (t : Int), .string (s ++ ⟨#[110, 101, 119]⟩)] w fun r w' => r = .returned (.int .u64 (a : Int)) ∧ Orc w' M (O1) ∧ Kit.But M.own w w') ∧ (∀ w M, Orc w M (O1) → Calls Try.prog 14 #[ptr M] w fun r w' => r = .returned (.int .i64 (d : Int)) ∧ Orc w' M (O1) ∧ Kit.But M.own w w') := by
  have hs2 : (s ++ ⟨#[110, 101, 119]⟩).size ≤ maxLen := by
    rw [ByteArray.size_append]
    have : (⟨#[110, 101, 119]⟩ : ByteArray).size = 3 := rfl
    rw [this]
    unfold maxLen
    omega
  refine ⟨O.rows.length, O.next, O.val (qm O.next (s ++ ⟨#[110, 101, 119]⟩)), (O.ask (qm O.next (s ++ ⟨#[110, 101, 119]⟩))).rows.length, O.ask (qm O.next (s ++ ⟨#[110, 101, 119]⟩)), ?_, hn, ?_, ?a1, ?a2, ?a3⟩
  case a1 => intro w M h; exact c_drawn h
  case a2 => intro w M h; exact o_mac h (by omega) O.next (Or.next_lt hf (by omega)) (s ++ ⟨#[110, 101, 119]⟩) hs2
  case a3 => intro w M h; exact c_drawn h
  · subst hd
    unfold Or.next
    exact rfl
  · cases hg : O.get (qm O.next (s ++ ⟨#[110, 101, 119]⟩)) with
    | some v =>
      left
      rw [Or.ask_of_get hg]
    | none =>
      right
      refine ⟨?_, ?_⟩
      · unfold Or.val
        rw [hg]
        rfl
      · unfold Or.ask
        rw [hg]
        exact Or.len_draw _

set_option maxRecDepth 100000 in
set_option maxHeartbeats 1600000 in
theorem draws_any (l : List Nat) (hl : l.length * 8 ≤ 140737488355328) (hx : ∀ x ∈ l, x < 18446744073709551616) (cl : List Cl) (hcl : ∀ c ∈ cl, CallFine c) (s : ByteArray) (hs : s.size ≤ 140737488355328)
    (v vc : Value) (w : World) (hv : Kit.Sl w v (nums l)) (hvc : Cls w vc cl) :
    Calls Try.prog 8 #[v, vc, .string s] w fun e w' => e = .returned (.bool true) ∧ Below w.heap.size w w' := by
  have HP := played_any l hl hx cl hcl v vc _ hv hvc
  have hlen := played_len l hx cl
  obtain ⟨k, t, a, d, O1, ht, hk, hcase, H1, H2, H3⟩ := setup l _ (draws_play (cl.take 200) (Or.new l)) (Or.fine_play (cl.take 200) (Or.new l) (Or.fine_new hx) (by simp [Or.new, List.length_take]; omega)).1 hlen s hs
  generalize (Or.new l).play (cl.take 200) = O at *
  have HF := fixed_any
  obtain ⟨ac, cc, rfl, -⟩ := id hvc
  have hA3 : (9223372036854775807 < (s.size : Int) + 3) = False := eq_false (by omega)
  have hA4 : (9223372036854775807 < s.size + 3) = False := eq_false (by omega)
  have hw1 : IntKind.i64.wrap ((k : Int) + 1) = (k : Int) + 1 := by rw [IntKind.wrap_i64]; omega
  have hll : (nums l).length = l.length := by simp [nums]
  have Hc := Lib.hid hcase
  clear hlen hs hl hx hcl hvc hcase
  rcases hv with ⟨rfl, hn⟩ | ⟨ad, cap, rfl, hcell⟩
  · obtain rfl : l = [] := List.eq_nil_of_length_eq_zero (by rw [← hll, hn]; rfl)
    clear hn hll
    have ht2 : IntKind.u64.wrap (9223372036854775808 + IntKind.u64.wrap (k : Int)) = (t : Int) := by
      simp only [List.getElem?_nil, Option.getD_none] at ht
      simp only [IntKind.wrap_u64]
      omega
    have ht3 : (9223372036854775808 : Int) + (k : Int) = (t : Int) := by
      simp only [List.getElem?_nil, Option.getD_none] at ht
      omega
    have hlt : decide ((k : Int) < 0) = false := by rw [decide_eq_false_iff_not]; omega
    clear ht
    go_enter Try.func8, Try.ntmps8
    go_wp2_with fail
    refine HP.mono ?_
    rintro r w1 ⟨M, rfl, h, hin, c⟩
    have hM : ∀ i, M.own i → w.heap.size ≤ i := fun i hi => (hin.own i hi).1
    clear HP hin
    go_wp2_with fail
    refine (H1 _ _ h).mono ?_
    clear h
    rintro r w2 ⟨rfl, h, fr⟩
    have c := c.trans (fr.below c.size hM)
    clear fr H1
    go_wp2_with fail
    refine (H2 _ _ h).mono ?_
    clear h
    rintro r w3 ⟨rfl, h, fr⟩
    have c := c.trans (fr.below c.size hM)
    clear fr H2
    rcases Hc.out with hd | ⟨ha, hd⟩
    · subst hd
      go_wp2_with fail
      refine (H3 _ _ h).mono ?_
      clear h
      rintro r w4 ⟨rfl, h, fr⟩
      have c := c.trans (fr.below c.size hM)
      clear fr H3
      go_wp2_with fail
      refine (HF _).mono ?_
      rintro r w5 ⟨rfl, fr⟩
      have h := Orc.below h fr
      have c := c.trans (fr.mono c.size)
      clear fr
      go_wp2
      go_ret
      exact ⟨rfl, c⟩
    · subst hd
      subst ha
      have e1 : ((k : Int) + 1 == (k : Int)) = false := by rw [beq_eq_false_iff_ne]; omega
      go_wp2_with fail
      refine (H3 _ _ h).mono ?_
      clear h
      rintro r w6 ⟨rfl, h, fr⟩
      have c := c.trans (fr.below c.size hM)
      clear fr
      go_wp2_with fail
      refine (HF _).mono ?_
      rintro r w7 ⟨rfl, fr⟩
      have h := Orc.below h fr
      have c := c.trans (fr.mono c.size)
      clear fr
      go_wp2_with fail
      refine (H3 _ _ h).mono ?_
      clear h
      rintro r w8 ⟨rfl, h, fr⟩
      have c := c.trans (fr.below c.size hM)
      clear fr H3
      go_wp2
      go_ret
      exact ⟨rfl, c⟩
  · rw [hll] at *
    have hlt0 : ∀ u, (l[k]? = some u → (ad.add k).block < w.heap.size) := fun u hu => World.block_lt_of_cell? _ _ (hcell k (.int .u64 (u : Int)) (by simp [nums, hu]))
    by_cases hlt : k < l.length
    · have hlt2 : (k : Int) < (l.length : Int) := by omega
      rw [List.getElem?_eq_getElem hlt, Option.getD_some] at ht
      have hce := hcell k (.int .u64 (t : Int)) (by simp [nums, hlt, ht])
      clear hcell hll hlt0 ht
      go_enter Try.func8, Try.ntmps8
      go_wp2_with fail
      refine HP.mono ?_
      rintro r w1 ⟨M, rfl, h, hin, c⟩
      have hM : ∀ i, M.own i → w.heap.size ≤ i := fun i hi => (hin.own i hi).1
      clear HP hin
      go_wp2_with fail
      refine (H1 _ _ h).mono ?_
      clear h
      rintro r w9 ⟨rfl, h, fr⟩
      have c := c.trans (fr.below c.size hM)
      clear fr H1
      have hce2 := (c.cell (World.block_lt_of_cell? _ _ hce)).trans hce
      go_wp2_with fail
      refine (H2 _ _ h).mono ?_
      clear h
      rintro r w10 ⟨rfl, h, fr⟩
      have c := c.trans (fr.below c.size hM)
      clear fr H2
      rcases Hc.out with hd | ⟨ha, hd⟩
      · subst hd
        go_wp2_with fail
        refine (H3 _ _ h).mono ?_
        clear h
        rintro r w11 ⟨rfl, h, fr⟩
        have c := c.trans (fr.below c.size hM)
        clear fr H3
        go_wp2_with fail
        refine (HF _).mono ?_
        rintro r w12 ⟨rfl, fr⟩
        have h := Orc.below h fr
        have c := c.trans (fr.mono c.size)
        clear fr
        go_wp2
        go_ret
        exact ⟨rfl, c⟩
      · subst hd
        subst ha
        have e1 : ((k : Int) + 1 == (k : Int)) = false := by rw [beq_eq_false_iff_ne]; omega
        go_wp2_with fail
        refine (H3 _ _ h).mono ?_
        clear h
        rintro r w13 ⟨rfl, h, fr⟩
        have c := c.trans (fr.below c.size hM)
        clear fr
        go_wp2_with fail
        refine (HF _).mono ?_
        rintro r w14 ⟨rfl, fr⟩
        have h := Orc.below h fr
        have c := c.trans (fr.mono c.size)
        clear fr
        go_wp2_with fail
        refine (H3 _ _ h).mono ?_
        clear h
        rintro r w15 ⟨rfl, h, fr⟩
        have c := c.trans (fr.below c.size hM)
        clear fr H3
        go_wp2
        go_ret
        exact ⟨rfl, c⟩
    · have hlt2 : decide ((k : Int) < (l.length : Int)) = false := by rw [decide_eq_false_iff_not]; omega
      have hlt3 : decide (k < l.length) = false := by rw [decide_eq_false_iff_not]; omega
      rw [List.getElem?_eq_none (by omega), Option.getD_none] at ht
      have ht2 : IntKind.u64.wrap (9223372036854775808 + IntKind.u64.wrap (k : Int)) = (t : Int) := by
        simp only [IntKind.wrap_u64]
        omega
      have ht3 : (9223372036854775808 : Int) + (k : Int) = (t : Int) := by omega
      clear hcell hll hlt0 ht hlt
      go_enter Try.func8, Try.ntmps8
      go_wp2_with fail
      refine HP.mono ?_
      rintro r w1 ⟨M, rfl, h, hin, c⟩
      have hM : ∀ i, M.own i → w.heap.size ≤ i := fun i hi => (hin.own i hi).1
      clear HP hin
      go_wp2_with fail
      refine (H1 _ _ h).mono ?_
      clear h
      rintro r w16 ⟨rfl, h, fr⟩
      have c := c.trans (fr.below c.size hM)
      clear fr H1
      go_wp2_with fail
      refine (H2 _ _ h).mono ?_
      clear h
      rintro r w17 ⟨rfl, h, fr⟩
      have c := c.trans (fr.below c.size hM)
      clear fr H2
      rcases Hc.out with hd | ⟨ha, hd⟩
      · subst hd
        go_wp2_with fail
        refine (H3 _ _ h).mono ?_
        clear h
        rintro r w18 ⟨rfl, h, fr⟩
        have c := c.trans (fr.below c.size hM)
        clear fr H3
        go_wp2_with fail
        refine (HF _).mono ?_
        rintro r w19 ⟨rfl, fr⟩
        have h := Orc.below h fr
        have c := c.trans (fr.mono c.size)
        clear fr
        go_wp2
        go_ret
        exact ⟨rfl, c⟩
      · subst hd
        subst ha
        have e1 : ((k : Int) + 1 == (k : Int)) = false := by rw [beq_eq_false_iff_ne]; omega
        go_wp2_with fail
        refine (H3 _ _ h).mono ?_
        clear h
        rintro r w20 ⟨rfl, h, fr⟩
        have c := c.trans (fr.below c.size hM)
        clear fr
        go_wp2_with fail
        refine (HF _).mono ?_
        rintro r w21 ⟨rfl, fr⟩
        have h := Orc.below h fr
        have c := c.trans (fr.mono c.size)
        clear fr
        go_wp2_with fail
        refine (H3 _ _ h).mono ?_
        clear h
        rintro r w22 ⟨rfl, h, fr⟩
        have c := c.trans (fr.below c.size hM)
        clear fr H3
        go_wp2
        go_ret
        exact ⟨rfl, c⟩
end Go.Proofs.Ytmnemjpikkdhbaa.Draws3
