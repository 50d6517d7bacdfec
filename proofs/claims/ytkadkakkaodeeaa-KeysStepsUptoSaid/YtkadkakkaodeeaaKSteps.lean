/-
  KeysSteps: to derive by two lists one behind the other is to derive by the first one, and then by the second; again it is the same, and nothing is drawn: the walk.
-/
import Derived.Test.YtkadkakkaodeeaaKeyC
import Derived.Test.YtkadkakkaodeeaaApp
namespace Go.Proofs.Ytkadkakkaodeeaa.Steps4
open Go.RowKit Go.ChangeShapes Go.WideShapes Go.ChangeAt
open Ideal Ida Kya

theorem start_fine (l : List Nat) (hx : ∀ x ∈ l, x < 18446744073709551616) (key : Nat) (cl : List Cl) : (((Or.new l).meet key).play (cl.take 200)).fine := (start_len l hx key (cl.take 200) (by rw [List.length_take]; omega)).2
theorem setup (w : World) (O : Or) (hfi : O.fine) (key : Nat) (hn : O.rows.length ≤ 200) (hkey : key < 18446744073709551616) (a b : List Nat) (la : a.length ≤ 1048576) (lb : b.length ≤ 1048576) (ha : ∀ x ∈ a, x < 18446744073709551616) (hb : ∀ x ∈ b, x < 18446744073709551616) (va vb : Value) (ra : Kit.Rd w va (nums a)) (rb : Kit.Rd w vb (nums b)) :
    ∃ (x z : Nat) (O1 O2 : Or),
      (∀ M w' B v, (∀ i, M.own i → i < B) → w'.ownsRow B 24 1 v (0 + (nums a).length + (nums b).length) ([] ++ nums a ++ nums b) → Orc w' M O → Calls Try.prog 13 #[ptr M, .int .u64 (key : Int), v] w' fun r w'' => r = .returned (.int .u64 (x : Int)) ∧ Orc w'' M O1 ∧ Kit.But M.own w' w'') ∧
      (∀ M w', (∀ i, M.own i → w.heap.size < i) → Below w.heap.size w w' → Orc w' M (O1) → Calls Try.prog 13 #[ptr M, .int .u64 (key : Int), va] w' fun r w'' => r = .returned (.int .u64 (z : Int)) ∧ Orc w'' M (O2) ∧ Kit.But M.own w' w'') ∧ (∀ M w', (∀ i, M.own i → w.heap.size < i) → Below w.heap.size w w' → Orc w' M (O2) → Calls Try.prog 13 #[ptr M, .int .u64 (z : Int), vb] w' fun r w'' => r = .returned (.int .u64 (x : Int)) ∧ Orc w'' M (O1) ∧ Kit.But M.own w' w'') := by
  have hl : (a ++ b).length = a.length + b.length := List.length_append
  have h1 := (Or.len_derive (a ++ b) O key).2
  have h2 := (Or.len_derive a (O.derive key (a ++ b)) key).2
  have f1 := (Or.fine_derive (a ++ b) O key hfi hkey (by omega)).1
  have f2 := (Or.fine_derive a (O.derive key (a ++ b)) key f1 hkey (by omega)).2
  have hs := keys_steps O key a b
  refine ⟨O.key key (a ++ b), (O.derive key (a ++ b)).key key a, O.derive key (a ++ b), (O.derive key (a ++ b)).derive key a, ?_, ?_, ?_⟩
  · intro M w' B v hm hown h
    have hnn : [] ++ nums a ++ nums b = nums (a ++ b) := by simp [nums]
    rw [hnn] at hown
    refine derive_any h key hkey (a ++ b) (by omega) ?_ v (Kit.Rd.of_own hown) ?_
    · intro x hx
      rcases List.mem_append.1 hx with hx | hx
      · exact ha x hx
      · exact hb x hx
    · intro _ k hk ho
      have h2 := (hown.lt k hk).1
      have h3 := hm k ho
      omega
  · intro M w' hm hw h
    exact derive_any h key hkey a (by omega) ha va (ra.below hw) (arg_off ra hm)
  · intro M w' hm hw h
    have H := derive_any h _ f2 b (by omega) hb vb (rb.below hw) (arg_off rb hm)
    rw [hs.1, hs.2] at H
    exact H

set_option maxRecDepth 100000 in
set_option maxHeartbeats 8000000 in
theorem steps_any (l : List Nat) (hl : l.length * 8 ≤ 140737488355328) (hx : ∀ x ∈ l, x < 18446744073709551616) (cl : List Cl) (hcl : ∀ c ∈ cl, CallFine c) (key : Nat) (hkey : key < 18446744073709551616) (a b : List Nat) (la : a.length ≤ 1048576) (lb : b.length ≤ 1048576) (ha : ∀ x ∈ a, x < 18446744073709551616) (hb : ∀ x ∈ b, x < 18446744073709551616) (va vb : Value) (dv cv : Value) (w : World) (hv : Kit.Sl w dv (nums l)) (hvc : Cls w cv cl) (ra : Kit.Sl w va (nums a)) (rb : Kit.Sl w vb (nums b)) :
    Calls Try.prog 5 #[.agg #[dv, cv, .int .u64 (key : Int)], va, vb] w fun e w' => e = .returned (.bool true) ∧ Below w.heap.size w w' := by
  have RA := Lib.hid ra
  have RB := Lib.hid rb
  have LA := Lib.hid (And.intro la lb)
  have c0 : Below w.heap.size w (w.alloc (.cells #[dv, cv, .int .u64 (key : Int)] 26)) := (Below.refl _ w).alloc (Nat.le_refl _) _
  have bx : (w.alloc (.cells #[dv, cv, .int .u64 (key : Int)] 26)).heap[w.heap.size]? = some (.cells #[dv, cv, .int .u64 (key : Int)] 26 (0, 0)) := (MapKept.heap_alloc w _).1
  have HP := played_any l hl hx cl hcl key hkey dv cv _ (hv.below c0) (hvc.below c0)
  have hlen := start_take l hx key cl
  obtain ⟨hinv, hmet⟩ := start_inv l key (cl.take 200)
  obtain ⟨x, z, O1, O2, H1, H2, H3⟩ := setup w _ (start_fine l hx key cl) key hlen hkey a b la lb ha hb _ _ ra.rd rb.rd
  generalize ((Or.new l).meet key).play (cl.take 200) = O at *
  have HF := fixed_any
  obtain ⟨i0, hi, hz0, hz1, hz2⟩ := info_parts infoU64
  clear hlen hinv hmet hl hx hcl hv hvc hkey la lb ha hb ra rb
  have C0 := Lib.hid c0
  have BX := Lib.hid bx
  clear c0 bx
  go_enter Try.func5, Try.ntmps5
  go_wp2_with fail
  refine HP.mono ?_
  rintro r w1 ⟨M, rfl, h, hin, hb⟩
  have hM : ∀ i, M.own i → w.heap.size < i := fun i hi => by have := (hin.own i hi).1; simp at this; omega
  have hS := case_parts (w := w) (w' := w1) (dv := dv) (cv := cv) (key := key) ((hb.block _ (by simp)).trans BX.out) (C0.out.trans (hb.mono C0.out.size))
  clear HP hin hb
  have hd := h.drew
  go_upto_region 2 with (fail)
  have q0 : Below w1.heap.size w1 w1.drew := (Below.refl _ w1).drew
  have made0 : ∀ W : World, w1.heap.size ≤ W.heap.size → (W.alloc (.cells #[] 24)).ownsRow w1.heap.size 24 1 (.slice (some ⟨W.heap.size, 0, none⟩) 0 0) 0 [] := fun W hW => World.ownsRow_made W #[] 0 hW (by unfold maxLen; omega) rfl
  have le0 : w1.heap.size ≤ w1.drew.heap.size := Nat.le_refl _
  have hln : (nums a).length = a.length := by simp [nums]
  have hlm : (nums b).length = b.length := by simp [nums]
  have F1 : 0 + (nums a).length ≤ maxLen := by have := LA.out; unfold maxLen; omega
  have F2 : (0 + (nums a).length) * 8 ≤ 140737488355328 := by have := LA.out; omega
  have F3 : (0 + (nums a).length) + (nums b).length ≤ maxLen := by have := LA.out; unfold maxLen; omega
  have F4 : ((0 + (nums a).length) + (nums b).length) * 8 ≤ 140737488355328 := by have := LA.out; omega
  have hwl : w.heap.size < w1.heap.size := (Array.getElem?_eq_some_iff.1 hS.2.2.2.1).1
  have hMB : ∀ i, M.own i → i < w1.heap.size := fun i hi => h.lt hi
  go_region_held3 (fun w' => w'.cell? ⟨w.heap.size, 0, none⟩ = some dv ∧ w'.cell? ⟨w.heap.size, 1, none⟩ = some cv ∧ w'.cell? ⟨w.heap.size, 2, none⟩ = some (.int .u64 (key : Int)) ∧ w'.heap[w.heap.size]? = some (.cells #[dv, cv, .int .u64 (key : Int)] 26 (0, 0)) ∧ Below w.heap.size w w')
    (first | exact case_parts hS.2.2.2.1 hS.2.2.2.2.drew | exact case_below (by assumption) ((Below.refl _ _).alloc (Nat.le_refl _) _) | exact case_grown (by assumption) hg2 (fun k hk => Nat.lt_of_lt_of_le hwl (hown1.lt k hk).1) | exact case_grown (by assumption) hg1 (fun k hk => Nat.lt_of_lt_of_le hwl ((made0 _ le0).lt k hk).1) | exact case_keep (by assumption) hM fr)
    (first
      | (refine Kit.step_append_sl rfl _ _ 22 rfl w1.heap.size 24 i0 (.int .u64 0) 8 Try.underlying22 hi hz0 hz1 hz2 rfl v1 (0 + (nums a).length) ([] ++ nums a) rfl hown1 _ (nums b) rfl (RB.out.below (case_is (by assumption))) (nums_one b) F3 F4 q1.size ?_; intro v2 w2x hown2 hg2; have q2 : Below w1.heap.size w1 w2x := q1.grown hg2 q1.size (fun k hk => (hown1.lt k hk).1))
      | (refine Kit.step_append_sl rfl _ _ 22 rfl w1.heap.size 24 i0 (.int .u64 0) 8 Try.underlying22 hi hz0 hz1 hz2 rfl _ 0 [] rfl (made0 _ le0) _ (nums a) rfl (RA.out.below (case_is (by assumption))) (nums_one a) F1 F2 (Kit.below_al q0 _).size ?_; intro v1 w1x hown1 hg1; have q1 : Below w1.heap.size w1 w1x := (Kit.below_al q0 _).grown hg1 (Kit.below_al q0 _).size (fun k hk => ((made0 _ le0).lt k hk).1))
      | (go_at_call 13; refine (H1 M _ w1.heap.size v2 hMB hown2 (Orc.below h q2)).mono ?_; rintro r w6 ⟨rfl, h, fr⟩))
  have hS := case_of h (by assumption)
  clear H1
  go_wp2_with fail
  refine (o_drawn h).mono ?_
  rintro r w7 ⟨rfl, fr⟩
  have h := Orc.below h fr
  have hS := case_below hS fr
  clear fr
  obtain ⟨x0, x1, x2, -, -⟩ := id hS
  go_wp2_with fail
  refine (H2 _ _ hM (case_is hS) h).mono ?_
  clear h
  rintro r w8 ⟨rfl, h, fr⟩
  have hS := case_keep hS hM fr
  clear fr x0 x1 x2 H2
  obtain ⟨x0, x1, x2, -, -⟩ := id hS
  go_wp2_with fail
  refine (H3 _ _ hM (case_is hS) h).mono ?_
  clear h
  rintro r w9 ⟨rfl, h, fr⟩
  have hS := case_keep hS hM fr
  clear fr x0 x1 x2 H3
  go_wp2_with fail
  refine (HF _).mono ?_
  rintro r w10 ⟨rfl, fr⟩
  have h := Orc.below h fr
  have hS := case_below hS fr
  clear fr
  go_wp2_with fail
  refine (o_drawn h).mono ?_
  rintro r w11 ⟨rfl, fr⟩
  have h := Orc.below h fr
  have hS := case_below hS fr
  clear fr
  obtain ⟨x0, x1, x2, -, fin⟩ := id hS
  clear hS
  go_wp2
  go_ret
  exact ⟨rfl, fin⟩
end Go.Proofs.Ytkadkakkaodeeaa.Steps4
