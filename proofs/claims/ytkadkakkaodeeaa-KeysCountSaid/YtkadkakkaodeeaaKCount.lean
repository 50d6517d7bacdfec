/-
  KeysCount: to derive draws at most as many values as there are numbers; none, where there are none; and by one number more at most one more: the walk, for every input.
-/
import Derived.Test.YtkadkakkaodeeaaKeyC
import Derived.Test.YtkadkakkaodeeaaApp
namespace Go.Proofs.Ytkadkakkaodeeaa.Count4
open Go.RowKit Go.ChangeShapes Go.WideShapes Go.ChangeAt
open Ideal Ida Kya

theorem setup (w : World) (O : Or) (key : Nat) (hn : O.rows.length ≤ 200) (hkey : key < 18446744073709551616) (a : List Nat) (n : Nat) (la : a.length * 8 ≤ 140737488351232) (ha : ∀ x ∈ a, x < 18446744073709551616) (hn0 : n < 18446744073709551616) (va : Value) (ra : Kit.Rd w va (nums a)) :
    ∃ (x y : Nat) (O1 O2 : Or), (∀ M w', (∀ i, M.own i → w.heap.size < i) → Below w.heap.size w w' → Orc w' M (O) → Calls Try.prog 13 #[ptr M, .int .u64 (key : Int), va] w' fun r w'' => r = .returned (.int .u64 (x : Int)) ∧ Orc w'' M (O1) ∧ Kit.But M.own w' w'') ∧
      (∀ M w' B v, (∀ i, M.own i → i < B) → w'.ownsRow B 24 1 v (0 + (nums a).length + 1) ([] ++ nums a ++ [.int .u64 (n : Int)]) → Orc w' M O1 → Calls Try.prog 13 #[ptr M, .int .u64 (key : Int), v] w' fun r w'' => r = .returned (.int .u64 (y : Int)) ∧ Orc w'' M O2 ∧ Kit.But M.own w' w'') ∧
      (O.rows.length ≤ O1.rows.length ∧ O1.rows.length ≤ O.rows.length + a.length ∧ O1.rows.length ≤ O2.rows.length ∧ O2.rows.length ≤ O1.rows.length + 1) := by
  have h1 := (Or.len_derive a O key).2
  refine ⟨O.key key a, (O.derive key a).key key (a ++ [n]), O.derive key a, (O.derive key a).derive key (a ++ [n]), ?_, ?_, keys_count O key n a⟩
  · intro M w' hm hw h
    exact derive_any h key hkey a (by omega) ha va (ra.below hw) (arg_off ra hm)
  · intro M w' B v hm hown h
    rw [List.nil_append, ← nums_snoc] at hown
    refine derive_any h key hkey (a ++ [n]) (by simp only [List.length_append, List.length_cons, List.length_nil]; omega) ?_ v (Kit.Rd.of_own hown) ?_
    · intro x hx
      rcases List.mem_append.1 hx with hx | hx
      · exact ha x hx
      · rw [List.mem_singleton.1 hx]; exact hn0
    · intro _ b hb ho
      have h2 := (hown.lt b hb).1
      have h3 := hm b ho
      omega

set_option maxRecDepth 100000 in
set_option maxHeartbeats 8000000 in
theorem count_any (l : List Nat) (hl : l.length * 8 ≤ 140737488355328) (hx : ∀ x ∈ l, x < 18446744073709551616) (cl : List Cl) (hcl : ∀ c ∈ cl, CallFine c) (key : Nat) (hkey : key < 18446744073709551616) (a : List Nat) (n : Nat) (la : a.length * 8 ≤ 140737488351232) (ha : ∀ x ∈ a, x < 18446744073709551616) (hn0 : n < 18446744073709551616) (va : Value) (dv cv : Value) (w : World) (hv : Kit.Sl w dv (nums l)) (hvc : Cls w cv cl) (ra : Kit.Sl w va (nums a)) :
    Calls Try.prog 7 #[.agg #[dv, cv, .int .u64 (key : Int)], va, .int .u64 (n : Int)] w fun e w' => e = .returned (.bool true) ∧ Below w.heap.size w w' := by
  obtain ⟨aa, ac, rfl⟩ : ∃ aa ac, va = .slice aa a.length ac := by
    obtain ⟨aa, ac, h⟩ := ra.rd.form
    exact ⟨aa, ac, by rw [h]; simp [nums]⟩
  have RA := Lib.hid ra
  have LA := Lib.hid la
  have c0 : Below w.heap.size w (w.alloc (.cells #[dv, cv, .int .u64 (key : Int)] 26)) := (Below.refl _ w).alloc (Nat.le_refl _) _
  have bx : (w.alloc (.cells #[dv, cv, .int .u64 (key : Int)] 26)).heap[w.heap.size]? = some (.cells #[dv, cv, .int .u64 (key : Int)] 26 (0, 0)) := (MapKept.heap_alloc w _).1
  have HP := played_any l hl hx cl hcl key hkey dv cv _ (hv.below c0) (hvc.below c0)
  have hlen := start_take l hx key cl
  obtain ⟨hinv, hmet⟩ := start_inv l key (cl.take 200)
  obtain ⟨x, y, O1, O2, H1, H2, HGG⟩ := setup w _ key hlen hkey a n la ha hn0 _ ra.rd
  generalize ((Or.new l).meet key).play (cl.take 200) = O at *
  have HF := fixed_any
  have HG := Lib.hid HGG
  obtain ⟨i0, hi, hz0, hz1, hz2⟩ := info_parts infoU64
  clear hlen hinv hmet hl hx hcl hv hvc hkey HGG la ha hn0 ra
  have C0 := Lib.hid c0
  have BX := Lib.hid bx
  clear c0 bx
  go_enter Try.func7, Try.ntmps7
  go_wp2_with fail
  refine HP.mono ?_
  rintro r w1 ⟨M, rfl, h, hin, hb⟩
  have hM : ∀ i, M.own i → w.heap.size < i := fun i hi => by have := (hin.own i hi).1; simp at this; omega
  have hS := case_parts (w := w) (w' := w1) (dv := dv) (cv := cv) (key := key) ((hb.block _ (by simp)).trans BX.out) (C0.out.trans (hb.mono C0.out.size))
  clear HP hin hb
  go_wp2_with fail
  refine (o_drawn h).mono ?_
  rintro r w2 ⟨rfl, fr⟩
  have h := Orc.below h fr
  have hS := case_below hS fr
  clear fr
  obtain ⟨x0, x1, x2, -, -⟩ := id hS
  go_wp2_with fail
  refine (H1 _ _ hM (case_is hS) h).mono ?_
  clear h
  rintro r w3 ⟨rfl, h, fr⟩
  have hS := case_keep hS hM fr
  clear fr x0 x1 x2 H1
  go_wp2_with fail
  refine (o_drawn h).mono ?_
  rintro r w4 ⟨rfl, fr⟩
  have h := Orc.below h fr
  have hS := case_below hS fr
  clear fr
  have hd := h.drew
  go_upto_region 5 with (fail)
  have le0 : w4.heap.size ≤ w4.drew.heap.size := Nat.le_refl _
  have le1 : w4.heap.size ≤ (w4.drew.alloc (.cells #[.int .u64 (n : Int)] 24)).heap.size := by simp
  have q0 : Below w4.heap.size w4 w4.drew := (Below.refl _ w4).drew
  have made0 : ∀ W : World, w4.heap.size ≤ W.heap.size → (W.alloc (.cells #[] 24)).ownsRow w4.heap.size 24 1 (.slice (some ⟨W.heap.size, 0, none⟩) 0 0) 0 [] := fun W hW => World.ownsRow_made W #[] 0 hW (by unfold maxLen; omega) rfl
  have hln : (nums a).length = a.length := by simp [nums]
  have F1 : 0 + (nums a).length ≤ maxLen := by have := LA.out; unfold maxLen; omega
  have F2 : (0 + (nums a).length) * 8 ≤ 140737488355328 := by have := LA.out; omega
  have F3 : (0 + (nums a).length) + 1 ≤ maxLen := by have := LA.out; unfold maxLen; omega
  have F4 : ((0 + (nums a).length) + 1) * 8 ≤ 140737488355328 := by have := LA.out; omega
  have hwl : w.heap.size < w4.heap.size := (Array.getElem?_eq_some_iff.1 hS.2.2.2.1).1
  have litB : Kit.Sl ((w4.drew.alloc (.cells #[] 24)).alloc (.cells #[.int .u64 (n : Int)] 24)) (.slice (some ⟨w4.heap.size + 1, 0, none⟩) 1 1) [.int .u64 (n : Int)] := by
    have h := laid_sl (w4.drew.alloc (.cells #[] 24)) [n] 24
    rw [World.size_alloc] at h
    exact h
  have litC : Kit.Sl ((w4.drew.alloc (.cells #[.int .u64 (n : Int)] 24)).alloc (.cells #[] 24)) (.slice (some ⟨w4.heap.size, 0, none⟩) 1 1) [.int .u64 (n : Int)] := (laid_sl w4.drew [n] 24).below ((Below.refl _ _).alloc (Nat.le_refl _) _)
  have madeC : ((w4.drew.alloc (.cells #[.int .u64 (n : Int)] 24)).alloc (.cells #[] 24)).ownsRow w4.heap.size 24 1 (.slice (some ⟨w4.heap.size + 1, 0, none⟩) 0 0) 0 [] := by
    have h := made0 (w4.drew.alloc (.cells #[.int .u64 (n : Int)] 24)) le1
    rw [World.size_alloc] at h
    exact h
  have hMB : ∀ i, M.own i → i < w4.heap.size := fun i hi => h.lt hi
  go_region_held3 (fun w' => w'.cell? ⟨w.heap.size, 0, none⟩ = some dv ∧ w'.cell? ⟨w.heap.size, 1, none⟩ = some cv ∧ w'.cell? ⟨w.heap.size, 2, none⟩ = some (.int .u64 (key : Int)) ∧ w'.heap[w.heap.size]? = some (.cells #[dv, cv, .int .u64 (key : Int)] 26 (0, 0)) ∧ Below w.heap.size w w')
    (first | exact case_parts hS.2.2.2.1 hS.2.2.2.2.drew | exact case_below (by assumption) ((Below.refl _ _).alloc (Nat.le_refl _) _) | exact case_grown (by assumption) hg2 (fun k hk => Nat.lt_of_lt_of_le hwl (hown1.lt k hk).1) | exact case_grown (by assumption) hg1 (fun k hk => Nat.lt_of_lt_of_le hwl (by first | exact ((made0 _ le0).lt k hk).1 | exact (madeC.lt k hk).1)) | exact case_keep (by assumption) hM fr)
    (first
      | (refine Kit.step_append_sl rfl _ _ 22 rfl w4.heap.size 24 i0 (.int .u64 0) 8 Try.underlying22 hi hz0 hz1 hz2 rfl _ 0 [] rfl (by first | exact made0 _ le0 | exact (made0 _ le0).alloc _ | exact madeC) _ (nums a) rfl (RA.out.below (case_is (by assumption))) (nums_one a) F1 F2 (by first | exact (Kit.below_al q0 _).size | exact (Kit.below_al (Kit.below_al q0 _) _).size) ?_; intro v1 w1x hown1 hg1; have q1 : Below w4.heap.size w4 w1x := by first | exact (Kit.below_al q0 _).grown hg1 (Kit.below_al q0 _).size (fun k hk => by first | exact ((made0 _ le0).lt k hk).1 | exact (madeC.lt k hk).1) | exact (Kit.below_al (Kit.below_al q0 _) _).grown hg1 (Kit.below_al (Kit.below_al q0 _) _).size (fun k hk => by first | exact ((made0 _ le0).lt k hk).1 | exact (madeC.lt k hk).1))
      | (refine Kit.step_append_sl rfl _ _ 22 rfl w4.heap.size 24 i0 (.int .u64 0) 8 Try.underlying22 hi hz0 hz1 hz2 rfl v1 (0 + (nums a).length) ([] ++ nums a) rfl (by first | exact hown1 | exact hown1.alloc _) _ [.int .u64 (n : Int)] rfl (by first | exact laid_sl _ [n] 24 | exact litB.grown hg1 (fun k hk he => by have hh : (some w4.heap.size : Option Nat) = some (w4.heap.size + 1) := Eq.trans he (Eq.symm hk); simp at hh) | exact litC.grown hg1 (fun k hk he => by have hh : (some (w4.heap.size + 1) : Option Nat) = some w4.heap.size := Eq.trans he (Eq.symm hk); simp at hh)) (nums_one [n]) F3 F4 (by first | exact q1.size | exact (Kit.below_al q1 _).size) ?_; intro v2 w2x hown2 hg2; have q2 : Below w4.heap.size w4 w2x := by first | exact q1.grown hg2 q1.size (fun k hk => (hown1.lt k hk).1) | exact (Kit.below_al q1 _).grown hg2 (Kit.below_al q1 _).size (fun k hk => (hown1.lt k hk).1))
      | (go_at_call 13; refine (H2 M _ w4.heap.size v2 hMB hown2 (Orc.below h q2)).mono ?_; rintro r w6 ⟨rfl, h, fr⟩))
  all_goals (have hS := case_of h (by assumption))
  all_goals (clear H2)
  all_goals go_wp2_with fail
  all_goals (refine (HF _).mono ?_)
  all_goals (rintro r w7 ⟨rfl, fr7⟩)
  all_goals (have h := Orc.below h fr7)
  all_goals (have hS := case_below hS fr7)
  all_goals (have HD := o_drawn h)
  all_goals (obtain ⟨k1, k2, k3, k4⟩ := HG.out)
  all_goals (have g1 : decide ((O1.rows.length : Int) ≥ (O.rows.length : Int)) = true := by rw [decide_eq_true_iff]; omega)
  all_goals (have g2 : IntKind.i64.wrap ((O1.rows.length : Int) - (O.rows.length : Int)) = (O1.rows.length : Int) - (O.rows.length : Int) := by rw [IntKind.wrap_i64]; have := LA.out; omega)
  all_goals (have g3 : decide ((O1.rows.length : Int) - (O.rows.length : Int) ≤ (a.length : Int)) = true := by rw [decide_eq_true_iff]; omega)
  all_goals go_wp2_with fail
  all_goals (refine HD.mono ?_)
  all_goals (rintro r w8 ⟨rfl, fr8⟩)
  all_goals (have hS := case_below hS fr8)
  all_goals (have g4 : IntKind.i64.wrap ((O2.rows.length : Int) - (O1.rows.length : Int)) = (O2.rows.length : Int) - (O1.rows.length : Int) := by rw [IntKind.wrap_i64]; have := LA.out; omega)
  all_goals (have g5 : decide ((O2.rows.length : Int) - (O1.rows.length : Int) ≤ 1) = true := by rw [decide_eq_true_iff]; omega)
  all_goals (obtain ⟨-, -, -, -, fin⟩ := id hS)
  all_goals go_wp2
  all_goals go_ret
  all_goals exact ⟨rfl, fin⟩
end Go.Proofs.Ytkadkakkaodeeaa.Count4
