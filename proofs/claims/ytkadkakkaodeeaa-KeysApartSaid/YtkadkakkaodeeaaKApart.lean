/-
  KeysApart: if nothing bad happened unlike numbers lead to unlike keys, also where the one's begin the other's: the walk, for every input.
-/
import Derived.Test.YtkadkakkaodeeaaKeyC
namespace Go.Proofs.Ytkadkakkaodeeaa.Apart4
open Go.RowKit Go.ChangeShapes Go.WideShapes Go.ChangeAt
open Ideal Ida Kya

theorem setup (w : World) (O : Or) (hi : O.Inv) (key : Nat) (hk : O.Met key) (hn : O.rows.length ≤ 200) (hkey : key < 18446744073709551616) (a b : List Nat) (la : a.length * 8 ≤ 140737488355328) (lb : b.length * 8 ≤ 140737488355328) (ha : ∀ x ∈ a, x < 18446744073709551616) (hb : ∀ x ∈ b, x < 18446744073709551616) (va vb : Value) (ra : Kit.Rd w va (nums a)) (rb : Kit.Rd w vb (nums b)) :
    ∃ (x y : Nat) (O1 O2 : Or), (∀ M w', (∀ i, M.own i → w.heap.size < i) → Below w.heap.size w w' → Orc w' M (O) → Calls Try.prog 13 #[ptr M, .int .u64 (key : Int), va] w' fun r w'' => r = .returned (.int .u64 (x : Int)) ∧ Orc w'' M (O1) ∧ Kit.But M.own w' w'') ∧ (∀ M w', (∀ i, M.own i → w.heap.size < i) → Below w.heap.size w w' → Orc w' M (O1) → Calls Try.prog 13 #[ptr M, .int .u64 (key : Int), vb] w' fun r w'' => r = .returned (.int .u64 (y : Int)) ∧ Orc w'' M (O2) ∧ Kit.But M.own w' w'') ∧ (O2.bads = 0 → (x = y ↔ a = b)) := by
  have h1 := (Or.len_derive a O key).2
  refine ⟨O.key key a, (O.derive key a).key key b, O.derive key a, (O.derive key a).derive key b, ?_, ?_, keys_apart O hi key hk a b ha hb⟩
  · intro M w' hm hw h
    exact derive_any h key hkey a (by omega) ha va (ra.below hw) (arg_off ra hm)
  · intro M w' hm hw h
    exact derive_any h key hkey b (by omega) hb vb (rb.below hw) (arg_off rb hm)

set_option maxRecDepth 100000 in
set_option maxHeartbeats 8000000 in
theorem apart_any (l : List Nat) (hl : l.length * 8 ≤ 140737488355328) (hx : ∀ x ∈ l, x < 18446744073709551616) (cl : List Cl) (hcl : ∀ c ∈ cl, CallFine c) (key : Nat) (hkey : key < 18446744073709551616) (a b : List Nat) (la : a.length * 8 ≤ 140737488355328) (lb : b.length * 8 ≤ 140737488355328) (ha : ∀ x ∈ a, x < 18446744073709551616) (hb : ∀ x ∈ b, x < 18446744073709551616) (va vb : Value) (dv cv : Value) (w : World) (hv : Kit.Sl w dv (nums l)) (hvc : Cls w cv cl) (ra : Kit.Rd w va (nums a)) (rb : Kit.Rd w vb (nums b)) :
    Calls Try.prog 4 #[.agg #[dv, cv, .int .u64 (key : Int)], va, vb] w fun e w' => e = .returned (.bool true) ∧ Below w.heap.size w w' := by
  have HN := fun w' (hw : Below w.heap.size w w') => nums_is a b (by omega) va vb w' (ra.below hw) (rb.below hw)
  have c0 : Below w.heap.size w (w.alloc (.cells #[dv, cv, .int .u64 (key : Int)] 26)) := (Below.refl _ w).alloc (Nat.le_refl _) _
  have bx : (w.alloc (.cells #[dv, cv, .int .u64 (key : Int)] 26)).heap[w.heap.size]? = some (.cells #[dv, cv, .int .u64 (key : Int)] 26 (0, 0)) := (MapKept.heap_alloc w _).1
  have HP := played_any l hl hx cl hcl key hkey dv cv _ (hv.below c0) (hvc.below c0)
  have hlen := start_take l hx key cl
  obtain ⟨hinv, hmet⟩ := start_inv l key (cl.take 200)
  obtain ⟨x, y, O1, O2, H1, H2, HGG⟩ := setup w _ hinv key hmet hlen hkey a b la lb ha hb va vb ra rb
  generalize ((Or.new l).meet key).play (cl.take 200) = O at *
  have HF := fixed_any
  have HG := Lib.hid HGG
  clear hlen hinv hmet hl hx hcl hv hvc hkey HGG la lb ha hb ra rb
  have C0 := Lib.hid c0
  have BX := Lib.hid bx
  clear c0 bx
  go_enter Try.func4, Try.ntmps4
  go_wp2_with fail
  refine HP.mono ?_
  rintro r w1 ⟨M, rfl, h, hin, hb⟩
  have hM : ∀ i, M.own i → w.heap.size < i := fun i hi => by have := (hin.own i hi).1; simp at this; omega
  have hS := case_parts (w := w) (w' := w1) (dv := dv) (cv := cv) (key := key) ((hb.block _ (by simp)).trans BX.out) (C0.out.trans (hb.mono C0.out.size))
  clear HP hin hb
  have hd := h.drew
  go_upto_region 2 with (fail)
  go_region_held3 (fun w' => w'.cell? ⟨w.heap.size, 0, none⟩ = some dv ∧ w'.cell? ⟨w.heap.size, 1, none⟩ = some cv ∧ w'.cell? ⟨w.heap.size, 2, none⟩ = some (.int .u64 (key : Int)) ∧ w'.heap[w.heap.size]? = some (.cells #[dv, cv, .int .u64 (key : Int)] 26 (0, 0)) ∧ Below w.heap.size w w')
    (first | exact case_parts hS.2.2.2.1 hS.2.2.2.2.drew | exact case_keep (by assumption) hM fr)
    (first
      | (go_at_call 13; refine (H2 _ _ hM (case_is (by assumption)) h1x).mono ?_; rintro r w' ⟨rfl, h, fr⟩)
      | (go_at_call 13; refine (H1 _ _ hM (case_is (by assumption)) hd).mono ?_; rintro r w' ⟨rfl, h1x, fr⟩))
  have hS := case_of h (by assumption)
  clear H1 H2
  go_wp2_with fail
  refine (HF _).mono ?_
  rintro r w2 ⟨rfl, fr⟩
  have h := Orc.below h fr
  have hS := case_below hS fr
  clear fr
  have HB := o_bad h
  have HNN := HN _ (case_is hS)
  by_cases hz : O2.bads = 0
  · rw [show decide (0 < O2.bads) = false by rw [hz]; rfl] at HB
    have HX := HG.out hz
    clear hz HG
    go_wp2_with fail
    refine (HB).mono ?_
    rintro r w3 ⟨rfl, fr⟩
    have HNN := HN _ (case_is (case_below hS fr))
    have hS := case_below hS fr
    clear fr HB h
    by_cases hab : a = b
    · have e1 : ((x : Int) == (y : Int)) = true := by rw [beq_iff_eq]; have := HX.2 hab; omega
      rw [decide_eq_true hab] at HNN
      clear hab HX HN
      go_wp2_with fail
      refine (HNN).mono ?_
      rintro r w4 ⟨rfl, fr⟩
      have hS := case_below hS fr
      clear fr HNN
      obtain ⟨x0, x1, x2, -, fin⟩ := id hS
      clear hS
      go_wp2
      go_ret
      exact ⟨rfl, fin⟩
    · have e1 : ((x : Int) == (y : Int)) = false := by rw [beq_eq_false_iff_ne]; intro h; exact hab (HX.1 (by omega))
      rw [decide_eq_false hab] at HNN
      clear hab HX HN
      go_wp2_with fail
      refine (HNN).mono ?_
      rintro r w4 ⟨rfl, fr⟩
      have hS := case_below hS fr
      clear fr HNN
      obtain ⟨x0, x1, x2, -, fin⟩ := id hS
      clear hS
      go_wp2
      go_ret
      exact ⟨rfl, fin⟩
  · rw [show decide (0 < O2.bads) = true by rw [decide_eq_true_iff]; omega] at HB
    clear hz HG HN HNN
    go_wp2_with fail
    refine (HB).mono ?_
    rintro r w3 ⟨rfl, fr⟩
    have hS := case_below hS fr
    clear fr HB h
    obtain ⟨x0, x1, x2, -, fin⟩ := id hS
    clear hS
    go_wp2
    go_ret
    exact ⟨rfl, fin⟩
end Go.Proofs.Ytkadkakkaodeeaa.Apart4
