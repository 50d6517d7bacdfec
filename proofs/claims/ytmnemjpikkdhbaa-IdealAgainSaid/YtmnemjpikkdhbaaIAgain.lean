/-
  IdealAgain: what is asked again is answered again, and draws nothing; a tag is verified as its own alone: the walk, for every input.
-/
import Derived.Test.YtmnemjpikkdhbaaIdJ
namespace Go.Proofs.Ytmnemjpikkdhbaa.Again3
open Go.RowKit Go.ChangeShapes Go.WideShapes Go.ChangeAt
open Ideal Ida

theorem setup (O : Or) (hi : O.Inv) (hf : O.fine) (hn : O.rows.length ≤ 200) (A B : ByteArray) (K N : Nat) (hA : A.size ≤ maxLen) (hB : B.size ≤ maxLen) (hK : K < 18446744073709551616) (hN : N < 18446744073709551616) :
    ∃ (a b c n : Nat) (O1 O2 O3 O4 O5 : Or), (∀ w M, Orc w M (O) → Calls Try.prog 19 #[ptr M, .string A] w fun r w' => r = .returned (.int .u64 (a : Int)) ∧ Orc w' M (O1) ∧ Kit.But M.own w w') ∧ (∀ w M, Orc w M (O1) → Calls Try.prog 20 #[ptr M, .int .u64 (K : Int), .string A] w fun r w' => r = .returned (.int .u64 (b : Int)) ∧ Orc w' M (O2) ∧ Kit.But M.own w w') ∧ (∀ w M, Orc w M (O2) → Calls Try.prog 21 #[ptr M, .int .u64 (K : Int), .int .u64 (N : Int), .string A, .string B] w fun r w' => r = .returned (.int .u64 (c : Int)) ∧ Orc w' M (O3) ∧ Kit.But M.own w w') ∧ (∀ w M, Orc w M (O3) → Calls Try.prog 14 #[ptr M] w fun r w' => r = .returned (.int .i64 (n : Int)) ∧ Orc w' M (O3) ∧ Kit.But M.own w w') ∧ (∀ w M, Orc w M (O3) → Calls Try.prog 19 #[ptr M, .string A] w fun r w' => r = .returned (.int .u64 (a : Int)) ∧ Orc w' M (O3) ∧ Kit.But M.own w w') ∧ (∀ w M, Orc w M (O3) → Calls Try.prog 20 #[ptr M, .int .u64 (K : Int), .string A] w fun r w' => r = .returned (.int .u64 (b : Int)) ∧ Orc w' M (O3) ∧ Kit.But M.own w w') ∧ (∀ w M, Orc w M (O3) → Calls Try.prog 21 #[ptr M, .int .u64 (K : Int), .int .u64 (N : Int), .string A, .string B] w fun r w' => r = .returned (.int .u64 (c : Int)) ∧ Orc w' M (O3) ∧ Kit.But M.own w w') ∧ (∀ w M, Orc w M (O3) → Calls Try.prog 24 #[ptr M, .int .u64 (K : Int), .string A, .int .u64 (b : Int)] w fun r w' => r = .returned (.bool true) ∧ Orc w' M (O3) ∧ Kit.But M.own w w') ∧ (∀ w M, Orc w M (O3) → Calls Try.prog 16 #[ptr M] w fun r w' => r = .returned (.bool (decide (0 < O3.bads))) ∧ Orc w' M (O3) ∧ Kit.But M.own w w') ∧ (O3.bads = 0 → (∀ w M, Orc w M (O3) → Calls Try.prog 24 #[ptr M, .int .u64 (K : Int), .string A, .int .u64 (a : Int)] w fun r w' => r = .returned (.bool false) ∧ Orc w' M (O4) ∧ Kit.But M.own w w') ∧ (∀ w M, Orc w M (O4) → Calls Try.prog 24 #[ptr M, .int .u64 (K : Int), .string A, .int .u64 (c : Int)] w fun r w' => r = .returned (.bool false) ∧ Orc w' M (O5) ∧ Kit.But M.own w w') ∧ (∀ w M, Orc w M (O5) → Calls Try.prog 14 #[ptr M] w fun r w' => r = .returned (.int .i64 (n : Int)) ∧ Orc w' M (O5) ∧ Kit.But M.own w w')) := by
  have l1 := Or.len_ask (O := O) (qh A)
  have l2 := Or.len_ask (O := O.ask (qh A)) (qm K A)
  have l3 := Or.len_ask (O := (O.ask (qh A)).ask (qm K A)) (qs K N A B)
  have f1 := Or.fine_ask hf (by omega) (qh A)
  have f2 := Or.fine_ask f1 (by omega) (qm K A)
  have v1 := Or.val_lt hf (by omega) (qh A)
  have v2 := Or.val_lt f1 (by omega) (qm K A)
  have v3 := Or.val_lt f2 (by omega) (qs K N A B)
  have i3 := Or.inv_ask (Or.inv_ask (Or.inv_ask hi (qh A)) (qm K A)) (qs K N A B)
  have g1 : (((O.ask (qh A)).ask (qm K A)).ask (qs K N A B)).get (qh A) = some (O.val (qh A)) := Or.get_ask_old (Or.get_ask_old (Or.get_ask _))
  have g2 : (((O.ask (qh A)).ask (qm K A)).ask (qs K N A B)).get (qm K A) = some ((O.ask (qh A)).val (qm K A)) := Or.get_ask_old (Or.get_ask _)
  have g3 : (((O.ask (qh A)).ask (qm K A)).ask (qs K N A B)).get (qs K N A B) = some (((O.ask (qh A)).ask (qm K A)).val (qs K N A B)) := Or.get_ask _
  refine ⟨O.val (qh A), (O.ask (qh A)).val (qm K A), ((O.ask (qh A)).ask (qm K A)).val (qs K N A B), (((O.ask (qh A)).ask (qm K A)).ask (qs K N A B)).rows.length, O.ask (qh A), (O.ask (qh A)).ask (qm K A), ((O.ask (qh A)).ask (qm K A)).ask (qs K N A B),
    (((O.ask (qh A)).ask (qm K A)).ask (qs K N A B)).meet (O.val (qh A)), ((((O.ask (qh A)).ask (qm K A)).ask (qs K N A B)).meet (O.val (qh A))).meet (((O.ask (qh A)).ask (qm K A)).val (qs K N A B)),
    fun _ _ h => o_hash h (by omega) A hA, fun _ _ h => o_mac h (by omega) K hK A hA, fun _ _ h => o_seal h (by omega) K hK N hN A hA B hB, fun _ _ h => c_drawn h, ?_, ?_, ?_, ?_, fun _ _ h => c_bad h, ?_⟩
  all_goals (generalize hO3 : ((O.ask (qh A)).ask (qm K A)).ask (qs K N A B) = O3 at *)
  · intro w M h
    have := o_hash h (by omega) A hA
    rw [Or.val_of_get g1, Or.ask_of_get g1] at this
    exact this
  · intro w M h
    have := o_mac h (by omega) K hK A hA
    rw [Or.val_of_get g2, Or.ask_of_get g2] at this
    exact this
  · intro w M h
    have := o_seal h (by omega) K hK N hN A hA B hB
    rw [Or.val_of_get g3, Or.ask_of_get g3] at this
    exact this
  · intro w M h
    have := o_verify h K hK A hA _ v2
    rw [show O3.verify K A ((O.ask (qh A)).val (qm K A)) = O3 by unfold Or.verify Or.isTag; rw [g2]; simp, show O3.isTag K A ((O.ask (qh A)).val (qm K A)) = true by unfold Or.isTag; rw [g2]; simp] at this
    exact this
  · intro hb
    have n1 : (some ((O.ask (qh A)).val (qm K A)) == some (O.val (qh A))) = false := by
      rw [beq_eq_false_iff_ne]
      intro h
      have h := Option.some.inj h
      have := (Or.get_inj i3 hb g1 (by rw [← h]; exact g2)).1
      simp [qh, qm] at this
    have n2 : (some ((O.ask (qh A)).val (qm K A)) == some (((O.ask (qh A)).ask (qm K A)).val (qs K N A B))) = false := by
      rw [beq_eq_false_iff_ne]
      intro h
      have h := Option.some.inj h
      have := (Or.get_inj i3 hb g3 (by rw [← h]; exact g2)).1
      simp [qs, qm] at this
    have g4 : (O3.meet (O.val (qh A))).get (qm K A) = some ((O.ask (qh A)).val (qm K A)) := by rw [Or.get_rows (Or.rows_meet _)]; exact g2
    refine ⟨fun w M h => ?_, fun w M h => ?_, fun w M h => ?_⟩
    · have := o_verify h K hK A hA _ v1
      rw [show O3.verify K A (O.val (qh A)) = O3.meet (O.val (qh A)) by unfold Or.verify Or.isTag; rw [g2, n1]; rfl, show O3.isTag K A (O.val (qh A)) = false by unfold Or.isTag; rw [g2, n1]] at this
      exact this
    · have := o_verify h K hK A hA _ v3
      rw [show (O3.meet (O.val (qh A))).verify K A (((O.ask (qh A)).ask (qm K A)).val (qs K N A B)) = (O3.meet (O.val (qh A))).meet (((O.ask (qh A)).ask (qm K A)).val (qs K N A B)) by unfold Or.verify Or.isTag; rw [g4, n2]; rfl, show (O3.meet (O.val (qh A))).isTag K A (((O.ask (qh A)).ask (qm K A)).val (qs K N A B)) = false by unfold Or.isTag; rw [g4, n2]] at this
      exact this
    · have := c_drawn h
      rw [Or.rows_meet, Or.rows_meet] at this
      exact this

set_option maxRecDepth 100000 in
set_option maxHeartbeats 16000000 in
theorem again_any (l : List Nat) (hl : l.length * 8 ≤ 140737488355328) (hx : ∀ x ∈ l, x < 18446744073709551616) (cl : List Cl) (hcl : ∀ c ∈ cl, CallFine c) (A B : ByteArray) (K L N : Nat) (hA : A.size ≤ maxLen) (hB : B.size ≤ maxLen) (hK : K < 18446744073709551616) (hN : N < 18446744073709551616)
    (v vc : Value) (w : World) (hv : Kit.Sl w v (nums l)) (hvc : Cls w vc cl) :
    Calls Try.prog 6 #[v, vc, .agg #[.string A, .string B, .int .u64 (K : Int), .int .u64 (L : Int), .int .u64 (N : Int)]] w fun e w' => e = .returned (.bool true) ∧ Below w.heap.size w w' := by
  have c0 : Below w.heap.size w (w.alloc (.cells #[.string A, .string B, .int .u64 (K : Int), .int .u64 (L : Int), .int .u64 (N : Int)] 37)) := (Below.refl _ w).alloc (Nat.le_refl _) _
  have bx : (w.alloc (.cells #[.string A, .string B, .int .u64 (K : Int), .int .u64 (L : Int), .int .u64 (N : Int)] 37)).heap[w.heap.size]? = some (.cells #[.string A, .string B, .int .u64 (K : Int), .int .u64 (L : Int), .int .u64 (N : Int)] 37 (0, 0)) := (MapKept.heap_alloc w _).1
  have HP := played_any l hl hx cl hcl v vc _ (hv.below c0) (hvc.below c0)
  have hlen := played_len l hx cl
  obtain ⟨a, b, c, n, O1, O2, O3, O4, O5, H1, H2, H3, HD, R1, R2, R3, HV, HB, HG⟩ := setup _ (Or.inv_play (cl.take 200) _ (Or.inv_new l)) (Or.fine_play (cl.take 200) (Or.new l) (Or.fine_new hx) (by simp [Or.new, List.length_take]; omega)).1 hlen A B K N hA hB hK hN
  generalize (Or.new l).play (cl.take 200) = O at *
  have HF := fixed_any
  obtain ⟨ac, cc, rfl, -⟩ := id hvc
  clear hlen hA hB hK hN hl hx hcl hv hvc
  have C0 := Lib.hid c0
  have BX := Lib.hid bx
  clear c0 bx
  go_enter Try.func6, Try.ntmps6
  go_wp2_with fail
  refine HP.mono ?_
  rintro r w1 ⟨M, rfl, h, hin, hb⟩
  have hM : ∀ i, M.own i → w.heap.size < i := fun i hi => by have := (hin.own i hi).1; simp at this; omega
  have hS := two_parts (w := w) (w' := w1) (A := A) (B := B) (K := K) (L := L) (N := N) ((hb.block _ (by simp)).trans BX.out) (C0.out.trans (hb.mono C0.out.size))
  clear HP hin hb
  have HG := Lib.hid HG
  have hd := h.drew
  go_upto_region 2 with (fail)
  go_region_held3 (fun w' => w'.cell? ⟨w.heap.size, 0, none⟩ = some (.string A) ∧ w'.cell? ⟨w.heap.size, 1, none⟩ = some (.string B) ∧ w'.cell? ⟨w.heap.size, 2, none⟩ = some (.int .u64 (K : Int)) ∧ w'.cell? ⟨w.heap.size, 3, none⟩ = some (.int .u64 (L : Int)) ∧ w'.cell? ⟨w.heap.size, 4, none⟩ = some (.int .u64 (N : Int)) ∧ w'.heap[w.heap.size]? = some (.cells #[.string A, .string B, .int .u64 (K : Int), .int .u64 (L : Int), .int .u64 (N : Int)] 37 (0, 0)) ∧ Below w.heap.size w w')
    (first | exact two_parts hS.2.2.2.2.2.1 hS.2.2.2.2.2.2.drew | exact two_keep (by assumption) hM fr)
    (first
      | (go_at_call 21; refine (H3 _ _ h2x).mono ?_; rintro r w' ⟨rfl, h, fr⟩)
      | (go_at_call 20; refine (H2 _ _ h1x).mono ?_; rintro r w' ⟨rfl, h2x, fr⟩)
      | (go_at_call 19; refine (H1 _ _ hd).mono ?_; rintro r w' ⟨rfl, h1x, fr⟩))
  have hS := two_of h (by assumption)
  clear H1 H2 H3
  obtain ⟨x0, x1, x2, x3, x4, -, -⟩ := id hS
  go_wp2_with fail
  refine (HD _ _ h).mono ?_
  clear h
  rintro r w2 ⟨rfl, h, fr⟩
  have hS := two_keep hS hM fr
  clear fr x0 x1 x2 x3 x4
  obtain ⟨x0, x1, x2, x3, x4, -, -⟩ := id hS
  go_wp2_with fail
  refine (R1 _ _ h).mono ?_
  clear h
  rintro r w3 ⟨rfl, h, fr⟩
  have hS := two_keep hS hM fr
  clear fr x0 x1 x2 x3 x4 R1
  obtain ⟨x0, x1, x2, x3, x4, -, -⟩ := id hS
  go_wp2_with fail
  refine (R2 _ _ h).mono ?_
  clear h
  rintro r w4 ⟨rfl, h, fr⟩
  have hS := two_keep hS hM fr
  clear fr x0 x1 x2 x3 x4 R2
  obtain ⟨x0, x1, x2, x3, x4, -, -⟩ := id hS
  go_wp2_with fail
  refine (R3 _ _ h).mono ?_
  clear h
  rintro r w5 ⟨rfl, h, fr⟩
  have hS := two_keep hS hM fr
  clear fr x0 x1 x2 x3 x4 R3
  obtain ⟨x0, x1, x2, x3, x4, -, -⟩ := id hS
  go_wp2_with fail
  refine (HD _ _ h).mono ?_
  clear h
  rintro r w6 ⟨rfl, h, fr⟩
  have hS := two_keep hS hM fr
  clear fr x0 x1 x2 x3 x4 HD
  go_wp2_with fail
  refine (HF _).mono ?_
  rintro r w7 ⟨rfl, fr⟩
  have h := Orc.below h fr
  have hS := two_below hS fr
  clear fr HF
  obtain ⟨x0, x1, x2, x3, x4, -, -⟩ := id hS
  go_wp2_with fail
  refine (HV _ _ h).mono ?_
  clear h
  rintro r w8 ⟨rfl, h, fr⟩
  have hS := two_keep hS hM fr
  clear fr x0 x1 x2 x3 x4 HV
  by_cases hz : O3.bads = 0
  · rw [show decide (0 < O3.bads) = false by rw [hz]; rfl] at HB
    obtain ⟨G1, G2, G3⟩ := HG.out hz
    clear hz HG
    obtain ⟨x0, x1, x2, x3, x4, -, -⟩ := id hS
    go_wp2_with fail
    refine (HB _ _ h).mono ?_
    clear h
    rintro r w9 ⟨rfl, h, fr⟩
    have hS := two_keep hS hM fr
    clear fr x0 x1 x2 x3 x4 HB
    obtain ⟨x0, x1, x2, x3, x4, -, -⟩ := id hS
    go_wp2_with fail
    refine (G1 _ _ h).mono ?_
    clear h
    rintro r w10 ⟨rfl, h, fr⟩
    have hS := two_keep hS hM fr
    clear fr x0 x1 x2 x3 x4 G1
    obtain ⟨x0, x1, x2, x3, x4, -, -⟩ := id hS
    go_wp2_with fail
    refine (G2 _ _ h).mono ?_
    clear h
    rintro r w11 ⟨rfl, h, fr⟩
    have hS := two_keep hS hM fr
    clear fr x0 x1 x2 x3 x4 G2
    obtain ⟨x0, x1, x2, x3, x4, -, -⟩ := id hS
    go_wp2_with fail
    refine (G3 _ _ h).mono ?_
    clear h
    rintro r w12 ⟨rfl, h, fr⟩
    have hS := two_keep hS hM fr
    clear fr x0 x1 x2 x3 x4 G3
    obtain ⟨x0, x1, x2, x3, x4, -, fin⟩ := id hS
    clear hS h
    go_wp2
    go_ret
    exact ⟨rfl, fin⟩
  · rw [show decide (0 < O3.bads) = true by rw [decide_eq_true_iff]; omega] at HB
    clear hz HG
    obtain ⟨x0, x1, x2, x3, x4, -, -⟩ := id hS
    go_wp2_with fail
    refine (HB _ _ h).mono ?_
    clear h
    rintro r w13 ⟨rfl, h, fr⟩
    have hS := two_keep hS hM fr
    clear fr x0 x1 x2 x3 x4 HB
    obtain ⟨x0, x1, x2, x3, x4, -, fin⟩ := id hS
    clear hS h
    go_wp2
    go_ret
    exact ⟨rfl, fin⟩
end Go.Proofs.Ytmnemjpikkdhbaa.Again3
