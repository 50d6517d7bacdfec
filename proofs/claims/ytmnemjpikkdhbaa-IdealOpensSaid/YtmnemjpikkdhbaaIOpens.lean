/-
  IdealOpens: what is sealed is opened as it was; with another key, nonce or ad, and by another value, it is not: the walk, for every input.
-/
import Derived.Test.YtmnemjpikkdhbaaIdJ
namespace Go.Proofs.Ytmnemjpikkdhbaa.Opens3
open Go.RowKit Go.ChangeShapes Go.WideShapes Go.ChangeAt
open Ideal Ida

theorem size_more (A : ByteArray) (hA : A.size ≤ 140737488355328) : (A ++ ⟨#[120]⟩).size ≤ maxLen := by
  rw [ByteArray.size_append]
  have : (⟨#[120]⟩ : ByteArray).size = 1 := rfl
  rw [this]
  unfold maxLen
  omega
theorem more_ne (A : ByteArray) : A ≠ (A ++ ⟨#[120]⟩) := by
  intro h
  have := congrArg ByteArray.size h
  rw [ByteArray.size_append] at this
  have h1 : (⟨#[120]⟩ : ByteArray).size = 1 := rfl
  rw [h1] at this
  omega
set_option maxHeartbeats 1000000 in
theorem setup (O : Or) (hi : O.Inv) (hf : O.fine) (hn : O.rows.length ≤ 200) (A B : ByteArray) (K L N : Nat) (hA : A.size ≤ 140737488355328) (hB : B.size ≤ maxLen) (hK : K < 18446744073709551616) (hL : L < 18446744073709551616) (hN : N < 18446744073709551616) :
    ∃ (c hh : Nat) (s0 s3 : ByteArray) (O1 O2 : Or), (∀ w M, Orc w M (O) → Calls Try.prog 21 #[ptr M, .int .u64 (K : Int), .int .u64 (N : Int), .string A, .string B] w fun r w' => r = .returned (.int .u64 (c : Int)) ∧ Orc w' M (O1) ∧ Kit.But M.own w w') ∧ (∀ w M, Orc w M (O1) → Calls Try.prog 23 #[ptr M, .int .u64 (K : Int), .int .u64 (N : Int), .string A, .int .u64 (c : Int)] w fun r w' => r = .returned (.tuple #[.string s0, .bool true]) ∧ Orc w' M (O1) ∧ Kit.But M.own w w') ∧ (∀ w M, Orc w M (O1) → Calls Try.prog 16 #[ptr M] w fun r w' => r = .returned (.bool (decide (0 < O1.bads))) ∧ Orc w' M (O1) ∧ Kit.But M.own w w') ∧ (O1.bads = 0 → s0 = B ∧ (∀ w M, Orc w M (O1) → Calls Try.prog 23 #[ptr M, .int .u64 (L : Int), .int .u64 (N : Int), .string A, .int .u64 (c : Int)] w fun r w' => r = .returned (.tuple #[.string s3, .bool (decide (K = L))]) ∧ Orc w' M (O1) ∧ Kit.But M.own w w') ∧ (∀ w M, Orc w M (O1) → Calls Try.prog 23 #[ptr M, .int .u64 (K : Int), .int .u64 (((N + 1) % 18446744073709551616 : Nat) : Int), .string A, .int .u64 (c : Int)] w fun r w' => r = .returned (.tuple #[.string .empty, .bool false]) ∧ Orc w' M (O1) ∧ Kit.But M.own w w') ∧ (∀ w M, Orc w M (O1) → Calls Try.prog 23 #[ptr M, .int .u64 (K : Int), .int .u64 (N : Int), .string (A ++ ⟨#[120]⟩), .int .u64 (c : Int)] w fun r w' => r = .returned (.tuple #[.string .empty, .bool false]) ∧ Orc w' M (O1) ∧ Kit.But M.own w w')) ∧ (∀ w M, Orc w M (O1) → Calls Try.prog 19 #[ptr M, .string A] w fun r w' => r = .returned (.int .u64 (hh : Int)) ∧ Orc w' M (O2) ∧ Kit.But M.own w w') ∧ (∀ w M, Orc w M (O2) → Calls Try.prog 16 #[ptr M] w fun r w' => r = .returned (.bool (decide (0 < O2.bads))) ∧ Orc w' M (O2) ∧ Kit.But M.own w w') ∧ (O2.bads = 0 → (∀ w M, Orc w M (O2) → Calls Try.prog 23 #[ptr M, .int .u64 (K : Int), .int .u64 (N : Int), .string A, .int .u64 (hh : Int)] w fun r w' => r = .returned (.tuple #[.string .empty, .bool false]) ∧ Orc w' M (O2) ∧ Kit.But M.own w w')) := by
  have hA2 : A.size ≤ maxLen := by unfold maxLen; omega
  have l1 := Or.len_ask (O := O) (qs K N A B)
  have f1 := Or.fine_ask hf (by omega) (qs K N A B)
  have v1 := Or.val_lt hf (by omega) (qs K N A B)
  have v2 := Or.val_lt f1 (by omega) (qh A)
  have i1 := Or.inv_ask hi (qs K N A B)
  have i2 := Or.inv_ask i1 (qh A)
  have g1 : (O.ask (qs K N A B)).get (qs K N A B) = some (O.val (qs K N A B)) := Or.get_ask _
  have g2 : ((O.ask (qs K N A B)).ask (qh A)).get (qh A) = some ((O.ask (qs K N A B)).val (qh A)) := Or.get_ask _
  obtain ⟨s0, hs0⟩ := Or.plain_some (x := qs K N A B) rfl g1
  have s1 := Or.issued_of_get g1
  have s2 := Or.issued_of_get g2
  refine ⟨O.val (qs K N A B), (O.ask (qs K N A B)).val (qh A), s0, ((O.ask (qs K N A B)).plain L N A (O.val (qs K N A B))).getD .empty, O.ask (qs K N A B), (O.ask (qs K N A B)).ask (qh A),
    fun _ _ h => o_seal h (by omega) K hK N hN A hA2 B hB, ?_, fun _ _ h => c_bad h, ?_, fun _ _ h => o_hash h (by omega) A hA2, fun _ _ h => c_bad h, ?_⟩
  · intro w M h
    have := o_open h K hK N hN A hA2 _ v1
    rw [Or.reopen_issued s1, show (O.ask (qs K N A B)).plain K N A (O.val (qs K N A B)) = some s0 from hs0] at this
    exact this
  · intro hb
    have P := fun k n a => Or.plain_get i1 hb g1 k n a
    refine ⟨?_, fun w M h => ?_, fun w M h => ?_, fun w M h => ?_⟩
    · have h := hs0.symm.trans (P K N A)
      rw [if_pos ⟨rfl, rfl, rfl, rfl⟩] at h
      exact Option.some.inj h
    · have := o_open h L hL N hN A hA2 _ v1
      rw [Or.reopen_issued s1] at this
      have e : ((O.ask (qs K N A B)).plain L N A (O.val (qs K N A B))).isSome = decide (K = L) := by
        rw [P]
        by_cases hk : K = L
        · rw [if_pos ⟨rfl, hk, rfl, rfl⟩]; simp [hk]
        · rw [if_neg (fun h => hk h.2.1)]; simp [hk]
      rw [e] at this
      exact this
    · have := o_open h K hK ((N + 1) % 18446744073709551616 : Nat) (Nat.mod_lt _ (by decide)) A hA2 _ v1
      rw [Or.reopen_issued s1, P, if_neg (fun h => by have := h.2.2.1; simp only [qs] at this; omega)] at this
      exact this
    · have := o_open h K hK N hN (A ++ ⟨#[120]⟩) (size_more A hA) _ v1
      rw [Or.reopen_issued s1, P, if_neg (fun h => more_ne A h.2.2.2)] at this
      exact this
  · intro hb w M h
    have := o_open h K hK N hN A hA2 _ v2
    rw [Or.reopen_issued s2, Or.plain_get i2 hb g2, if_neg (fun h => by have := h.1; simp [qh] at this)] at this
    exact this

set_option maxRecDepth 100000 in
set_option maxHeartbeats 16000000 in
theorem opens_any (l : List Nat) (hl : l.length * 8 ≤ 140737488355328) (hx : ∀ x ∈ l, x < 18446744073709551616) (cl : List Cl) (hcl : ∀ c ∈ cl, CallFine c) (A B : ByteArray) (K L N : Nat) (hA : A.size ≤ 140737488355328) (hB : B.size ≤ maxLen) (hK : K < 18446744073709551616) (hL : L < 18446744073709551616) (hN : N < 18446744073709551616)
    (v vc : Value) (w : World) (hv : Kit.Sl w v (nums l)) (hvc : Cls w vc cl) :
    Calls Try.prog 5 #[v, vc, .agg #[.string A, .string B, .int .u64 (K : Int), .int .u64 (L : Int), .int .u64 (N : Int)]] w fun e w' => e = .returned (.bool true) ∧ Below w.heap.size w w' := by
  have c0 : Below w.heap.size w (w.alloc (.cells #[.string A, .string B, .int .u64 (K : Int), .int .u64 (L : Int), .int .u64 (N : Int)] 37)) := (Below.refl _ w).alloc (Nat.le_refl _) _
  have bx : (w.alloc (.cells #[.string A, .string B, .int .u64 (K : Int), .int .u64 (L : Int), .int .u64 (N : Int)] 37)).heap[w.heap.size]? = some (.cells #[.string A, .string B, .int .u64 (K : Int), .int .u64 (L : Int), .int .u64 (N : Int)] 37 (0, 0)) := (MapKept.heap_alloc w _).1
  have HP := played_any l hl hx cl hcl v vc _ (hv.below c0) (hvc.below c0)
  have hlen := played_len l hx cl
  obtain ⟨c, hh, s0, s3, O1, O2, H1, H2, HB, HG, H6, HB2, HG2⟩ := setup _ (Or.inv_play (cl.take 200) _ (Or.inv_new l)) (Or.fine_play (cl.take 200) (Or.new l) (Or.fine_new hx) (by simp [Or.new, List.length_take]; omega)).1 hlen A B K L N hA hB hK hL hN
  generalize (Or.new l).play (cl.take 200) = O at *
  have HF := fixed_any
  obtain ⟨ac, cc, rfl, -⟩ := id hvc
  have hw1 : IntKind.u64.wrap ((N : Int) + 1) = (((N + 1) % 18446744073709551616 : Nat) : Int) := by simp only [IntKind.wrap_u64]; omega
  generalize (N + 1) % 18446744073709551616 = N1 at *
  have hA3 : (9223372036854775807 < (A.size : Int) + 1) = False := eq_false (by omega)
  have hA4 : (9223372036854775807 < A.size + 1) = False := eq_false (by omega)
  clear hlen hA hB hK hL hN hl hx hcl hv hvc
  have C0 := Lib.hid c0
  have BX := Lib.hid bx
  clear c0 bx
  go_enter Try.func5, Try.ntmps5
  go_wp2_with fail
  refine HP.mono ?_
  rintro r w1 ⟨M, rfl, h, hin, hb⟩
  have hM : ∀ i, M.own i → w.heap.size < i := fun i hi => by have := (hin.own i hi).1; simp at this; omega
  have hS := two_parts (w := w) (w' := w1) (A := A) (B := B) (K := K) (L := L) (N := N) ((hb.block _ (by simp)).trans BX.out) (C0.out.trans (hb.mono C0.out.size))
  clear HP hin hb
  have HG := Lib.hid HG
  have HG2 := Lib.hid HG2
  obtain ⟨x0, x1, x2, x3, x4, -, -⟩ := id hS
  go_wp2_with fail
  refine (H1 _ _ h).mono ?_
  clear h
  rintro r w2 ⟨rfl, h, fr⟩
  have hS := two_keep hS hM fr
  clear fr x0 x1 x2 x3 x4 H1
  obtain ⟨x0, x1, x2, x3, x4, -, -⟩ := id hS
  go_wp2_with fail
  refine (H2 _ _ h).mono ?_
  clear h
  rintro r w3 ⟨rfl, h, fr⟩
  have hS := two_keep hS hM fr
  clear fr x0 x1 x2 x3 x4 H2
  go_wp2_with fail
  refine (HF _).mono ?_
  rintro r w4 ⟨rfl, fr⟩
  have h := Orc.below h fr
  have hS := two_below hS fr
  clear fr
  by_cases hz : O1.bads = 0
  · rw [show decide (0 < O1.bads) = false by rw [hz]; rfl] at HB
    obtain ⟨rfl, G3, G4, G5⟩ := HG.out hz
    clear hz HG
    obtain ⟨x0, x1, x2, x3, x4, -, -⟩ := id hS
    go_wp2_with fail
    refine (HB _ _ h).mono ?_
    clear h
    rintro r w5 ⟨rfl, h, fr⟩
    have hS := two_keep hS hM fr
    clear fr x0 x1 x2 x3 x4 HB
    obtain ⟨x0, x1, x2, x3, x4, -, -⟩ := id hS
    go_wp2_with fail
    refine (G3 _ _ h).mono ?_
    clear h
    rintro r w6 ⟨rfl, h, fr⟩
    have hS := two_keep hS hM fr
    clear fr x0 x1 x2 x3 x4 G3
    obtain ⟨x0, x1, x2, x3, x4, -, -⟩ := id hS
    go_wp2_with fail
    refine (G4 _ _ h).mono ?_
    clear h
    rintro r w7 ⟨rfl, h, fr⟩
    have hS := two_keep hS hM fr
    clear fr x0 x1 x2 x3 x4 G4
    obtain ⟨x0, x1, x2, x3, x4, -, -⟩ := id hS
    go_wp2_with fail
    refine (G5 _ _ h).mono ?_
    clear h
    rintro r w8 ⟨rfl, h, fr⟩
    have hS := two_keep hS hM fr
    clear fr x0 x1 x2 x3 x4 G5
    obtain ⟨x0, x1, x2, x3, x4, -, -⟩ := id hS
    go_wp2_with fail
    refine (H6 _ _ h).mono ?_
    clear h
    rintro r w9 ⟨rfl, h, fr⟩
    have hS := two_keep hS hM fr
    clear fr x0 x1 x2 x3 x4 H6
    by_cases hz : O2.bads = 0
    · rw [show decide (0 < O2.bads) = false by rw [hz]; rfl] at HB2
      have G7 := HG2.out hz
      clear hz HG2
      obtain ⟨x0, x1, x2, x3, x4, -, -⟩ := id hS
      go_wp2_with fail
      refine (HB2 _ _ h).mono ?_
      clear h
      rintro r w10 ⟨rfl, h, fr⟩
      have hS := two_keep hS hM fr
      clear fr x0 x1 x2 x3 x4 HB2
      obtain ⟨x0, x1, x2, x3, x4, -, -⟩ := id hS
      go_wp2_with fail
      refine (G7 _ _ h).mono ?_
      clear h
      rintro r w11 ⟨rfl, h, fr⟩
      have hS := two_keep hS hM fr
      clear fr x0 x1 x2 x3 x4 G7
      by_cases hkl : K = L
      · have e1 : ((K : Int) == (L : Int)) = true := by rw [beq_iff_eq]; omega
        have e2 : decide (K = L) = true := by simp [hkl]
        clear hkl
        obtain ⟨x0, x1, x2, x3, x4, -, fin⟩ := id hS
        clear hS h
        go_wp2
        go_ret
        exact ⟨rfl, fin⟩
      · have e1 : ((K : Int) == (L : Int)) = false := by rw [beq_eq_false_iff_ne]; omega
        have e2 : decide (K = L) = false := by simp [hkl]
        clear hkl
        obtain ⟨x0, x1, x2, x3, x4, -, fin⟩ := id hS
        clear hS h
        go_wp2
        go_ret
        exact ⟨rfl, fin⟩
    · rw [show decide (0 < O2.bads) = true by rw [decide_eq_true_iff]; omega] at HB2
      clear hz HG2
      obtain ⟨x0, x1, x2, x3, x4, -, -⟩ := id hS
      go_wp2_with fail
      refine (HB2 _ _ h).mono ?_
      clear h
      rintro r w12 ⟨rfl, h, fr⟩
      have hS := two_keep hS hM fr
      clear fr x0 x1 x2 x3 x4 HB2
      obtain ⟨x0, x1, x2, x3, x4, -, fin⟩ := id hS
      clear hS h
      go_wp2
      go_ret
      exact ⟨rfl, fin⟩
  · rw [show decide (0 < O1.bads) = true by rw [decide_eq_true_iff]; omega] at HB
    clear hz HG
    obtain ⟨x0, x1, x2, x3, x4, -, -⟩ := id hS
    go_wp2_with fail
    refine (HB _ _ h).mono ?_
    clear h
    rintro r w13 ⟨rfl, h, fr⟩
    have hS := two_keep hS hM fr
    clear fr x0 x1 x2 x3 x4 HB
    go_wp2_with fail
    refine (HF _).mono ?_
    rintro r w14 ⟨rfl, fr⟩
    have h := Orc.below h fr
    have hS := two_below hS fr
    clear fr HF
    obtain ⟨x0, x1, x2, x3, x4, -, fin⟩ := id hS
    clear hS h
    go_wp2
    go_ret
    exact ⟨rfl, fin⟩
end Go.Proofs.Ytmnemjpikkdhbaa.Opens3
