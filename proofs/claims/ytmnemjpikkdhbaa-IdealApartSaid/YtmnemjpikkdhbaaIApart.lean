/-
  IdealApart: behind any calls, if nothing bad happened: unlike texts have unlike hashes, unlike keys or texts unlike tags, and no value of one table is one of another one, or fresh. Proved for every input of the form's own reach, no other condition.
-/
import Derived.Test.YtmnemjpikkdhbaaIdH
import Derived.Test.YtmnemjpikkdhbaaIdI
import Derived.Deep.RegionHeld3
import Derived.Deep.DeepCutAuto
namespace Go.Proofs.Ytmnemjpikkdhbaa.Apart3
open Go.RowKit Go.ChangeShapes Go.WideShapes Go.ChangeAt
open Ideal Ida

theorem setup (O : Or) (hi : O.Inv) (hn : O.rows.length ≤ 200) (A B : ByteArray) (K L N : Nat) (hA : A.size ≤ maxLen) (hB : B.size ≤ maxLen) (hK : K < 18446744073709551616) (hL : L < 18446744073709551616) (hN : N < 18446744073709551616) :
    ∃ (a b c d e f g : Nat) (O1 O2 O3 O4 O5 O6 O7 : Or), (∀ w M, Orc w M O → Calls Try.prog 19 #[ptr M, .string A] w fun r w' => r = .returned (.int .u64 (a : Int)) ∧ Orc w' M O1 ∧ Kit.But M.own w w') ∧ (∀ w M, Orc w M O1 → Calls Try.prog 19 #[ptr M, .string B] w fun r w' => r = .returned (.int .u64 (b : Int)) ∧ Orc w' M O2 ∧ Kit.But M.own w w') ∧ (∀ w M, Orc w M O2 → Calls Try.prog 20 #[ptr M, .int .u64 (K : Int), .string A] w fun r w' => r = .returned (.int .u64 (c : Int)) ∧ Orc w' M O3 ∧ Kit.But M.own w w') ∧ (∀ w M, Orc w M O3 → Calls Try.prog 20 #[ptr M, .int .u64 (L : Int), .string B] w fun r w' => r = .returned (.int .u64 (d : Int)) ∧ Orc w' M O4 ∧ Kit.But M.own w w') ∧ (∀ w M, Orc w M O4 → Calls Try.prog 21 #[ptr M, .int .u64 (K : Int), .int .u64 (N : Int), .string A, .string B] w fun r w' => r = .returned (.int .u64 (e : Int)) ∧ Orc w' M O5 ∧ Kit.But M.own w w') ∧ (∀ w M, Orc w M O5 → Calls Try.prog 21 #[ptr M, .int .u64 (L : Int), .int .u64 (N : Int), .string A, .string B] w fun r w' => r = .returned (.int .u64 (f : Int)) ∧ Orc w' M O6 ∧ Kit.But M.own w w') ∧ (∀ w M, Orc w M O6 → Calls Try.prog 22 #[ptr M] w fun r w' => r = .returned (.int .u64 (g : Int)) ∧ Orc w' M O7 ∧ Kit.But M.own w w') ∧ (O7.bads = 0 → (a = b ↔ A = B) ∧ (c = d ↔ K = L ∧ A = B) ∧ (e = f ↔ K = L) ∧ a ≠ c ∧ a ≠ d ∧ a ≠ e ∧ a ≠ g ∧ b ≠ c ∧ b ≠ d ∧ b ≠ f ∧ c ≠ e ∧ c ≠ f ∧ d ≠ e ∧ d ≠ f ∧ c ≠ g ∧ e ≠ g ∧ f ≠ g) := by
  have l1 := Or.len_ask (O := O) (qh A)
  have l2 := Or.len_ask (O := (O.ask (qh A))) (qh B)
  have l3 := Or.len_ask (O := ((O.ask (qh A)).ask (qh B))) (qm K A)
  have l4 := Or.len_ask (O := (((O.ask (qh A)).ask (qh B)).ask (qm K A))) (qm L B)
  have l5 := Or.len_ask (O := ((((O.ask (qh A)).ask (qh B)).ask (qm K A)).ask (qm L B))) (qs K N A B)
  have l6 := Or.len_ask (O := (((((O.ask (qh A)).ask (qh B)).ask (qm K A)).ask (qm L B)).ask (qs K N A B))) (qs L N A B)
  exact ⟨O.val (qh A), (O.ask (qh A)).val (qh B), ((O.ask (qh A)).ask (qh B)).val (qm K A), (((O.ask (qh A)).ask (qh B)).ask (qm K A)).val (qm L B), ((((O.ask (qh A)).ask (qh B)).ask (qm K A)).ask (qm L B)).val (qs K N A B), (((((O.ask (qh A)).ask (qh B)).ask (qm K A)).ask (qm L B)).ask (qs K N A B)).val (qs L N A B), ((((((O.ask (qh A)).ask (qh B)).ask (qm K A)).ask (qm L B)).ask (qs K N A B)).ask (qs L N A B)).next, (O.ask (qh A)), ((O.ask (qh A)).ask (qh B)), (((O.ask (qh A)).ask (qh B)).ask (qm K A)), ((((O.ask (qh A)).ask (qh B)).ask (qm K A)).ask (qm L B)), (((((O.ask (qh A)).ask (qh B)).ask (qm K A)).ask (qm L B)).ask (qs K N A B)), ((((((O.ask (qh A)).ask (qh B)).ask (qm K A)).ask (qm L B)).ask (qs K N A B)).ask (qs L N A B)), (((((((O.ask (qh A)).ask (qh B)).ask (qm K A)).ask (qm L B)).ask (qs K N A B)).ask (qs L N A B)).draw q0),
    fun _ _ h => o_hash h (by omega) A hA, fun _ _ h => o_hash h (by omega) B hB, fun _ _ h => o_mac h (by omega) K hK A hA, fun _ _ h => o_mac h (by omega) L hL B hB, fun _ _ h => o_seal h (by omega) K hK N hN A hA B hB, fun _ _ h => o_seal h (by omega) L hL N hN A hA B hB, fun _ _ h => o_fresh h (by omega), apart_all O hi A B K L N⟩

/-- The argument's cells in a world. -/
theorem two_parts {w w' : World} {A B : ByteArray} {K L N : Nat} (h : w'.heap[w.heap.size]? = some (.cells #[.string A, .string B, .int .u64 (K : Int), .int .u64 (L : Int), .int .u64 (N : Int)] 37 (0, 0))) (hb : Below w.heap.size w w') : w'.cell? ⟨w.heap.size, 0, none⟩ = some (.string A) ∧ w'.cell? ⟨w.heap.size, 1, none⟩ = some (.string B) ∧ w'.cell? ⟨w.heap.size, 2, none⟩ = some (.int .u64 (K : Int)) ∧ w'.cell? ⟨w.heap.size, 3, none⟩ = some (.int .u64 (L : Int)) ∧ w'.cell? ⟨w.heap.size, 4, none⟩ = some (.int .u64 (N : Int)) ∧ w'.heap[w.heap.size]? = some (.cells #[.string A, .string B, .int .u64 (K : Int), .int .u64 (L : Int), .int .u64 (N : Int)] 37 (0, 0)) ∧ Below w.heap.size w w' := by
  refine ⟨?_, ?_, ?_, ?_, ?_, h, hb⟩
  iterate 5 (rw [Lib.cell_of_heap h]; rfl)
theorem two_keep {w w' w'' : World} {A B : ByteArray} {K L N : Nat} {M : Lay} (h : w'.cell? ⟨w.heap.size, 0, none⟩ = some (.string A) ∧ w'.cell? ⟨w.heap.size, 1, none⟩ = some (.string B) ∧ w'.cell? ⟨w.heap.size, 2, none⟩ = some (.int .u64 (K : Int)) ∧ w'.cell? ⟨w.heap.size, 3, none⟩ = some (.int .u64 (L : Int)) ∧ w'.cell? ⟨w.heap.size, 4, none⟩ = some (.int .u64 (N : Int)) ∧ w'.heap[w.heap.size]? = some (.cells #[.string A, .string B, .int .u64 (K : Int), .int .u64 (L : Int), .int .u64 (N : Int)] 37 (0, 0)) ∧ Below w.heap.size w w') (hm : ∀ i, M.own i → w.heap.size < i) (b : Kit.But M.own w' w'') : w''.cell? ⟨w.heap.size, 0, none⟩ = some (.string A) ∧ w''.cell? ⟨w.heap.size, 1, none⟩ = some (.string B) ∧ w''.cell? ⟨w.heap.size, 2, none⟩ = some (.int .u64 (K : Int)) ∧ w''.cell? ⟨w.heap.size, 3, none⟩ = some (.int .u64 (L : Int)) ∧ w''.cell? ⟨w.heap.size, 4, none⟩ = some (.int .u64 (N : Int)) ∧ w''.heap[w.heap.size]? = some (.cells #[.string A, .string B, .int .u64 (K : Int), .int .u64 (L : Int), .int .u64 (N : Int)] 37 (0, 0)) ∧ Below w.heap.size w w'' := by
  obtain ⟨-, -, -, -, -, h, hb⟩ := h
  have hlt : w.heap.size < w'.heap.size := (Array.getElem?_eq_some_iff.1 h).1
  exact two_parts ((b.block _ hlt (fun ho => Nat.lt_irrefl _ (hm _ ho))).trans h) (hb.trans (b.below hb.size (fun i hi => Nat.le_of_lt (hm i hi))))
theorem two_below {w w' w'' : World} {A B : ByteArray} {K L N : Nat} (h : w'.cell? ⟨w.heap.size, 0, none⟩ = some (.string A) ∧ w'.cell? ⟨w.heap.size, 1, none⟩ = some (.string B) ∧ w'.cell? ⟨w.heap.size, 2, none⟩ = some (.int .u64 (K : Int)) ∧ w'.cell? ⟨w.heap.size, 3, none⟩ = some (.int .u64 (L : Int)) ∧ w'.cell? ⟨w.heap.size, 4, none⟩ = some (.int .u64 (N : Int)) ∧ w'.heap[w.heap.size]? = some (.cells #[.string A, .string B, .int .u64 (K : Int), .int .u64 (L : Int), .int .u64 (N : Int)] 37 (0, 0)) ∧ Below w.heap.size w w') (b : Below w'.heap.size w' w'') : w''.cell? ⟨w.heap.size, 0, none⟩ = some (.string A) ∧ w''.cell? ⟨w.heap.size, 1, none⟩ = some (.string B) ∧ w''.cell? ⟨w.heap.size, 2, none⟩ = some (.int .u64 (K : Int)) ∧ w''.cell? ⟨w.heap.size, 3, none⟩ = some (.int .u64 (L : Int)) ∧ w''.cell? ⟨w.heap.size, 4, none⟩ = some (.int .u64 (N : Int)) ∧ w''.heap[w.heap.size]? = some (.cells #[.string A, .string B, .int .u64 (K : Int), .int .u64 (L : Int), .int .u64 (N : Int)] 37 (0, 0)) ∧ Below w.heap.size w w'' := by
  obtain ⟨-, -, -, -, -, h, hb⟩ := h
  have hlt : w.heap.size < w'.heap.size := (Array.getElem?_eq_some_iff.1 h).1
  exact two_parts ((b.block _ hlt).trans h) (hb.trans (b.mono hb.size))
theorem two_of {w w' : World} {A B : ByteArray} {K L N : Nat} {M : Lay} {O : Or} (_ : Orc w' M O) (h : w'.cell? ⟨w.heap.size, 0, none⟩ = some (.string A) ∧ w'.cell? ⟨w.heap.size, 1, none⟩ = some (.string B) ∧ w'.cell? ⟨w.heap.size, 2, none⟩ = some (.int .u64 (K : Int)) ∧ w'.cell? ⟨w.heap.size, 3, none⟩ = some (.int .u64 (L : Int)) ∧ w'.cell? ⟨w.heap.size, 4, none⟩ = some (.int .u64 (N : Int)) ∧ w'.heap[w.heap.size]? = some (.cells #[.string A, .string B, .int .u64 (K : Int), .int .u64 (L : Int), .int .u64 (N : Int)] 37 (0, 0)) ∧ Below w.heap.size w w') : w'.cell? ⟨w.heap.size, 0, none⟩ = some (.string A) ∧ w'.cell? ⟨w.heap.size, 1, none⟩ = some (.string B) ∧ w'.cell? ⟨w.heap.size, 2, none⟩ = some (.int .u64 (K : Int)) ∧ w'.cell? ⟨w.heap.size, 3, none⟩ = some (.int .u64 (L : Int)) ∧ w'.cell? ⟨w.heap.size, 4, none⟩ = some (.int .u64 (N : Int)) ∧ w'.heap[w.heap.size]? = some (.cells #[.string A, .string B, .int .u64 (K : Int), .int .u64 (L : Int), .int .u64 (N : Int)] 37 (0, 0)) ∧ Below w.heap.size w w' := h

set_option maxRecDepth 100000 in
set_option maxHeartbeats 16000000 in
theorem apart_any (l : List Nat) (hl : l.length * 8 ≤ 140737488355328) (hx : ∀ x ∈ l, x < 18446744073709551616) (cl : List Cl) (hcl : ∀ c ∈ cl, CallFine c) (A B : ByteArray) (K L N : Nat) (hA : A.size ≤ maxLen) (hB : B.size ≤ maxLen) (hK : K < 18446744073709551616) (hL : L < 18446744073709551616) (hN : N < 18446744073709551616)
    (v vc : Value) (w : World) (hv : Kit.Sl w v (nums l)) (hvc : Cls w vc cl) :
    Calls Try.prog 4 #[v, vc, .agg #[.string A, .string B, .int .u64 (K : Int), .int .u64 (L : Int), .int .u64 (N : Int)]] w fun e w' => e = .returned (.bool true) ∧ Below w.heap.size w w' := by
  have c0 : Below w.heap.size w (w.alloc (.cells #[.string A, .string B, .int .u64 (K : Int), .int .u64 (L : Int), .int .u64 (N : Int)] 37)) := (Below.refl _ w).alloc (Nat.le_refl _) _
  have bx : (w.alloc (.cells #[.string A, .string B, .int .u64 (K : Int), .int .u64 (L : Int), .int .u64 (N : Int)] 37)).heap[w.heap.size]? = some (.cells #[.string A, .string B, .int .u64 (K : Int), .int .u64 (L : Int), .int .u64 (N : Int)] 37 (0, 0)) := (MapKept.heap_alloc w _).1
  have HP := played_any l hl hx cl hcl v vc _ (hv.below c0) (hvc.below c0)
  have hp := Or.fine_play (cl.take 200) (Or.new l) (Or.fine_new hx) (by simp [Or.new, List.length_take]; omega)
  have hlen : ((Or.new l).play (cl.take 200)).rows.length ≤ 200 := by
    have := hp.2
    simp only [Or.new, List.length_nil, List.length_take] at this
    show ((Or.mk l [] [] 0).play (cl.take 200)).rows.length ≤ 200
    omega
  obtain ⟨a, b, c, d, e, f, g, O1, O2, O3, O4, O5, O6, O7, H1, H2, H3, H4, H5, H6, H7, Hgood⟩ := setup _ (Or.inv_play (cl.take 200) _ (Or.inv_new l)) hlen A B K L N hA hB hK hL hN
  generalize (Or.new l).play (cl.take 200) = O at *
  have HF := fixed_any
  obtain ⟨ac, cc, rfl, -⟩ := id hvc
  clear hp hlen hA hB hK hL hN hl hx hcl hv hvc
  have C0 := Lib.hid c0
  have BX := Lib.hid bx
  have HG := Lib.hid Hgood
  clear c0 bx Hgood
  go_enter Try.func4, Try.ntmps4
  go_wp2_with fail
  refine HP.mono ?_
  rintro r w1 ⟨M, rfl, h, hin, hb⟩
  have hM : ∀ i, M.own i → w.heap.size < i := fun i hi => by have := (hin.own i hi).1; simp at this; omega
  have hS := two_parts (w := w) (w' := w1) (A := A) (B := B) (K := K) (L := L) (N := N) ((hb.block _ (by simp)).trans BX.out) (C0.out.trans (hb.mono C0.out.size))
  clear HP hin hb
  have hd := h.drew
  go_upto_region 2 with (fail)
  go_region_held3 (fun w' => w'.cell? ⟨w.heap.size, 0, none⟩ = some (.string A) ∧ w'.cell? ⟨w.heap.size, 1, none⟩ = some (.string B) ∧ w'.cell? ⟨w.heap.size, 2, none⟩ = some (.int .u64 (K : Int)) ∧ w'.cell? ⟨w.heap.size, 3, none⟩ = some (.int .u64 (L : Int)) ∧ w'.cell? ⟨w.heap.size, 4, none⟩ = some (.int .u64 (N : Int)) ∧ w'.heap[w.heap.size]? = some (.cells #[.string A, .string B, .int .u64 (K : Int), .int .u64 (L : Int), .int .u64 (N : Int)] 37 (0, 0)) ∧ Below w.heap.size w w')
    (first | exact two_parts hS.2.2.2.2.2.1 hS.2.2.2.2.2.2.drew | exact two_keep (by assumption) hM fr)
    (first
      | (go_at_call 19; refine (H2 _ _ h1x).mono ?_; rintro r w' ⟨rfl, h, fr⟩)
      | (go_at_call 19; refine (H1 _ _ hd).mono ?_; rintro r w' ⟨rfl, h1x, fr⟩))
  have hS := two_of h (by assumption)
  have hd := h.drew
  go_upto_region 3 with (fail)
  go_region_held3 (fun w' => w'.cell? ⟨w.heap.size, 0, none⟩ = some (.string A) ∧ w'.cell? ⟨w.heap.size, 1, none⟩ = some (.string B) ∧ w'.cell? ⟨w.heap.size, 2, none⟩ = some (.int .u64 (K : Int)) ∧ w'.cell? ⟨w.heap.size, 3, none⟩ = some (.int .u64 (L : Int)) ∧ w'.cell? ⟨w.heap.size, 4, none⟩ = some (.int .u64 (N : Int)) ∧ w'.heap[w.heap.size]? = some (.cells #[.string A, .string B, .int .u64 (K : Int), .int .u64 (L : Int), .int .u64 (N : Int)] 37 (0, 0)) ∧ Below w.heap.size w w')
    (first | exact two_parts hS.2.2.2.2.2.1 hS.2.2.2.2.2.2.drew | exact two_keep (by assumption) hM fr)
    (first
      | (go_at_call 20; refine (H4 _ _ h3x).mono ?_; rintro r w' ⟨rfl, h, fr⟩)
      | (go_at_call 20; refine (H3 _ _ hd).mono ?_; rintro r w' ⟨rfl, h3x, fr⟩))
  have hS := two_of h (by assumption)
  have hd := h.drew
  go_upto_region 4 with (fail)
  go_region_held3 (fun w' => w'.cell? ⟨w.heap.size, 0, none⟩ = some (.string A) ∧ w'.cell? ⟨w.heap.size, 1, none⟩ = some (.string B) ∧ w'.cell? ⟨w.heap.size, 2, none⟩ = some (.int .u64 (K : Int)) ∧ w'.cell? ⟨w.heap.size, 3, none⟩ = some (.int .u64 (L : Int)) ∧ w'.cell? ⟨w.heap.size, 4, none⟩ = some (.int .u64 (N : Int)) ∧ w'.heap[w.heap.size]? = some (.cells #[.string A, .string B, .int .u64 (K : Int), .int .u64 (L : Int), .int .u64 (N : Int)] 37 (0, 0)) ∧ Below w.heap.size w w')
    (first | exact two_parts hS.2.2.2.2.2.1 hS.2.2.2.2.2.2.drew | exact two_keep (by assumption) hM fr)
    (first
      | (go_at_call 21; refine (H6 _ _ h5x).mono ?_; rintro r w' ⟨rfl, h, fr⟩)
      | (go_at_call 21; refine (H5 _ _ hd).mono ?_; rintro r w' ⟨rfl, h5x, fr⟩))
  have hS := two_of h (by assumption)
  clear H1 H2 H3 H4 H5 H6
  obtain ⟨x0, x1, x2, x3, x4, -, -⟩ := id hS
  go_wp2_with fail
  refine (H7 _ _ h).mono ?_
  rintro r w2 ⟨rfl, h, fr⟩
  have hS := two_keep hS hM fr
  clear fr H7 x0 x1 x2 x3 x4
  go_wp2_with fail
  refine (HF _).mono ?_
  rintro r w3 ⟨rfl, fr⟩
  have h := Orc.below h fr
  have hS := two_below hS fr
  clear fr
  have HB := o_bad h
  by_cases hz : O7.bads = 0
  · rw [show decide (0 < O7.bads) = false by rw [hz]; rfl] at HB
    have HGG := Lib.hid (HG.out hz)
    clear hz
    go_wp2_with fail
    refine HB.mono ?_
    rintro r w4 ⟨rfl, fr⟩
    have hS := two_below hS fr
    clear fr HB h
    obtain ⟨x0, x1, x2, x3, x4, -, fin⟩ := id hS
    obtain ⟨ab, cd, ef, ac, ad, ae, ag, bc, bd, bf, ce, cf, de, df, cg, eg, fg⟩ := HGG.out
    have nac : ((a : Int) != (c : Int)) = true := by rw [bne_iff_ne]; omega
    have nad : ((a : Int) != (d : Int)) = true := by rw [bne_iff_ne]; omega
    have nae : ((a : Int) != (e : Int)) = true := by rw [bne_iff_ne]; omega
    have nag : ((a : Int) != (g : Int)) = true := by rw [bne_iff_ne]; omega
    have nbc : ((b : Int) != (c : Int)) = true := by rw [bne_iff_ne]; omega
    have nbd : ((b : Int) != (d : Int)) = true := by rw [bne_iff_ne]; omega
    have nbf : ((b : Int) != (f : Int)) = true := by rw [bne_iff_ne]; omega
    have nce : ((c : Int) != (e : Int)) = true := by rw [bne_iff_ne]; omega
    have ncf : ((c : Int) != (f : Int)) = true := by rw [bne_iff_ne]; omega
    have nde : ((d : Int) != (e : Int)) = true := by rw [bne_iff_ne]; omega
    have ndf : ((d : Int) != (f : Int)) = true := by rw [bne_iff_ne]; omega
    have ncg : ((c : Int) != (g : Int)) = true := by rw [bne_iff_ne]; omega
    have neg : ((e : Int) != (g : Int)) = true := by rw [bne_iff_ne]; omega
    have nfg : ((f : Int) != (g : Int)) = true := by rw [bne_iff_ne]; omega
    clear ac ad ae ag bc bd bf ce cf de df cg eg fg
    by_cases hAB : A = B
    · by_cases hKL : K = L
      · have eab : ((a : Int) == (b : Int)) = true := by rw [beq_iff_eq]; have := ab.2 hAB; omega
        have lAB : A.toList = B.toList := by rw [hAB]
        have eKL : ((K : Int) == (L : Int)) = true := by rw [beq_iff_eq]; omega
        have eef : ((e : Int) == (f : Int)) = true := by rw [beq_iff_eq]; have := ef.2 hKL; omega
        have ecd : ((c : Int) == (d : Int)) = true := by rw [beq_iff_eq]; have := cd.2 ⟨hKL, hAB⟩; omega
        clear hAB hKL ab cd ef hS HG HGG
        go_wp2
        go_ret
        exact ⟨rfl, fin⟩
      · have eab : ((a : Int) == (b : Int)) = true := by rw [beq_iff_eq]; have := ab.2 hAB; omega
        have lAB : A.toList = B.toList := by rw [hAB]
        have eKL : ((K : Int) == (L : Int)) = false := by rw [beq_eq_false_iff_ne]; omega
        have eef : ((e : Int) == (f : Int)) = false := by rw [beq_eq_false_iff_ne]; intro h; exact hKL (ef.1 (by omega))
        have ecd : ((c : Int) == (d : Int)) = false := by rw [beq_eq_false_iff_ne]; intro h; have h2 := cd.1 (by omega); exact hKL h2.1
        clear hAB hKL ab cd ef hS HG HGG
        go_wp2
        go_ret
        exact ⟨rfl, fin⟩
    · by_cases hKL : K = L
      · have eab : ((a : Int) == (b : Int)) = false := by rw [beq_eq_false_iff_ne]; intro h; exact hAB (ab.1 (by omega))
        have lAB : (A.toList == B.toList) = false := by rw [beq_eq_false_iff_ne]; exact fun h => hAB (bytes_inj h)
        have eKL : ((K : Int) == (L : Int)) = true := by rw [beq_iff_eq]; omega
        have eef : ((e : Int) == (f : Int)) = true := by rw [beq_iff_eq]; have := ef.2 hKL; omega
        have ecd : ((c : Int) == (d : Int)) = false := by rw [beq_eq_false_iff_ne]; intro h; have h2 := cd.1 (by omega); exact hAB h2.2
        clear hAB hKL ab cd ef hS HG HGG
        go_wp2
        go_ret
        exact ⟨rfl, fin⟩
      · have eab : ((a : Int) == (b : Int)) = false := by rw [beq_eq_false_iff_ne]; intro h; exact hAB (ab.1 (by omega))
        have lAB : (A.toList == B.toList) = false := by rw [beq_eq_false_iff_ne]; exact fun h => hAB (bytes_inj h)
        have eKL : ((K : Int) == (L : Int)) = false := by rw [beq_eq_false_iff_ne]; omega
        have eef : ((e : Int) == (f : Int)) = false := by rw [beq_eq_false_iff_ne]; intro h; exact hKL (ef.1 (by omega))
        have ecd : ((c : Int) == (d : Int)) = false := by rw [beq_eq_false_iff_ne]; intro h; have h2 := cd.1 (by omega); exact hAB h2.2
        clear hAB hKL ab cd ef hS HG HGG
        go_wp2
        go_ret
        exact ⟨rfl, fin⟩
  · rw [show decide (0 < O7.bads) = true by rw [decide_eq_true_iff]; omega] at HB
    clear hz
    go_wp2_with fail
    refine HB.mono ?_
    rintro r w4 ⟨rfl, fr⟩
    have hS := two_below hS fr
    clear fr HB h
    go_wp2_with fail
    refine (HF _).mono ?_
    rintro r w5 ⟨rfl, fr⟩
    have hS := two_below hS fr
    clear fr HF
    go_wp2
    go_ret
    exact ⟨rfl, hS.2.2.2.2.2.2⟩
end Go.Proofs.Ytmnemjpikkdhbaa.Apart3
