/-
  KeysVolumes: if nothing bad happened unlike tenants, volumes or epochs have unlike keys, and none of them is the master, or a tenant's: the walk, for every input.
-/
import Derived.Test.YtkadkakkaodeeaaKeyD
namespace Go.Proofs.Ytkadkakkaodeeaa.Vols4
open Go.RowKit Go.ChangeShapes Go.WideShapes Go.ChangeAt
open Ideal Ida Kya

section
variable {w w' w'' : World} {dv cv : Value} {key a0 a1 a2 b0 b1 b2 : Nat}
theorem vol_cells (h : w'.heap[w.heap.size]? = some (.cells #[dv, cv, .int .u64 (key : Int)] 26 (0, 0)) ∧ w'.heap[w.heap.size + 1]? = some (.cells #[.int .u64 (a0 : Int), .int .u64 (a1 : Int), .int .u64 (a2 : Int)] 45 (0, 0)) ∧ w'.heap[w.heap.size + 2]? = some (.cells #[.int .u64 (b0 : Int), .int .u64 (b1 : Int), .int .u64 (b2 : Int)] 45 (0, 0)) ∧ Below w.heap.size w w') : w'.cell? ⟨w.heap.size, 2, none⟩ = some (.int .u64 (key : Int)) ∧ w'.cell? ⟨w.heap.size + 1, 0, none⟩ = some (.int .u64 (a0 : Int)) ∧ w'.cell? ⟨w.heap.size + 1, 1, none⟩ = some (.int .u64 (a1 : Int)) ∧ w'.cell? ⟨w.heap.size + 1, 2, none⟩ = some (.int .u64 (a2 : Int)) ∧ w'.cell? ⟨w.heap.size + 2, 0, none⟩ = some (.int .u64 (b0 : Int)) ∧ w'.cell? ⟨w.heap.size + 2, 1, none⟩ = some (.int .u64 (b1 : Int)) ∧ w'.cell? ⟨w.heap.size + 2, 2, none⟩ = some (.int .u64 (b2 : Int)) := by
  obtain ⟨h1, h2, h3, -⟩ := h
  refine ⟨by rw [Lib.cell_of_heap h1]; rfl, ?_, ?_, ?_, ?_, ?_, ?_⟩
  iterate 3 (rw [Lib.cell_of_heap h2]; rfl)
  · rw [Lib.cell_of_heap h3]; rfl
  · rw [Lib.cell_of_heap h3]; rfl
  · rw [Lib.cell_of_heap h3]; rfl
theorem vol_keep {M : Lay} (h : w'.heap[w.heap.size]? = some (.cells #[dv, cv, .int .u64 (key : Int)] 26 (0, 0)) ∧ w'.heap[w.heap.size + 1]? = some (.cells #[.int .u64 (a0 : Int), .int .u64 (a1 : Int), .int .u64 (a2 : Int)] 45 (0, 0)) ∧ w'.heap[w.heap.size + 2]? = some (.cells #[.int .u64 (b0 : Int), .int .u64 (b1 : Int), .int .u64 (b2 : Int)] 45 (0, 0)) ∧ Below w.heap.size w w') (hm : ∀ i, M.own i → w.heap.size + 2 < i) (b : Kit.But M.own w' w'') : w''.heap[w.heap.size]? = some (.cells #[dv, cv, .int .u64 (key : Int)] 26 (0, 0)) ∧ w''.heap[w.heap.size + 1]? = some (.cells #[.int .u64 (a0 : Int), .int .u64 (a1 : Int), .int .u64 (a2 : Int)] 45 (0, 0)) ∧ w''.heap[w.heap.size + 2]? = some (.cells #[.int .u64 (b0 : Int), .int .u64 (b1 : Int), .int .u64 (b2 : Int)] 45 (0, 0)) ∧ Below w.heap.size w w'' := by
  obtain ⟨h1, h2, h3, hb⟩ := h
  have l1 := (Array.getElem?_eq_some_iff.1 h1).1
  have l2 := (Array.getElem?_eq_some_iff.1 h2).1
  have l3 := (Array.getElem?_eq_some_iff.1 h3).1
  exact ⟨(b.block _ l1 (fun ho => by have := hm _ ho; omega)).trans h1, (b.block _ l2 (fun ho => by have := hm _ ho; omega)).trans h2, (b.block _ l3 (fun ho => by have := hm _ ho; omega)).trans h3, hb.trans (b.below hb.size (fun i hi => by have := hm i hi; omega))⟩
theorem vol_below (h : w'.heap[w.heap.size]? = some (.cells #[dv, cv, .int .u64 (key : Int)] 26 (0, 0)) ∧ w'.heap[w.heap.size + 1]? = some (.cells #[.int .u64 (a0 : Int), .int .u64 (a1 : Int), .int .u64 (a2 : Int)] 45 (0, 0)) ∧ w'.heap[w.heap.size + 2]? = some (.cells #[.int .u64 (b0 : Int), .int .u64 (b1 : Int), .int .u64 (b2 : Int)] 45 (0, 0)) ∧ Below w.heap.size w w') (b : Below w'.heap.size w' w'') : w''.heap[w.heap.size]? = some (.cells #[dv, cv, .int .u64 (key : Int)] 26 (0, 0)) ∧ w''.heap[w.heap.size + 1]? = some (.cells #[.int .u64 (a0 : Int), .int .u64 (a1 : Int), .int .u64 (a2 : Int)] 45 (0, 0)) ∧ w''.heap[w.heap.size + 2]? = some (.cells #[.int .u64 (b0 : Int), .int .u64 (b1 : Int), .int .u64 (b2 : Int)] 45 (0, 0)) ∧ Below w.heap.size w w'' := by
  obtain ⟨h1, h2, h3, hb⟩ := h
  exact ⟨(b.block _ (Array.getElem?_eq_some_iff.1 h1).1).trans h1, (b.block _ (Array.getElem?_eq_some_iff.1 h2).1).trans h2, (b.block _ (Array.getElem?_eq_some_iff.1 h3).1).trans h3, hb.trans (b.mono hb.size)⟩
end
theorem setup (w : World) (O : Or) (hi : O.Inv) (key : Nat) (hk : O.Met key) (hn : O.rows.length ≤ 200) (hkey : key < 18446744073709551616) (a0 a1 a2 b0 b1 b2 : Nat) (ha0 : a0 < 18446744073709551616) (ha1 : a1 < 18446744073709551616) (ha2 : a2 < 18446744073709551616) (hb0 : b0 < 18446744073709551616) (hb1 : b1 < 18446744073709551616) (hb2 : b2 < 18446744073709551616) :
    ∃ (k j t : Nat) (O1 O2 O3 : Or), (∀ M w', (∀ i, M.own i → w.heap.size + 2 < i) → Orc w' M (O) → Calls Try.prog 15 #[ptr M, .int .u64 (key : Int), .int .u64 (a0 : Int), .int .u64 (a1 : Int), .int .u64 (a2 : Int)] w' fun r w'' => r = .returned (.int .u64 (k : Int)) ∧ Orc w'' M (O1) ∧ Kit.But M.own w' w'') ∧ (∀ M w', (∀ i, M.own i → w.heap.size + 2 < i) → Orc w' M (O1) → Calls Try.prog 15 #[ptr M, .int .u64 (key : Int), .int .u64 (b0 : Int), .int .u64 (b1 : Int), .int .u64 (b2 : Int)] w' fun r w'' => r = .returned (.int .u64 (j : Int)) ∧ Orc w'' M (O2) ∧ Kit.But M.own w' w'') ∧
      (∀ M w', (∀ i, M.own i → w.heap.size + 2 < i) → Orc w' M O2 → Calls Try.prog 13 #[ptr M, .int .u64 (key : Int), .slice (some ⟨w'.heap.size, 0, none⟩) 1 1] (w'.alloc (.cells #[.int .u64 (b0 : Int)] 24)) fun r w'' => r = .returned (.int .u64 (t : Int)) ∧ Orc w'' M O3 ∧ Kit.But M.own w' w'') ∧
      (O3.bads = 0 → (k = j ↔ a0 = b0 ∧ a1 = b1 ∧ a2 = b2) ∧ k ≠ key ∧ k ≠ t) := by
  have h1 := (Or.len_derive [a0, a1, a2] O key).2
  have h2 := (Or.len_derive [b0, b1, b2] (O.derive key [a0, a1, a2]) key).2
  simp only [List.length_cons, List.length_nil] at h1 h2
  refine ⟨O.key key [a0, a1, a2], (O.derive key [a0, a1, a2]).key key [b0, b1, b2], ((O.derive key [a0, a1, a2]).derive key [b0, b1, b2]).key key [b0], O.derive key [a0, a1, a2], (O.derive key [a0, a1, a2]).derive key [b0, b1, b2], ((O.derive key [a0, a1, a2]).derive key [b0, b1, b2]).derive key [b0], ?_, ?_, ?_, ?_⟩
  · intro M w' hm h
    exact volume_any h key hkey a0 a1 a2 ha0 ha1 ha2 (by omega)
  · intro M w' hm h
    exact volume_any h key hkey b0 b1 b2 hb0 hb1 hb2 (by omega)
  · intro M w' hm h
    have H := derive_any (h.alloc (.cells (nums [b0]).toArray 24)) key hkey [b0] (by simp only [List.length_cons, List.length_nil]; omega) (by intro x hx; simp at hx; omega) _ (lit_sl w' [b0] 24) (fun _ => lit_off h _ _)
    exact H.mono fun r w'' ⟨e, h3, b⟩ => ⟨e, h3, (alloc_but w' M.own _).trans b⟩
  · intro h0
    have H := keys_volumes O hi key hk [a0, a1, a2] [b0, b1, b2] b0 (by intro x hx; simp at hx; omega) (by intro x hx; simp at hx; omega) hb0 rfl h0
    simpa using H

set_option maxRecDepth 100000 in
set_option maxHeartbeats 8000000 in
theorem vols_any (l : List Nat) (hl : l.length * 8 ≤ 140737488355328) (hx : ∀ x ∈ l, x < 18446744073709551616) (cl : List Cl) (hcl : ∀ c ∈ cl, CallFine c) (key : Nat) (hkey : key < 18446744073709551616) (a0 a1 a2 b0 b1 b2 : Nat) (ha0 : a0 < 18446744073709551616) (ha1 : a1 < 18446744073709551616) (ha2 : a2 < 18446744073709551616) (hb0 : b0 < 18446744073709551616) (hb1 : b1 < 18446744073709551616) (hb2 : b2 < 18446744073709551616) (dv cv : Value) (w : World) (hv : Kit.Sl w dv (nums l)) (hvc : Cls w cv cl) :
    Calls Try.prog 6 #[.agg #[dv, cv, .int .u64 (key : Int)], .agg #[.int .u64 (a0 : Int), .int .u64 (a1 : Int), .int .u64 (a2 : Int)], .agg #[.int .u64 (b0 : Int), .int .u64 (b1 : Int), .int .u64 (b2 : Int)]] w fun e w' => e = .returned (.bool true) ∧ Below w.heap.size w w' := by
  have s1 : (w.alloc (.cells #[dv, cv, .int .u64 (key : Int)] 26)).heap.size = w.heap.size + 1 := by simp
  have s2 : ((w.alloc (.cells #[dv, cv, .int .u64 (key : Int)] 26)).alloc (.cells #[.int .u64 (a0 : Int), .int .u64 (a1 : Int), .int .u64 (a2 : Int)] 45)).heap.size = w.heap.size + 2 := by simp
  have s3 : (((w.alloc (.cells #[dv, cv, .int .u64 (key : Int)] 26)).alloc (.cells #[.int .u64 (a0 : Int), .int .u64 (a1 : Int), .int .u64 (a2 : Int)] 45)).alloc (.cells #[.int .u64 (b0 : Int), .int .u64 (b1 : Int), .int .u64 (b2 : Int)] 45)).heap.size = w.heap.size + 3 := by simp
  have q1 : Below w.heap.size w (w.alloc (.cells #[dv, cv, .int .u64 (key : Int)] 26)) := (Below.refl _ w).alloc (Nat.le_refl _) _
  have q2 : Below (w.heap.size + 1) (w.alloc (.cells #[dv, cv, .int .u64 (key : Int)] 26)) ((w.alloc (.cells #[dv, cv, .int .u64 (key : Int)] 26)).alloc (.cells #[.int .u64 (a0 : Int), .int .u64 (a1 : Int), .int .u64 (a2 : Int)] 45)) := (Below.refl _ _).alloc (by rw [s1]; exact Nat.le_refl _) _
  have q3 : Below (w.heap.size + 2) ((w.alloc (.cells #[dv, cv, .int .u64 (key : Int)] 26)).alloc (.cells #[.int .u64 (a0 : Int), .int .u64 (a1 : Int), .int .u64 (a2 : Int)] 45)) (((w.alloc (.cells #[dv, cv, .int .u64 (key : Int)] 26)).alloc (.cells #[.int .u64 (a0 : Int), .int .u64 (a1 : Int), .int .u64 (a2 : Int)] 45)).alloc (.cells #[.int .u64 (b0 : Int), .int .u64 (b1 : Int), .int .u64 (b2 : Int)] 45)) := (Below.refl _ _).alloc (by rw [s2]; exact Nat.le_refl _) _
  have x1 : (w.alloc (.cells #[dv, cv, .int .u64 (key : Int)] 26)).heap[w.heap.size]? = some (.cells #[dv, cv, .int .u64 (key : Int)] 26 (0, 0)) := (MapKept.heap_alloc w _).1
  have x2 : ((w.alloc (.cells #[dv, cv, .int .u64 (key : Int)] 26)).alloc (.cells #[.int .u64 (a0 : Int), .int .u64 (a1 : Int), .int .u64 (a2 : Int)] 45)).heap[w.heap.size + 1]? = some (.cells #[.int .u64 (a0 : Int), .int .u64 (a1 : Int), .int .u64 (a2 : Int)] 45 (0, 0)) := by rw [← s1]; exact (MapKept.heap_alloc _ _).1
  have x3 : (((w.alloc (.cells #[dv, cv, .int .u64 (key : Int)] 26)).alloc (.cells #[.int .u64 (a0 : Int), .int .u64 (a1 : Int), .int .u64 (a2 : Int)] 45)).alloc (.cells #[.int .u64 (b0 : Int), .int .u64 (b1 : Int), .int .u64 (b2 : Int)] 45)).heap[w.heap.size + 2]? = some (.cells #[.int .u64 (b0 : Int), .int .u64 (b1 : Int), .int .u64 (b2 : Int)] 45 (0, 0)) := by rw [← s2]; exact (MapKept.heap_alloc _ _).1
  have x1 := (q3.block _ (by omega)).trans ((q2.block _ (by omega)).trans x1)
  have x2 := (q3.block _ (by omega)).trans x2
  have c0 : Below w.heap.size w (((w.alloc (.cells #[dv, cv, .int .u64 (key : Int)] 26)).alloc (.cells #[.int .u64 (a0 : Int), .int .u64 (a1 : Int), .int .u64 (a2 : Int)] 45)).alloc (.cells #[.int .u64 (b0 : Int), .int .u64 (b1 : Int), .int .u64 (b2 : Int)] 45)) := q1.trans ((q2.mono (by omega)).trans (q3.mono (by omega)))
  have HP := played_any l hl hx cl hcl key hkey dv cv _ (hv.below c0) (hvc.below c0)
  obtain ⟨g0, g1⟩ : ((((w.alloc (.cells #[dv, cv, .int .u64 (key : Int)] 26)).alloc (.cells #[.int .u64 (a0 : Int), .int .u64 (a1 : Int), .int .u64 (a2 : Int)] 45)).alloc (.cells #[.int .u64 (b0 : Int), .int .u64 (b1 : Int), .int .u64 (b2 : Int)] 45)).cell? ⟨w.heap.size, 0, none⟩ = some dv ∧ (((w.alloc (.cells #[dv, cv, .int .u64 (key : Int)] 26)).alloc (.cells #[.int .u64 (a0 : Int), .int .u64 (a1 : Int), .int .u64 (a2 : Int)] 45)).alloc (.cells #[.int .u64 (b0 : Int), .int .u64 (b1 : Int), .int .u64 (b2 : Int)] 45)).cell? ⟨w.heap.size, 1, none⟩ = some cv) := ⟨by rw [Lib.cell_of_heap x1]; rfl, by rw [Lib.cell_of_heap x1]; rfl⟩
  have hS0 : (((w.alloc (.cells #[dv, cv, .int .u64 (key : Int)] 26)).alloc (.cells #[.int .u64 (a0 : Int), .int .u64 (a1 : Int), .int .u64 (a2 : Int)] 45)).alloc (.cells #[.int .u64 (b0 : Int), .int .u64 (b1 : Int), .int .u64 (b2 : Int)] 45)).heap[w.heap.size]? = some (.cells #[dv, cv, .int .u64 (key : Int)] 26 (0, 0)) ∧ (((w.alloc (.cells #[dv, cv, .int .u64 (key : Int)] 26)).alloc (.cells #[.int .u64 (a0 : Int), .int .u64 (a1 : Int), .int .u64 (a2 : Int)] 45)).alloc (.cells #[.int .u64 (b0 : Int), .int .u64 (b1 : Int), .int .u64 (b2 : Int)] 45)).heap[w.heap.size + 1]? = some (.cells #[.int .u64 (a0 : Int), .int .u64 (a1 : Int), .int .u64 (a2 : Int)] 45 (0, 0)) ∧ (((w.alloc (.cells #[dv, cv, .int .u64 (key : Int)] 26)).alloc (.cells #[.int .u64 (a0 : Int), .int .u64 (a1 : Int), .int .u64 (a2 : Int)] 45)).alloc (.cells #[.int .u64 (b0 : Int), .int .u64 (b1 : Int), .int .u64 (b2 : Int)] 45)).heap[w.heap.size + 2]? = some (.cells #[.int .u64 (b0 : Int), .int .u64 (b1 : Int), .int .u64 (b2 : Int)] 45 (0, 0)) ∧ Below w.heap.size w (((w.alloc (.cells #[dv, cv, .int .u64 (key : Int)] 26)).alloc (.cells #[.int .u64 (a0 : Int), .int .u64 (a1 : Int), .int .u64 (a2 : Int)] 45)).alloc (.cells #[.int .u64 (b0 : Int), .int .u64 (b1 : Int), .int .u64 (b2 : Int)] 45)) := ⟨x1, x2, x3, c0⟩
  obtain ⟨y0, -⟩ := vol_cells hS0
  have hlen := start_take l hx key cl
  obtain ⟨hinv, hmet⟩ := start_inv l key (cl.take 200)
  obtain ⟨k, j, t, O1, O2, O3, H1, H2, H3, HGG⟩ := setup w _ hinv key hmet hlen hkey a0 a1 a2 b0 b1 b2 ha0 ha1 ha2 hb0 hb1 hb2
  generalize ((Or.new l).meet key).play (cl.take 200) = O at *
  have HF := fixed_any
  have HQ := fun w => three_eql a0 a1 a2 b0 b1 b2 w
  have HG := Lib.hid HGG
  have HS0 := Lib.hid hS0
  have S3 := Lib.hid s3
  clear hlen hinv hmet hl hx hcl hv hvc hkey HGG ha0 ha1 ha2 hb0 hb1 hb2 s1 s2 s3 q1 q2 q3 x1 x2 x3 c0 hS0
  go_enter Try.func6, Try.ntmps6
  go_wp2_with fail
  refine HP.mono ?_
  rintro r w1 ⟨M, rfl, h, hin, hb⟩
  have hM : ∀ i, M.own i → w.heap.size + 2 < i := fun i hi => by have := (hin.own i hi).1; have := S3.out; omega
  have hS := vol_below HS0.out hb
  clear HP hin hb HS0 S3 y0 g0 g1
  obtain ⟨z2, z10, z11, z12, z20, z21, z22⟩ := vol_cells hS
  go_wp2_with fail
  refine (H1 _ _ hM h).mono ?_
  clear h
  rintro r w2 ⟨rfl, h, fr⟩
  have hS := vol_keep hS hM fr
  clear fr H1 z2 z10 z11 z12 z20 z21 z22
  obtain ⟨z2, z10, z11, z12, z20, z21, z22⟩ := vol_cells hS
  go_wp2_with fail
  refine (H2 _ _ hM h).mono ?_
  clear h
  rintro r w3 ⟨rfl, h, fr⟩
  have hS := vol_keep hS hM fr
  clear fr H2 z2 z10 z11 z12 z20 z21 z22
  obtain ⟨z2, z10, z11, z12, z20, z21, z22⟩ := vol_cells hS
  have HH := H3 _ _ hM h
  clear H3 h
  go_wp2_with fail
  refine HH.mono ?_
  rintro r w4 ⟨rfl, h, fr⟩
  have hS := vol_keep hS hM fr
  clear fr HH z2 z10 z11 z12 z20 z21 z22
  go_wp2_with fail
  refine (HF _).mono ?_
  rintro r w5 ⟨rfl, fr⟩
  have h := Orc.below h fr
  have hS := vol_below hS fr
  clear fr HF
  have HB := o_bad h
  by_cases hz : O3.bads = 0
  · rw [show decide (0 < O3.bads) = false by rw [hz]; rfl] at HB
    have HX := HG.out hz
    clear hz HG
    go_wp2_with fail
    refine HB.mono ?_
    rintro r w6 ⟨rfl, fr⟩
    have hS := vol_below hS fr
    clear fr HB h
    have fin := hS.2.2.2
    obtain ⟨z2, z10, z11, z12, z20, z21, z22⟩ := vol_cells hS
    have n1 : ((k : Int) != (key : Int)) = true := by rw [bne_iff_ne]; have := HX.2.1; omega
    have n2 : ((k : Int) != (t : Int)) = true := by rw [bne_iff_ne]; have := HX.2.2; omega
    by_cases hab : a0 = b0 ∧ a1 = b1 ∧ a2 = b2
    · have e1 : ((k : Int) == (j : Int)) = true := by rw [beq_iff_eq]; have := HX.1.2 hab; omega
      have hq : (((a0 : Int) == (b0 : Int)) && ((a1 : Int) == (b1 : Int)) && ((a2 : Int) == (b2 : Int))) = true := by simp; omega
      rw [hq] at HQ
      clear hab HX hS
      go_wp2
      go_ret
      exact ⟨rfl, fin⟩
    · have e1 : ((k : Int) == (j : Int)) = false := by rw [beq_eq_false_iff_ne]; intro h; exact hab (HX.1.1 (by omega))
      have hq : (((a0 : Int) == (b0 : Int)) && ((a1 : Int) == (b1 : Int)) && ((a2 : Int) == (b2 : Int))) = false := by
        cases he : (((a0 : Int) == (b0 : Int)) && ((a1 : Int) == (b1 : Int)) && ((a2 : Int) == (b2 : Int))) with
        | false => rfl
        | true =>
          simp at he
          exact absurd ⟨by omega, by omega, by omega⟩ hab
      rw [hq] at HQ
      clear hab HX hS
      go_wp2
      go_ret
      exact ⟨rfl, fin⟩
  · rw [show decide (0 < O3.bads) = true by rw [decide_eq_true_iff]; omega] at HB
    clear hz HG HQ
    go_wp2_with fail
    refine HB.mono ?_
    rintro r w6 ⟨rfl, fr⟩
    have hS := vol_below hS fr
    clear fr HB h
    have fin := hS.2.2.2
    clear hS
    go_wp2
    go_ret
    exact ⟨rfl, fin⟩
end Go.Proofs.Ytkadkakkaodeeaa.Vols4
