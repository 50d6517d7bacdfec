/-
  The laws' arguments, opened: numbers to be drawn, calls, two texts with their keys.
-/
import Derived.Test.YtkadkakkaodeeaaIdG
import Derived.SizedLaws
namespace Go.Proofs.Ytkadkakkaodeeaa
open Go.RowKit Go.ChangeShapes Go.WideShapes Go.ChangeAt
open Ideal

namespace Ida
section
variable {H : Type} {enc : TypeId × Value → H} {w : World}
theorem bytes_num : Try.prog.bytesOf 24 = 8 := by kernel_rfl
theorem open_draws2 {fuel : Nat} {cs : List Value} {x : DataW H × List MemPlace} (h : DataW.trod enc Try.prog w 0 (fun _ => true) true fuel 22 cs = some x) :
    ∃ (v : Value) (l : List Nat), cs = [v] ∧ Kit.Sl w v (nums l) ∧ (∀ x ∈ l, x < 18446744073709551616) ∧ ((∀ n ∈ DataW.weights Try.prog 22 x.1, n ≤ reachBytes) → l.length * 8 ≤ reachBytes) ∧ l.length ≤ Rows.uptoBulk x.1 := by
  rcases _root_.Go.ChangeShapes.open_ints Try.underlying22 Try.underlying24 cellsU64 h with ⟨rfl, rfl⟩ | ⟨a, len, cap, zs, rfl, _, hl, hm, hz, rfl, hc, hwz⟩
  · exact ⟨_, [], rfl, .inl ⟨rfl, rfl⟩, by simp, by simp, by simp⟩
  · simp only [if_true] at hz
    have hwz' : ∀ n ∈ zs, 0 ≤ n ∧ n ≤ 18446744073709551615 := fun n hn => bounds_u64 (hwz n hn)
    have hlen : ((zs.take len).map Int.toNat).length = len := by simp; omega
    refine ⟨_, (zs.take len).map Int.toNat, rfl, .inr ⟨a, cap, ?_, ?_⟩, ?_, fun hw => ?_, ?_⟩
    · have : (nums ((zs.take len).map Int.toNat)).length = len := by simp [nums]; omega
      rw [this]
    · intro j u hj
      have hjl : j < len := by
        have := (List.getElem?_eq_some_iff.1 hj).1
        simp [nums] at this
        omega
      rw [hc j (by omega)]
      have hjz : j < zs.length := by omega
      have hw := hwz' zs[j] (List.getElem_mem hjz)
      simp [nums, List.getElem?_take_of_lt hjl, List.getElem?_eq_getElem hjz] at hj
      subst hj
      simp only [List.getD, List.getElem?_eq_getElem hjz, Option.getD_some]
      congr 2
      omega
    · intro n hn
      obtain ⟨z, hz1, rfl⟩ := List.mem_map.1 hn
      have := hwz' z (List.mem_of_mem_take hz1)
      omega
    · have h1 := hw (((lits (H := H) .u64 (zs.take len)).length + (lits (H := H) .u64 (zs.drop len)).length) * 8) (by simp [DataW.weights, Try.underlying22, bytes_num])
      rw [hlen]
      have h2 : (lits (H := H) .u64 (zs.take len)).length = len := by simp [lits]; omega
      rw [h2] at h1
      have : len * 8 ≤ (len + (lits (H := H) .u64 (zs.drop len)).length) * 8 := Nat.mul_le_mul_right 8 (by omega)
      omega
    · rw [hlen]
      have := bulk_lits (H := H) .u64 (zs.take len)
      simp only [Rows.uptoBulk]
      have hzl : (zs.take len).length = len := by simp; omega
      omega
theorem open_draws {fuel : Nat} {cs : List Value} {x : DataW H × List MemPlace} (h : DataW.trod enc Try.prog w 0 (fun _ => true) true fuel 22 cs = some x) :
    ∃ (v : Value) (l : List Nat), cs = [v] ∧ Kit.Sl w v (nums l) ∧ (∀ x ∈ l, x < 18446744073709551616) ∧ ((∀ n ∈ DataW.weights Try.prog 22 x.1, n ≤ reachBytes) → l.length * 8 ≤ reachBytes) := by
  obtain ⟨v, l, h1, h2, h3, h4, -⟩ := open_draws2 h
  exact ⟨v, l, h1, h2, h3, h4⟩

theorem one_int : Try.prog.cellsOf 3 = 1 := by kernel_rfl
theorem cells_call : Try.prog.cellsOf 36 = 6 := by kernel_rfl
theorem nat_of {n : Int} (h : 0 ≤ n ∧ n ≤ 18446744073709551615) : ∃ k : Nat, n = (k : Int) ∧ k < 18446744073709551616 := ⟨n.toNat, by omega, by omega⟩
theorem some_at {α : Type} {l : List α} {n j : Nat} (hl : l.length = n) (hj : j < n) : ∃ y, l[j]? = some y := ⟨l[j]'(by omega), List.getElem?_eq_getElem (by omega)⟩
/-- A call's six cells. -/
theorem open_call {fuel : Nat} {cs : List Value} {x : DataW H × List MemPlace} (h : DataW.trod enc Try.prog w 0 (fun _ => true) true fuel 36 cs = some x) : ∃ c : Cl, CallFine c ∧ cs = (callCells c).toList := by
  obtain ⟨ys, n, _, _, hl, hyl, hf⟩ := DataW.trod_struct Try.underlying36 h
  rw [cells_call] at hl
  match cs, hl with
  | [c0, c1, c2, c3, c4, c5], _ =>
    obtain ⟨y0, e0⟩ := some_at hyl (j := 0) (by decide)
    obtain ⟨y1, e1⟩ := some_at hyl (j := 1) (by decide)
    obtain ⟨y2, e2⟩ := some_at hyl (j := 2) (by decide)
    obtain ⟨y3, e3⟩ := some_at hyl (j := 3) (by decide)
    obtain ⟨y4, e4⟩ := some_at hyl (j := 4) (by decide)
    obtain ⟨y5, e5⟩ := some_at hyl (j := 5) (by decide)
    have t0 : DataW.trod enc Try.prog w 0 (fun _ => true) true n 3 (([c0, c1, c2, c3, c4, c5].drop 0).take (Try.prog.cellsOf 3)) = some y0 := (hf 0 _ rfl).trans e0
    rw [one_int] at t0
    have t1 : DataW.trod enc Try.prog w 0 (fun _ => true) true n 24 (([c0, c1, c2, c3, c4, c5].drop 1).take (Try.prog.cellsOf 24)) = some y1 := (hf 1 _ rfl).trans e1
    rw [one_num] at t1
    have t2 : DataW.trod enc Try.prog w 0 (fun _ => true) true n 24 (([c0, c1, c2, c3, c4, c5].drop 2).take (Try.prog.cellsOf 24)) = some y2 := (hf 2 _ rfl).trans e2
    rw [one_num] at t2
    have t3 : DataW.trod enc Try.prog w 0 (fun _ => true) true n 24 (([c0, c1, c2, c3, c4, c5].drop 3).take (Try.prog.cellsOf 24)) = some y3 := (hf 3 _ rfl).trans e3
    rw [one_num] at t3
    have t4 : DataW.trod enc Try.prog w 0 (fun _ => true) true n 9 (([c0, c1, c2, c3, c4, c5].drop 4).take (Try.prog.cellsOf 9)) = some y4 := (hf 4 _ rfl).trans e4
    rw [one_str] at t4
    have t5 : DataW.trod enc Try.prog w 0 (fun _ => true) true n 9 (([c0, c1, c2, c3, c4, c5].drop 5).take (Try.prog.cellsOf 9)) = some y5 := (hf 5 _ rfl).trans e5
    rw [one_str] at t5
    obtain ⟨d, r0, -, -⟩ := DataW.trod_int Try.underlying3 t0
    obtain ⟨k, r1, -, w1⟩ := DataW.trod_int Try.underlying24 t1
    obtain ⟨m, r2, -, w2⟩ := DataW.trod_int Try.underlying24 t2
    obtain ⟨v, r3, -, w3⟩ := DataW.trod_int Try.underlying24 t3
    obtain ⟨a, r4, -, w4⟩ := DataW.trod_string Try.underlying9 t4
    obtain ⟨b, r5, -, w5⟩ := DataW.trod_string Try.underlying9 t5
    obtain ⟨k, rfl, hk⟩ := nat_of (bounds_u64 w1)
    obtain ⟨m, rfl, hm⟩ := nat_of (bounds_u64 w2)
    obtain ⟨v, rfl, hv⟩ := nat_of (bounds_u64 w3)
    simp at r0 r1 r2 r3 r4 r5
    subst r0 r1 r2 r3 r4 r5
    exact ⟨⟨d, k, m, v, a, b⟩, ⟨hk, hm, hv, w4, w5⟩, rfl⟩
theorem list_of {α : Type} {P : Nat → α → Prop} : ∀ n : Nat, (∀ i, i < n → ∃ c, P i c) → ∃ l : List α, l.length = n ∧ ∀ i c, l[i]? = some c → P i c
  | 0, _ => ⟨[], rfl, by simp⟩
  | n + 1, h => by
    obtain ⟨l, hl, hp⟩ := list_of n (fun i hi => h i (by omega))
    obtain ⟨c, hc⟩ := h n (by omega)
    refine ⟨l ++ [c], by simp [hl], fun i x hx => ?_⟩
    rcases Nat.lt_or_ge i n with hi | hi
    · rw [List.getElem?_append_left (by omega)] at hx
      exact hp i x hx
    · rw [List.getElem?_append_right (by omega), hl] at hx
      have : i - n = 0 := by
        rcases Nat.eq_zero_or_pos (i - n) with h0 | h0
        · exact h0
        · rw [List.getElem?_eq_none (by simp; omega)] at hx
          cases hx
      have hin : i = n := by omega
      subst hin
      simp at hx
      subst hx
      exact hc
theorem open_calls {fuel : Nat} {cs : List Value} {x : DataW H × List MemPlace} (h : DataW.trod enc Try.prog w 0 (fun _ => true) true fuel 23 cs = some x) :
    ∃ (v : Value) (cl : List Cl), cs = [v] ∧ Cls w v cl ∧ ∀ c ∈ cl, CallFine c := by
  rcases Deep.open_slice Try.underlying23 h with ⟨rfl, _⟩ | ⟨a, len, cap, m, n, D, Pl, rfl, _, _, _, hm, _, hi⟩
  · exact ⟨_, [], rfl, ⟨none, 0, rfl, .inl rfl⟩, by simp⟩
  · have hmle : len ≤ m := by simp only [if_true] at hm; omega
    obtain ⟨cl, hl, hcl⟩ := list_of (P := fun i c => CallFine c ∧ ∀ j u, (callCells c)[j]? = some u → w.cell? (a.add (i * 6 + j)) = some u) len (fun i hil => by
      obtain ⟨cs', hc, ht⟩ := hi i (by omega)
      obtain ⟨c, hf, rfl⟩ := open_call ht
      rw [cells_call] at hc
      obtain ⟨_, _, hat⟩ := World.cells?_some hc
      refine ⟨c, hf, fun j u hu => ?_⟩
      have hj : j < 6 := (Array.getElem?_eq_some_iff.1 hu).1
      rw [← Go.Deep.add_add, hat j hj]
      simpa using hu)
    refine ⟨_, cl, rfl, ⟨some a, cap, by rw [hl], .inr ⟨a, rfl, fun i c hic => (hcl i c hic).2⟩⟩, fun c hc => ?_⟩
    obtain ⟨i, hic⟩ := List.mem_iff_getElem?.1 hc
    exact (hcl i c hic).1

end
end Ida
end Go.Proofs.Ytkadkakkaodeeaa
