/-
  Package slot: isSize, Frame.
-/
import Derived.Test.YtgjejofdmfpdjaaSltA
import Derived.Test.YtgjejofdmfpdjaaDskA
namespace Go.Proofs.Ytgjejofdmfpdjaa
open Go.RowKit
namespace Slt
open Dsk

set_option maxHeartbeats 1000000 in
theorem isSize_same (z : Int) (w : World) :
    Calls Try.prog 40 #[.int .i64 z] w fun e w' => e = .returned (.bool (decide (32 ≤ z ∧ z ≤ 512))) ∧ w' = w := by
  by_cases h1 : z ≥ 32 <;> by_cases h2 : z ≤ 512
  all_goals go_enter Try.func40, Try.ntmps40
  all_goals go_wp2
  all_goals go_ret
  all_goals exact ⟨by simp [h1, h2], rfl⟩

theorem frame_bad {n : Nat} {t : ByteArray} {z : Int} (h : fits n t z = false) : frame n t z = (⟨#[]⟩, false) := by unfold frame; rw [if_neg (by rw [h]; decide)]
theorem frame_good {n : Nat} {t : ByteArray} {z : Int} (h : fits n t z = true) : frame n t z = (body n t z.toNat, true) := by unfold frame; rw [if_pos h]

set_option maxRecDepth 100000 in
set_option maxHeartbeats 4000000 in
theorem frame_any (n : Nat) (hn : n < 18446744073709551616) (t : ByteArray) (z : Int) (w : World) :
    Calls Try.prog 23 #[.int .u64 (n : Int), .string t, .int .i64 z] w fun e w' => e = .returned (.tuple #[.string (frame n t z).1, .bool (frame n t z).2]) ∧ Below w.heap.size w w' := by
  have HS := fun w => isSize_same z w
  by_cases hf : fits n t z = true
  · have h := of_decide_eq_true hf
    rw [frame_good hf]
    obtain ⟨k, rfl⟩ : ∃ k : Nat, z = (k : Int) := ⟨z.toNat, by omega⟩
    rw [decide_eq_true (show 32 ≤ (k : Int) ∧ (k : Int) ≤ 512 by omega)] at HS
    have HP := fun w => put_any n 8 (by omega) w
    have HQ := fun w => put_any t.size 2 (by omega) w
    have HR := fun w => Try.strings_Repeat ⟨#[0]⟩ (k - 18 - t.size) w (by omega) (by show 1 * (k - 18 - t.size) ≤ _; omega)
    rw [rep_zeros] at HR
    have e1 : IntKind.i64.wrap ((k : Int) - 18 - (t.size : Int)) = ((k - 18 - t.size : Nat) : Int) := by rw [IntKind.wrap_i64]; omega
    have e2 : body n t k = eight n ++ two t.size ++ t ++ zeros (k - 18 - t.size) ++ eight n := rfl
    have e3 : (⟨(be n 8).toArray⟩ : ByteArray) = eight n := rfl
    have e4 : (⟨(be t.size 2).toArray⟩ : ByteArray) = two t.size := rfl
    rw [e3] at HP
    rw [e4] at HQ
    have z1 := eight_size n
    have z2 := two_size t.size
    have z3 : (zeros (k - 18 - t.size)).size ≤ 512 := by rw [zeros_size]; omega
    have g0 : ((n : Int) == 0) = false := by have := h.2.2.1; simpa using this
    have g1 : decide ((t.size : Int) > (k : Int) - 18) = false := by rw [decide_eq_false_iff_not]; omega
    have z4 : t.size ≤ 494 := by omega
    have k1 : 32 ≤ k := by omega
    have k2 : k ≤ 512 := by omega
    have k3 : t.size ≤ k - 18 := by omega
    have w1 : wrap64 ((k : Int) - 18) = (k : Int) - 18 := by unfold wrap64; omega
    have hz : (k : Int).toNat = k := rfl
    rw [hz]
    have E2 := Lib.hid e2
    clear hf h hn e2 hz
    generalize eight n = en at *
    generalize two t.size = tw at *
    generalize zeros (k - 18 - t.size) = zs at *
    go_enter Try.func23, Try.ntmps23
    go_wp2_with fail
    refine (HS _).mono ?_
    rintro e w1 ⟨rfl, rfl⟩
    go_wp2_with fail
    refine (HP _).mono ?_
    rintro e w2 ⟨rfl, b2⟩
    go_wp2_with fail
    refine (HR _).mono ?_
    rintro e w3 ⟨rfl, b3⟩
    have c3 := b2.trans (b3.mono b2.size)
    go_wp2_with fail
    refine (HQ _).mono ?_
    rintro e w4 ⟨rfl, b4⟩
    have c4 := c3.trans (b4.mono c3.size)
    go_wp2_with fail
    go_ret2
    exact ⟨by rw [E2.out]; rfl, c4⟩
  · have hf : fits n t z = false := by simpa using hf
    rw [frame_bad hf]
    have h := of_decide_eq_false hf
    by_cases hz : 32 ≤ z ∧ z ≤ 512
    · rw [decide_eq_true hz] at HS
      obtain ⟨k, rfl⟩ : ∃ k : Nat, z = (k : Int) := ⟨z.toNat, by omega⟩
      by_cases h0 : n = 0
      · subst h0
        clear hf h
        go_enter Try.func23, Try.ntmps23
        go_wp2_with fail
        refine (HS _).mono ?_
        rintro e w1 ⟨rfl, rfl⟩
        go_wp2_with fail
        go_ret2
        exact ⟨rfl, Below.refl _ _⟩
      · have g0 : ((n : Int) == 0) = false := by simpa using h0
        have w1 : wrap64 ((k : Int) - 18) = (k : Int) - 18 := by unfold wrap64; omega
        have g1 : decide ((t.size : Int) > (k : Int) - 18) = true := by rw [decide_eq_true_iff]; omega
        clear hf h
        go_enter Try.func23, Try.ntmps23
        go_wp2_with fail
        refine (HS _).mono ?_
        rintro e w1 ⟨rfl, rfl⟩
        go_wp2_with fail
        go_ret2
        exact ⟨rfl, Below.refl _ _⟩
    · rw [decide_eq_false hz] at HS
      clear hf h
      go_enter Try.func23, Try.ntmps23
      go_wp2_with fail
      refine (HS _).mono ?_
      rintro e w1 ⟨rfl, rfl⟩
      go_wp2_with fail
      go_ret2
      exact ⟨rfl, Below.refl _ _⟩
end Slt
end Go.Proofs.Ytgjejofdmfpdjaa
