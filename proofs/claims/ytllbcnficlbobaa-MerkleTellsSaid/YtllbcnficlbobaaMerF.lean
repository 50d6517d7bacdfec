/-
  Package merkle: shaped.
-/
import Derived.Test.YtllbcnficlbobaaMerA
namespace Go.Proofs.Ytllbcnficlbobaa
open Go.RowKit
open Ideal Ida Mer

namespace Mera
theorem wrap_pow {d : Nat} (h : d ≤ 8) : wrap64 ((2 : Int) ^ min d 64) = ((2 ^ d : Nat) : Int) := by
  rw [show min d 64 = d by omega]
  have h1 : ((2 ^ d : Nat) : Int) = (2 : Int) ^ d := by push_cast; rfl
  have h2 := Or.pow_le h
  rw [← h1]
  generalize 2 ^ d = p at *
  clear h1
  unfold wrap64
  omega
theorem wrap_pow2 {d : Nat} (h : d ≤ 8) : wrap64 ((2 : Int) ^ d) = ((2 ^ d : Nat) : Int) := by
  have h1 := wrap_pow h
  rw [show min d 64 = d by omega] at h1
  exact h1
theorem shaped_no {t : List (List Nat)} {k : Nat} (hk : k < t.length) (h : (t.getD k []).length ≠ 2 ^ (t.length - 1 - k)) : shaped t = false := by
  cases hs : shaped t with
  | false => rfl
  | true => exact absurd ((shaped_iff.1 hs).2.2 k hk) h

set_option maxRecDepth 100000 in
set_option maxHeartbeats 4000000 in
theorem shaped_any {S : Nat → Prop} (t : List (List Nat)) (v : Value) (w : World) (hv : Kit.Tr S w v t) :
    Calls Try.prog 37 #[v] w fun e w' => e = .returned (.bool (shaped t)) ∧ Below w.heap.size w w' := by
  obtain ⟨a, cap, rfl, hc1, hc2⟩ := hv.form
  by_cases h1 : ¬ 1 ≤ t.length
  · have hs : shaped t = false := by unfold shaped; rw [decide_eq_false h1]; rfl
    have h0 : t.length = 0 := by omega
    rw [hs, h0]
    clear h1 hs hv hc1 h0
    go_enter Try.func37, Try.ntmps37
    go_wp2
    go_ret
    exact ⟨rfl, Below.refl _ _⟩
  replace h1 : 1 ≤ t.length := by omega
  by_cases h9 : ¬ t.length ≤ 9
  · have hs : shaped t = false := by unfold shaped; rw [decide_eq_false h9]; simp
    rw [hs]
    obtain ⟨n, hn⟩ : ∃ n, n = t.length - 1 := ⟨_, rfl⟩
    have hm : maxLen = 9223372036854775807 := rfl
    have e1 : IntKind.i64.wrap ((t.length : Int) - 1) = (n : Int) := by rw [IntKind.wrap_i64]; omega
    have e2 : decide ((n : Int) > 8) = true := by rw [decide_eq_true_iff]; omega
    have e3 : decide ((n : Int) < 0) = false := by rw [decide_eq_false_iff_not]; omega
    have e4 : decide (8 < n) = true := by rw [decide_eq_true_iff]; omega
    clear h1 h9 hs hv hc1 hc2 hm hn
    go_enter Try.func37, Try.ntmps37
    go_wp2
    go_ret
    exact ⟨rfl, Below.refl _ _⟩
  replace h9 : t.length ≤ 9 := by omega
  obtain ⟨n, hn⟩ : ∃ n, n = t.length - 1 := ⟨_, rfl⟩
  obtain ⟨N, hN⟩ : ∃ N, N = t.length := ⟨_, rfl⟩
  have hn8 : n ≤ 8 := by omega
  have e0 : (N : Int) - 1 = (n : Int) := by omega
  have e2 : decide ((n : Int) > 8) = false := by rw [decide_eq_false_iff_not]; omega
  have e3 : decide ((n : Int) < 0) = false := by rw [decide_eq_false_iff_not]; omega
  have e4 : decide (8 < n) = false := by rw [decide_eq_false_iff_not]; omega
  have e1 : IntKind.i64.wrap ((N : Int) - 1) = (n : Int) := by rw [IntKind.wrap_i64]; omega
  have Hs : shaped t = true ↔ ∀ k, k < N → (t.getD k []).length = 2 ^ (n - k) := by
    rw [shaped_iff]
    constructor
    · intro h k hk
      have := h.2.2 k (by omega)
      rw [this, hn]
    · intro h
      exact ⟨by omega, by omega, fun k hk => by rw [h k (by omega), hn]⟩
  rw [← hN] at hv ⊢
  have Hn := Lib.hid hn
  have HN := Lib.hid hN
  replace Hs := Lib.hid Hs
  have Hn8 := Lib.hid hn8
  have H9 := Lib.hid h9
  clear h1 h9 hc1 hc2 e0 hn8 hn hN
  go_enter Try.func37, Try.ntmps37
  go_wp2
  go_loopw [17] (fun vi wr => ∃ k : Nat, k ≤ N ∧ vi = .int .i64 (k : Int) ∧ Hid (∀ j, j < k → (t.getD j []).length = 2 ^ (n - j)) ∧ Below w.heap.size w wr) (fun vi _ => N - (intOf vi).toNat)
  case atStart => exact ⟨0, Nat.zero_le _, rfl, Lib.hid (fun j hj => absurd hj (Nat.not_lt_zero _)), Below.refl _ _⟩
  case round =>
    obtain ⟨k, hk, rfl, Hall, hb⟩ := hrel
    by_cases hlt : k < N
    · have hlt2 : (k : Int) < (N : Int) := by omega
      have h0 : (0 : Int) ≤ (k : Int) := by omega
      obtain ⟨ad, la, lc, rfl, hc, -, -⟩ := (hv.below hb).at_ (k := k) (by have := HN.out; omega)
      obtain ⟨d, hd⟩ : ∃ d, d = n - k := ⟨_, rfl⟩
      have hkn : k ≤ n := by have := Hn.out; have := HN.out; omega
      have e5 : IntKind.i64.wrap ((n : Int) - (k : Int)) = (d : Int) := by rw [IntKind.wrap_i64]; have := Hn8.out; omega
      have e6 := wrap_pow (d := d) (by have := Hn8.out; omega)
      have hN9 : N ≤ 9 := by have := H9.out; have := HN.out; omega
      by_cases he : (t.getD k []).length = 2 ^ d
      · have Hall2 := Lib.hid (show ∀ j, j < k + 1 → (t.getD j []).length = 2 ^ (n - j) from fun j hj => by
          rcases Nat.lt_succ_iff_lt_or_eq.1 hj with h | rfl
          · exact Hall.out j h
          · rw [he, hd])
        rw [he] at hc
        clear he hd hkn Hall
        generalize 2 ^ d = p at *
        go_wp2
        go_roundw
        case rel => exact ⟨k + 1, hlt, by go_num, Hall2, hb⟩
        case measure =>
          clear e1 e5 e6
          simp [intOf]
          omega
      · have hs : shaped t = false := by
          cases hsh : shaped t with
          | false => rfl
          | true => exact absurd ((Hs.out.1 hsh) k hlt) (by rw [← hd]; exact he)
        generalize (t.getD k []).length = z at *
        clear hd hkn Hall
        generalize 2 ^ d = p at *
        have g1 : ((z : Int) != (p : Int)) = true := by rw [bne_iff_ne]; omega
        have g2 : (z != p) = true := by rw [bne_iff_ne]; exact he
        have Hs2 := Lib.hid hs
        clear he hs
        go_wp2
        go_ret
        exact ⟨by rw [Hs2.out]; rfl, hb⟩
    · obtain rfl : k = N := by omega
      have hs : shaped t = true := Hs.out.2 Hall.out
      have hd1 : decide ((k : Int) < (k : Int)) = false := by rw [decide_eq_false_iff_not]; omega
      have Hs2 := Lib.hid hs
      clear hlt hs
      go_wp2
      go_ret
      exact ⟨by rw [Hs2.out]; rfl, hb⟩
end Mera
end Go.Proofs.Ytllbcnficlbobaa
