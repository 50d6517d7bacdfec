/-
  Package merkle: Climb.
-/
import Derived.Test.YtllbcnficlbobaaMerF
namespace Go.Proofs.Ytllbcnficlbobaa
open Go.RowKit
open Ideal Ida Mer

namespace Mera
set_option maxRecDepth 100000 in
set_option maxHeartbeats 4000000 in
theorem climb_no {L : Lay} (s : ByteArray) (i : Int) (l : List Nat) (hno : ¬ (l.length ≤ 8 ∧ 0 ≤ i ∧ i < 2 ^ l.length)) (v : Value) (w : World) (hv : Kit.Rd w v (nums l)) :
    Calls Try.prog 21 #[ptr L, .string s, .int .i64 i, v] w fun e w' => e = .returned (.tuple #[.int .u64 0, .bool false]) ∧ Below w.heap.size w w' := by
  obtain ⟨a, cap, rfl⟩ := hv.form
  rw [nums_len]
  clear hv
  by_cases h8 : l.length > 8
  · have e1 : decide ((l.length : Int) > 8) = true := decide_eq_true (by omega)
    have e2 : decide (8 < l.length) = true := decide_eq_true h8
    clear hno h8
    go_enter Try.func21, Try.ntmps21
    go_wp2
    go_ret2
    exact ⟨rfl, Below.refl _ _⟩
  · have e1 : decide ((l.length : Int) > 8) = false := decide_eq_false (by omega)
    have e2 : decide (8 < l.length) = false := decide_eq_false h8
    by_cases h0 : i < 0
    · have e3 : decide (i < 0) = true := decide_eq_true h0
      clear hno h8 h0
      go_enter Try.func21, Try.ntmps21
      go_wp2
      go_ret2
      exact ⟨rfl, Below.refl _ _⟩
    · have e3 : decide (i < 0) = false := decide_eq_false h0
      have hn : l.length ≤ 8 := by omega
      have e6 := wrap_pow hn
      have e7 := wrap_pow2 hn
      have h2 : ((2 ^ l.length : Nat) : Int) ≤ i := by
        have h3 : ((2 ^ l.length : Nat) : Int) = 2 ^ l.length := by push_cast; rfl
        rw [h3]
        have := fun h => hno ⟨hn, by omega, h⟩
        omega
      generalize l.length = n at *
      generalize 2 ^ n = p at *
      have e4 : decide (i ≥ (p : Int)) = true := decide_eq_true h2
      have e5 : decide ((p : Int) ≤ i) = true := decide_eq_true h2
      clear hno h8 h0 h2
      go_enter Try.func21, Try.ntmps21
      go_wp2
      go_ret2
      exact ⟨rfl, Below.refl _ _⟩

set_option maxRecDepth 100000 in
set_option maxHeartbeats 8000000 in
theorem climb_yes {L : Lay} {O : Or} {w : World} (h : Orc w L O) (hn : O.rows.length + 16 < 1152921504606846976) (s : ByteArray) (hs : s.size + 4 ≤ maxLen) (i : Nat) (l : List Nat) (hl : l.length ≤ 8) (hi : i < 2 ^ l.length) (hx : ∀ x ∈ l, x < 18446744073709551616) (v : Value) (hv : Kit.Off L.own w v (nums l)) :
    Calls Try.prog 21 #[ptr L, .string s, .int .i64 (i : Int), v] w fun e w' => e = .returned (.tuple #[.int .u64 (((O.ask (qh (leafT s))).climb (O.val (qh (leafT s))) i l).1 : Int), .bool true]) ∧ Orc w' L ((O.ask (qh (leafT s))).climb (O.val (qh (leafT s))) i l).2 ∧ Kit.But L.own w w' := by
  obtain ⟨a, cap, rfl, -, -⟩ := hv.form
  rw [nums_len] at hv ⊢
  have HL := leaf_any h (by omega) s hs
  have hv0 := Or.val_lt h.2 (by omega) (qh (leafT s))
  have hf0 := Or.fine_ask h.2 (by omega) (qh (leafT s))
  have hl0 := Or.len_ask (O := O) (qh (leafT s))
  generalize O.val (qh (leafT s)) = v0 at *
  generalize O.ask (qh (leafT s)) = O0 at *
  have hp8 := Or.pow_le hl
  obtain ⟨N, hN⟩ : ∃ N, N = l.length := ⟨_, rfl⟩
  rw [← hN] at hp8 hi hl hv ⊢
  obtain ⟨p, hp⟩ : ∃ p, p = 2 ^ N := ⟨_, rfl⟩
  rw [← hp] at hp8 hi
  have e1 : decide ((N : Int) > 8) = false := decide_eq_false (by omega)
  have e2 : decide (8 < N) = false := decide_eq_false (by omega)
  have e3 : decide ((i : Int) < 0) = false := decide_eq_false (by omega)
  have e4 : decide ((i : Int) ≥ (p : Int)) = false := decide_eq_false (by omega)
  have e5 : decide (p ≤ i) = false := decide_eq_false (by omega)
  have Hf := Lib.hid hf0
  have Hv0 := Lib.hid hv0
  have Hn := Lib.hid (show O0.rows.length + 15 < 1152921504606846976 by omega)
  have HN := Lib.hid hN
  have Hx := Lib.hid hx
  have hi256 : i < 256 := by omega
  have e6 := wrap_pow hl
  have e7 := wrap_pow2 hl
  rw [← hp] at e6 e7
  clear hf0 hv0 hn hN hx hl0 h hs hi hp8 hp
  go_enter Try.func21, Try.ntmps21
  go_wp2_with fail
  refine HL.mono ?_
  rintro e w1 ⟨rfl, ho, hb⟩
  clear HL
  go_wp2
  clear e6 e7
  go_loopw [10, 32] (fun vh vi wr => ∃ k : Nat, k ≤ N ∧ vi = .int .i64 (k : Int) ∧ vh = .int .u64 ((O0.climb v0 i (l.take k)).1 : Int) ∧ Orc wr L (O0.climb v0 i (l.take k)).2 ∧ Kit.But L.own w wr) (fun _ vi _ => N - (intOf vi).toNat)
  case atStart => exact ⟨0, Nat.zero_le _, rfl, rfl, ho, hb⟩
  case round =>
    obtain ⟨k, hk, rfl, rfl, ho, hb⟩ := hrel
    by_cases hlt : k < N
    · have hlt2 : (k : Int) < (N : Int) := by omega
      have h0 : (0 : Int) ≤ (k : Int) := by omega
      have hkl : k < l.length := by have := HN.out; omega
      obtain ⟨ad, rfl, hc⟩ := (hv.but hb).at_ (nums_at hkl)
      rw [getD_at hkl] at hc
      have htl : (l.take k).length = k := by rw [List.length_take]; omega
      have hff := Or.fine_climb (l.take k) O0 v0 i Hf.out Hv0.out (by have := Hn.out; omega)
      have hlc := Or.len_climb (l.take k) O0 v0 i
      have hct := Or.climb_take hkl O0 v0 i
      have HJ := fun w' (h : Orc w' L (O0.climb v0 i (l.take k)).2) => join_any h (by have := Hn.out; omega) (i / 2 ^ k) (O0.climb v0 i (l.take k)).1 l[k] hff.2 (Hx.out _ (List.getElem_mem _))
      rw [show ((i / 2 ^ k : Nat) : Int) = (i : Int) / 2 ^ k by push_cast; rfl] at HJ
      have Hct := Lib.hid hct
      generalize (O0.climb v0 i (l.take k)).1 = c at *
      generalize (O0.climb v0 i (l.take k)).2 = O1 at *
      generalize (O1.val (qh (joinT (i / 2 ^ k) c l[k]))) = c2 at *
      generalize (O1.ask (qh (joinT (i / 2 ^ k) c l[k]))) = O2 at *
      generalize l[k] = x at *
      have HJ1 := HJ _ ho
      clear hct htl hff hlc HJ ho hkl
      go_wp2_with fail
      refine HJ1.mono ?_
      rintro e w2 ⟨rfl, ho, b2⟩
      replace hb := hb.trans b2
      clear HJ1 b2
      go_wp2
      go_roundw
      case rel => exact ⟨k + 1, hlt, by go_num, by rw [Hct.out], by rw [Hct.out]; exact ho, hb⟩
      case measure =>
        clear e1 e2 e3 e4 e5
        simp [intOf]
        omega
    · obtain rfl : k = N := by omega
      have hd1 : decide ((k : Int) < (k : Int)) = false := by rw [decide_eq_false_iff_not]; omega
      rw [List.take_of_length_le (by have := HN.out; omega)] at ho ⊢
      clear hlt
      go_wp2
      go_ret2
      exact ⟨rfl, ho, hb⟩
end Mera
end Go.Proofs.Ytllbcnficlbobaa
