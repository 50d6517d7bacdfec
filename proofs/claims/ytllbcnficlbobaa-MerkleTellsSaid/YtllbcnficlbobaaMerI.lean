/-
  Package merkle: Path.
-/
import Derived.Test.YtllbcnficlbobaaMerF
namespace Go.Proofs.Ytllbcnficlbobaa
open Go.RowKit
open Ideal Ida Mer

namespace Mera
theorem xor_sib {j : Nat} (h : j < 256) : bits BinOp.xor IntKind.i64 (j : Int) 1 = ((sib j : Nat) : Int) := by
  have := (show ∀ j : Fin 256, bits BinOp.xor IntKind.i64 (j.val : Int) 1 = ((sib j.val : Nat) : Int) by decide +kernel) ⟨j, h⟩
  exact this
theorem sib_lt {j m : Nat} (h : j < 2 * m) : sib j < 2 * m := by
  unfold sib
  split <;> omega
theorem div_pow_lt {i k n : Nat} (h : i < 2 ^ n) (hk : k ≤ n) : i / 2 ^ k < 2 ^ (n - k) := by
  apply Nat.div_lt_of_lt_mul
  rw [← Nat.pow_add]
  have : k + (n - k) = n := by omega
  rw [this]
  exact h
theorem pow_even {n k : Nat} (h : k < n) : 2 ^ (n - k) = 2 * 2 ^ (n - (k + 1)) := by
  rw [← Nat.pow_succ']
  congr 1
  omega
theorem add_zero' (a : Addr) : a.add 0 = a := by
  unfold Addr.add
  simp
theorem t0_len {t : List (List Nat)} (hs : shaped t = true) : (t.getD 0 []).length = 2 ^ (t.length - 1) := by
  have h := shaped_iff.1 hs
  have := h.2.2 0 (by omega)
  simpa using this
set_option maxRecDepth 100000 in
set_option maxHeartbeats 4000000 in
theorem path_no {S : Nat → Prop} (t : List (List Nat)) (i : Int) (hno : ¬ (shaped t = true ∧ 0 ≤ i ∧ i < ((t.getD 0 []).length : Int))) (v : Value) (w : World) (hv : Kit.Tr S w v t) :
    Calls Try.prog 19 #[v, .int .i64 i] w fun e w' => e = .returned (.tuple #[.slice none 0 0, .bool false]) ∧ Below w.heap.size w w' := by
  obtain ⟨a, cap, rfl, -, -⟩ := hv.form
  have HS := shaped_any t _ w hv
  cases hsh : shaped t with
  | false =>
    rw [hsh] at HS
    clear hno hsh hv
    go_enter Try.func19, Try.ntmps19
    go_wp2_with fail
    refine HS.mono ?_
    rintro e w1 ⟨rfl, b⟩
    go_wp2
    go_ret2
    exact ⟨rfl, b⟩
  | true =>
    rw [hsh] at HS
    have hl1 := (shaped_iff.1 hsh).1
    by_cases h0 : i < 0
    · have e3 : decide (i < 0) = true := decide_eq_true h0
      clear hno hsh hv h0 hl1
      go_enter Try.func19, Try.ntmps19
      go_wp2_with fail
      refine HS.mono ?_
      rintro e w1 ⟨rfl, b⟩
      go_wp2
      go_ret2
      exact ⟨rfl, b⟩
    · have e3 : decide (i < 0) = false := decide_eq_false h0
      have h2 : ((t.getD 0 []).length : Int) ≤ i := by
        rcases Int.lt_or_le i ((t.getD 0 []).length : Int) with hh | hh
        · exact absurd ⟨hsh, by omega, hh⟩ hno
        · exact hh
      have hN : (0 : Int) < (t.length : Int) := by omega
      have hN2 : 0 < t.length := by omega
      have hv' := fun w' (b : Below w.heap.size w w') => (hv.below b).at_ (k := 0) (by omega)
      generalize (t.getD 0 []).length = n at *
      have e4 : decide (i ≥ (n : Int)) = true := decide_eq_true h2
      have e5 : decide ((n : Int) ≤ i) = true := decide_eq_true h2
      clear hno hsh hv h0 h2 hl1
      go_enter Try.func19, Try.ntmps19
      go_wp2_with fail
      refine HS.mono ?_
      rintro e w1 ⟨rfl, b⟩
      obtain ⟨ad, la, lc, rfl, hc, -, -⟩ := hv' _ b
      rw [add_zero'] at hc
      clear hv'
      go_wp2
      go_ret2
      exact ⟨rfl, b⟩

set_option maxRecDepth 100000 in
set_option maxHeartbeats 8000000 in
theorem path_yes {S : Nat → Prop} (t : List (List Nat)) (hs : shaped t = true) (i : Nat) (hi : i < (t.getD 0 []).length) (v : Value) (w : World) (hv : Kit.Tr S w v t) :
    Calls Try.prog 19 #[v, .int .i64 (i : Int)] w fun e w' => ∃ v', e = .returned (.tuple #[v', .bool true]) ∧ w'.ownsRow w.heap.size 42 1 v' (t.length - 1) (nums (path t i)) ∧ Below w.heap.size w w' := by
  obtain ⟨a, cap, rfl, hc1, hc2⟩ := hv.form
  have HS := shaped_any t _ w hv
  rw [hs] at HS
  obtain ⟨hl1, hl9, hsh⟩ := shaped_iff.1 hs
  have h0l := t0_len hs
  obtain ⟨i0, hi0, hz0, hz1, hz2⟩ := info_parts infoU64
  have e3 : decide ((i : Int) < 0) = false := decide_eq_false (by omega)
  have hv' := fun w' (b : Below w.heap.size w w') => (hv.below b).at_ (k := 0) (by omega)
  obtain ⟨z, hz⟩ : ∃ z, z = (t.getD 0 []).length := ⟨_, rfl⟩
  rw [← hz] at hv' hi h0l
  obtain ⟨n, hn⟩ : ∃ n, n = t.length - 1 := ⟨_, rfl⟩
  obtain ⟨N, hN⟩ : ∃ N, N = t.length := ⟨_, rfl⟩
  rw [← hn] at h0l ⊢
  rw [← hN] at hv hc1 HS ⊢
  have e4 : decide ((i : Int) ≥ (z : Int)) = false := decide_eq_false (by omega)
  have e5 : decide (z ≤ i) = false := decide_eq_false (by omega)
  have hN0 : (0 : Int) < (N : Int) := by omega
  have hN2 : 0 < N := by omega
  have hm : maxLen = 9223372036854775807 := rfl
  have e1 : IntKind.i64.wrap ((N : Int) - 1) = (n : Int) := by rw [IntKind.wrap_i64]; omega
  have e8 : n ≤ N := by omega
  have e9 : n ≤ cap := by omega
  have hz256 : z ≤ 256 := by rw [h0l]; exact Or.pow_le (by omega)
  have hpath : (path t i).length = n := by rw [path_length, hn]
  have Hsh := Lib.hid hsh
  have Hn := Lib.hid hn
  have HN := Lib.hid hN
  have H9 := Lib.hid hl9
  have Hzn := Lib.hid h0l
  have Hi := Lib.hid hi
  have Hp := Lib.hid hpath
  clear hs hsh hl1 hl9 hz hn hN h0l hi hm hc1 hc2 hpath
  go_enter Try.func19, Try.ntmps19
  go_wp2_with fail
  refine HS.mono ?_
  rintro e w1 ⟨rfl, b⟩
  obtain ⟨ad, la, lc, rfl, hc, -, -⟩ := hv' _ b
  rw [add_zero'] at hc
  clear hv' HS
  go_wp2
  go_loopw [6, 30] (fun vp vi wr => ∃ k : Nat, k ≤ n ∧ vi = .int .i64 (k : Int) ∧ wr.ownsRow w.heap.size 42 1 vp k (nums ((path t i).take k)) ∧ Below w.heap.size w wr) (fun _ vi _ => n - (intOf vi).toNat)
  case atStart => exact ⟨0, Nat.zero_le _, rfl, World.ownsRow_nil _ _ _ _, b⟩
  case round =>
    obtain ⟨k, hk, rfl, hrow, hb⟩ := hrel
    clear b hc
    by_cases hlt : k < n
    · have hlt2 : (k : Int) < (n : Int) := by omega
      have h0 : (0 : Int) ≤ (k : Int) := by omega
      have hkt : k < t.length := by have := Hn.out; omega
      obtain ⟨ad2, la2, lc2, e2', hc, -, ho⟩ := (hv.below hb).at_ hkt
      injection e2' with e2'
      subst e2'
      have hj : i / 2 ^ k < 2 ^ (n - k) := div_pow_lt (by have := Hi.out; rw [Hzn.out] at this; exact this) (by omega)
      have hzz : (t.getD k []).length = 2 ^ (n - k) := by rw [Hsh.out k hkt, Hn.out]
      rw [pow_even hlt] at hj hzz
      have hsl := sib_lt hj
      rw [← hzz] at hsl
      have hj256 : i / 2 ^ k < 256 := by have := Nat.div_le_self i (2 ^ k); have := Hi.out; omega
      have hxs := xor_sib hj256
      have hpk := path_at (t := t) (i := i) (k := k) (by have := Hn.out; omega)
      have hkp : k < (path t i).length := by rw [Hp.out]; exact hlt
      have hpt : (path t i).take (k + 1) = (path t i).take k ++ [(t.getD k []).getD (sib (i / 2 ^ k)) 0] := by rw [List.take_succ_eq_append_getElem hkp, hpk]
      obtain ⟨ad3, rfl, hcx⟩ := ho.at_ (nums_at hsl)
      rw [show ((i / 2 ^ k : Nat) : Int) = (i : Int) / 2 ^ k by push_cast; rfl] at hxs
      have Hpt := Lib.hid hpt
      have hm : maxLen = 9223372036854775807 := rfl
      have hk9 : k < 9 := by have := H9.out; have := Hn.out; omega
      have hl1 : k + 1 ≤ maxLen := by omega
      have hl2 : (k + 1) * 8 ≤ 140737488355328 := by omega
      generalize (t.getD k []).getD (sib (i / 2 ^ k)) 0 = x at *
      generalize sib (i / 2 ^ k) = s at *
      generalize (t.getD k []).length = z2 at *
      have hs0 : (0 : Int) ≤ (s : Int) := by omega
      have hs1 : (s : Int) < (z2 : Int) := by omega
      clear hj hzz hj256 hpk hkp hpt hkt ho hm
      have hz := hb.size
      go_wp2_with (at_builtin; refine Kit.wpList_append_one rfl _ _ 22 rfl w.heap.size 42 i0 (.int .u64 0) 8 Try.underlying22 hi0 hz0 hz1 hz2 rfl _ _ _ rfl hrow (.int .u64 (x : Int)) 42 rfl rfl hl1 hl2 hz ?_)
      intro v' w3 hrow3 b3 _
      have hb3 := hb.trans b3
      go_wp2
      go_roundw
      case rel => exact ⟨k + 1, hlt, by go_num, by rw [Hpt.out, nums_snoc1]; exact hrow3, hb3⟩
      case measure =>
        clear e1 hxs
        simp [intOf]
        omega
    · obtain rfl : k = n := by omega
      have hd1 : decide ((k : Int) < (k : Int)) = false := by rw [decide_eq_false_iff_not]; omega
      rw [List.take_of_length_le (by rw [Hp.out]; omega)] at hrow
      clear hlt
      go_wp2
      go_ret2
      exact ⟨_, rfl, hrow, hb⟩
end Mera
end Go.Proofs.Ytllbcnficlbobaa
