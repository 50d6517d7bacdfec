/-
  Package merkle: Fits.
-/
import Derived.Test.YtllbcnficlbobaaMerE
import Derived.Test.YtllbcnficlbobaaMerI
namespace Go.Proofs.Ytllbcnficlbobaa
open Go.RowKit
open Ideal Ida Mer

namespace Mera
theorem fitL_succ (t : List (List Nat)) (k : Nat) : fitL t (k + 1) = fitL t k ++ (upT (t.getD k [])).zip (t.getD (k + 1) []) := by
  unfold fitL
  rw [List.range_succ, List.flatMap_append]
  simp
theorem fitL_len {t : List (List Nat)} (hs : shaped t = true) : ∀ k, k ≤ t.length - 1 → (fitL t k).length ≤ 256 * k
  | 0, _ => by simp [fitL]
  | k + 1, hk => by
    have ih := fitL_len hs k (by omega)
    have h := shaped_iff.1 hs
    have h2 := h.2.2 (k + 1) (by omega)
    have h3 := Or.pow_le (d := t.length - 1 - (k + 1)) (by omega)
    rw [fitL_succ, List.length_append, List.length_zip]
    omega
/-- Part of a list goes wrong, so the whole does. -/
theorem fitL_part (t : List (List Nat)) : ∀ n k, k ≤ n → ∃ r, fitL t n = fitL t k ++ r
  | 0, k, hk => ⟨[], by obtain rfl : k = 0 := by omega
                        simp⟩
  | n + 1, k, hk => by
    by_cases h : k = n + 1
    · subst h
      exact ⟨[], by simp⟩
    · obtain ⟨r, hr⟩ := fitL_part t n k (by omega)
      rw [fitL_succ, hr]
      exact ⟨_, by rw [List.append_assoc]⟩

theorem add_one_k (a : Addr) (k : Nat) : a.add (k + 1) = ⟨a.block, a.off + 1 + k, none⟩ := by
  unfold Addr.add
  simp
  omega
set_option maxRecDepth 100000 in
set_option maxHeartbeats 8000000 in
theorem fits_any {L : Lay} {O : Or} {w : World} (h : Orc w L O) (hn : O.rows.length + 10000 < 1152921504606846976) (t : List (List Nat)) (hx : ∀ k x, x ∈ t.getD k [] → x < 18446744073709551616) (v : Value) (hv : Kit.Tr L.own w v t) :
    Calls Try.prog 25 #[ptr L, v] w fun e w' => e = .returned (.bool (O.fits t).1) ∧ Orc w' L (O.fits t).2 ∧ Kit.But L.own w w' := by
  obtain ⟨a, cap, rfl, hc1, hc2⟩ := hv.form
  have HS := shaped_any t _ w hv
  cases hsh : shaped t with
  | false =>
    have e : O.fits t = (false, O) := by unfold Or.fits; rw [if_neg (by rw [hsh]; simp)]
    rw [hsh] at HS
    rw [e]
    clear hsh hx e hv
    go_enter Try.func25, Try.ntmps25
    go_wp2_with fail
    refine HS.mono ?_
    rintro e w1 ⟨rfl, b⟩
    replace h := h.below b
    have c := Kit.But.of_below b (Nat.le_refl _) L.own
    go_wp2
    go_ret
    exact ⟨rfl, h, c⟩
  | true =>
    have e : O.fits t = O.cmp (fitL t (t.length - 1)) := by unfold Or.fits; rw [if_pos hsh]
    rw [hsh] at HS
    rw [e]
    have hsi := shaped_iff.1 hsh
    obtain ⟨n, hnn⟩ : ∃ n, n = t.length - 1 := ⟨_, rfl⟩
    obtain ⟨N, hN⟩ : ∃ N, N = t.length := ⟨_, rfl⟩
    rw [← hnn]
    rw [← hN] at hv hc1 HS ⊢
    have hn8 : n ≤ 8 := by omega
    by_cases hn0 : n = 0
    · obtain rfl : N = 1 := by omega
      subst hn0
      have h1 : (1 : Int) ≤ (cap : Int) := by omega
      have h2 : 1 ≤ cap := hc1
      clear hsh hx e hv hsi hnn hN
      go_enter Try.func25, Try.ntmps25
      go_wp2_with fail
      refine HS.mono ?_
      rintro e w1 ⟨rfl, b⟩
      have ho := h.below b
      clear h
      have c := Kit.But.of_below b (Nat.le_refl _) L.own
      clear HS b
      go_wp2
      all_goals
        go_loopw [13] (fun vi wr => vi = .int .i64 0 ∧ Orc wr L O ∧ Kit.But L.own w wr) (fun vi _ => 0 - (intOf vi).toNat)
        case atStart => exact ⟨rfl, ho, c⟩
        case round =>
          obtain ⟨rfl, ho, c⟩ := hrel
          go_wp2
          go_ret
          exact ⟨rfl, ho, c⟩
    · obtain ⟨ad, la0, lc0, rfl, -, -, -⟩ := hv.at_ (k := 0) (by omega)
      have h1 : (1 : Int) ≤ (N : Int) := by omega
      have h2 : 1 ≤ N := by omega
      have h3 : N ≤ cap := hc1
      have h4 : (N - 1 : Nat) = n := by omega
      have h5 : ¬ N = 1 := by omega
      have Hsi := Lib.hid hsi
      have Hnn := Lib.hid hnn
      have HN := Lib.hid hN
      have Hx := Lib.hid hx
      have Hn := Lib.hid hn
      have Hh := Lib.hid h
      have Hsh := Lib.hid hsh
      clear hsh hx e hsi hnn hN hc1 hc2 hn
      go_enter Try.func25, Try.ntmps25
      go_wp2_with fail
      refine HS.mono ?_
      rintro e w1 ⟨rfl, b⟩
      replace h := h.below b
      have c := Kit.But.of_below b (Nat.le_refl _) L.own
      clear HS b
      go_wp2
      go_loopw [13] (fun vi wr => ∃ (k : Nat) (Ok : Ideal.Or), k ≤ n ∧ vi = .int .i64 (k : Int) ∧ O.cmp (fitL t k) = (true, Ok) ∧ Orc wr L Ok ∧ Kit.But L.own w wr) (fun vi _ => n - (intOf vi).toNat)
      case atStart => exact ⟨0, O, Nat.zero_le _, rfl, rfl, h, c⟩
      case round =>
        obtain ⟨k, Ok, hk, rfl, hcmp, ho, hb⟩ := hrel
        clear h c
        by_cases hlt : k < n
        · have hlt2 : (k : Int) < (n : Int) := by omega
          have h0 : (0 : Int) ≤ (k : Int) := by omega
          have hkN : (k : Int) < (N : Int) := by omega
          have hkN2 : k < N := by omega
          obtain ⟨ad1, la, lca, e1, hc, -, hoa⟩ := (hv.but hb).at_ (k := k) (by have := HN.out; omega)
          injection e1 with e1
          subst e1
          obtain ⟨ad2, lb, lcb, e2, hd, -, hob⟩ := (hv.but hb).at_ (k := k + 1) (by have := HN.out; omega)
          injection e2 with e2
          subst e2
          rw [add_one_k] at hd
          have hsi := Hsi.out
          have hNt := HN.out
          have hnt := Hnn.out
          have hka : (t.getD k []).length = 2 * 2 ^ (n - (k + 1)) := by rw [hsi.2.2 k (by omega), ← hnt]; exact pow_even hlt
          have hkb : (t.getD (k + 1) []).length = 2 ^ (n - (k + 1)) := by rw [hsi.2.2 (k + 1) (by omega), ← hnt]
          have hm1 : 1 ≤ 2 ^ (n - (k + 1)) := Nat.one_le_two_pow
          have hm2 : 2 ^ (n - (k + 1)) ≤ 256 := Or.pow_le (by omega)
          have hfl := fitL_len Hsh.out k (by omega)
          have hlen := Or.len_cmp (fitL t k) O
          rw [hcmp] at hlen
          have HV := over_any ho (t.getD k []) (t.getD (k + 1) []) (2 ^ (n - (k + 1))) hka hkb hm1 (by omega) (Hx.out k) (by have := Hn.out; simp only at hlen; omega) _ _ hob hoa
          have hsucc := fitL_succ t k
          have hap := Or.cmp_append (fitL t k) ((upT (t.getD k [])).zip (t.getD (k + 1) [])) O
          rw [← hsucc, hcmp, if_pos rfl] at hap
          simp only at hap
          obtain ⟨y, O2, hy⟩ : ∃ y O2, Ok.cmp ((upT (t.getD k [])).zip (t.getD (k + 1) [])) = (y, O2) := ⟨_, _, rfl⟩
          rw [hy] at HV hap
          simp only at HV
          have hpart := fitL_part t n (k + 1) (by omega)
          have Hap := Lib.hid hap
          have Hpart := Lib.hid hpart
          generalize (t.getD k []).length = z1 at *
          generalize (t.getD (k + 1) []).length = z2 at *
          clear hsi hNt hnt hka hkb hm1 hm2 hfl hlen hsucc hap hy hpart hcmp hoa hob ho
          cases y with
          | true =>
            go_wp2_with fail
            refine HV.mono ?_
            rintro e w2 ⟨rfl, ho, b2⟩
            replace hb := hb.trans b2
            clear HV b2
            go_wp2
            go_roundw
            case rel => exact ⟨k + 1, O2, hlt, by go_num, Hap.out, ho, hb⟩
            case measure => simp [intOf]; omega
          | false =>
            go_wp2_with fail
            refine HV.mono ?_
            rintro e w2 ⟨rfl, ho, b2⟩
            replace hb := hb.trans b2
            have hfin : O.cmp (fitL t n) = (false, O2) := by
              obtain ⟨r, hr⟩ := Hpart.out
              rw [hr]
              exact Or.cmp_stop Hap.out
            have Hfin := Lib.hid hfin
            clear HV b2 hfin
            go_wp2
            go_ret
            exact ⟨by rw [Hfin.out]; rfl, by rw [Hfin.out]; exact ho, hb⟩
        · obtain rfl : k = n := by omega
          have hd1 : decide ((k : Int) < (k : Int)) = false := by rw [decide_eq_false_iff_not]; omega
          have Hfin := Lib.hid hcmp
          clear hlt hcmp
          go_wp2
          go_ret
          exact ⟨by rw [Hfin.out]; rfl, by rw [Hfin.out]; exact ho, hb⟩
end Mera
end Go.Proofs.Ytllbcnficlbobaa
