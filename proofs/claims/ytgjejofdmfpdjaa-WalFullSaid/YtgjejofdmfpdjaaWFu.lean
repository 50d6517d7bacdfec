/-
  WalFull: the walk, for every input.
-/
import Derived.Test.YtgjejofdmfpdjaaWlR
namespace Go.Proofs.Ytgjejofdmfpdjaa.Full10
open Go.RowKit
open Dsk Slt Wal

set_option maxRecDepth 100000 in
set_option maxHeartbeats 8000000 in
theorem full_any (l : List ByteArray) (hz : ∀ t ∈ l, t.size ≤ 140737488351232) (la : Option Addr) (lc : Nat) (d : Nat) (w : World) (hl : Kit.Rd w (.slice la l.length lc) (Dsk.strs l)) :
    Calls Try.prog 6 #[.slice la l.length lc, .int .u64 (d : Int)] w fun e w' => e = .returned (.bool true) ∧ Below w.heap.size w w' := by
  have HA := fun w' (b : Below w.heap.size w w') => appended_any l hz la lc w' (hl.below b)
  have HF := fixed_any
  have hfl := fit_le l 8
  obtain ⟨k, hk⟩ : ∃ k, k = d % 9 := ⟨_, rfl⟩
  have ek : (d : Int) % 9 = (k : Int) := by omega
  have hk8 : k ≤ 8 := by omega
  have EK := Lib.hid ek
  clear hl hz hk ek
  go_enter Try.func6, Try.ntmps6
  go_wp2_with fail
  refine (HA _ (Below.refl _ _)).mono ?_
  rintro e w1 ⟨q, p, M, K, D, rv, rfl, hN, hP, O, S⟩
  obtain ⟨ra, rc, rfl, -, -⟩ := row_form S.row
  have hP : D.pend.length = 0 := by rw [hP]; rfl
  have hh := LN_held (fit l 8)
  have hb0 : (LN (fit l 8)).base = 0 := rfl
  clear S HA
  generalize LN (fit l 8) = L at *
  generalize (fit l 8).length = h at *
  go_wp2_with fail
  refine (HF _).mono ?_
  rintro e w2 ⟨rfl, b⟩
  have O1 := O.below b
  clear O b HF
  go_wp2
  go_loopw [9] (fun vi wr => ∃ (i : Nat) (L : Lg) (D : Dk) (K M : Nat → Prop), i ≤ 8 ∧ vi = .int .i64 (i : Int) ∧ Num L D i ∧ L.base = 0 ∧ L.held.length = i ∧ D.pend.length ≤ i ∧ Lone w.heap.size w wr p K L q M D)
    (fun vi _ => 8 - (intOf vi).toNat)
  case atStart => exact ⟨h, L, D, K, M, hfl, rfl, hN, hb0, hh, by omega, O1⟩
  case round =>
    obtain ⟨i, L, D, K, M, hi, rfl, hN, hb0, hh, hP, O⟩ := hrel
    clear O1
    by_cases hlt : i < 8
    · have g1 : (i : Int) < 8 := by omega
      have H := O.app hN (by omega) (by omega) (by omega) (t := tx) (by decide)
      have hN2 := hN.more (by omega) (by omega) (t := tx) (by decide)
      have HQ := Lib.hid (And.intro hN2 (And.intro (show (L.more tx).base = 0 from hb0) (And.intro (show (L.more tx).held.length = i + 1 by show (L.held ++ [_]).length = _; rw [List.length_append, hh]; rfl) (show (wrote D L tx).pend.length ≤ i + 1 by rw [wrote_pend]; omega))))
      simp only [tx] at H HQ
      generalize wrote D L ⟨#[120]⟩ = D2 at *
      generalize L.more ⟨#[120]⟩ = L2 at *
      have e3 : wrap64 ((i : Int) + 1) = (i : Int) + 1 := by unfold wrap64; omega
      clear hN hN2 hb0 hh hP O
      go_wp2_with fail
      refine H.mono ?_
      rintro e w3 ⟨rfl, K3, M3, O3, -⟩
      clear H
      go_wp2
      go_roundw
      case rel => exact ⟨i + 1, L2, D2, K3, M3, hlt, rfl, HQ.out.1, HQ.out.2.1, HQ.out.2.2.1, HQ.out.2.2.2, O3⟩
      case measure =>
        have l5 : (intOf (.int .i64 ((i : Int) + 1))).toNat = i + 1 := rfl
        have l6 : (intOf (.int .i64 (i : Int))).toNat = i := rfl
        rw [l5, l6]
        exact Nat.sub_lt_sub_left hlt (Nat.lt_succ_self i)
    · obtain rfl : i = 8 := by omega
      have H1 := append_full O.duo.l (by rw [hN.many]; exact hh) tx
      have HL := fun w (h : LHas w p K L q) => last_any h
      have HD := fun w (h : LHas w p K L q) => drop_yes h (k := k) (by omega) k (by omega)
      rw [hN.last] at HL
      have hN2 := hN.drop (k := k) (by omega)
      have HQ := Lib.hid (And.intro hN2 (And.intro (show (L.drop k).base = k by show L.base + k = k; omega) (show (L.drop k).held.length = 8 - k by show (L.held.drop k).length = _; rw [List.length_drop, hh])))
      simp only [tx] at H1
      have OO := Lib.hid O
      have ek := EK.out
      clear hN hN2 hb0 hh O
      go_wp2_with fail
      refine H1.mono ?_
      rintro e w3 ⟨rfl, b⟩
      have O3 := OO.out.below b
      clear b OO H1
      go_wp2_with fail
      refine (HL _ O3.duo.l).mono ?_
      rintro e w4 ⟨rfl, b⟩
      have O4 := O3.below b
      clear b O3 HL
      go_wp2_with fail
      refine (HD _ O4.duo.l).mono ?_
      rintro e w5 ⟨rfl, h5, b⟩
      have O5 := O4.log b h5
      clear b h5 O4 HD
      generalize L.drop k = L5 at *
      go_wp2
      go_loopw [10] (fun vi wr => ∃ (j : Nat) (L : Lg) (D : Dk) (K M : Nat → Prop), j ≤ k ∧ vi = .int .u64 (j : Int) ∧ Num L D (8 + j) ∧ L.base = k ∧ D.pend.length ≤ 8 + j ∧ Lone w.heap.size w wr p K L q M D)
        (fun vi _ => k - (intOf vi).toNat)
      case atStart => exact ⟨0, L5, D, K, M, Nat.zero_le _, rfl, HQ.out.1, HQ.out.2.1, hP, O5⟩
      case round =>
        obtain ⟨j, L, D, K, M, hj, rfl, hN, hb0, hP, O⟩ := hrel
        have hlast : L.base + L.held.length = 8 + j := hN.last
        clear O5 HQ ek
        by_cases hlt : j < k
        · have g1 : (j : Int) < (k : Int) := by omega
          have g1n : decide (j < k) = true := decide_eq_true hlt
          have H := O.app hN (by omega) (by omega) (by omega) (t := ty) (by decide)
          have hN2 := hN.more (by omega) (by omega) (t := ty) (by decide)
          have HQ := Lib.hid (And.intro hN2 (And.intro (show (L.more ty).base = k from hb0) (show (wrote D L ty).pend.length ≤ 8 + (j + 1) by rw [wrote_pend]; omega)))
          simp only [ty] at H HQ
          generalize wrote D L ⟨#[121]⟩ = D2 at *
          generalize L.more ⟨#[121]⟩ = L2 at *
          have e3 : IntKind.u64.wrap ((j : Int) + 1) = ((j + 1 : Nat) : Int) := by rw [IntKind.wrap_u64]; omega
          have ek := EK.out
          clear hN hN2 hb0 hP O hlast
          go_wp2_with fail
          refine H.mono ?_
          rintro e w3 ⟨rfl, K3, M3, O3, -⟩
          clear H
          go_wp2
          go_roundw
          case rel => exact ⟨j + 1, L2, D2, K3, M3, hlt, rfl, HQ.out.1, HQ.out.2.1, HQ.out.2.2, O3⟩
          case measure =>
            have l5 : (intOf (.int .u64 ((j : Int) + 1))).toNat = j + 1 := rfl
            have l6 : (intOf (.int .u64 (j : Int))).toNat = j := rfl
            rw [l5, l6]
            exact Nat.sub_lt_sub_left hlt (Nat.lt_succ_self j)
        · obtain rfl : j = k := by omega
          have g1 : ¬ (j : Int) < (j : Int) := by omega
          have H1 := append_full O.duo.l (by rw [hN.many]; omega) tz
          have HL := fun w (h : LHas w p K L q) => last_any h
          have HB := fun w (h : LHas w p K L q) => base_any h
          rw [hN.last] at HL
          rw [hb0] at HB
          have e8 : IntKind.u64.wrap (8 + (j : Int)) = ((8 + j : Nat) : Int) := by rw [IntKind.wrap_u64]; omega
          simp only [tz] at H1
          have OO := Lib.hid O
          have ek := EK.out
          clear hN hb0 hlast O hP
          go_wp2_with fail
          refine H1.mono ?_
          rintro e w6 ⟨rfl, b⟩
          have O3 := OO.out.below b
          clear b OO H1
          go_wp2_with fail
          refine (HL _ O3.duo.l).mono ?_
          rintro e w7 ⟨rfl, b⟩
          have O4 := O3.below b
          clear b O3 HL
          go_wp2_with fail
          refine (HB _ O4.duo.l).mono ?_
          rintro e w8 ⟨rfl, b⟩
          have fin := (O4.below b).low
          clear b O4 HB
          go_wp2
          go_ret
          exact ⟨rfl, fin⟩
end Go.Proofs.Ytgjejofdmfpdjaa.Full10
