/-
  SlotCounts: the walk, for every input.
-/
import Derived.Test.YtolanlnabdbolaaSltI
import Derived.Test.YtolanlnabdbolaaSltK
namespace Go.Proofs.Ytolanlnabdbolaa.Counts9
open Go.RowKit
open Dsk Slt

theorem can40 : Dk.can 2 40 = true := by decide
theorem text_at {w w' : World} {a : Option Addr} {n cap : Nat} {l : List ByteArray} (h : Kit.Rd w (.slice a n cap) (Dsk.strs l)) (hb : Below w.heap.size w w') {i : Nat} {t : ByteArray} (hi : l[i]? = some t) : ∃ ad, a = some ad ∧ w'.cell? (ad.add i) = some (.string t) := by
  have h1 := h.below hb
  refine h1.at_ ?_
  simp [Dsk.strs, hi]

set_option maxRecDepth 100000 in
set_option maxHeartbeats 8000000 in
theorem counts_any (l : List ByteArray) (la : Option Addr) (lc : Nat) (w : World) (hl : Kit.Rd w (.slice la l.length lc) (Dsk.strs l)) :
    Calls Try.prog 7 #[.slice la l.length lc] w fun e w' => e = .returned (.bool true) ∧ Below w.heap.size w w' := by
  have HL := Lib.hid hl
  have HN := fun w' => new_good 2 40 can40 w'
  have HF := fixed_any
  clear hl
  go_enter Try.func7, Try.ntmps7
  go_wp2_with fail
  refine (HN _).mono ?_
  rintro e w1 ⟨p, K, rfl, h1, hK, b1⟩
  have O1 : One w.heap.size w w1 p K (Dk.new 2 40) := ⟨h1, hK, b1, b1.size⟩
  clear h1 hK b1 HN
  go_wp2_with fail
  refine (HF _).mono ?_
  rintro e w2 ⟨rfl, b2⟩
  have O2 := O1.below b2
  clear b2 O1 HF
  go_wp2
  go_loopw [5, 6, 7] (fun vl vn vi wr => ∃ (i n : Nat) (u : ByteArray) (D : Dk) (K : Nat → Prop), i ≤ l.length ∧ i ≤ 40 ∧ vi = .int .i64 (i : Int) ∧ vn = .int .u64 (n : Int) ∧ vl = .string u ∧ Inv D n u i ∧ One w.heap.size w wr p K D)
    (fun _ _ vi _ => 40 - (intOf vi).toNat)
  case atStart => exact ⟨0, 0, ⟨#[]⟩, _, K, Nat.zero_le _, by omega, rfl, rfl, rfl, inv_new, O2⟩
  case round =>
    obtain ⟨i, n, u, D, K1, hi1, hi2, rfl, rfl, rfl, hI, O⟩ := hrel
    clear O2
    by_cases hlt : i < l.length
    · have g1 : (i : Int) < (l.length : Int) := by omega
      by_cases hlt2 : i < 40
      · have g2 : (i : Int) < 40 := by omega
        obtain ⟨t, ht⟩ : ∃ t, l[i]? = some t := ⟨_, List.getElem?_eq_getElem hlt⟩
        have HT := Lib.hid ht
        obtain ⟨ad, rfl, a0⟩ := text_at HL.out O.low ht
        have hp := hI.pend
        have H := save_any O.d (by omega) 0 1 t
        rw [hI.can (by omega) t] at H
        have e3 : wrap64 ((i : Int) + 1) = (i : Int) + 1 := by unfold wrap64; omega
        have hle := hI.le
        have OO := Lib.hid O
        by_cases hs : t.size ≤ 22
        · have hJ := hI.save (by omega) hs
          rw [decide_eq_true hs] at H
          have H2 := fun w' K' (h : Mem w' p K' (Slt.save D 0 1 t)) => load_any h (by rw [hJ.pend]; decide) 0 1
          rw [hJ.load] at H2
          have gs : decide ((t.size : Int) ≤ 22) = true := by rw [decide_eq_true_iff]; omega
          have ew : IntKind.u64.wrap ((n : Int) + 1) = ((n + 1 : Nat) : Int) := by rw [wraps_u64 _ (by omega) (by omega)]; rfl
          have HJ := Lib.hid hJ
          generalize Slt.save D 0 1 t = D2 at *
          clear hI O hJ ht hp hs
          go_wp2_with fail
          refine H.mono ?_
          rintro e w3 ⟨rfl, K3, h3, st⟩
          have O3 := OO.out.turn st h3
          clear st h3 H OO a0
          obtain ⟨ad', e, a0⟩ := text_at HL.out O3.low HT.out
          cases e
          go_wp2_with fail
          refine (H2 _ _ O3.d).mono ?_
          rintro e w4 ⟨rfl, b4⟩
          have O4 := O3.below b4
          clear O3 b4 H2 a0
          go_wp2
          go_roundw
          case rel => exact ⟨i + 1, n + 1, t, D2, K3, hlt, by omega, rfl, rfl, rfl, HJ.out, O4⟩
          case measure =>
            have l5 : (intOf (.int .i64 ((i : Int) + 1))).toNat = i + 1 := rfl
            have l6 : (intOf (.int .i64 (i : Int))).toNat = i := rfl
            rw [l5, l6]
            exact Nat.sub_lt_sub_left hlt2 (Nat.lt_succ_self i)
        · have hJ := hI.skip (by omega) hs
          rw [decide_eq_false hs] at H
          have H2 := fun w' K' (h : Mem w' p K' (Slt.save D 0 1 t)) => load_any h (by rw [hJ.pend]; decide) 0 1
          rw [hJ.load] at H2
          have gs : decide ((t.size : Int) ≤ 22) = false := by rw [decide_eq_false_iff_not]; omega
          have HJ := Lib.hid hJ
          generalize Slt.save D 0 1 t = D2 at *
          clear hI O hJ ht hp hs
          go_wp2_with fail
          refine H.mono ?_
          rintro e w3 ⟨rfl, K3, h3, st⟩
          have O3 := OO.out.turn st h3
          clear st h3 H OO a0
          obtain ⟨ad', e, a0⟩ := text_at HL.out O3.low HT.out
          cases e
          go_wp2_with fail
          refine (H2 _ _ O3.d).mono ?_
          rintro e w4 ⟨rfl, b4⟩
          have O4 := O3.below b4
          clear O3 b4 H2 a0
          go_wp2
          go_roundw
          case rel => exact ⟨i + 1, n, u, D2, K3, hlt, by omega, rfl, rfl, rfl, HJ.out, O4⟩
          case measure =>
            have l5 : (intOf (.int .i64 ((i : Int) + 1))).toNat = i + 1 := rfl
            have l6 : (intOf (.int .i64 (i : Int))).toNat = i := rfl
            rw [l5, l6]
            exact Nat.sub_lt_sub_left hlt2 (Nat.lt_succ_self i)
      · obtain rfl : i = 40 := by omega
        have fin := O.low
        clear hI O
        go_wp2
        go_ret
        exact ⟨rfl, fin⟩
    · obtain rfl : i = l.length := by omega
      have g1 : ¬ (l.length : Int) < (l.length : Int) := by omega
      have fin := O.low
      clear hI O
      go_wp2
      go_ret
      exact ⟨rfl, fin⟩
end Go.Proofs.Ytolanlnabdbolaa.Counts9
