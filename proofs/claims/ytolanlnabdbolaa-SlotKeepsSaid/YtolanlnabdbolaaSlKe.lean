/-
  SlotKeeps: the walk, for every input.
-/
import Derived.Test.YtolanlnabdbolaaSlCo
namespace Go.Proofs.Ytolanlnabdbolaa.Keeps9
open Go.RowKit
open Dsk Slt
open Counts9 (can40 text_at)

set_option maxRecDepth 100000 in
set_option maxHeartbeats 40000000 in
theorem keeps_any (l : List ByteArray) (la : Option Addr) (lc : Nat) (ta tb : ByteArray) (c : Int) (w : World) (hl : Kit.Rd w (.slice la l.length lc) (Dsk.strs l)) :
    Calls Try.prog 6 #[.slice la l.length lc, .agg #[.string ta, .string tb], .int .i64 c] w fun e w' => e = .returned (.bool true) ∧ Below w.heap.size w w' := by
  have HL := Lib.hid hl
  have X := Box.new w #[.string ta, .string tb] 56
  have c0 := below_lit w (.cells #[.string ta, .string tb] 56)
  have x0 : (w.alloc (.cells #[.string ta, .string tb] 56)).cell? ⟨w.heap.size, 0, none⟩ = some (.string ta) := X.cell (j := 0) rfl
  have x1 : (w.alloc (.cells #[.string ta, .string tb] 56)).cell? ⟨w.heap.size, 1, none⟩ = some (.string tb) := X.cell (j := 1) rfl
  have HN := fun w' => new_good 2 40 can40 w'
  have HF := fixed_any
  clear hl X
  go_enter Try.func6, Try.ntmps6
  go_wp2_with fail
  go_quiet (fail)
  have c1 := c0.trans ((Dsk.below_drewN _ nq).mono c0.size)
  clear x0 x1 c0
  generalize World.drewN _ nq = wa at *
  go_wp2_with fail
  refine (HN _).mono ?_
  rintro e w1 ⟨p, K, rfl, h1, hK, b1⟩
  have O1 : One w.heap.size w w1 p K (Dk.new 2 40) := ⟨h1, fun i hi => Nat.le_trans c1.size (hK i hi), c1.trans (b1.mono c1.size), Nat.le_trans c1.size b1.size⟩
  clear h1 hK b1 HN c1
  go_wp2_with fail
  refine (HF _).mono ?_
  rintro e w2 ⟨rfl, b2⟩
  have O2 := O1.below b2
  clear b2 O1 HF
  go_wp2
  go_loopw [11, 12, 13] (fun vl vn vi wr => ∃ (i n : Nat) (u : ByteArray) (D : Dk) (K : Nat → Prop), i ≤ l.length ∧ i ≤ 20 ∧ vi = .int .i64 (i : Int) ∧ vn = .int .u64 (n : Int) ∧ vl = .string u ∧ Inv D n u i ∧ One w.heap.size w wr p K D)
    (fun _ _ vi _ => 20 - (intOf vi).toNat)
  case atStart => exact ⟨0, 0, ⟨#[]⟩, _, K, Nat.zero_le _, by omega, rfl, rfl, rfl, inv_new, O2⟩
  case round =>
    obtain ⟨i, n, u, D, K1, hi1, hi2, rfl, rfl, rfl, hI, O⟩ := hrel
    clear O2
    by_cases hlt : i < l.length
    · have g1 : (i : Int) < (l.length : Int) := by omega
      by_cases hlt2 : i < 20
      · have g2 : (i : Int) < 20 := by omega
        obtain ⟨t, ht⟩ : ∃ t, l[i]? = some t := ⟨_, List.getElem?_eq_getElem hlt⟩
        have HT := Lib.hid ht
        obtain ⟨ad, rfl, a0⟩ := text_at HL.out O.low ht
        have hp := hI.pend
        have H := save_any O.d (by omega) 0 1 t
        rw [hI.can (by omega) t] at H
        have e3 : wrap64 ((i : Int) + 1) = (i : Int) + 1 := by unfold wrap64; omega
        have hle := hI.le
        have OO := Lib.hid O
        clear hp
        by_cases hs : t.size ≤ 22
        · have hJ := hI.save (by omega) hs
          rw [decide_eq_true hs] at H
          have HJ := Lib.hid hJ
          have ew : IntKind.u64.wrap ((n : Int) + 1) = ((n + 1 : Nat) : Int) := by rw [wraps_u64 _ (by omega) (by omega)]; rfl
          generalize Slt.save D 0 1 t = D2 at *
          clear hI O hJ ht hs
          go_wp2_with fail
          refine H.mono ?_
          rintro e w3 ⟨rfl, K3, h3, st⟩
          have O3 := OO.out.turn st h3
          clear st h3 H OO a0
          obtain ⟨ad', e, a0⟩ := text_at HL.out O3.low HT.out
          cases e
          go_wp2
          go_roundw
          case rel => exact ⟨i + 1, n + 1, t, D2, K3, hlt, by omega, rfl, rfl, rfl, HJ.out, O3⟩
          case measure =>
            have l5 : (intOf (.int .i64 ((i : Int) + 1))).toNat = i + 1 := rfl
            have l6 : (intOf (.int .i64 (i : Int))).toNat = i := rfl
            rw [l5, l6]
            exact Nat.sub_lt_sub_left hlt2 (Nat.lt_succ_self i)
        · have hJ := hI.skip (by omega) hs
          rw [decide_eq_false hs] at H
          have HJ := Lib.hid hJ
          generalize Slt.save D 0 1 t = D2 at *
          clear hI O hJ ht hs
          go_wp2_with fail
          refine H.mono ?_
          rintro e w3 ⟨rfl, K3, h3, st⟩
          have O3 := OO.out.turn st h3
          clear st h3 H OO a0
          go_wp2
          go_roundw
          case rel => exact ⟨i + 1, n, u, D2, K3, hlt, by omega, rfl, rfl, rfl, HJ.out, O3⟩
          case measure =>
            have l5 : (intOf (.int .i64 ((i : Int) + 1))).toNat = i + 1 := rfl
            have l6 : (intOf (.int .i64 (i : Int))).toNat = i := rfl
            rw [l5, l6]
            exact Nat.sub_lt_sub_left hlt2 (Nat.lt_succ_self i)
      · obtain rfl : i = 20 := by omega
        have hle := hI.le
        have hn100 : n < 100 := by omega
        have hp := hI.pend
        have HB := begin_any O.d (by omega) 0 1 ta
        rw [hI.can (by omega) ta] at HB
        obtain ⟨x, y, e2, hx, hy, hor, hall⟩ := hI.crash (by omega) ta c
        have hpb := pend_begin D 0 1 ta
        have HC := fun w' K' v (h : Mem w' p K' (begin_ D 0 1 ta)) hv => @crash_any w' p K' (begin_ D 0 1 ta) h (by omega) [c] v hv
        rw [e2] at hor hall HC
        have HLo := fun w' K' (h : Mem w' p K' (two_ x y)) => load_any h (by show 0 < 2000; decide) 0 1
        have HS := fun w' K' (h : Mem w' p K' (two_ x y)) => save_any h (by show 0 < 900; decide) 0 1 tb
        have HM := fun w' K' (h : Mem w' p K' (Slt.save (two_ x y) 0 1 tb)) => load_any h (by have := pend_save (two_ x y) 0 1 tb; have h0 : (two_ x y).pend.length = 0 := rfl; omega) 0 1
        have OO := Lib.hid O
        clear hI O hp hpb e2
        generalize begin_ D 0 1 ta = D1 at *
        by_cases ht : ta.size ≤ 22
        · rw [decide_eq_true ht] at HB
          by_cases hc : c ≥ 40
          · have hld := hall ht hc
            clear hor
            by_cases hb : tb.size ≤ 22
            · have hsv := save_two hx hy hld (by omega) tb
              rw [hld] at HLo
              rw [hsv.1] at HS
              rw [hsv.2] at HM
              rw [if_pos hb] at HM
              rw [decide_eq_true hb] at HS
              have g1 : decide ((ta.size : Int) ≤ 22) = true := by rw [decide_eq_true_iff]; omega
              have g2 : decide ((tb.size : Int) ≤ 22) = true := by rw [decide_eq_true_iff]; omega
              have ew : IntKind.u64.wrap ((n : Int) + 1) = ((n + 1 : Nat) : Int) := by rw [wraps_u64 _ (by omega) (by omega)]; rfl
              have ew2 : IntKind.u64.wrap (((n + 1 : Nat) : Int) + 1) = ((n + 1 + 1 : Nat) : Int) := by rw [wraps_u64 _ (by omega) (by omega)]; rfl
              have q1 : (((n + 1 : Nat) : Int) == (n : Int)) = false := by rw [beq_eq_false_iff_ne]; omega
              have q2 : (((n : Int) + 1) == (n : Int)) = false := by rw [beq_eq_false_iff_ne]; omega
              have q3 : ((n : Int) == ((n : Int) + 1)) = false := by rw [beq_eq_false_iff_ne]; omega
              have g3 : decide (c ≥ 40) = true := by rw [decide_eq_true_iff]; exact hc
              clear hsv hld hx hy hall
              generalize two_ x y = D2 at *
              generalize Slt.save D2 0 1 tb = D3 at *
              go_wp2_with fail
              refine HB.mono ?_
              rintro e w3 ⟨rfl, K3, h3, st⟩
              have O3 := OO.out.turn st h3
              clear st h3 HB OO
              have bl := below_lit w3 (.cells #[.int .i64 c] 3)
              have O4 := O3.below bl
              have hr : RdK K3 (w3.alloc (.cells #[.int .i64 c] 3)) (.slice (some ⟨w3.heap.size, 0, none⟩) 1 1) (ints [c]) := by
                refine ⟨_, 1, rfl, .inr ⟨_, rfl, fun hk => Nat.lt_irrefl _ (O3.d.lt _ hk), fun j u hj => ?_⟩⟩
                match j, hj with
                | 0, hj =>
                  cases hj
                  exact (Box.new w3 #[.int .i64 c] 3).cell (j := 0) rfl
                | j + 1, hj => cases hj
              have H5 := HC _ _ _ O4.d hr
              clear O3 bl HC hr
              go_wp2_with fail
              refine H5.mono ?_
              rintro e w5 ⟨rfl, h5, b⟩
              have O5 := O4.same b h5
              clear O4 h5 b H5
              go_wp2_with fail
              refine (HLo _ _ O5.d).mono ?_
              rintro e w6 ⟨rfl, b⟩
              have O6 := O5.below b
              clear O5 b
              go_wp2_with fail
              refine (HLo _ _ O6.d).mono ?_
              rintro e w7 ⟨rfl, b⟩
              have O7 := O6.below b
              clear O6 b HLo
              go_wp2_with fail
              refine (HS _ _ O7.d).mono ?_
              rintro e w8 ⟨rfl, K8, h8, st⟩
              have O8 := O7.turn st h8
              clear O7 st h8 HS
              go_wp2_with fail
              refine (HM _ _ O8.d).mono ?_
              rintro e w9 ⟨rfl, b⟩
              have fin := (O8.below b).low
              clear O8 b HM
              go_wp2
              go_ret
              exact ⟨rfl, fin⟩
            · have hsv := save_two hx hy hld (by omega) tb
              rw [hld] at HLo
              rw [hsv.1] at HS
              rw [hsv.2] at HM
              rw [if_neg hb] at HM
              rw [decide_eq_false hb] at HS
              have g1 : decide ((ta.size : Int) ≤ 22) = true := by rw [decide_eq_true_iff]; omega
              have g2 : decide ((tb.size : Int) ≤ 22) = false := by rw [decide_eq_false_iff_not]; omega
              have ew : IntKind.u64.wrap ((n : Int) + 1) = ((n + 1 : Nat) : Int) := by rw [wraps_u64 _ (by omega) (by omega)]; rfl
              have ew2 : IntKind.u64.wrap (((n + 1 : Nat) : Int) + 1) = ((n + 1 + 1 : Nat) : Int) := by rw [wraps_u64 _ (by omega) (by omega)]; rfl
              have q1 : (((n + 1 : Nat) : Int) == (n : Int)) = false := by rw [beq_eq_false_iff_ne]; omega
              have q2 : (((n : Int) + 1) == (n : Int)) = false := by rw [beq_eq_false_iff_ne]; omega
              have q3 : ((n : Int) == ((n : Int) + 1)) = false := by rw [beq_eq_false_iff_ne]; omega
              have g3 : decide (c ≥ 40) = true := by rw [decide_eq_true_iff]; exact hc
              clear hsv hld hx hy hall
              generalize two_ x y = D2 at *
              generalize Slt.save D2 0 1 tb = D3 at *
              go_wp2_with fail
              refine HB.mono ?_
              rintro e w3 ⟨rfl, K3, h3, st⟩
              have O3 := OO.out.turn st h3
              clear st h3 HB OO
              have bl := below_lit w3 (.cells #[.int .i64 c] 3)
              have O4 := O3.below bl
              have hr : RdK K3 (w3.alloc (.cells #[.int .i64 c] 3)) (.slice (some ⟨w3.heap.size, 0, none⟩) 1 1) (ints [c]) := by
                refine ⟨_, 1, rfl, .inr ⟨_, rfl, fun hk => Nat.lt_irrefl _ (O3.d.lt _ hk), fun j u hj => ?_⟩⟩
                match j, hj with
                | 0, hj =>
                  cases hj
                  exact (Box.new w3 #[.int .i64 c] 3).cell (j := 0) rfl
                | j + 1, hj => cases hj
              have H5 := HC _ _ _ O4.d hr
              clear O3 bl HC hr
              go_wp2_with fail
              refine H5.mono ?_
              rintro e w5 ⟨rfl, h5, b⟩
              have O5 := O4.same b h5
              clear O4 h5 b H5
              go_wp2_with fail
              refine (HLo _ _ O5.d).mono ?_
              rintro e w6 ⟨rfl, b⟩
              have O6 := O5.below b
              clear O5 b
              go_wp2_with fail
              refine (HLo _ _ O6.d).mono ?_
              rintro e w7 ⟨rfl, b⟩
              have O7 := O6.below b
              clear O6 b HLo
              go_wp2_with fail
              refine (HS _ _ O7.d).mono ?_
              rintro e w8 ⟨rfl, K8, h8, st⟩
              have O8 := O7.turn st h8
              clear O7 st h8 HS
              go_wp2_with fail
              refine (HM _ _ O8.d).mono ?_
              rintro e w9 ⟨rfl, b⟩
              have fin := (O8.below b).low
              clear O8 b HM
              go_wp2
              go_ret
              exact ⟨rfl, fin⟩
          · rcases hor with hld | ⟨-, hld⟩
            · by_cases hb : tb.size ≤ 22
              · have hsv := save_two hx hy hld (by omega) tb
                rw [hld] at HLo
                rw [hsv.1] at HS
                rw [hsv.2] at HM
                rw [if_pos hb] at HM
                rw [decide_eq_true hb] at HS
                have g1 : decide ((ta.size : Int) ≤ 22) = true := by rw [decide_eq_true_iff]; omega
                have g2 : decide ((tb.size : Int) ≤ 22) = true := by rw [decide_eq_true_iff]; omega
                have ew : IntKind.u64.wrap ((n : Int) + 1) = ((n + 1 : Nat) : Int) := by rw [wraps_u64 _ (by omega) (by omega)]; rfl
                have ew2 : IntKind.u64.wrap (((n + 1 : Nat) : Int) + 1) = ((n + 1 + 1 : Nat) : Int) := by rw [wraps_u64 _ (by omega) (by omega)]; rfl
                have q1 : (((n + 1 : Nat) : Int) == (n : Int)) = false := by rw [beq_eq_false_iff_ne]; omega
                have q2 : (((n : Int) + 1) == (n : Int)) = false := by rw [beq_eq_false_iff_ne]; omega
                have q3 : ((n : Int) == ((n : Int) + 1)) = false := by rw [beq_eq_false_iff_ne]; omega
                have g3 : decide (c ≥ 40) = false := by rw [decide_eq_false_iff_not]; exact hc
                clear hsv hld hx hy hall
                generalize two_ x y = D2 at *
                generalize Slt.save D2 0 1 tb = D3 at *
                go_wp2_with fail
                refine HB.mono ?_
                rintro e w3 ⟨rfl, K3, h3, st⟩
                have O3 := OO.out.turn st h3
                clear st h3 HB OO
                have bl := below_lit w3 (.cells #[.int .i64 c] 3)
                have O4 := O3.below bl
                have hr : RdK K3 (w3.alloc (.cells #[.int .i64 c] 3)) (.slice (some ⟨w3.heap.size, 0, none⟩) 1 1) (ints [c]) := by
                  refine ⟨_, 1, rfl, .inr ⟨_, rfl, fun hk => Nat.lt_irrefl _ (O3.d.lt _ hk), fun j u hj => ?_⟩⟩
                  match j, hj with
                  | 0, hj =>
                    cases hj
                    exact (Box.new w3 #[.int .i64 c] 3).cell (j := 0) rfl
                  | j + 1, hj => cases hj
                have H5 := HC _ _ _ O4.d hr
                clear O3 bl HC hr
                go_wp2_with fail
                refine H5.mono ?_
                rintro e w5 ⟨rfl, h5, b⟩
                have O5 := O4.same b h5
                clear O4 h5 b H5
                go_wp2_with fail
                refine (HLo _ _ O5.d).mono ?_
                rintro e w6 ⟨rfl, b⟩
                have O6 := O5.below b
                clear O5 b
                go_wp2_with fail
                refine (HLo _ _ O6.d).mono ?_
                rintro e w7 ⟨rfl, b⟩
                have O7 := O6.below b
                clear O6 b HLo
                go_wp2_with fail
                refine (HS _ _ O7.d).mono ?_
                rintro e w8 ⟨rfl, K8, h8, st⟩
                have O8 := O7.turn st h8
                clear O7 st h8 HS
                go_wp2_with fail
                refine (HM _ _ O8.d).mono ?_
                rintro e w9 ⟨rfl, b⟩
                have fin := (O8.below b).low
                clear O8 b HM
                go_wp2
                go_ret
                exact ⟨rfl, fin⟩
              · have hsv := save_two hx hy hld (by omega) tb
                rw [hld] at HLo
                rw [hsv.1] at HS
                rw [hsv.2] at HM
                rw [if_neg hb] at HM
                rw [decide_eq_false hb] at HS
                have g1 : decide ((ta.size : Int) ≤ 22) = true := by rw [decide_eq_true_iff]; omega
                have g2 : decide ((tb.size : Int) ≤ 22) = false := by rw [decide_eq_false_iff_not]; omega
                have ew : IntKind.u64.wrap ((n : Int) + 1) = ((n + 1 : Nat) : Int) := by rw [wraps_u64 _ (by omega) (by omega)]; rfl
                have ew2 : IntKind.u64.wrap (((n + 1 : Nat) : Int) + 1) = ((n + 1 + 1 : Nat) : Int) := by rw [wraps_u64 _ (by omega) (by omega)]; rfl
                have q1 : (((n + 1 : Nat) : Int) == (n : Int)) = false := by rw [beq_eq_false_iff_ne]; omega
                have q2 : (((n : Int) + 1) == (n : Int)) = false := by rw [beq_eq_false_iff_ne]; omega
                have q3 : ((n : Int) == ((n : Int) + 1)) = false := by rw [beq_eq_false_iff_ne]; omega
                have g3 : decide (c ≥ 40) = false := by rw [decide_eq_false_iff_not]; exact hc
                clear hsv hld hx hy hall
                generalize two_ x y = D2 at *
                generalize Slt.save D2 0 1 tb = D3 at *
                go_wp2_with fail
                refine HB.mono ?_
                rintro e w3 ⟨rfl, K3, h3, st⟩
                have O3 := OO.out.turn st h3
                clear st h3 HB OO
                have bl := below_lit w3 (.cells #[.int .i64 c] 3)
                have O4 := O3.below bl
                have hr : RdK K3 (w3.alloc (.cells #[.int .i64 c] 3)) (.slice (some ⟨w3.heap.size, 0, none⟩) 1 1) (ints [c]) := by
                  refine ⟨_, 1, rfl, .inr ⟨_, rfl, fun hk => Nat.lt_irrefl _ (O3.d.lt _ hk), fun j u hj => ?_⟩⟩
                  match j, hj with
                  | 0, hj =>
                    cases hj
                    exact (Box.new w3 #[.int .i64 c] 3).cell (j := 0) rfl
                  | j + 1, hj => cases hj
                have H5 := HC _ _ _ O4.d hr
                clear O3 bl HC hr
                go_wp2_with fail
                refine H5.mono ?_
                rintro e w5 ⟨rfl, h5, b⟩
                have O5 := O4.same b h5
                clear O4 h5 b H5
                go_wp2_with fail
                refine (HLo _ _ O5.d).mono ?_
                rintro e w6 ⟨rfl, b⟩
                have O6 := O5.below b
                clear O5 b
                go_wp2_with fail
                refine (HLo _ _ O6.d).mono ?_
                rintro e w7 ⟨rfl, b⟩
                have O7 := O6.below b
                clear O6 b HLo
                go_wp2_with fail
                refine (HS _ _ O7.d).mono ?_
                rintro e w8 ⟨rfl, K8, h8, st⟩
                have O8 := O7.turn st h8
                clear O7 st h8 HS
                go_wp2_with fail
                refine (HM _ _ O8.d).mono ?_
                rintro e w9 ⟨rfl, b⟩
                have fin := (O8.below b).low
                clear O8 b HM
                go_wp2
                go_ret
                exact ⟨rfl, fin⟩
            · by_cases hb : tb.size ≤ 22
              · have hsv := save_two hx hy hld (by omega) tb
                rw [hld] at HLo
                rw [hsv.1] at HS
                rw [hsv.2] at HM
                rw [if_pos hb] at HM
                rw [decide_eq_true hb] at HS
                have g1 : decide ((ta.size : Int) ≤ 22) = true := by rw [decide_eq_true_iff]; omega
                have g2 : decide ((tb.size : Int) ≤ 22) = true := by rw [decide_eq_true_iff]; omega
                have ew : IntKind.u64.wrap ((n : Int) + 1) = ((n + 1 : Nat) : Int) := by rw [wraps_u64 _ (by omega) (by omega)]; rfl
                have ew2 : IntKind.u64.wrap (((n + 1 : Nat) : Int) + 1) = ((n + 1 + 1 : Nat) : Int) := by rw [wraps_u64 _ (by omega) (by omega)]; rfl
                have q1 : (((n + 1 : Nat) : Int) == (n : Int)) = false := by rw [beq_eq_false_iff_ne]; omega
                have q2 : (((n : Int) + 1) == (n : Int)) = false := by rw [beq_eq_false_iff_ne]; omega
                have q3 : ((n : Int) == ((n : Int) + 1)) = false := by rw [beq_eq_false_iff_ne]; omega
                have g3 : decide (c ≥ 40) = false := by rw [decide_eq_false_iff_not]; exact hc
                clear hsv hld hx hy hall
                generalize two_ x y = D2 at *
                generalize Slt.save D2 0 1 tb = D3 at *
                go_wp2_with fail
                refine HB.mono ?_
                rintro e w3 ⟨rfl, K3, h3, st⟩
                have O3 := OO.out.turn st h3
                clear st h3 HB OO
                have bl := below_lit w3 (.cells #[.int .i64 c] 3)
                have O4 := O3.below bl
                have hr : RdK K3 (w3.alloc (.cells #[.int .i64 c] 3)) (.slice (some ⟨w3.heap.size, 0, none⟩) 1 1) (ints [c]) := by
                  refine ⟨_, 1, rfl, .inr ⟨_, rfl, fun hk => Nat.lt_irrefl _ (O3.d.lt _ hk), fun j u hj => ?_⟩⟩
                  match j, hj with
                  | 0, hj =>
                    cases hj
                    exact (Box.new w3 #[.int .i64 c] 3).cell (j := 0) rfl
                  | j + 1, hj => cases hj
                have H5 := HC _ _ _ O4.d hr
                clear O3 bl HC hr
                go_wp2_with fail
                refine H5.mono ?_
                rintro e w5 ⟨rfl, h5, b⟩
                have O5 := O4.same b h5
                clear O4 h5 b H5
                go_wp2_with fail
                refine (HLo _ _ O5.d).mono ?_
                rintro e w6 ⟨rfl, b⟩
                have O6 := O5.below b
                clear O5 b
                go_wp2_with fail
                refine (HLo _ _ O6.d).mono ?_
                rintro e w7 ⟨rfl, b⟩
                have O7 := O6.below b
                clear O6 b HLo
                go_wp2_with fail
                refine (HS _ _ O7.d).mono ?_
                rintro e w8 ⟨rfl, K8, h8, st⟩
                have O8 := O7.turn st h8
                clear O7 st h8 HS
                go_wp2_with fail
                refine (HM _ _ O8.d).mono ?_
                rintro e w9 ⟨rfl, b⟩
                have fin := (O8.below b).low
                clear O8 b HM
                go_wp2
                go_ret
                exact ⟨rfl, fin⟩
              · have hsv := save_two hx hy hld (by omega) tb
                rw [hld] at HLo
                rw [hsv.1] at HS
                rw [hsv.2] at HM
                rw [if_neg hb] at HM
                rw [decide_eq_false hb] at HS
                have g1 : decide ((ta.size : Int) ≤ 22) = true := by rw [decide_eq_true_iff]; omega
                have g2 : decide ((tb.size : Int) ≤ 22) = false := by rw [decide_eq_false_iff_not]; omega
                have ew : IntKind.u64.wrap ((n : Int) + 1) = ((n + 1 : Nat) : Int) := by rw [wraps_u64 _ (by omega) (by omega)]; rfl
                have ew2 : IntKind.u64.wrap (((n + 1 : Nat) : Int) + 1) = ((n + 1 + 1 : Nat) : Int) := by rw [wraps_u64 _ (by omega) (by omega)]; rfl
                have q1 : (((n + 1 : Nat) : Int) == (n : Int)) = false := by rw [beq_eq_false_iff_ne]; omega
                have q2 : (((n : Int) + 1) == (n : Int)) = false := by rw [beq_eq_false_iff_ne]; omega
                have q3 : ((n : Int) == ((n : Int) + 1)) = false := by rw [beq_eq_false_iff_ne]; omega
                have g3 : decide (c ≥ 40) = false := by rw [decide_eq_false_iff_not]; exact hc
                clear hsv hld hx hy hall
                generalize two_ x y = D2 at *
                generalize Slt.save D2 0 1 tb = D3 at *
                go_wp2_with fail
                refine HB.mono ?_
                rintro e w3 ⟨rfl, K3, h3, st⟩
                have O3 := OO.out.turn st h3
                clear st h3 HB OO
                have bl := below_lit w3 (.cells #[.int .i64 c] 3)
                have O4 := O3.below bl
                have hr : RdK K3 (w3.alloc (.cells #[.int .i64 c] 3)) (.slice (some ⟨w3.heap.size, 0, none⟩) 1 1) (ints [c]) := by
                  refine ⟨_, 1, rfl, .inr ⟨_, rfl, fun hk => Nat.lt_irrefl _ (O3.d.lt _ hk), fun j u hj => ?_⟩⟩
                  match j, hj with
                  | 0, hj =>
                    cases hj
                    exact (Box.new w3 #[.int .i64 c] 3).cell (j := 0) rfl
                  | j + 1, hj => cases hj
                have H5 := HC _ _ _ O4.d hr
                clear O3 bl HC hr
                go_wp2_with fail
                refine H5.mono ?_
                rintro e w5 ⟨rfl, h5, b⟩
                have O5 := O4.same b h5
                clear O4 h5 b H5
                go_wp2_with fail
                refine (HLo _ _ O5.d).mono ?_
                rintro e w6 ⟨rfl, b⟩
                have O6 := O5.below b
                clear O5 b
                go_wp2_with fail
                refine (HLo _ _ O6.d).mono ?_
                rintro e w7 ⟨rfl, b⟩
                have O7 := O6.below b
                clear O6 b HLo
                go_wp2_with fail
                refine (HS _ _ O7.d).mono ?_
                rintro e w8 ⟨rfl, K8, h8, st⟩
                have O8 := O7.turn st h8
                clear O7 st h8 HS
                go_wp2_with fail
                refine (HM _ _ O8.d).mono ?_
                rintro e w9 ⟨rfl, b⟩
                have fin := (O8.below b).low
                clear O8 b HM
                go_wp2
                go_ret
                exact ⟨rfl, fin⟩
        · rw [decide_eq_false ht] at HB
          have hld := hor.resolve_right (fun h => ht h.1)
          clear hor
          by_cases hb : tb.size ≤ 22
          · have hsv := save_two hx hy hld (by omega) tb
            rw [hld] at HLo
            rw [hsv.1] at HS
            rw [hsv.2] at HM
            rw [if_pos hb] at HM
            rw [decide_eq_true hb] at HS
            have g1 : decide ((ta.size : Int) ≤ 22) = false := by rw [decide_eq_false_iff_not]; omega
            have g2 : decide ((tb.size : Int) ≤ 22) = true := by rw [decide_eq_true_iff]; omega
            have ew : IntKind.u64.wrap ((n : Int) + 1) = ((n + 1 : Nat) : Int) := by rw [wraps_u64 _ (by omega) (by omega)]; rfl
            have ew2 : IntKind.u64.wrap (((n + 1 : Nat) : Int) + 1) = ((n + 1 + 1 : Nat) : Int) := by rw [wraps_u64 _ (by omega) (by omega)]; rfl
            have q1 : (((n + 1 : Nat) : Int) == (n : Int)) = false := by rw [beq_eq_false_iff_ne]; omega
            have q2 : (((n : Int) + 1) == (n : Int)) = false := by rw [beq_eq_false_iff_ne]; omega
            have q3 : ((n : Int) == ((n : Int) + 1)) = false := by rw [beq_eq_false_iff_ne]; omega
            clear hsv hld hx hy hall
            generalize two_ x y = D2 at *
            generalize Slt.save D2 0 1 tb = D3 at *
            go_wp2_with fail
            refine HB.mono ?_
            rintro e w3 ⟨rfl, K3, h3, st⟩
            have O3 := OO.out.turn st h3
            clear st h3 HB OO
            have bl := below_lit w3 (.cells #[.int .i64 c] 3)
            have O4 := O3.below bl
            have hr : RdK K3 (w3.alloc (.cells #[.int .i64 c] 3)) (.slice (some ⟨w3.heap.size, 0, none⟩) 1 1) (ints [c]) := by
              refine ⟨_, 1, rfl, .inr ⟨_, rfl, fun hk => Nat.lt_irrefl _ (O3.d.lt _ hk), fun j u hj => ?_⟩⟩
              match j, hj with
              | 0, hj =>
                cases hj
                exact (Box.new w3 #[.int .i64 c] 3).cell (j := 0) rfl
              | j + 1, hj => cases hj
            have H5 := HC _ _ _ O4.d hr
            clear O3 bl HC hr
            go_wp2_with fail
            refine H5.mono ?_
            rintro e w5 ⟨rfl, h5, b⟩
            have O5 := O4.same b h5
            clear O4 h5 b H5
            go_wp2_with fail
            refine (HLo _ _ O5.d).mono ?_
            rintro e w6 ⟨rfl, b⟩
            have O6 := O5.below b
            clear O5 b
            go_wp2_with fail
            refine (HLo _ _ O6.d).mono ?_
            rintro e w7 ⟨rfl, b⟩
            have O7 := O6.below b
            clear O6 b HLo
            go_wp2_with fail
            refine (HS _ _ O7.d).mono ?_
            rintro e w8 ⟨rfl, K8, h8, st⟩
            have O8 := O7.turn st h8
            clear O7 st h8 HS
            go_wp2_with fail
            refine (HM _ _ O8.d).mono ?_
            rintro e w9 ⟨rfl, b⟩
            have fin := (O8.below b).low
            clear O8 b HM
            go_wp2
            go_ret
            exact ⟨rfl, fin⟩
          · have hsv := save_two hx hy hld (by omega) tb
            rw [hld] at HLo
            rw [hsv.1] at HS
            rw [hsv.2] at HM
            rw [if_neg hb] at HM
            rw [decide_eq_false hb] at HS
            have g1 : decide ((ta.size : Int) ≤ 22) = false := by rw [decide_eq_false_iff_not]; omega
            have g2 : decide ((tb.size : Int) ≤ 22) = false := by rw [decide_eq_false_iff_not]; omega
            have ew : IntKind.u64.wrap ((n : Int) + 1) = ((n + 1 : Nat) : Int) := by rw [wraps_u64 _ (by omega) (by omega)]; rfl
            have ew2 : IntKind.u64.wrap (((n + 1 : Nat) : Int) + 1) = ((n + 1 + 1 : Nat) : Int) := by rw [wraps_u64 _ (by omega) (by omega)]; rfl
            have q1 : (((n + 1 : Nat) : Int) == (n : Int)) = false := by rw [beq_eq_false_iff_ne]; omega
            have q2 : (((n : Int) + 1) == (n : Int)) = false := by rw [beq_eq_false_iff_ne]; omega
            have q3 : ((n : Int) == ((n : Int) + 1)) = false := by rw [beq_eq_false_iff_ne]; omega
            clear hsv hld hx hy hall
            generalize two_ x y = D2 at *
            generalize Slt.save D2 0 1 tb = D3 at *
            go_wp2_with fail
            refine HB.mono ?_
            rintro e w3 ⟨rfl, K3, h3, st⟩
            have O3 := OO.out.turn st h3
            clear st h3 HB OO
            have bl := below_lit w3 (.cells #[.int .i64 c] 3)
            have O4 := O3.below bl
            have hr : RdK K3 (w3.alloc (.cells #[.int .i64 c] 3)) (.slice (some ⟨w3.heap.size, 0, none⟩) 1 1) (ints [c]) := by
              refine ⟨_, 1, rfl, .inr ⟨_, rfl, fun hk => Nat.lt_irrefl _ (O3.d.lt _ hk), fun j u hj => ?_⟩⟩
              match j, hj with
              | 0, hj =>
                cases hj
                exact (Box.new w3 #[.int .i64 c] 3).cell (j := 0) rfl
              | j + 1, hj => cases hj
            have H5 := HC _ _ _ O4.d hr
            clear O3 bl HC hr
            go_wp2_with fail
            refine H5.mono ?_
            rintro e w5 ⟨rfl, h5, b⟩
            have O5 := O4.same b h5
            clear O4 h5 b H5
            go_wp2_with fail
            refine (HLo _ _ O5.d).mono ?_
            rintro e w6 ⟨rfl, b⟩
            have O6 := O5.below b
            clear O5 b
            go_wp2_with fail
            refine (HLo _ _ O6.d).mono ?_
            rintro e w7 ⟨rfl, b⟩
            have O7 := O6.below b
            clear O6 b HLo
            go_wp2_with fail
            refine (HS _ _ O7.d).mono ?_
            rintro e w8 ⟨rfl, K8, h8, st⟩
            have O8 := O7.turn st h8
            clear O7 st h8 HS
            go_wp2_with fail
            refine (HM _ _ O8.d).mono ?_
            rintro e w9 ⟨rfl, b⟩
            have fin := (O8.below b).low
            clear O8 b HM
            go_wp2
            go_ret
            exact ⟨rfl, fin⟩
    · obtain rfl : i = l.length := by omega
      have g0 : ¬ (l.length : Int) < (l.length : Int) := by omega
      have hle := hI.le
      have hn100 : n < 100 := by omega
      have hp := hI.pend
      have HB := begin_any O.d (by omega) 0 1 ta
      rw [hI.can (by omega) ta] at HB
      obtain ⟨x, y, e2, hx, hy, hor, hall⟩ := hI.crash (by omega) ta c
      have hpb := pend_begin D 0 1 ta
      have HC := fun w' K' v (h : Mem w' p K' (begin_ D 0 1 ta)) hv => @crash_any w' p K' (begin_ D 0 1 ta) h (by omega) [c] v hv
      rw [e2] at hor hall HC
      have HLo := fun w' K' (h : Mem w' p K' (two_ x y)) => load_any h (by show 0 < 2000; decide) 0 1
      have HS := fun w' K' (h : Mem w' p K' (two_ x y)) => save_any h (by show 0 < 900; decide) 0 1 tb
      have HM := fun w' K' (h : Mem w' p K' (Slt.save (two_ x y) 0 1 tb)) => load_any h (by have := pend_save (two_ x y) 0 1 tb; have h0 : (two_ x y).pend.length = 0 := rfl; omega) 0 1
      have OO := Lib.hid O
      clear hI O hp hpb e2
      generalize begin_ D 0 1 ta = D1 at *
      by_cases ht : ta.size ≤ 22
      · rw [decide_eq_true ht] at HB
        by_cases hc : c ≥ 40
        · have hld := hall ht hc
          clear hor
          by_cases hb : tb.size ≤ 22
          · have hsv := save_two hx hy hld (by omega) tb
            rw [hld] at HLo
            rw [hsv.1] at HS
            rw [hsv.2] at HM
            rw [if_pos hb] at HM
            rw [decide_eq_true hb] at HS
            have g1 : decide ((ta.size : Int) ≤ 22) = true := by rw [decide_eq_true_iff]; omega
            have g2 : decide ((tb.size : Int) ≤ 22) = true := by rw [decide_eq_true_iff]; omega
            have ew : IntKind.u64.wrap ((n : Int) + 1) = ((n + 1 : Nat) : Int) := by rw [wraps_u64 _ (by omega) (by omega)]; rfl
            have ew2 : IntKind.u64.wrap (((n + 1 : Nat) : Int) + 1) = ((n + 1 + 1 : Nat) : Int) := by rw [wraps_u64 _ (by omega) (by omega)]; rfl
            have q1 : (((n + 1 : Nat) : Int) == (n : Int)) = false := by rw [beq_eq_false_iff_ne]; omega
            have q2 : (((n : Int) + 1) == (n : Int)) = false := by rw [beq_eq_false_iff_ne]; omega
            have q3 : ((n : Int) == ((n : Int) + 1)) = false := by rw [beq_eq_false_iff_ne]; omega
            have g3 : decide (c ≥ 40) = true := by rw [decide_eq_true_iff]; exact hc
            clear hsv hld hx hy hall
            generalize two_ x y = D2 at *
            generalize Slt.save D2 0 1 tb = D3 at *
            go_wp2_with fail
            refine HB.mono ?_
            rintro e w3 ⟨rfl, K3, h3, st⟩
            have O3 := OO.out.turn st h3
            clear st h3 HB OO
            have bl := below_lit w3 (.cells #[.int .i64 c] 3)
            have O4 := O3.below bl
            have hr : RdK K3 (w3.alloc (.cells #[.int .i64 c] 3)) (.slice (some ⟨w3.heap.size, 0, none⟩) 1 1) (ints [c]) := by
              refine ⟨_, 1, rfl, .inr ⟨_, rfl, fun hk => Nat.lt_irrefl _ (O3.d.lt _ hk), fun j u hj => ?_⟩⟩
              match j, hj with
              | 0, hj =>
                cases hj
                exact (Box.new w3 #[.int .i64 c] 3).cell (j := 0) rfl
              | j + 1, hj => cases hj
            have H5 := HC _ _ _ O4.d hr
            clear O3 bl HC hr
            go_wp2_with fail
            refine H5.mono ?_
            rintro e w5 ⟨rfl, h5, b⟩
            have O5 := O4.same b h5
            clear O4 h5 b H5
            go_wp2_with fail
            refine (HLo _ _ O5.d).mono ?_
            rintro e w6 ⟨rfl, b⟩
            have O6 := O5.below b
            clear O5 b
            go_wp2_with fail
            refine (HLo _ _ O6.d).mono ?_
            rintro e w7 ⟨rfl, b⟩
            have O7 := O6.below b
            clear O6 b HLo
            go_wp2_with fail
            refine (HS _ _ O7.d).mono ?_
            rintro e w8 ⟨rfl, K8, h8, st⟩
            have O8 := O7.turn st h8
            clear O7 st h8 HS
            go_wp2_with fail
            refine (HM _ _ O8.d).mono ?_
            rintro e w9 ⟨rfl, b⟩
            have fin := (O8.below b).low
            clear O8 b HM
            go_wp2
            go_ret
            exact ⟨rfl, fin⟩
          · have hsv := save_two hx hy hld (by omega) tb
            rw [hld] at HLo
            rw [hsv.1] at HS
            rw [hsv.2] at HM
            rw [if_neg hb] at HM
            rw [decide_eq_false hb] at HS
            have g1 : decide ((ta.size : Int) ≤ 22) = true := by rw [decide_eq_true_iff]; omega
            have g2 : decide ((tb.size : Int) ≤ 22) = false := by rw [decide_eq_false_iff_not]; omega
            have ew : IntKind.u64.wrap ((n : Int) + 1) = ((n + 1 : Nat) : Int) := by rw [wraps_u64 _ (by omega) (by omega)]; rfl
            have ew2 : IntKind.u64.wrap (((n + 1 : Nat) : Int) + 1) = ((n + 1 + 1 : Nat) : Int) := by rw [wraps_u64 _ (by omega) (by omega)]; rfl
            have q1 : (((n + 1 : Nat) : Int) == (n : Int)) = false := by rw [beq_eq_false_iff_ne]; omega
            have q2 : (((n : Int) + 1) == (n : Int)) = false := by rw [beq_eq_false_iff_ne]; omega
            have q3 : ((n : Int) == ((n : Int) + 1)) = false := by rw [beq_eq_false_iff_ne]; omega
            have g3 : decide (c ≥ 40) = true := by rw [decide_eq_true_iff]; exact hc
            clear hsv hld hx hy hall
            generalize two_ x y = D2 at *
            generalize Slt.save D2 0 1 tb = D3 at *
            go_wp2_with fail
            refine HB.mono ?_
            rintro e w3 ⟨rfl, K3, h3, st⟩
            have O3 := OO.out.turn st h3
            clear st h3 HB OO
            have bl := below_lit w3 (.cells #[.int .i64 c] 3)
            have O4 := O3.below bl
            have hr : RdK K3 (w3.alloc (.cells #[.int .i64 c] 3)) (.slice (some ⟨w3.heap.size, 0, none⟩) 1 1) (ints [c]) := by
              refine ⟨_, 1, rfl, .inr ⟨_, rfl, fun hk => Nat.lt_irrefl _ (O3.d.lt _ hk), fun j u hj => ?_⟩⟩
              match j, hj with
              | 0, hj =>
                cases hj
                exact (Box.new w3 #[.int .i64 c] 3).cell (j := 0) rfl
              | j + 1, hj => cases hj
            have H5 := HC _ _ _ O4.d hr
            clear O3 bl HC hr
            go_wp2_with fail
            refine H5.mono ?_
            rintro e w5 ⟨rfl, h5, b⟩
            have O5 := O4.same b h5
            clear O4 h5 b H5
            go_wp2_with fail
            refine (HLo _ _ O5.d).mono ?_
            rintro e w6 ⟨rfl, b⟩
            have O6 := O5.below b
            clear O5 b
            go_wp2_with fail
            refine (HLo _ _ O6.d).mono ?_
            rintro e w7 ⟨rfl, b⟩
            have O7 := O6.below b
            clear O6 b HLo
            go_wp2_with fail
            refine (HS _ _ O7.d).mono ?_
            rintro e w8 ⟨rfl, K8, h8, st⟩
            have O8 := O7.turn st h8
            clear O7 st h8 HS
            go_wp2_with fail
            refine (HM _ _ O8.d).mono ?_
            rintro e w9 ⟨rfl, b⟩
            have fin := (O8.below b).low
            clear O8 b HM
            go_wp2
            go_ret
            exact ⟨rfl, fin⟩
        · rcases hor with hld | ⟨-, hld⟩
          · by_cases hb : tb.size ≤ 22
            · have hsv := save_two hx hy hld (by omega) tb
              rw [hld] at HLo
              rw [hsv.1] at HS
              rw [hsv.2] at HM
              rw [if_pos hb] at HM
              rw [decide_eq_true hb] at HS
              have g1 : decide ((ta.size : Int) ≤ 22) = true := by rw [decide_eq_true_iff]; omega
              have g2 : decide ((tb.size : Int) ≤ 22) = true := by rw [decide_eq_true_iff]; omega
              have ew : IntKind.u64.wrap ((n : Int) + 1) = ((n + 1 : Nat) : Int) := by rw [wraps_u64 _ (by omega) (by omega)]; rfl
              have ew2 : IntKind.u64.wrap (((n + 1 : Nat) : Int) + 1) = ((n + 1 + 1 : Nat) : Int) := by rw [wraps_u64 _ (by omega) (by omega)]; rfl
              have q1 : (((n + 1 : Nat) : Int) == (n : Int)) = false := by rw [beq_eq_false_iff_ne]; omega
              have q2 : (((n : Int) + 1) == (n : Int)) = false := by rw [beq_eq_false_iff_ne]; omega
              have q3 : ((n : Int) == ((n : Int) + 1)) = false := by rw [beq_eq_false_iff_ne]; omega
              have g3 : decide (c ≥ 40) = false := by rw [decide_eq_false_iff_not]; exact hc
              clear hsv hld hx hy hall
              generalize two_ x y = D2 at *
              generalize Slt.save D2 0 1 tb = D3 at *
              go_wp2_with fail
              refine HB.mono ?_
              rintro e w3 ⟨rfl, K3, h3, st⟩
              have O3 := OO.out.turn st h3
              clear st h3 HB OO
              have bl := below_lit w3 (.cells #[.int .i64 c] 3)
              have O4 := O3.below bl
              have hr : RdK K3 (w3.alloc (.cells #[.int .i64 c] 3)) (.slice (some ⟨w3.heap.size, 0, none⟩) 1 1) (ints [c]) := by
                refine ⟨_, 1, rfl, .inr ⟨_, rfl, fun hk => Nat.lt_irrefl _ (O3.d.lt _ hk), fun j u hj => ?_⟩⟩
                match j, hj with
                | 0, hj =>
                  cases hj
                  exact (Box.new w3 #[.int .i64 c] 3).cell (j := 0) rfl
                | j + 1, hj => cases hj
              have H5 := HC _ _ _ O4.d hr
              clear O3 bl HC hr
              go_wp2_with fail
              refine H5.mono ?_
              rintro e w5 ⟨rfl, h5, b⟩
              have O5 := O4.same b h5
              clear O4 h5 b H5
              go_wp2_with fail
              refine (HLo _ _ O5.d).mono ?_
              rintro e w6 ⟨rfl, b⟩
              have O6 := O5.below b
              clear O5 b
              go_wp2_with fail
              refine (HLo _ _ O6.d).mono ?_
              rintro e w7 ⟨rfl, b⟩
              have O7 := O6.below b
              clear O6 b HLo
              go_wp2_with fail
              refine (HS _ _ O7.d).mono ?_
              rintro e w8 ⟨rfl, K8, h8, st⟩
              have O8 := O7.turn st h8
              clear O7 st h8 HS
              go_wp2_with fail
              refine (HM _ _ O8.d).mono ?_
              rintro e w9 ⟨rfl, b⟩
              have fin := (O8.below b).low
              clear O8 b HM
              go_wp2
              go_ret
              exact ⟨rfl, fin⟩
            · have hsv := save_two hx hy hld (by omega) tb
              rw [hld] at HLo
              rw [hsv.1] at HS
              rw [hsv.2] at HM
              rw [if_neg hb] at HM
              rw [decide_eq_false hb] at HS
              have g1 : decide ((ta.size : Int) ≤ 22) = true := by rw [decide_eq_true_iff]; omega
              have g2 : decide ((tb.size : Int) ≤ 22) = false := by rw [decide_eq_false_iff_not]; omega
              have ew : IntKind.u64.wrap ((n : Int) + 1) = ((n + 1 : Nat) : Int) := by rw [wraps_u64 _ (by omega) (by omega)]; rfl
              have ew2 : IntKind.u64.wrap (((n + 1 : Nat) : Int) + 1) = ((n + 1 + 1 : Nat) : Int) := by rw [wraps_u64 _ (by omega) (by omega)]; rfl
              have q1 : (((n + 1 : Nat) : Int) == (n : Int)) = false := by rw [beq_eq_false_iff_ne]; omega
              have q2 : (((n : Int) + 1) == (n : Int)) = false := by rw [beq_eq_false_iff_ne]; omega
              have q3 : ((n : Int) == ((n : Int) + 1)) = false := by rw [beq_eq_false_iff_ne]; omega
              have g3 : decide (c ≥ 40) = false := by rw [decide_eq_false_iff_not]; exact hc
              clear hsv hld hx hy hall
              generalize two_ x y = D2 at *
              generalize Slt.save D2 0 1 tb = D3 at *
              go_wp2_with fail
              refine HB.mono ?_
              rintro e w3 ⟨rfl, K3, h3, st⟩
              have O3 := OO.out.turn st h3
              clear st h3 HB OO
              have bl := below_lit w3 (.cells #[.int .i64 c] 3)
              have O4 := O3.below bl
              have hr : RdK K3 (w3.alloc (.cells #[.int .i64 c] 3)) (.slice (some ⟨w3.heap.size, 0, none⟩) 1 1) (ints [c]) := by
                refine ⟨_, 1, rfl, .inr ⟨_, rfl, fun hk => Nat.lt_irrefl _ (O3.d.lt _ hk), fun j u hj => ?_⟩⟩
                match j, hj with
                | 0, hj =>
                  cases hj
                  exact (Box.new w3 #[.int .i64 c] 3).cell (j := 0) rfl
                | j + 1, hj => cases hj
              have H5 := HC _ _ _ O4.d hr
              clear O3 bl HC hr
              go_wp2_with fail
              refine H5.mono ?_
              rintro e w5 ⟨rfl, h5, b⟩
              have O5 := O4.same b h5
              clear O4 h5 b H5
              go_wp2_with fail
              refine (HLo _ _ O5.d).mono ?_
              rintro e w6 ⟨rfl, b⟩
              have O6 := O5.below b
              clear O5 b
              go_wp2_with fail
              refine (HLo _ _ O6.d).mono ?_
              rintro e w7 ⟨rfl, b⟩
              have O7 := O6.below b
              clear O6 b HLo
              go_wp2_with fail
              refine (HS _ _ O7.d).mono ?_
              rintro e w8 ⟨rfl, K8, h8, st⟩
              have O8 := O7.turn st h8
              clear O7 st h8 HS
              go_wp2_with fail
              refine (HM _ _ O8.d).mono ?_
              rintro e w9 ⟨rfl, b⟩
              have fin := (O8.below b).low
              clear O8 b HM
              go_wp2
              go_ret
              exact ⟨rfl, fin⟩
          · by_cases hb : tb.size ≤ 22
            · have hsv := save_two hx hy hld (by omega) tb
              rw [hld] at HLo
              rw [hsv.1] at HS
              rw [hsv.2] at HM
              rw [if_pos hb] at HM
              rw [decide_eq_true hb] at HS
              have g1 : decide ((ta.size : Int) ≤ 22) = true := by rw [decide_eq_true_iff]; omega
              have g2 : decide ((tb.size : Int) ≤ 22) = true := by rw [decide_eq_true_iff]; omega
              have ew : IntKind.u64.wrap ((n : Int) + 1) = ((n + 1 : Nat) : Int) := by rw [wraps_u64 _ (by omega) (by omega)]; rfl
              have ew2 : IntKind.u64.wrap (((n + 1 : Nat) : Int) + 1) = ((n + 1 + 1 : Nat) : Int) := by rw [wraps_u64 _ (by omega) (by omega)]; rfl
              have q1 : (((n + 1 : Nat) : Int) == (n : Int)) = false := by rw [beq_eq_false_iff_ne]; omega
              have q2 : (((n : Int) + 1) == (n : Int)) = false := by rw [beq_eq_false_iff_ne]; omega
              have q3 : ((n : Int) == ((n : Int) + 1)) = false := by rw [beq_eq_false_iff_ne]; omega
              have g3 : decide (c ≥ 40) = false := by rw [decide_eq_false_iff_not]; exact hc
              clear hsv hld hx hy hall
              generalize two_ x y = D2 at *
              generalize Slt.save D2 0 1 tb = D3 at *
              go_wp2_with fail
              refine HB.mono ?_
              rintro e w3 ⟨rfl, K3, h3, st⟩
              have O3 := OO.out.turn st h3
              clear st h3 HB OO
              have bl := below_lit w3 (.cells #[.int .i64 c] 3)
              have O4 := O3.below bl
              have hr : RdK K3 (w3.alloc (.cells #[.int .i64 c] 3)) (.slice (some ⟨w3.heap.size, 0, none⟩) 1 1) (ints [c]) := by
                refine ⟨_, 1, rfl, .inr ⟨_, rfl, fun hk => Nat.lt_irrefl _ (O3.d.lt _ hk), fun j u hj => ?_⟩⟩
                match j, hj with
                | 0, hj =>
                  cases hj
                  exact (Box.new w3 #[.int .i64 c] 3).cell (j := 0) rfl
                | j + 1, hj => cases hj
              have H5 := HC _ _ _ O4.d hr
              clear O3 bl HC hr
              go_wp2_with fail
              refine H5.mono ?_
              rintro e w5 ⟨rfl, h5, b⟩
              have O5 := O4.same b h5
              clear O4 h5 b H5
              go_wp2_with fail
              refine (HLo _ _ O5.d).mono ?_
              rintro e w6 ⟨rfl, b⟩
              have O6 := O5.below b
              clear O5 b
              go_wp2_with fail
              refine (HLo _ _ O6.d).mono ?_
              rintro e w7 ⟨rfl, b⟩
              have O7 := O6.below b
              clear O6 b HLo
              go_wp2_with fail
              refine (HS _ _ O7.d).mono ?_
              rintro e w8 ⟨rfl, K8, h8, st⟩
              have O8 := O7.turn st h8
              clear O7 st h8 HS
              go_wp2_with fail
              refine (HM _ _ O8.d).mono ?_
              rintro e w9 ⟨rfl, b⟩
              have fin := (O8.below b).low
              clear O8 b HM
              go_wp2
              go_ret
              exact ⟨rfl, fin⟩
            · have hsv := save_two hx hy hld (by omega) tb
              rw [hld] at HLo
              rw [hsv.1] at HS
              rw [hsv.2] at HM
              rw [if_neg hb] at HM
              rw [decide_eq_false hb] at HS
              have g1 : decide ((ta.size : Int) ≤ 22) = true := by rw [decide_eq_true_iff]; omega
              have g2 : decide ((tb.size : Int) ≤ 22) = false := by rw [decide_eq_false_iff_not]; omega
              have ew : IntKind.u64.wrap ((n : Int) + 1) = ((n + 1 : Nat) : Int) := by rw [wraps_u64 _ (by omega) (by omega)]; rfl
              have ew2 : IntKind.u64.wrap (((n + 1 : Nat) : Int) + 1) = ((n + 1 + 1 : Nat) : Int) := by rw [wraps_u64 _ (by omega) (by omega)]; rfl
              have q1 : (((n + 1 : Nat) : Int) == (n : Int)) = false := by rw [beq_eq_false_iff_ne]; omega
              have q2 : (((n : Int) + 1) == (n : Int)) = false := by rw [beq_eq_false_iff_ne]; omega
              have q3 : ((n : Int) == ((n : Int) + 1)) = false := by rw [beq_eq_false_iff_ne]; omega
              have g3 : decide (c ≥ 40) = false := by rw [decide_eq_false_iff_not]; exact hc
              clear hsv hld hx hy hall
              generalize two_ x y = D2 at *
              generalize Slt.save D2 0 1 tb = D3 at *
              go_wp2_with fail
              refine HB.mono ?_
              rintro e w3 ⟨rfl, K3, h3, st⟩
              have O3 := OO.out.turn st h3
              clear st h3 HB OO
              have bl := below_lit w3 (.cells #[.int .i64 c] 3)
              have O4 := O3.below bl
              have hr : RdK K3 (w3.alloc (.cells #[.int .i64 c] 3)) (.slice (some ⟨w3.heap.size, 0, none⟩) 1 1) (ints [c]) := by
                refine ⟨_, 1, rfl, .inr ⟨_, rfl, fun hk => Nat.lt_irrefl _ (O3.d.lt _ hk), fun j u hj => ?_⟩⟩
                match j, hj with
                | 0, hj =>
                  cases hj
                  exact (Box.new w3 #[.int .i64 c] 3).cell (j := 0) rfl
                | j + 1, hj => cases hj
              have H5 := HC _ _ _ O4.d hr
              clear O3 bl HC hr
              go_wp2_with fail
              refine H5.mono ?_
              rintro e w5 ⟨rfl, h5, b⟩
              have O5 := O4.same b h5
              clear O4 h5 b H5
              go_wp2_with fail
              refine (HLo _ _ O5.d).mono ?_
              rintro e w6 ⟨rfl, b⟩
              have O6 := O5.below b
              clear O5 b
              go_wp2_with fail
              refine (HLo _ _ O6.d).mono ?_
              rintro e w7 ⟨rfl, b⟩
              have O7 := O6.below b
              clear O6 b HLo
              go_wp2_with fail
              refine (HS _ _ O7.d).mono ?_
              rintro e w8 ⟨rfl, K8, h8, st⟩
              have O8 := O7.turn st h8
              clear O7 st h8 HS
              go_wp2_with fail
              refine (HM _ _ O8.d).mono ?_
              rintro e w9 ⟨rfl, b⟩
              have fin := (O8.below b).low
              clear O8 b HM
              go_wp2
              go_ret
              exact ⟨rfl, fin⟩
      · rw [decide_eq_false ht] at HB
        have hld := hor.resolve_right (fun h => ht h.1)
        clear hor
        by_cases hb : tb.size ≤ 22
        · have hsv := save_two hx hy hld (by omega) tb
          rw [hld] at HLo
          rw [hsv.1] at HS
          rw [hsv.2] at HM
          rw [if_pos hb] at HM
          rw [decide_eq_true hb] at HS
          have g1 : decide ((ta.size : Int) ≤ 22) = false := by rw [decide_eq_false_iff_not]; omega
          have g2 : decide ((tb.size : Int) ≤ 22) = true := by rw [decide_eq_true_iff]; omega
          have ew : IntKind.u64.wrap ((n : Int) + 1) = ((n + 1 : Nat) : Int) := by rw [wraps_u64 _ (by omega) (by omega)]; rfl
          have ew2 : IntKind.u64.wrap (((n + 1 : Nat) : Int) + 1) = ((n + 1 + 1 : Nat) : Int) := by rw [wraps_u64 _ (by omega) (by omega)]; rfl
          have q1 : (((n + 1 : Nat) : Int) == (n : Int)) = false := by rw [beq_eq_false_iff_ne]; omega
          have q2 : (((n : Int) + 1) == (n : Int)) = false := by rw [beq_eq_false_iff_ne]; omega
          have q3 : ((n : Int) == ((n : Int) + 1)) = false := by rw [beq_eq_false_iff_ne]; omega
          clear hsv hld hx hy hall
          generalize two_ x y = D2 at *
          generalize Slt.save D2 0 1 tb = D3 at *
          go_wp2_with fail
          refine HB.mono ?_
          rintro e w3 ⟨rfl, K3, h3, st⟩
          have O3 := OO.out.turn st h3
          clear st h3 HB OO
          have bl := below_lit w3 (.cells #[.int .i64 c] 3)
          have O4 := O3.below bl
          have hr : RdK K3 (w3.alloc (.cells #[.int .i64 c] 3)) (.slice (some ⟨w3.heap.size, 0, none⟩) 1 1) (ints [c]) := by
            refine ⟨_, 1, rfl, .inr ⟨_, rfl, fun hk => Nat.lt_irrefl _ (O3.d.lt _ hk), fun j u hj => ?_⟩⟩
            match j, hj with
            | 0, hj =>
              cases hj
              exact (Box.new w3 #[.int .i64 c] 3).cell (j := 0) rfl
            | j + 1, hj => cases hj
          have H5 := HC _ _ _ O4.d hr
          clear O3 bl HC hr
          go_wp2_with fail
          refine H5.mono ?_
          rintro e w5 ⟨rfl, h5, b⟩
          have O5 := O4.same b h5
          clear O4 h5 b H5
          go_wp2_with fail
          refine (HLo _ _ O5.d).mono ?_
          rintro e w6 ⟨rfl, b⟩
          have O6 := O5.below b
          clear O5 b
          go_wp2_with fail
          refine (HLo _ _ O6.d).mono ?_
          rintro e w7 ⟨rfl, b⟩
          have O7 := O6.below b
          clear O6 b HLo
          go_wp2_with fail
          refine (HS _ _ O7.d).mono ?_
          rintro e w8 ⟨rfl, K8, h8, st⟩
          have O8 := O7.turn st h8
          clear O7 st h8 HS
          go_wp2_with fail
          refine (HM _ _ O8.d).mono ?_
          rintro e w9 ⟨rfl, b⟩
          have fin := (O8.below b).low
          clear O8 b HM
          go_wp2
          go_ret
          exact ⟨rfl, fin⟩
        · have hsv := save_two hx hy hld (by omega) tb
          rw [hld] at HLo
          rw [hsv.1] at HS
          rw [hsv.2] at HM
          rw [if_neg hb] at HM
          rw [decide_eq_false hb] at HS
          have g1 : decide ((ta.size : Int) ≤ 22) = false := by rw [decide_eq_false_iff_not]; omega
          have g2 : decide ((tb.size : Int) ≤ 22) = false := by rw [decide_eq_false_iff_not]; omega
          have ew : IntKind.u64.wrap ((n : Int) + 1) = ((n + 1 : Nat) : Int) := by rw [wraps_u64 _ (by omega) (by omega)]; rfl
          have ew2 : IntKind.u64.wrap (((n + 1 : Nat) : Int) + 1) = ((n + 1 + 1 : Nat) : Int) := by rw [wraps_u64 _ (by omega) (by omega)]; rfl
          have q1 : (((n + 1 : Nat) : Int) == (n : Int)) = false := by rw [beq_eq_false_iff_ne]; omega
          have q2 : (((n : Int) + 1) == (n : Int)) = false := by rw [beq_eq_false_iff_ne]; omega
          have q3 : ((n : Int) == ((n : Int) + 1)) = false := by rw [beq_eq_false_iff_ne]; omega
          clear hsv hld hx hy hall
          generalize two_ x y = D2 at *
          generalize Slt.save D2 0 1 tb = D3 at *
          go_wp2_with fail
          refine HB.mono ?_
          rintro e w3 ⟨rfl, K3, h3, st⟩
          have O3 := OO.out.turn st h3
          clear st h3 HB OO
          have bl := below_lit w3 (.cells #[.int .i64 c] 3)
          have O4 := O3.below bl
          have hr : RdK K3 (w3.alloc (.cells #[.int .i64 c] 3)) (.slice (some ⟨w3.heap.size, 0, none⟩) 1 1) (ints [c]) := by
            refine ⟨_, 1, rfl, .inr ⟨_, rfl, fun hk => Nat.lt_irrefl _ (O3.d.lt _ hk), fun j u hj => ?_⟩⟩
            match j, hj with
            | 0, hj =>
              cases hj
              exact (Box.new w3 #[.int .i64 c] 3).cell (j := 0) rfl
            | j + 1, hj => cases hj
          have H5 := HC _ _ _ O4.d hr
          clear O3 bl HC hr
          go_wp2_with fail
          refine H5.mono ?_
          rintro e w5 ⟨rfl, h5, b⟩
          have O5 := O4.same b h5
          clear O4 h5 b H5
          go_wp2_with fail
          refine (HLo _ _ O5.d).mono ?_
          rintro e w6 ⟨rfl, b⟩
          have O6 := O5.below b
          clear O5 b
          go_wp2_with fail
          refine (HLo _ _ O6.d).mono ?_
          rintro e w7 ⟨rfl, b⟩
          have O7 := O6.below b
          clear O6 b HLo
          go_wp2_with fail
          refine (HS _ _ O7.d).mono ?_
          rintro e w8 ⟨rfl, K8, h8, st⟩
          have O8 := O7.turn st h8
          clear O7 st h8 HS
          go_wp2_with fail
          refine (HM _ _ O8.d).mono ?_
          rintro e w9 ⟨rfl, b⟩
          have fin := (O8.below b).low
          clear O8 b HM
          go_wp2
          go_ret
          exact ⟨rfl, fin⟩
end Go.Proofs.Ytolanlnabdbolaa.Keeps9
