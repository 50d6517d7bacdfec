/-
  TokenEpochs: what is taken in an epoch is taken in each one ahead of it, and in none behind its own; with fewer rights wanted too: the walk.
-/
import Derived.Test.YtbhdcocgghaifaaTokE
import Derived.BigRegion
namespace Go.Proofs.Ytbhdcocgghaifaa
open Go.RowKit
open Ideal Ida
open Go.Lib (uvarint uvarint_small)

namespace Cap
theorem chk_epochs {O : Or} {k : Nat} {t : Tok} {v e z : Nat} (hT : fine t) (hz : z < 18446744073709551616) (h : O.chk k t v e z = 0) :
    (∀ m x2, m ≤ e → O.chk k t v m (z &&& x2) = 0) ∧ (∀ e', t.e < e' → O.chk k t v e' z = 72) ∧ (∀ v', v ≠ v' → O.chk k t v' e z = 71) ∧ O.chkO k t = O ∧ e ≤ t.e := by
  obtain ⟨hg, rfl, he, hc⟩ := Or.chk_ok h
  refine ⟨fun m x2 hm => ?_, fun e' h' => ?_, fun v' hv => ?_, Or.chkO_of hg, he⟩
  · rw [Or.chk_of hg, if_pos rfl, if_neg (by omega), if_pos (covers_less hT.2.2.2.1 hz x2 hc)]
  · rw [Or.chk_of hg, if_pos rfl, if_pos h']
  · rw [Or.chk_of hg, if_neg hv]

set_option maxRecDepth 100000 in
set_option maxHeartbeats 16000000 in
theorem epochs_any (l : List Nat) (hl : l.length * 8 ≤ 140737488355328) (hx : ∀ x ∈ l, x < 18446744073709551616) (k : Nat) (hk : k < 18446744073709551616) (ts : List Tok) (ht : ∀ t ∈ ts, fine t) (t : Tok) (hT : fine t) (v e z : Nat) (hz : z < 18446744073709551616) (x1 x2 : Nat) (hx2 : x2 < 18446744073709551616) (dv tv : Value) (w : World) (rd : Kit.Sl w dv (nums l)) (rt : Toks w tv ts)  :
    Calls Try.prog 6 #[.agg #[dv, .int .u64 (k : Int), tv, .int .u64 (t.n : Int), .int .u64 (t.v : Int), .int .u64 (t.e : Int), .int .u64 (t.r : Int), .int .u64 (t.g : Int), .int .u64 (v : Int), .int .u64 (e : Int), .int .u64 (z : Int), .int .u64 (x1 : Int), .int .u64 (x2 : Int)]] w fun x W' => x = .returned (.bool true) ∧ Below w.heap.size w W' := by
  obtain ⟨da, dc, rfl⟩ := rd.rd.form
  generalize hdl : (nums l).length = dn at *
  obtain ⟨ta, tc, rfl⟩ := rt.form
  generalize htl : ts.length = tn at *
  have c0 := below_lit w (.cells #[.slice da dn dc, .int .u64 (k : Int), .slice ta tn tc, .int .u64 (t.n : Int), .int .u64 (t.v : Int), .int .u64 (t.e : Int), .int .u64 (t.r : Int), .int .u64 (t.g : Int), .int .u64 (v : Int), .int .u64 (e : Int), .int .u64 (z : Int), .int .u64 (x1 : Int), .int .u64 (x2 : Int)] 48)
  have L0 := Box.new w #[.slice da dn dc, .int .u64 (k : Int), .slice ta tn tc, .int .u64 (t.n : Int), .int .u64 (t.v : Int), .int .u64 (t.e : Int), .int .u64 (t.r : Int), .int .u64 (t.g : Int), .int .u64 (v : Int), .int .u64 (e : Int), .int .u64 (z : Int), .int .u64 (x1 : Int), .int .u64 (x2 : Int)] 48
  have HF := fixed_any
  have HK := fun w' (hb : Below w.heap.size w w') => issued_any l hl hx k hk ts ht (.slice da dn dc) (.slice ta tn tc) w' (rd.below hb) (rt.below hb)
  have HC := fun w' M (h : Orc w' M ((Or.new l).issOs k (ts.take 100))) => check_any h k hk t hT v e z hz
  have hand : bits .and .u64 (z : Int) (x2 : Int) = ((z &&& x2 : Nat) : Int) := Go.u64_and_nat z x2 hz hx2
  have hzx : (z &&& x2) < 18446744073709551616 := Nat.lt_of_le_of_lt Nat.and_le_left hz
  obtain ⟨m, hm0, hme⟩ : ∃ m : Nat, (if e < x1 then e else x1) = m ∧ m ≤ e := ⟨_, rfl, by split <;> omega⟩
  have hm1 : (if e < x1 then (e : Int) else (x1 : Int)) = (m : Int) := by rw [← hm0]; split <;> rfl
  have hm2 : (if (e : Int) < (x1 : Int) then (e : Int) else (x1 : Int)) = (m : Int) := by rw [← hm1]; simp
  have hvw : IntKind.u64.wrap ((v : Int) + 1) = (((v + 1) % 18446744073709551616 : Nat) : Int) := by simp only [IntKind.wrap_u64]; omega
  have HC2 := fun w' M (h : Orc w' M ((Or.new l).issOs k (ts.take 100))) => check_any h k hk t hT v m (z &&& x2) hzx
  have HC3 := fun w' M (h : Orc w' M ((Or.new l).issOs k (ts.take 100))) => check_any h k hk t hT v (t.e + 1) z hz
  have HC4 := fun w' M (h : Orc w' M ((Or.new l).issOs k (ts.take 100))) => check_any h k hk t hT ((v + 1) % 18446744073709551616) e z hz
  have hchk := chk_epochs (O := ((Or.new l).issOs k (ts.take 100))) (k := k) (t := t) (v := v) (e := e) hT hz
  generalize ((Or.new l).issOs k (ts.take 100)) = O at *
  have hvv : v ≠ (v + 1) % 18446744073709551616 := by omega
  generalize (v + 1) % 18446744073709551616 = v' at *
  generalize hy : z &&& x2 = y at *
  have ht64 := hT.2.2.1
  clear hl hx hk ht rd rt hdl htl hm0 hzx
  have HHH := Lib.hid (And.intro hand (And.intro hm1 (And.intro hm2 (And.intro hvw (And.intro HK (And.intro HC (And.intro HC2 (And.intro HC3 (And.intro HC4 (And.intro hchk (And.intro hvv (And.intro hy (And.intro hme ht64)))))))))))))
  clear hand hm1 hm2 hvw HK HC HC2 HC3 HC4 hchk hvv hy hme ht64 hT hz hx2
  go_enter Try.func6, Try.ntmps6
  have q0 := L0.cell (j := 0) rfl
  have q1 := L0.cell (j := 1) rfl
  have q2 := L0.cell (j := 2) rfl
  have q3 := L0.cell (j := 3) rfl
  have q4 := L0.cell (j := 4) rfl
  have q5 := L0.cell (j := 5) rfl
  have q6 := L0.cell (j := 6) rfl
  have q7 := L0.cell (j := 7) rfl
  have q8 := L0.cell (j := 8) rfl
  have q9 := L0.cell (j := 9) rfl
  have q10 := L0.cell (j := 10) rfl
  have q11 := L0.cell (j := 11) rfl
  have q12 := L0.cell (j := 12) rfl
  go_upto_region 1 with (fail)
  go_cut [3, 4, 5, 6] (fun s3 s4 s5 s6 wx => ∃ bX bA : Nat, s3 = .pointer (some ⟨bX, 0, none⟩) ∧ s4 = .pointer (some ⟨bA, 0, none⟩) ∧ s5 = .int .u64 (x1 : Int) ∧ s6 = .int .u64 (x2 : Int) ∧ Box bX wx #[.slice da dn dc, .int .u64 (k : Int), .slice ta tn tc] 33 ∧ Box bA wx #[.int .u64 (t.n : Int), .int .u64 (t.v : Int), .int .u64 (t.e : Int), .int .u64 (t.r : Int), .int .u64 (t.g : Int), .int .u64 (v : Int), .int .u64 (e : Int), .int .u64 (z : Int)] 35 ∧ Below w.heap.size w wx)
  case first =>
    clear HHH HF
    go_region
    · have X := ((Box.new (w.alloc (.cells #[.slice da dn dc, .int .u64 (k : Int), .slice ta tn tc, .int .u64 (t.n : Int), .int .u64 (t.v : Int), .int .u64 (t.e : Int), .int .u64 (t.r : Int), .int .u64 (t.g : Int), .int .u64 (v : Int), .int .u64 (e : Int), .int .u64 (z : Int), .int .u64 (x1 : Int), .int .u64 (x2 : Int)] 48)) #[.slice da dn dc, .int .u64 (k : Int), .slice ta tn tc] 33).alloc (.cells #[.int .u64 (t.n : Int), .int .u64 (t.v : Int), .int .u64 (t.e : Int), .int .u64 (t.r : Int), .int .u64 (t.g : Int), .int .u64 (v : Int), .int .u64 (e : Int), .int .u64 (z : Int)] 35)).drew
      have A := (Box.new ((w.alloc (.cells #[.slice da dn dc, .int .u64 (k : Int), .slice ta tn tc, .int .u64 (t.n : Int), .int .u64 (t.v : Int), .int .u64 (t.e : Int), .int .u64 (t.r : Int), .int .u64 (t.g : Int), .int .u64 (v : Int), .int .u64 (e : Int), .int .u64 (z : Int), .int .u64 (x1 : Int), .int .u64 (x2 : Int)] 48)).alloc (.cells #[.slice da dn dc, .int .u64 (k : Int), .slice ta tn tc] 33)) #[.int .u64 (t.n : Int), .int .u64 (t.v : Int), .int .u64 (t.e : Int), .int .u64 (t.r : Int), .int .u64 (t.g : Int), .int .u64 (v : Int), .int .u64 (e : Int), .int .u64 (z : Int)] 35).drew
      have c := ((c0.trans ((below_lit (w.alloc (.cells #[.slice da dn dc, .int .u64 (k : Int), .slice ta tn tc, .int .u64 (t.n : Int), .int .u64 (t.v : Int), .int .u64 (t.e : Int), .int .u64 (t.r : Int), .int .u64 (t.g : Int), .int .u64 (v : Int), .int .u64 (e : Int), .int .u64 (z : Int), .int .u64 (x1 : Int), .int .u64 (x2 : Int)] 48)) (.cells #[.slice da dn dc, .int .u64 (k : Int), .slice ta tn tc] 33)).mono c0.size)).alloc (by simp; omega) (.cells #[.int .u64 (t.n : Int), .int .u64 (t.v : Int), .int .u64 (t.e : Int), .int .u64 (t.r : Int), .int .u64 (t.g : Int), .int .u64 (v : Int), .int .u64 (e : Int), .int .u64 (z : Int)] 35)).drew
      rw [World.size_alloc] at X
      rw [World.size_alloc, World.size_alloc] at A
      go_wp2_with fail
      go_meet
      exact ⟨_, _, rfl, rfl, rfl, rfl, X, A, c⟩
    · have A := ((Box.new (w.alloc (.cells #[.slice da dn dc, .int .u64 (k : Int), .slice ta tn tc, .int .u64 (t.n : Int), .int .u64 (t.v : Int), .int .u64 (t.e : Int), .int .u64 (t.r : Int), .int .u64 (t.g : Int), .int .u64 (v : Int), .int .u64 (e : Int), .int .u64 (z : Int), .int .u64 (x1 : Int), .int .u64 (x2 : Int)] 48)) #[.int .u64 (t.n : Int), .int .u64 (t.v : Int), .int .u64 (t.e : Int), .int .u64 (t.r : Int), .int .u64 (t.g : Int), .int .u64 (v : Int), .int .u64 (e : Int), .int .u64 (z : Int)] 35).alloc (.cells #[.slice da dn dc, .int .u64 (k : Int), .slice ta tn tc] 33)).drew
      have X := (Box.new ((w.alloc (.cells #[.slice da dn dc, .int .u64 (k : Int), .slice ta tn tc, .int .u64 (t.n : Int), .int .u64 (t.v : Int), .int .u64 (t.e : Int), .int .u64 (t.r : Int), .int .u64 (t.g : Int), .int .u64 (v : Int), .int .u64 (e : Int), .int .u64 (z : Int), .int .u64 (x1 : Int), .int .u64 (x2 : Int)] 48)).alloc (.cells #[.int .u64 (t.n : Int), .int .u64 (t.v : Int), .int .u64 (t.e : Int), .int .u64 (t.r : Int), .int .u64 (t.g : Int), .int .u64 (v : Int), .int .u64 (e : Int), .int .u64 (z : Int)] 35)) #[.slice da dn dc, .int .u64 (k : Int), .slice ta tn tc] 33).drew
      have c := ((c0.trans ((below_lit (w.alloc (.cells #[.slice da dn dc, .int .u64 (k : Int), .slice ta tn tc, .int .u64 (t.n : Int), .int .u64 (t.v : Int), .int .u64 (t.e : Int), .int .u64 (t.r : Int), .int .u64 (t.g : Int), .int .u64 (v : Int), .int .u64 (e : Int), .int .u64 (z : Int), .int .u64 (x1 : Int), .int .u64 (x2 : Int)] 48)) (.cells #[.int .u64 (t.n : Int), .int .u64 (t.v : Int), .int .u64 (t.e : Int), .int .u64 (t.r : Int), .int .u64 (t.g : Int), .int .u64 (v : Int), .int .u64 (e : Int), .int .u64 (z : Int)] 35)).mono c0.size)).alloc (by simp; omega) (.cells #[.slice da dn dc, .int .u64 (k : Int), .slice ta tn tc] 33)).drew
      rw [World.size_alloc] at A
      rw [World.size_alloc, World.size_alloc] at X
      go_wp2_with fail
      go_meet
      exact ⟨_, _, rfl, rfl, rfl, rfl, X, A, c⟩
  case rest =>
    obtain ⟨bX, bA, rfl, rfl, rfl, rfl, X, A, c⟩ := hcut
    obtain ⟨hand, hm1, hm2, hvw, HK, HC, HC2, HC3, HC4, hchk, hvv, hy, hme, ht64⟩ := HHH.out
    clear HHH L0 c0 q0 q1 q2 q3 q4 q5 q6 q7 q8 q9 q10 q11 q12
    by_cases hr : O.chk k t v e z = 0
    · obtain ⟨e2, e3, e4, eO, hge⟩ := hchk hr
      have e2 := e2 m x2 hme
      rw [hy] at e2
      have e3 := e3 (t.e + 1) (Nat.lt_succ_self _)
      have e4 := e4 v' hvv
      rw [hr, eO] at HC
      rw [e2, eO] at HC2
      rw [e3, eO] at HC3
      rw [e4, eO] at HC4
      have hgi : (e : Int) ≤ (t.e : Int) := by omega
      clear hr e2 e3 e4 eO hchk hy hvv hme
      by_cases hov : t.e = 18446744073709551615
      · have hwo : IntKind.u64.wrap ((t.e : Int) + 1) = 0 := by simp only [IntKind.wrap_u64]; omega
        clear hov HC3 ht64
        have Xc0 := X.cell (j := 0) rfl
        have Xc1 := X.cell (j := 1) rfl
        have Xc2 := X.cell (j := 2) rfl
        go_wp2_with fail
        refine (HK _ c).mono ?_
        rintro x w1 ⟨M, vv, rfl, h, hin, -, -, b⟩
        have Xo : ¬ M.own bX := fun ho => by have := (hin.own _ ho).1; have := X.lt; omega
        have Ao : ¬ M.own bA := fun ho => by have := (hin.own _ ho).1; have := A.lt; omega
        have hw : ∀ i, M.own i → w.heap.size ≤ i := fun i hi => by have := (hin.own i hi).1; have := c.size; omega
        clear Xc0 Xc1 Xc2
        clear hin HK
        replace X := X.below b
        replace A := A.below b
        replace c := c.trans (b.mono c.size)
        clear b
        have Xc0 := X.cell (j := 0) rfl
        have Xc1 := X.cell (j := 1) rfl
        have Xc2 := X.cell (j := 2) rfl
        have Ac0 := A.cell (j := 0) rfl
        have Ac1 := A.cell (j := 1) rfl
        have Ac2 := A.cell (j := 2) rfl
        have Ac3 := A.cell (j := 3) rfl
        have Ac4 := A.cell (j := 4) rfl
        have Ac5 := A.cell (j := 5) rfl
        have Ac6 := A.cell (j := 6) rfl
        have Ac7 := A.cell (j := 7) rfl
        go_wp2_with fail
        refine (HC _ _ h).mono ?_
        clear h
        rintro x w2 ⟨rfl, h, b⟩
        clear Xc0 Xc1 Xc2 Ac0 Ac1 Ac2 Ac3 Ac4 Ac5 Ac6 Ac7
        replace X := X.but b Xo
        replace A := A.but b Ao
        replace c := c.trans (b.below c.size hw)
        clear b
        clear HC
        have Xc0 := X.cell (j := 0) rfl
        have Xc1 := X.cell (j := 1) rfl
        have Xc2 := X.cell (j := 2) rfl
        have Ac0 := A.cell (j := 0) rfl
        have Ac1 := A.cell (j := 1) rfl
        have Ac2 := A.cell (j := 2) rfl
        have Ac3 := A.cell (j := 3) rfl
        have Ac4 := A.cell (j := 4) rfl
        have Ac5 := A.cell (j := 5) rfl
        have Ac6 := A.cell (j := 6) rfl
        have Ac7 := A.cell (j := 7) rfl
        go_wp2_with fail
        refine (HF _).mono ?_
        rintro x w3 ⟨rfl, b⟩
        clear Xc0 Xc1 Xc2 Ac0 Ac1 Ac2 Ac3 Ac4 Ac5 Ac6 Ac7
        replace X := X.below b
        replace A := A.below b
        replace h := Orc.below h b
        replace c := c.trans (b.mono c.size)
        clear b
        have Xc0 := X.cell (j := 0) rfl
        have Xc1 := X.cell (j := 1) rfl
        have Xc2 := X.cell (j := 2) rfl
        have Ac0 := A.cell (j := 0) rfl
        have Ac1 := A.cell (j := 1) rfl
        have Ac2 := A.cell (j := 2) rfl
        have Ac3 := A.cell (j := 3) rfl
        have Ac4 := A.cell (j := 4) rfl
        have Ac5 := A.cell (j := 5) rfl
        have Ac6 := A.cell (j := 6) rfl
        have Ac7 := A.cell (j := 7) rfl
        go_wp2_with fail
        refine (HC2 _ _ h).mono ?_
        clear h
        rintro x w4 ⟨rfl, h, b⟩
        clear Xc0 Xc1 Xc2 Ac0 Ac1 Ac2 Ac3 Ac4 Ac5 Ac6 Ac7
        replace X := X.but b Xo
        replace A := A.but b Ao
        replace c := c.trans (b.below c.size hw)
        clear b
        clear HC2
        have Xc0 := X.cell (j := 0) rfl
        have Xc1 := X.cell (j := 1) rfl
        have Xc2 := X.cell (j := 2) rfl
        have Ac0 := A.cell (j := 0) rfl
        have Ac1 := A.cell (j := 1) rfl
        have Ac2 := A.cell (j := 2) rfl
        have Ac3 := A.cell (j := 3) rfl
        have Ac4 := A.cell (j := 4) rfl
        have Ac5 := A.cell (j := 5) rfl
        have Ac6 := A.cell (j := 6) rfl
        have Ac7 := A.cell (j := 7) rfl
        go_wp2_with fail
        refine (HC4 _ _ h).mono ?_
        clear h
        rintro x w5 ⟨rfl, h, b⟩
        clear Xc0 Xc1 Xc2 Ac0 Ac1 Ac2 Ac3 Ac4 Ac5 Ac6 Ac7
        replace X := X.but b Xo
        replace A := A.but b Ao
        replace c := c.trans (b.below c.size hw)
        clear b
        clear HC4
        have Xc0 := X.cell (j := 0) rfl
        have Xc1 := X.cell (j := 1) rfl
        have Xc2 := X.cell (j := 2) rfl
        have Ac0 := A.cell (j := 0) rfl
        have Ac1 := A.cell (j := 1) rfl
        have Ac2 := A.cell (j := 2) rfl
        have Ac3 := A.cell (j := 3) rfl
        have Ac4 := A.cell (j := 4) rfl
        have Ac5 := A.cell (j := 5) rfl
        have Ac6 := A.cell (j := 6) rfl
        have Ac7 := A.cell (j := 7) rfl
        go_wp2
        go_ret
        exact ⟨rfl, c⟩
      · have hwo : IntKind.u64.wrap ((t.e : Int) + 1) = ((t.e + 1 : Nat) : Int) := by simp only [IntKind.wrap_u64]; omega
        have hwn : ((((t.e + 1 : Nat) : Int)) != 0) = true := by simp; omega
        generalize t.e + 1 = te at *
        clear hov ht64
        have Xc0 := X.cell (j := 0) rfl
        have Xc1 := X.cell (j := 1) rfl
        have Xc2 := X.cell (j := 2) rfl
        go_wp2_with fail
        refine (HK _ c).mono ?_
        rintro x w1 ⟨M, vv, rfl, h, hin, -, -, b⟩
        have Xo : ¬ M.own bX := fun ho => by have := (hin.own _ ho).1; have := X.lt; omega
        have Ao : ¬ M.own bA := fun ho => by have := (hin.own _ ho).1; have := A.lt; omega
        have hw : ∀ i, M.own i → w.heap.size ≤ i := fun i hi => by have := (hin.own i hi).1; have := c.size; omega
        clear Xc0 Xc1 Xc2
        clear hin HK
        replace X := X.below b
        replace A := A.below b
        replace c := c.trans (b.mono c.size)
        clear b
        have Xc0 := X.cell (j := 0) rfl
        have Xc1 := X.cell (j := 1) rfl
        have Xc2 := X.cell (j := 2) rfl
        have Ac0 := A.cell (j := 0) rfl
        have Ac1 := A.cell (j := 1) rfl
        have Ac2 := A.cell (j := 2) rfl
        have Ac3 := A.cell (j := 3) rfl
        have Ac4 := A.cell (j := 4) rfl
        have Ac5 := A.cell (j := 5) rfl
        have Ac6 := A.cell (j := 6) rfl
        have Ac7 := A.cell (j := 7) rfl
        go_wp2_with fail
        refine (HC _ _ h).mono ?_
        clear h
        rintro x w2 ⟨rfl, h, b⟩
        clear Xc0 Xc1 Xc2 Ac0 Ac1 Ac2 Ac3 Ac4 Ac5 Ac6 Ac7
        replace X := X.but b Xo
        replace A := A.but b Ao
        replace c := c.trans (b.below c.size hw)
        clear b
        clear HC
        have Xc0 := X.cell (j := 0) rfl
        have Xc1 := X.cell (j := 1) rfl
        have Xc2 := X.cell (j := 2) rfl
        have Ac0 := A.cell (j := 0) rfl
        have Ac1 := A.cell (j := 1) rfl
        have Ac2 := A.cell (j := 2) rfl
        have Ac3 := A.cell (j := 3) rfl
        have Ac4 := A.cell (j := 4) rfl
        have Ac5 := A.cell (j := 5) rfl
        have Ac6 := A.cell (j := 6) rfl
        have Ac7 := A.cell (j := 7) rfl
        go_wp2_with fail
        refine (HF _).mono ?_
        rintro x w3 ⟨rfl, b⟩
        clear Xc0 Xc1 Xc2 Ac0 Ac1 Ac2 Ac3 Ac4 Ac5 Ac6 Ac7
        replace X := X.below b
        replace A := A.below b
        replace h := Orc.below h b
        replace c := c.trans (b.mono c.size)
        clear b
        have Xc0 := X.cell (j := 0) rfl
        have Xc1 := X.cell (j := 1) rfl
        have Xc2 := X.cell (j := 2) rfl
        have Ac0 := A.cell (j := 0) rfl
        have Ac1 := A.cell (j := 1) rfl
        have Ac2 := A.cell (j := 2) rfl
        have Ac3 := A.cell (j := 3) rfl
        have Ac4 := A.cell (j := 4) rfl
        have Ac5 := A.cell (j := 5) rfl
        have Ac6 := A.cell (j := 6) rfl
        have Ac7 := A.cell (j := 7) rfl
        go_wp2_with fail
        refine (HC2 _ _ h).mono ?_
        clear h
        rintro x w4 ⟨rfl, h, b⟩
        clear Xc0 Xc1 Xc2 Ac0 Ac1 Ac2 Ac3 Ac4 Ac5 Ac6 Ac7
        replace X := X.but b Xo
        replace A := A.but b Ao
        replace c := c.trans (b.below c.size hw)
        clear b
        clear HC2
        have Xc0 := X.cell (j := 0) rfl
        have Xc1 := X.cell (j := 1) rfl
        have Xc2 := X.cell (j := 2) rfl
        have Ac0 := A.cell (j := 0) rfl
        have Ac1 := A.cell (j := 1) rfl
        have Ac2 := A.cell (j := 2) rfl
        have Ac3 := A.cell (j := 3) rfl
        have Ac4 := A.cell (j := 4) rfl
        have Ac5 := A.cell (j := 5) rfl
        have Ac6 := A.cell (j := 6) rfl
        have Ac7 := A.cell (j := 7) rfl
        go_wp2_with fail
        refine (HC3 _ _ h).mono ?_
        clear h
        rintro x w5 ⟨rfl, h, b⟩
        clear Xc0 Xc1 Xc2 Ac0 Ac1 Ac2 Ac3 Ac4 Ac5 Ac6 Ac7
        replace X := X.but b Xo
        replace A := A.but b Ao
        replace c := c.trans (b.below c.size hw)
        clear b
        clear HC3
        have Xc0 := X.cell (j := 0) rfl
        have Xc1 := X.cell (j := 1) rfl
        have Xc2 := X.cell (j := 2) rfl
        have Ac0 := A.cell (j := 0) rfl
        have Ac1 := A.cell (j := 1) rfl
        have Ac2 := A.cell (j := 2) rfl
        have Ac3 := A.cell (j := 3) rfl
        have Ac4 := A.cell (j := 4) rfl
        have Ac5 := A.cell (j := 5) rfl
        have Ac6 := A.cell (j := 6) rfl
        have Ac7 := A.cell (j := 7) rfl
        go_wp2_with fail
        refine (HC4 _ _ h).mono ?_
        clear h
        rintro x w6 ⟨rfl, h, b⟩
        clear Xc0 Xc1 Xc2 Ac0 Ac1 Ac2 Ac3 Ac4 Ac5 Ac6 Ac7
        replace X := X.but b Xo
        replace A := A.but b Ao
        replace c := c.trans (b.below c.size hw)
        clear b
        clear HC4
        have Xc0 := X.cell (j := 0) rfl
        have Xc1 := X.cell (j := 1) rfl
        have Xc2 := X.cell (j := 2) rfl
        have Ac0 := A.cell (j := 0) rfl
        have Ac1 := A.cell (j := 1) rfl
        have Ac2 := A.cell (j := 2) rfl
        have Ac3 := A.cell (j := 3) rfl
        have Ac4 := A.cell (j := 4) rfl
        have Ac5 := A.cell (j := 5) rfl
        have Ac6 := A.cell (j := 6) rfl
        have Ac7 := A.cell (j := 7) rfl
        go_wp2
        go_ret
        exact ⟨rfl, c⟩
    · have n1 : ((O.chk k t v e z : Nat) != 0) = true := by simp; exact hr
      have n2 : (((O.chk k t v e z : Nat) : Int) != 0) = true := by simp; omega
      generalize O.chk k t v e z = r at *
      generalize O.chkO k t = O2 at *
      clear HC2 HC3 HC4 hchk hr hand hm1 hm2 hvw hvv hy hme ht64
      have Xc0 := X.cell (j := 0) rfl
      have Xc1 := X.cell (j := 1) rfl
      have Xc2 := X.cell (j := 2) rfl
      go_wp2_with fail
      refine (HK _ c).mono ?_
      rintro x w1 ⟨M, vv, rfl, h, hin, -, -, b⟩
      have Xo : ¬ M.own bX := fun ho => by have := (hin.own _ ho).1; have := X.lt; omega
      have Ao : ¬ M.own bA := fun ho => by have := (hin.own _ ho).1; have := A.lt; omega
      have hw : ∀ i, M.own i → w.heap.size ≤ i := fun i hi => by have := (hin.own i hi).1; have := c.size; omega
      clear Xc0 Xc1 Xc2
      clear hin HK
      replace X := X.below b
      replace A := A.below b
      replace c := c.trans (b.mono c.size)
      clear b
      have Xc0 := X.cell (j := 0) rfl
      have Xc1 := X.cell (j := 1) rfl
      have Xc2 := X.cell (j := 2) rfl
      have Ac0 := A.cell (j := 0) rfl
      have Ac1 := A.cell (j := 1) rfl
      have Ac2 := A.cell (j := 2) rfl
      have Ac3 := A.cell (j := 3) rfl
      have Ac4 := A.cell (j := 4) rfl
      have Ac5 := A.cell (j := 5) rfl
      have Ac6 := A.cell (j := 6) rfl
      have Ac7 := A.cell (j := 7) rfl
      go_wp2_with fail
      refine (HC _ _ h).mono ?_
      clear h
      rintro x w2 ⟨rfl, h, b⟩
      clear Xc0 Xc1 Xc2 Ac0 Ac1 Ac2 Ac3 Ac4 Ac5 Ac6 Ac7
      replace X := X.but b Xo
      replace A := A.but b Ao
      replace c := c.trans (b.below c.size hw)
      clear b
      clear HC
      have Xc0 := X.cell (j := 0) rfl
      have Xc1 := X.cell (j := 1) rfl
      have Xc2 := X.cell (j := 2) rfl
      have Ac0 := A.cell (j := 0) rfl
      have Ac1 := A.cell (j := 1) rfl
      have Ac2 := A.cell (j := 2) rfl
      have Ac3 := A.cell (j := 3) rfl
      have Ac4 := A.cell (j := 4) rfl
      have Ac5 := A.cell (j := 5) rfl
      have Ac6 := A.cell (j := 6) rfl
      have Ac7 := A.cell (j := 7) rfl
      go_wp2_with fail
      refine (HF _).mono ?_
      rintro x w3 ⟨rfl, b⟩
      clear Xc0 Xc1 Xc2 Ac0 Ac1 Ac2 Ac3 Ac4 Ac5 Ac6 Ac7
      replace X := X.below b
      replace A := A.below b
      replace h := Orc.below h b
      replace c := c.trans (b.mono c.size)
      clear b
      have Xc0 := X.cell (j := 0) rfl
      have Xc1 := X.cell (j := 1) rfl
      have Xc2 := X.cell (j := 2) rfl
      have Ac0 := A.cell (j := 0) rfl
      have Ac1 := A.cell (j := 1) rfl
      have Ac2 := A.cell (j := 2) rfl
      have Ac3 := A.cell (j := 3) rfl
      have Ac4 := A.cell (j := 4) rfl
      have Ac5 := A.cell (j := 5) rfl
      have Ac6 := A.cell (j := 6) rfl
      have Ac7 := A.cell (j := 7) rfl
      go_wp2_with fail
      refine (HF _).mono ?_
      rintro x w4 ⟨rfl, b⟩
      clear Xc0 Xc1 Xc2 Ac0 Ac1 Ac2 Ac3 Ac4 Ac5 Ac6 Ac7
      replace X := X.below b
      replace A := A.below b
      replace h := Orc.below h b
      replace c := c.trans (b.mono c.size)
      clear b
      have Xc0 := X.cell (j := 0) rfl
      have Xc1 := X.cell (j := 1) rfl
      have Xc2 := X.cell (j := 2) rfl
      have Ac0 := A.cell (j := 0) rfl
      have Ac1 := A.cell (j := 1) rfl
      have Ac2 := A.cell (j := 2) rfl
      have Ac3 := A.cell (j := 3) rfl
      have Ac4 := A.cell (j := 4) rfl
      have Ac5 := A.cell (j := 5) rfl
      have Ac6 := A.cell (j := 6) rfl
      have Ac7 := A.cell (j := 7) rfl
      go_wp2
      go_ret
      exact ⟨rfl, c⟩
end Cap
end Go.Proofs.Ytbhdcocgghaifaa
