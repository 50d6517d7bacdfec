/-
  SlotTorn: the walk, for every input.
-/
import Derived.Test.YtolanlnabdbolaaSltI
namespace Go.Proofs.Ytolanlnabdbolaa.Torn9
open Go.RowKit
open Dsk Slt

/-- What is there says nothing, or what it said ahead, or the new frame. -/
theorem torn_un {o : ByteArray} {n m : Nat} {x t : ByteArray} {z c : Nat} (hz : 32 ≤ z) (hz2 : z ≤ 512) (hm : m ≠ 0) (hm2 : m < 18446744073709551616) (hn2 : n < 18446744073709551616) (ht : t.size + 18 ≤ z)
    (ho : (n = 0 ∧ o = zeros z) ∨ (n ≠ 0 ∧ x.size + 18 ≤ z ∧ o = body n x z)) (hne : n ≠ m) (hc : c ≤ z) :
    un (cut (body m t z) o c) = (0, ⟨#[]⟩, false) ∨ (n ≠ 0 ∧ un (cut (body m t z) o c) = (n, x, true)) ∨ un (cut (body m t z) o c) = (m, t, true) := by
  rcases torn hz hm2 hn2 ht ho hne hc with h | h | h
  · rcases un_cases (cut (body m t z) o c) with h2 | h2
    · rw [h] at h2
      cases h2.1
    · exact .inl h2
  · rw [h]
    rcases ho with ⟨-, rfl⟩ | ⟨h0, h1, rfl⟩
    · exact .inl (un_zeros z)
    · exact .inr (.inl ⟨h0, un_body h0 hn2 h1 hz hz2⟩)
  · rw [h]
    exact .inr (.inr (un_body hm hm2 ht hz hz2))

set_option maxRecDepth 100000 in
set_option maxHeartbeats 8000000 in
theorem torn_any (n : Nat) (hn : n < 18446744073709551616) (x : ByteArray) (z : Int) (m : Nat) (hm : m < 18446744073709551616) (t : ByteArray) (y : Int) (c : Int) (w : World) :
    Calls Try.prog 4 #[.agg #[.int .u64 (n : Int), .string x, .int .i64 z], .agg #[.int .u64 (m : Int), .string t, .int .i64 y], .int .i64 c] w fun e w' => e = .returned (.bool true) ∧ Below w.heap.size w w' := by
  have X := Box.new w #[.int .u64 (n : Int), .string x, .int .i64 z] 24
  have Y := Box.new (w.alloc (.cells #[.int .u64 (n : Int), .string x, .int .i64 z] 24)) #[.int .u64 (m : Int), .string t, .int .i64 y] 24
  have c0 := below_lit w (.cells #[.int .u64 (n : Int), .string x, .int .i64 z] 24)
  have c1 := below_lit (w.alloc (.cells #[.int .u64 (n : Int), .string x, .int .i64 z] 24)) (.cells #[.int .u64 (m : Int), .string t, .int .i64 y] 24)
  have X1 := X.below c1
  have c0 := c0.trans (c1.mono c0.size)
  have z0 : (w.alloc (.cells #[.int .u64 (n : Int), .string x, .int .i64 z] 24)).heap.size = w.heap.size + 1 := World.size_alloc _ _
  rw [z0] at Y
  have x0 : ((w.alloc (.cells #[.int .u64 (n : Int), .string x, .int .i64 z] 24)).alloc (.cells #[.int .u64 (m : Int), .string t, .int .i64 y] 24)).cell? ⟨w.heap.size, 0, none⟩ = some (.int .u64 (n : Int)) := X1.cell (j := 0) rfl
  have x1 : ((w.alloc (.cells #[.int .u64 (n : Int), .string x, .int .i64 z] 24)).alloc (.cells #[.int .u64 (m : Int), .string t, .int .i64 y] 24)).cell? ⟨w.heap.size, 1, none⟩ = some (.string x) := X1.cell (j := 1) rfl
  have x2 : ((w.alloc (.cells #[.int .u64 (n : Int), .string x, .int .i64 z] 24)).alloc (.cells #[.int .u64 (m : Int), .string t, .int .i64 y] 24)).cell? ⟨w.heap.size, 2, none⟩ = some (.int .i64 z) := X1.cell (j := 2) rfl
  have y0 : ((w.alloc (.cells #[.int .u64 (n : Int), .string x, .int .i64 z] 24)).alloc (.cells #[.int .u64 (m : Int), .string t, .int .i64 y] 24)).cell? ⟨w.heap.size + 1, 0, none⟩ = some (.int .u64 (m : Int)) := Y.cell (j := 0) rfl
  have y1 : ((w.alloc (.cells #[.int .u64 (n : Int), .string x, .int .i64 z] 24)).alloc (.cells #[.int .u64 (m : Int), .string t, .int .i64 y] 24)).cell? ⟨w.heap.size + 1, 1, none⟩ = some (.string t) := Y.cell (j := 1) rfl
  have HA := fun w => frame_any n hn x z w
  have HB := fun w => frame_any m hm t z w
  have HF := fixed_any
  clear X Y X1 c1 z0
  by_cases h0 : n = 0
  · by_cases hz1 : 32 ≤ z
    · by_cases hz2 : z ≤ 512
      · subst h0
        obtain ⟨k, rfl⟩ : ∃ k : Nat, z = (k : Int) := ⟨z.toNat, by omega⟩
        have k1 : 32 ≤ k := by omega
        have k2 : k ≤ 512 := by omega
        have gk1 : decide ((k : Int) ≥ 32) = true := by rw [decide_eq_true_iff]; omega
        have gk2 : decide ((k : Int) ≤ 512) = true := by rw [decide_eq_true_iff]; omega
        rw [frame_bad (by unfold fits; rw [decide_eq_false_iff_not]; exact fun h => h.2.2.1 rfl)] at HA
        have HZ := fun w => rZeros_any k (by omega) w
        have hzz : (zeros k).size = k := zeros_size k
        clear hz1 hz2
        by_cases hfb : fits m t (k : Int) = true
        · rw [frame_good hfb, show (k : Int).toNat = k from rfl] at HB
          have hq := of_decide_eq_true hfb
          have hnm : 0 ≠ m := by omega
          by_cases hc1 : c < 0
          · have gn : ((0 : Int) == (m : Int)) = false := by rw [beq_eq_false_iff_ne]; omega
            have gn2 : (0 == m) = false := by rw [beq_eq_false_iff_ne]; omega
            have g1 : decide (c < 0) = true := by rw [decide_eq_true_iff]; exact hc1
            clear hnm hq
            generalize body m t k = fr at *
            generalize zeros k = o at *
            go_enter Try.func4, Try.ntmps4
            go_wp2_with fail
            go_quiet (fail)
            have c1 := c0.trans ((Dsk.below_drewN _ nq).mono c0.size)
            clear x0 x1 x2 y0 y1 c0
            generalize World.drewN _ nq = wa at *
            go_wp2_with fail
            refine (HA _).mono ?_
            rintro e w1 ⟨rfl, b1⟩
            have c2 := c1.trans (b1.mono c1.size)
            clear c1 b1 HA
            go_wp2_with fail
            refine (HZ _).mono ?_
            rintro e w1 ⟨rfl, b1⟩
            have c2 := c2.trans (b1.mono c2.size)
            clear b1 HZ
            go_wp2_with fail
            refine (HB _).mono ?_
            rintro e w2 ⟨rfl, b1⟩
            have c3 := c2.trans (b1.mono c2.size)
            clear c2 b1 HB
            go_wp2_with fail
            refine (HF _).mono ?_
            rintro e w3 ⟨rfl, b1⟩
            have c4 := c3.trans (b1.mono c3.size)
            clear c3 b1
            go_wp2_with fail
            refine (HF _).mono ?_
            rintro e w4 ⟨rfl, b1⟩
            have c5 := c4.trans (b1.mono c4.size)
            clear c4 b1
            go_wp2
            go_ret
            exact ⟨rfl, c5⟩
          · by_cases hc2 : c > (k : Int)
            · have gn : ((0 : Int) == (m : Int)) = false := by rw [beq_eq_false_iff_ne]; omega
              have gn2 : (0 == m) = false := by rw [beq_eq_false_iff_ne]; omega
              have g1 : decide (c < 0) = false := by rw [decide_eq_false_iff_not]; exact hc1
              have g2 : decide (c > (k : Int)) = true := by rw [decide_eq_true_iff]; exact hc2
              clear hnm hq
              generalize body m t k = fr at *
              generalize zeros k = o at *
              go_enter Try.func4, Try.ntmps4
              go_wp2_with fail
              go_quiet (fail)
              have c1 := c0.trans ((Dsk.below_drewN _ nq).mono c0.size)
              clear x0 x1 x2 y0 y1 c0
              generalize World.drewN _ nq = wa at *
              go_wp2_with fail
              refine (HA _).mono ?_
              rintro e w1 ⟨rfl, b1⟩
              have c2 := c1.trans (b1.mono c1.size)
              clear c1 b1 HA
              go_wp2_with fail
              refine (HZ _).mono ?_
              rintro e w1 ⟨rfl, b1⟩
              have c2 := c2.trans (b1.mono c2.size)
              clear b1 HZ
              go_wp2_with fail
              refine (HB _).mono ?_
              rintro e w2 ⟨rfl, b1⟩
              have c3 := c2.trans (b1.mono c2.size)
              clear c2 b1 HB
              go_wp2_with fail
              refine (HF _).mono ?_
              rintro e w3 ⟨rfl, b1⟩
              have c4 := c3.trans (b1.mono c3.size)
              clear c3 b1
              go_wp2_with fail
              refine (HF _).mono ?_
              rintro e w4 ⟨rfl, b1⟩
              have c5 := c4.trans (b1.mono c4.size)
              clear c4 b1
              go_wp2
              go_ret
              exact ⟨rfl, c5⟩
            · obtain ⟨c, rfl⟩ : ∃ q : Nat, c = (q : Int) := ⟨c.toNat, by omega⟩
              have ho := torn_un (x := x) (c := c) (by omega : 32 ≤ k) (by omega) (by omega : m ≠ 0) hm hn (by omega : t.size + 18 ≤ k) (.inl ⟨rfl, rfl⟩) hnm (by omega)
              have HU := fun w => unframe_any (cut (body m t k) (zeros k) c) w
              have hb : (body m t k).size = k := body_size (by omega)
              have hsz : (zeros k).size = k := zeros_size k
              unfold cut at HU ho
              rw [hsz] at HU ho
              clear hfb hq
              generalize body m t k = fr at *
              generalize hO : (zeros k) = o at *
              clear hO
              have hsum : (fr.extract 0 c).size + (o.extract c k).size = k := by rw [ByteArray.size_extract, ByteArray.size_extract]; omega
              have f1 : (9223372036854775807 < ((fr.extract 0 c).size : Int) + ((o.extract c k).size : Int)) = False := by simp; omega
              have f2 : (9223372036854775807 < (fr.extract 0 c).size + (o.extract c k).size) = False := by simp; omega
              have g1 : decide ((c : Int) < 0) = false := by rw [decide_eq_false_iff_not]; omega
              have g2 : decide ((c : Int) > (k : Int)) = false := by rw [decide_eq_false_iff_not]; omega
              have i1 : (0 : Int) ≤ (c : Int) := by omega
              have i2 : (c : Int) ≤ (k : Int) := by omega
              have l1 : c ≤ k := by omega
              have l2 : c ≤ fr.size := by omega
              have l3 : c ≤ o.size := by omega
              have l4 : (9223372036854775807 < k) = False := eq_false (by omega)
              have l5 : (9223372036854775807 < o.size) = False := eq_false (by omega)
              clear hsum f1 f2
              have gm : ((m : Int) == 0) = false := by rw [beq_eq_false_iff_ne]; omega
              have gn : ((0 : Int) == (m : Int)) = false := by rw [beq_eq_false_iff_ne]; omega
              have gm2 : (m == 0) = false := by rw [beq_eq_false_iff_ne]; omega
              have gn2 : (0 == m) = false := by rw [beq_eq_false_iff_ne]; omega
              clear hnm
              rcases ho with ho | ⟨hno, ho⟩ | ho
              · rw [ho] at HU
                clear ho
                go_enter Try.func4, Try.ntmps4
                go_wp2_with fail
                go_quiet (fail)
                have c1 := c0.trans ((Dsk.below_drewN _ nq).mono c0.size)
                clear x0 x1 x2 y0 y1 c0
                generalize World.drewN _ nq = wa at *
                go_wp2_with fail
                refine (HA _).mono ?_
                rintro e w1 ⟨rfl, b1⟩
                have c2 := c1.trans (b1.mono c1.size)
                clear c1 b1 HA
                go_wp2_with fail
                refine (HZ _).mono ?_
                rintro e w1 ⟨rfl, b1⟩
                have c2 := c2.trans (b1.mono c2.size)
                clear b1 HZ
                go_wp2_with fail
                refine (HB _).mono ?_
                rintro e w2 ⟨rfl, b1⟩
                have c3 := c2.trans (b1.mono c2.size)
                clear c2 b1 HB
                go_wp2_with fail
                refine (HF _).mono ?_
                rintro e w3 ⟨rfl, b1⟩
                have c4 := c3.trans (b1.mono c3.size)
                clear c3 b1
                clear HF
                go_upto_region 8 with (fail)
                go_region_held3 (fun w' => Below w.heap.size w w')
                  (first | exact c4.drew | exact Below.trans (by assumption) (hb.mono (Below.size (by assumption))))
                  (first
                    | (go_at_call 10; refine (HU _).mono ?_; rintro e w' ⟨rfl, hb⟩))
                go_wp2
                go_ret
                exact ⟨rfl, by assumption⟩
              · exact absurd rfl hno
              · rw [ho] at HU
                clear ho
                go_enter Try.func4, Try.ntmps4
                go_wp2_with fail
                go_quiet (fail)
                have c1 := c0.trans ((Dsk.below_drewN _ nq).mono c0.size)
                clear x0 x1 x2 y0 y1 c0
                generalize World.drewN _ nq = wa at *
                go_wp2_with fail
                refine (HA _).mono ?_
                rintro e w1 ⟨rfl, b1⟩
                have c2 := c1.trans (b1.mono c1.size)
                clear c1 b1 HA
                go_wp2_with fail
                refine (HZ _).mono ?_
                rintro e w1 ⟨rfl, b1⟩
                have c2 := c2.trans (b1.mono c2.size)
                clear b1 HZ
                go_wp2_with fail
                refine (HB _).mono ?_
                rintro e w2 ⟨rfl, b1⟩
                have c3 := c2.trans (b1.mono c2.size)
                clear c2 b1 HB
                go_wp2_with fail
                refine (HF _).mono ?_
                rintro e w3 ⟨rfl, b1⟩
                have c4 := c3.trans (b1.mono c3.size)
                clear c3 b1
                clear HF
                go_upto_region 8 with (fail)
                go_region_held3 (fun w' => Below w.heap.size w w')
                  (first | exact c4.drew | exact Below.trans (by assumption) (hb.mono (Below.size (by assumption))))
                  (first
                    | (go_at_call 10; refine (HU _).mono ?_; rintro e w' ⟨rfl, hb⟩))
                go_wp2
                go_ret
                exact ⟨rfl, by assumption⟩
        · rw [frame_bad (by simpa using hfb)] at HB
          clear hfb
          generalize zeros k = o at *
          go_enter Try.func4, Try.ntmps4
          go_wp2_with fail
          go_quiet (fail)
          have c1 := c0.trans ((Dsk.below_drewN _ nq).mono c0.size)
          clear x0 x1 x2 y0 y1 c0
          generalize World.drewN _ nq = wa at *
          go_wp2_with fail
          refine (HA _).mono ?_
          rintro e w1 ⟨rfl, b1⟩
          have c2 := c1.trans (b1.mono c1.size)
          clear c1 b1 HA
          go_wp2_with fail
          refine (HZ _).mono ?_
          rintro e w1 ⟨rfl, b1⟩
          have c2 := c2.trans (b1.mono c2.size)
          clear b1 HZ
          go_wp2_with fail
          refine (HB _).mono ?_
          rintro e w2 ⟨rfl, b1⟩
          have c3 := c2.trans (b1.mono c2.size)
          clear c2 b1 HB
          go_wp2_with fail
          refine (HF _).mono ?_
          rintro e w3 ⟨rfl, b1⟩
          have c4 := c3.trans (b1.mono c3.size)
          clear c3 b1
          go_wp2_with fail
          refine (HF _).mono ?_
          rintro e w4 ⟨rfl, b1⟩
          have c5 := c4.trans (b1.mono c4.size)
          clear c4 b1
          go_wp2
          go_ret
          exact ⟨rfl, c5⟩
      · have hfa : ¬ fits n x z = true := fun h => hz2 (of_decide_eq_true h).2.1
        subst h0
        rw [frame_bad (by simpa using hfa)] at HA
        have gk1 : decide (z ≥ 32) = true := by rw [decide_eq_true_iff]; exact hz1
        have gk2 : decide (z ≤ 512) = false := by rw [decide_eq_false_iff_not]; exact hz2
        generalize hfr : frame m t z = fr at HB
        clear hfr
        obtain ⟨fr1, fr2⟩ := fr
        go_enter Try.func4, Try.ntmps4
        go_wp2_with fail
        go_quiet (fail)
        have c1 := c0.trans ((Dsk.below_drewN _ nq).mono c0.size)
        clear x0 x1 x2 y0 y1 c0
        generalize World.drewN _ nq = wa at *
        go_wp2_with fail
        refine (HA _).mono ?_
        rintro e w1 ⟨rfl, b1⟩
        have c2 := c1.trans (b1.mono c1.size)
        clear c1 b1 HA
        go_wp2_with fail
        refine (HB _).mono ?_
        rintro e w2 ⟨rfl, b1⟩
        have c3 := c2.trans (b1.mono c2.size)
        clear c2 b1 HB
        go_wp2_with fail
        refine (HF _).mono ?_
        rintro e w3 ⟨rfl, b1⟩
        have c4 := c3.trans (b1.mono c3.size)
        clear c3 b1
        go_wp2_with fail
        refine (HF _).mono ?_
        rintro e w4 ⟨rfl, b1⟩
        have c5 := c4.trans (b1.mono c4.size)
        clear c4 b1
        go_wp2
        go_ret
        exact ⟨rfl, c5⟩
    · have hfa : ¬ fits n x z = true := fun h => hz1 (of_decide_eq_true h).1
      subst h0
      rw [frame_bad (by simpa using hfa)] at HA
      have gk1 : decide (z ≥ 32) = false := by rw [decide_eq_false_iff_not]; exact hz1
      generalize hfr : frame m t z = fr at HB
      clear hfr
      obtain ⟨fr1, fr2⟩ := fr
      go_enter Try.func4, Try.ntmps4
      go_wp2_with fail
      go_quiet (fail)
      have c1 := c0.trans ((Dsk.below_drewN _ nq).mono c0.size)
      clear x0 x1 x2 y0 y1 c0
      generalize World.drewN _ nq = wa at *
      go_wp2_with fail
      refine (HA _).mono ?_
      rintro e w1 ⟨rfl, b1⟩
      have c2 := c1.trans (b1.mono c1.size)
      clear c1 b1 HA
      go_wp2_with fail
      refine (HB _).mono ?_
      rintro e w2 ⟨rfl, b1⟩
      have c3 := c2.trans (b1.mono c2.size)
      clear c2 b1 HB
      go_wp2_with fail
      refine (HF _).mono ?_
      rintro e w3 ⟨rfl, b1⟩
      have c4 := c3.trans (b1.mono c3.size)
      clear c3 b1
      go_wp2_with fail
      refine (HF _).mono ?_
      rintro e w4 ⟨rfl, b1⟩
      have c5 := c4.trans (b1.mono c4.size)
      clear c4 b1
      go_wp2
      go_ret
      exact ⟨rfl, c5⟩
  · by_cases hfa : fits n x z = true
    · have hpa := of_decide_eq_true hfa
      obtain ⟨k, rfl⟩ : ∃ k : Nat, z = (k : Int) := ⟨z.toNat, by omega⟩
      have k1 : 32 ≤ k := by omega
      have k2 : k ≤ 512 := by omega
      have k3 : x.size + 18 ≤ k := by omega
      have hn0 : n ≠ 0 := h0
      rw [frame_good hfa, show (k : Int).toNat = k from rfl] at HA
      have hzz : (body n x k).size = k := body_size (by omega)
      clear hfa hpa
      by_cases hfb : fits m t (k : Int) = true
      · rw [frame_good hfb, show (k : Int).toNat = k from rfl] at HB
        have hq := of_decide_eq_true hfb
        by_cases hnm : n = m
        · subst hnm
          have gn : ((n : Int) == (n : Int)) = true := beq_self_eq_true _
          have gz : ((n : Int) == 0) = false := by rw [beq_eq_false_iff_ne]; omega
          clear hq
          generalize body n t k = fr at *
          generalize body n x k = o at *
          go_enter Try.func4, Try.ntmps4
          go_wp2_with fail
          go_quiet (fail)
          have c1 := c0.trans ((Dsk.below_drewN _ nq).mono c0.size)
          clear x0 x1 x2 y0 y1 c0
          generalize World.drewN _ nq = wa at *
          go_wp2_with fail
          refine (HA _).mono ?_
          rintro e w1 ⟨rfl, b1⟩
          have c2 := c1.trans (b1.mono c1.size)
          clear c1 b1 HA
          go_wp2_with fail
          refine (HB _).mono ?_
          rintro e w2 ⟨rfl, b1⟩
          have c3 := c2.trans (b1.mono c2.size)
          clear c2 b1 HB
          go_wp2_with fail
          refine (HF _).mono ?_
          rintro e w3 ⟨rfl, b1⟩
          have c4 := c3.trans (b1.mono c3.size)
          clear c3 b1
          go_wp2_with fail
          refine (HF _).mono ?_
          rintro e w4 ⟨rfl, b1⟩
          have c5 := c4.trans (b1.mono c4.size)
          clear c4 b1
          go_wp2
          go_ret
          exact ⟨rfl, c5⟩
        · by_cases hc1 : c < 0
          · have gn : ((n : Int) == (m : Int)) = false := by rw [beq_eq_false_iff_ne]; omega
            have gn2 : (n == m) = false := by rw [beq_eq_false_iff_ne]; exact hnm
            have gz : ((n : Int) == 0) = false := by rw [beq_eq_false_iff_ne]; omega
            have g1 : decide (c < 0) = true := by rw [decide_eq_true_iff]; exact hc1
            clear hnm hq
            generalize body m t k = fr at *
            generalize body n x k = o at *
            go_enter Try.func4, Try.ntmps4
            go_wp2_with fail
            go_quiet (fail)
            have c1 := c0.trans ((Dsk.below_drewN _ nq).mono c0.size)
            clear x0 x1 x2 y0 y1 c0
            generalize World.drewN _ nq = wa at *
            go_wp2_with fail
            refine (HA _).mono ?_
            rintro e w1 ⟨rfl, b1⟩
            have c2 := c1.trans (b1.mono c1.size)
            clear c1 b1 HA
            go_wp2_with fail
            refine (HB _).mono ?_
            rintro e w2 ⟨rfl, b1⟩
            have c3 := c2.trans (b1.mono c2.size)
            clear c2 b1 HB
            go_wp2_with fail
            refine (HF _).mono ?_
            rintro e w3 ⟨rfl, b1⟩
            have c4 := c3.trans (b1.mono c3.size)
            clear c3 b1
            go_wp2_with fail
            refine (HF _).mono ?_
            rintro e w4 ⟨rfl, b1⟩
            have c5 := c4.trans (b1.mono c4.size)
            clear c4 b1
            go_wp2
            go_ret
            exact ⟨rfl, c5⟩
          · by_cases hc2 : c > (k : Int)
            · have gn : ((n : Int) == (m : Int)) = false := by rw [beq_eq_false_iff_ne]; omega
              have gn2 : (n == m) = false := by rw [beq_eq_false_iff_ne]; exact hnm
              have gz : ((n : Int) == 0) = false := by rw [beq_eq_false_iff_ne]; omega
              have g1 : decide (c < 0) = false := by rw [decide_eq_false_iff_not]; exact hc1
              have g2 : decide (c > (k : Int)) = true := by rw [decide_eq_true_iff]; exact hc2
              clear hnm hq
              generalize body m t k = fr at *
              generalize body n x k = o at *
              go_enter Try.func4, Try.ntmps4
              go_wp2_with fail
              go_quiet (fail)
              have c1 := c0.trans ((Dsk.below_drewN _ nq).mono c0.size)
              clear x0 x1 x2 y0 y1 c0
              generalize World.drewN _ nq = wa at *
              go_wp2_with fail
              refine (HA _).mono ?_
              rintro e w1 ⟨rfl, b1⟩
              have c2 := c1.trans (b1.mono c1.size)
              clear c1 b1 HA
              go_wp2_with fail
              refine (HB _).mono ?_
              rintro e w2 ⟨rfl, b1⟩
              have c3 := c2.trans (b1.mono c2.size)
              clear c2 b1 HB
              go_wp2_with fail
              refine (HF _).mono ?_
              rintro e w3 ⟨rfl, b1⟩
              have c4 := c3.trans (b1.mono c3.size)
              clear c3 b1
              go_wp2_with fail
              refine (HF _).mono ?_
              rintro e w4 ⟨rfl, b1⟩
              have c5 := c4.trans (b1.mono c4.size)
              clear c4 b1
              go_wp2
              go_ret
              exact ⟨rfl, c5⟩
            · obtain ⟨c, rfl⟩ : ∃ q : Nat, c = (q : Int) := ⟨c.toNat, by omega⟩
              have ho := torn_un (x := x) (c := c) (by omega : 32 ≤ k) (by omega) (by omega : m ≠ 0) hm hn (by omega : t.size + 18 ≤ k) (.inr ⟨hn0, by omega, rfl⟩) hnm (by omega)
              have HU := fun w => unframe_any (cut (body m t k) (body n x k) c) w
              have hb : (body m t k).size = k := body_size (by omega)
              have hsz : (body n x k).size = k := body_size (by omega)
              unfold cut at HU ho
              rw [hsz] at HU ho
              clear hfb hq
              generalize body m t k = fr at *
              generalize hO : (body n x k) = o at *
              clear hO
              have hsum : (fr.extract 0 c).size + (o.extract c k).size = k := by rw [ByteArray.size_extract, ByteArray.size_extract]; omega
              have f1 : (9223372036854775807 < ((fr.extract 0 c).size : Int) + ((o.extract c k).size : Int)) = False := by simp; omega
              have f2 : (9223372036854775807 < (fr.extract 0 c).size + (o.extract c k).size) = False := by simp; omega
              have g1 : decide ((c : Int) < 0) = false := by rw [decide_eq_false_iff_not]; omega
              have g2 : decide ((c : Int) > (k : Int)) = false := by rw [decide_eq_false_iff_not]; omega
              have i1 : (0 : Int) ≤ (c : Int) := by omega
              have i2 : (c : Int) ≤ (k : Int) := by omega
              have l1 : c ≤ k := by omega
              have l2 : c ≤ fr.size := by omega
              have l3 : c ≤ o.size := by omega
              have l4 : (9223372036854775807 < k) = False := eq_false (by omega)
              have l5 : (9223372036854775807 < o.size) = False := eq_false (by omega)
              clear hsum f1 f2
              have gn : ((n : Int) == (m : Int)) = false := by rw [beq_eq_false_iff_ne]; omega
              have gn2 : (n == m) = false := by rw [beq_eq_false_iff_ne]; exact hnm
              have gm : ((m : Int) == (n : Int)) = false := by rw [beq_eq_false_iff_ne]; omega
              have gm2 : (m == n) = false := by rw [beq_eq_false_iff_ne]; omega
              clear hnm
              have gz : ((n : Int) == 0) = false := by rw [beq_eq_false_iff_ne]; omega
              have gz2 : ((n : Int) != 0) = true := by rw [bne_iff_ne]; omega
              rcases ho with ho | ⟨hno, ho⟩ | ho
              · rw [ho] at HU
                clear ho
                go_enter Try.func4, Try.ntmps4
                go_wp2_with fail
                go_quiet (fail)
                have c1 := c0.trans ((Dsk.below_drewN _ nq).mono c0.size)
                clear x0 x1 x2 y0 y1 c0
                generalize World.drewN _ nq = wa at *
                go_wp2_with fail
                refine (HA _).mono ?_
                rintro e w1 ⟨rfl, b1⟩
                have c2 := c1.trans (b1.mono c1.size)
                clear c1 b1 HA
                go_wp2_with fail
                refine (HB _).mono ?_
                rintro e w2 ⟨rfl, b1⟩
                have c3 := c2.trans (b1.mono c2.size)
                clear c2 b1 HB
                go_wp2_with fail
                refine (HF _).mono ?_
                rintro e w3 ⟨rfl, b1⟩
                have c4 := c3.trans (b1.mono c3.size)
                clear c3 b1
                clear HF
                go_upto_region 8 with (fail)
                go_region_held3 (fun w' => Below w.heap.size w w')
                  (first | exact c4.drew | exact Below.trans (by assumption) (hb.mono (Below.size (by assumption))))
                  (first
                    | (go_at_call 10; refine (HU _).mono ?_; rintro e w' ⟨rfl, hb⟩))
                go_wp2
                go_ret
                exact ⟨rfl, by assumption⟩
              · rw [ho] at HU
                clear ho hno
                go_enter Try.func4, Try.ntmps4
                go_wp2_with fail
                go_quiet (fail)
                have c1 := c0.trans ((Dsk.below_drewN _ nq).mono c0.size)
                clear x0 x1 x2 y0 y1 c0
                generalize World.drewN _ nq = wa at *
                go_wp2_with fail
                refine (HA _).mono ?_
                rintro e w1 ⟨rfl, b1⟩
                have c2 := c1.trans (b1.mono c1.size)
                clear c1 b1 HA
                go_wp2_with fail
                refine (HB _).mono ?_
                rintro e w2 ⟨rfl, b1⟩
                have c3 := c2.trans (b1.mono c2.size)
                clear c2 b1 HB
                go_wp2_with fail
                refine (HF _).mono ?_
                rintro e w3 ⟨rfl, b1⟩
                have c4 := c3.trans (b1.mono c3.size)
                clear c3 b1
                clear HF
                go_upto_region 8 with (fail)
                go_region_held3 (fun w' => Below w.heap.size w w')
                  (first | exact c4.drew | exact Below.trans (by assumption) (hb.mono (Below.size (by assumption))))
                  (first
                    | (go_at_call 10; refine (HU _).mono ?_; rintro e w' ⟨rfl, hb⟩))
                go_wp2
                go_ret
                exact ⟨rfl, by assumption⟩
              · rw [ho] at HU
                clear ho
                go_enter Try.func4, Try.ntmps4
                go_wp2_with fail
                go_quiet (fail)
                have c1 := c0.trans ((Dsk.below_drewN _ nq).mono c0.size)
                clear x0 x1 x2 y0 y1 c0
                generalize World.drewN _ nq = wa at *
                go_wp2_with fail
                refine (HA _).mono ?_
                rintro e w1 ⟨rfl, b1⟩
                have c2 := c1.trans (b1.mono c1.size)
                clear c1 b1 HA
                go_wp2_with fail
                refine (HB _).mono ?_
                rintro e w2 ⟨rfl, b1⟩
                have c3 := c2.trans (b1.mono c2.size)
                clear c2 b1 HB
                go_wp2_with fail
                refine (HF _).mono ?_
                rintro e w3 ⟨rfl, b1⟩
                have c4 := c3.trans (b1.mono c3.size)
                clear c3 b1
                clear HF
                go_upto_region 8 with (fail)
                go_region_held3 (fun w' => Below w.heap.size w w')
                  (first | exact c4.drew | exact Below.trans (by assumption) (hb.mono (Below.size (by assumption))))
                  (first
                    | (go_at_call 10; refine (HU _).mono ?_; rintro e w' ⟨rfl, hb⟩))
                go_wp2
                go_ret
                exact ⟨rfl, by assumption⟩
      · rw [frame_bad (by simpa using hfb)] at HB
        have gz : ((n : Int) == 0) = false := by rw [beq_eq_false_iff_ne]; omega
        clear hfb
        generalize body n x k = o at *
        go_enter Try.func4, Try.ntmps4
        go_wp2_with fail
        go_quiet (fail)
        have c1 := c0.trans ((Dsk.below_drewN _ nq).mono c0.size)
        clear x0 x1 x2 y0 y1 c0
        generalize World.drewN _ nq = wa at *
        go_wp2_with fail
        refine (HA _).mono ?_
        rintro e w1 ⟨rfl, b1⟩
        have c2 := c1.trans (b1.mono c1.size)
        clear c1 b1 HA
        go_wp2_with fail
        refine (HB _).mono ?_
        rintro e w2 ⟨rfl, b1⟩
        have c3 := c2.trans (b1.mono c2.size)
        clear c2 b1 HB
        go_wp2_with fail
        refine (HF _).mono ?_
        rintro e w3 ⟨rfl, b1⟩
        have c4 := c3.trans (b1.mono c3.size)
        clear c3 b1
        go_wp2_with fail
        refine (HF _).mono ?_
        rintro e w4 ⟨rfl, b1⟩
        have c5 := c4.trans (b1.mono c4.size)
        clear c4 b1
        go_wp2
        go_ret
        exact ⟨rfl, c5⟩
    · rw [frame_bad (by simpa using hfa)] at HA
      have gz : ((n : Int) == 0) = false := by rw [beq_eq_false_iff_ne]; omega
      generalize hfr : frame m t z = fr at HB
      clear hfr
      obtain ⟨fr1, fr2⟩ := fr
      go_enter Try.func4, Try.ntmps4
      go_wp2_with fail
      go_quiet (fail)
      have c1 := c0.trans ((Dsk.below_drewN _ nq).mono c0.size)
      clear x0 x1 x2 y0 y1 c0
      generalize World.drewN _ nq = wa at *
      go_wp2_with fail
      refine (HA _).mono ?_
      rintro e w1 ⟨rfl, b1⟩
      have c2 := c1.trans (b1.mono c1.size)
      clear c1 b1 HA
      go_wp2_with fail
      refine (HB _).mono ?_
      rintro e w2 ⟨rfl, b1⟩
      have c3 := c2.trans (b1.mono c2.size)
      clear c2 b1 HB
      go_wp2_with fail
      refine (HF _).mono ?_
      rintro e w3 ⟨rfl, b1⟩
      have c4 := c3.trans (b1.mono c3.size)
      clear c3 b1
      go_wp2_with fail
      refine (HF _).mono ?_
      rintro e w4 ⟨rfl, b1⟩
      have c5 := c4.trans (b1.mono c4.size)
      clear c4 b1
      go_wp2
      go_ret
      exact ⟨rfl, c5⟩
end Go.Proofs.Ytolanlnabdbolaa.Torn9
