/-
  SealOpens: what was locked is unlocked as it was; with another key, or for another volume or sector, it is not: the walk.
-/
import Derived.Test.YtgdpamfphjehaaaSealD
import Derived.BigRegion
namespace Go.Proofs.Ytgdpamfphjehaaa.Opens5
open Go.RowKit Go.ChangeShapes Go.WideShapes Go.ChangeAt
open Ideal Ida Sea

set_option maxRecDepth 100000 in
set_option maxHeartbeats 8000000 in
theorem opens_any (l : List Nat) (hl : l.length * 8 ≤ 140737488355328) (hx : ∀ x ∈ l, x < 18446744073709551616) (k v s r e : Nat) (hk : k < 18446744073709551616) (hv : v < 18446744073709551616) (hs : s < 18446744073709551616) (hr : r < 18446744073709551616) (he : e < 18446744073709551616) (p : ByteArray) (hp : p.size ≤ maxLen) (k2 v2 s2 : Nat) (hk2 : k2 < 18446744073709551616) (hv2 : v2 < 18446744073709551616) (hs2 : s2 < 18446744073709551616) (dv : Value) (w : World) (rv : Kit.Sl w dv (nums l)) :
    Calls Try.prog 5 #[.agg #[dv, .int .u64 (k : Int), .int .u64 (v : Int), .int .u64 (s : Int), .int .u64 (r : Int), .int .u64 (e : Int), .string p, .int .u64 (k2 : Int), .int .u64 (v2 : Int), .int .u64 (s2 : Int)]] w fun e W' => e = .returned (.bool true) ∧ Below w.heap.size w W' := by
  obtain ⟨da, dc, rfl⟩ := rv.rd.form
  generalize dl : (nums l).length = dn at *
  have c0 := below_lit w (.cells #[.slice da dn dc, .int .u64 (k : Int), .int .u64 (v : Int), .int .u64 (s : Int), .int .u64 (r : Int), .int .u64 (e : Int), .string p, .int .u64 (k2 : Int), .int .u64 (v2 : Int), .int .u64 (s2 : Int)] 47)
  have c := (c0.trans ((below_lit (w.alloc (.cells #[.slice da dn dc, .int .u64 (k : Int), .int .u64 (v : Int), .int .u64 (s : Int), .int .u64 (r : Int), .int .u64 (e : Int), .string p, .int .u64 (k2 : Int), .int .u64 (v2 : Int), .int .u64 (s2 : Int)] 47)) (.cells #[.slice da dn dc, .int .u64 (k : Int), .int .u64 (v : Int), .int .u64 (s : Int), .int .u64 (r : Int), .int .u64 (e : Int), .string p] 32)).mono c0.size)).drew
  have X : Box (w.heap.size + 1) ((w.alloc (.cells #[.slice da dn dc, .int .u64 (k : Int), .int .u64 (v : Int), .int .u64 (s : Int), .int .u64 (r : Int), .int .u64 (e : Int), .string p, .int .u64 (k2 : Int), .int .u64 (v2 : Int), .int .u64 (s2 : Int)] 47)).alloc (.cells #[.slice da dn dc, .int .u64 (k : Int), .int .u64 (v : Int), .int .u64 (s : Int), .int .u64 (r : Int), .int .u64 (e : Int), .string p] 32)).drew #[.slice da dn dc, .int .u64 (k : Int), .int .u64 (v : Int), .int .u64 (s : Int), .int .u64 (r : Int), .int .u64 (e : Int), .string p] 32 := by
    have := (Box.new (w.alloc (.cells #[.slice da dn dc, .int .u64 (k : Int), .int .u64 (v : Int), .int .u64 (s : Int), .int .u64 (r : Int), .int .u64 (e : Int), .string p, .int .u64 (k2 : Int), .int .u64 (v2 : Int), .int .u64 (s2 : Int)] 47)) #[.slice da dn dc, .int .u64 (k : Int), .int .u64 (v : Int), .int .u64 (s : Int), .int .u64 (r : Int), .int .u64 (e : Int), .string p] 32).drew
    rw [World.size_alloc] at this
    exact this
  have Y := Box.new w #[.slice da dn dc, .int .u64 (k : Int), .int .u64 (v : Int), .int .u64 (s : Int), .int .u64 (r : Int), .int .u64 (e : Int), .string p, .int .u64 (k2 : Int), .int .u64 (v2 : Int), .int .u64 (s2 : Int)] 47
  have HK := locked_any l hl hx k v s r e hk hv hs hr he p hp (.slice da dn dc) _ (rv.below c)
  have hi : ((Or.new l).draw q0).Inv := Or.inv_draw (Or.inv_new l) q0
  have h1 := opens_all hi k v s r e p hv hs hr he k v s hv hs
  have h2 := opens_all hi k v s r e p hv hs hr he k2 v2 s2 hv2 hs2
  rw [if_pos ⟨rfl, rfl, rfl⟩] at h1
  have hf := (Or.lock_fine (k := k) (v := v) (s := s) (Or.fine_draw (Or.fine_new hx) (by show (0 : Nat) < _; decide) q0) (by rw [Or.len_draw]; show (0 : Nat) + 1 + 2 < _; decide) hr he p).2
  have his := lock_issued (O := ((Or.new l).draw q0)) k v s r e p
  have HU := fun w' M (h : Orc w' M (((Or.new l).draw q0).lockO k v s r e p)) => unlock_any h k v s hk hv hs _ hf
  have HV := fun w' M (h : Orc w' M (((Or.new l).draw q0).lockO k v s r e p)) => unlock_any h k2 v2 s2 hk2 hv2 hs2 _ hf
  have HB := fun w' M (h : Orc w' M (((Or.new l).draw q0).lockO k v s r e p)) => o_bad h
  rw [Or.open_issued his] at HU HV
  generalize ((Or.new l).draw q0).lockL k v s r e p = m at *
  generalize ((Or.new l).draw q0).lockO k v s r e p = O2 at *
  generalize O2.openL k v s m = P1 at *
  generalize O2.openL k2 v2 s2 m = P2 at *
  have HF := fixed_any
  clear hl hx hk hv hs hr he hp rv c0 hi hf his hk2 hv2 hs2 dl
  go_enter Try.func5, Try.ntmps5
  have Yc0 := Y.cell (j := 0) rfl
  have Yc1 := Y.cell (j := 1) rfl
  have Yc2 := Y.cell (j := 2) rfl
  have Yc3 := Y.cell (j := 3) rfl
  have Yc4 := Y.cell (j := 4) rfl
  have Yc5 := Y.cell (j := 5) rfl
  have Yc6 := Y.cell (j := 6) rfl
  have Yc7 := Y.cell (j := 7) rfl
  have Yc8 := Y.cell (j := 8) rfl
  have Yc9 := Y.cell (j := 9) rfl
  go_wp2
  go_region
  go_wp2_with fail
  refine HK.mono ?_
  rintro x w1 ⟨M, rfl, h, hin, b⟩
  clear Yc0 Yc1 Yc2 Yc3 Yc4 Yc5 Yc6 Yc7 Yc8 Yc9
  clear Y
  have Xo : ¬ M.own (w.heap.size + 1) := fun ho => by have := (hin.own _ ho).1; simp at this; omega
  have hw : ∀ i, M.own i → w.heap.size ≤ i := fun i hi => by have := (hin.own i hi).1; simp at this; omega
  have Mo : ¬ M.own w1.heap.size := fun ho => Nat.lt_irrefl _ (h.lt ho)
  replace X := X.below b
  replace c := c.trans (b.mono c.size)
  clear b
  have MM := Box.new w1 #[.int .u64 (m.v : Int), .int .u64 (m.e : Int), .int .u64 (m.n : Int), .int .u64 (m.c : Int)] 24
  have b := below_lit w1 (.cells #[.int .u64 (m.v : Int), .int .u64 (m.e : Int), .int .u64 (m.n : Int), .int .u64 (m.c : Int)] 24)
  replace X := X.below b
  replace h := Orc.below h b
  replace c := c.trans (b.mono c.size)
  clear b
  have MMo := Mo
  clear hin HK Mo
  have Xc0 := X.cell (j := 0) rfl
  have Xc1 := X.cell (j := 1) rfl
  have Xc2 := X.cell (j := 2) rfl
  have Xc3 := X.cell (j := 3) rfl
  have Xc4 := X.cell (j := 4) rfl
  have Xc5 := X.cell (j := 5) rfl
  have Xc6 := X.cell (j := 6) rfl
  have MMc0 := MM.cell (j := 0) rfl
  have MMc1 := MM.cell (j := 1) rfl
  have MMc2 := MM.cell (j := 2) rfl
  have MMc3 := MM.cell (j := 3) rfl
  go_wp2_with fail
  refine (HU _ _ h).mono ?_
  clear h
  rintro x w2 ⟨rfl, h, b⟩
  clear Xc0 Xc1 Xc2 Xc3 Xc4 Xc5 Xc6 MMc0 MMc1 MMc2 MMc3
  replace X := X.but b Xo
  replace MM := MM.but b MMo
  replace c := c.trans (b.below c.size hw)
  clear b
  have Xc0 := X.cell (j := 0) rfl
  have Xc1 := X.cell (j := 1) rfl
  have Xc2 := X.cell (j := 2) rfl
  have Xc3 := X.cell (j := 3) rfl
  have Xc4 := X.cell (j := 4) rfl
  have Xc5 := X.cell (j := 5) rfl
  have Xc6 := X.cell (j := 6) rfl
  have MMc0 := MM.cell (j := 0) rfl
  have MMc1 := MM.cell (j := 1) rfl
  have MMc2 := MM.cell (j := 2) rfl
  have MMc3 := MM.cell (j := 3) rfl
  go_wp2_with fail
  refine (HF _).mono ?_
  rintro x w3 ⟨rfl, b⟩
  clear Xc0 Xc1 Xc2 Xc3 Xc4 Xc5 Xc6 MMc0 MMc1 MMc2 MMc3
  replace X := X.below b
  replace MM := MM.below b
  replace h := Orc.below h b
  replace c := c.trans (b.mono c.size)
  clear b
  by_cases hz : O2.bads = 0
  · rw [show decide (0 < O2.bads) = false by rw [hz]; rfl] at HB
    obtain rfl := h1 hz
    have h2 := h2 hz
    clear h1 HU
    have Xc0 := X.cell (j := 0) rfl
    have Xc1 := X.cell (j := 1) rfl
    have Xc2 := X.cell (j := 2) rfl
    have Xc3 := X.cell (j := 3) rfl
    have Xc4 := X.cell (j := 4) rfl
    have Xc5 := X.cell (j := 5) rfl
    have Xc6 := X.cell (j := 6) rfl
    have MMc0 := MM.cell (j := 0) rfl
    have MMc1 := MM.cell (j := 1) rfl
    have MMc2 := MM.cell (j := 2) rfl
    have MMc3 := MM.cell (j := 3) rfl
    go_wp2_with fail
    refine (HB _ _ h).mono ?_
    rintro x w4 ⟨rfl, b⟩
    clear Xc0 Xc1 Xc2 Xc3 Xc4 Xc5 Xc6 MMc0 MMc1 MMc2 MMc3
    replace X := X.below b
    replace MM := MM.below b
    replace h := Orc.below h b
    replace c := c.trans (b.mono c.size)
    clear b
    by_cases ek : k2 = k
    · subst ek
      by_cases ev : v2 = v
      · subst ev
        by_cases es : s2 = s
        · subst es
          rw [if_pos ⟨rfl, rfl, rfl⟩] at h2
          rw [h2] at HV
          simp only [Option.getD_some, Option.isSome_some] at HV
          clear h2
          have Xc0 := X.cell (j := 0) rfl
          have Xc1 := X.cell (j := 1) rfl
          have Xc2 := X.cell (j := 2) rfl
          have Xc3 := X.cell (j := 3) rfl
          have Xc4 := X.cell (j := 4) rfl
          have Xc5 := X.cell (j := 5) rfl
          have Xc6 := X.cell (j := 6) rfl
          have MMc0 := MM.cell (j := 0) rfl
          have MMc1 := MM.cell (j := 1) rfl
          have MMc2 := MM.cell (j := 2) rfl
          have MMc3 := MM.cell (j := 3) rfl
          go_wp2_with fail
          refine (HV _ _ h).mono ?_
          clear h
          rintro x w5 ⟨rfl, h, b⟩
          clear Xc0 Xc1 Xc2 Xc3 Xc4 Xc5 Xc6 MMc0 MMc1 MMc2 MMc3
          replace X := X.but b Xo
          replace MM := MM.but b MMo
          replace c := c.trans (b.below c.size hw)
          clear b
          have Xc0 := X.cell (j := 0) rfl
          have Xc1 := X.cell (j := 1) rfl
          have Xc2 := X.cell (j := 2) rfl
          have Xc3 := X.cell (j := 3) rfl
          have Xc4 := X.cell (j := 4) rfl
          have Xc5 := X.cell (j := 5) rfl
          have Xc6 := X.cell (j := 6) rfl
          have MMc0 := MM.cell (j := 0) rfl
          have MMc1 := MM.cell (j := 1) rfl
          have MMc2 := MM.cell (j := 2) rfl
          have MMc3 := MM.cell (j := 3) rfl
          go_wp2
          go_ret
          exact ⟨rfl, c⟩
        · rw [if_neg (fun h => es h.2.2)] at h2
          rw [h2] at HV
          simp only [Option.getD_none, Option.isSome_none] at HV
          have n1 : ((s2 : Int) == (s : Int)) = false := by rw [beq_eq_false_iff_ne]; omega
          have n2 : (s2 == s) = false := by rw [beq_eq_false_iff_ne]; omega
          clear es
          clear h2
          have Xc0 := X.cell (j := 0) rfl
          have Xc1 := X.cell (j := 1) rfl
          have Xc2 := X.cell (j := 2) rfl
          have Xc3 := X.cell (j := 3) rfl
          have Xc4 := X.cell (j := 4) rfl
          have Xc5 := X.cell (j := 5) rfl
          have Xc6 := X.cell (j := 6) rfl
          have MMc0 := MM.cell (j := 0) rfl
          have MMc1 := MM.cell (j := 1) rfl
          have MMc2 := MM.cell (j := 2) rfl
          have MMc3 := MM.cell (j := 3) rfl
          go_wp2_with fail
          refine (HV _ _ h).mono ?_
          clear h
          rintro x w5 ⟨rfl, h, b⟩
          clear Xc0 Xc1 Xc2 Xc3 Xc4 Xc5 Xc6 MMc0 MMc1 MMc2 MMc3
          replace X := X.but b Xo
          replace MM := MM.but b MMo
          replace c := c.trans (b.below c.size hw)
          clear b
          have Xc0 := X.cell (j := 0) rfl
          have Xc1 := X.cell (j := 1) rfl
          have Xc2 := X.cell (j := 2) rfl
          have Xc3 := X.cell (j := 3) rfl
          have Xc4 := X.cell (j := 4) rfl
          have Xc5 := X.cell (j := 5) rfl
          have Xc6 := X.cell (j := 6) rfl
          have MMc0 := MM.cell (j := 0) rfl
          have MMc1 := MM.cell (j := 1) rfl
          have MMc2 := MM.cell (j := 2) rfl
          have MMc3 := MM.cell (j := 3) rfl
          go_wp2
          go_ret
          exact ⟨rfl, c⟩
      · rw [if_neg (fun h => ev h.2.1)] at h2
        rw [h2] at HV
        simp only [Option.getD_none, Option.isSome_none] at HV
        have n1 : ((v2 : Int) == (v : Int)) = false := by rw [beq_eq_false_iff_ne]; omega
        have n2 : (v2 == v) = false := by rw [beq_eq_false_iff_ne]; omega
        clear ev
        clear h2
        have Xc0 := X.cell (j := 0) rfl
        have Xc1 := X.cell (j := 1) rfl
        have Xc2 := X.cell (j := 2) rfl
        have Xc3 := X.cell (j := 3) rfl
        have Xc4 := X.cell (j := 4) rfl
        have Xc5 := X.cell (j := 5) rfl
        have Xc6 := X.cell (j := 6) rfl
        have MMc0 := MM.cell (j := 0) rfl
        have MMc1 := MM.cell (j := 1) rfl
        have MMc2 := MM.cell (j := 2) rfl
        have MMc3 := MM.cell (j := 3) rfl
        go_wp2_with fail
        refine (HV _ _ h).mono ?_
        clear h
        rintro x w5 ⟨rfl, h, b⟩
        clear Xc0 Xc1 Xc2 Xc3 Xc4 Xc5 Xc6 MMc0 MMc1 MMc2 MMc3
        replace X := X.but b Xo
        replace MM := MM.but b MMo
        replace c := c.trans (b.below c.size hw)
        clear b
        have Xc0 := X.cell (j := 0) rfl
        have Xc1 := X.cell (j := 1) rfl
        have Xc2 := X.cell (j := 2) rfl
        have Xc3 := X.cell (j := 3) rfl
        have Xc4 := X.cell (j := 4) rfl
        have Xc5 := X.cell (j := 5) rfl
        have Xc6 := X.cell (j := 6) rfl
        have MMc0 := MM.cell (j := 0) rfl
        have MMc1 := MM.cell (j := 1) rfl
        have MMc2 := MM.cell (j := 2) rfl
        have MMc3 := MM.cell (j := 3) rfl
        go_wp2
        go_ret
        exact ⟨rfl, c⟩
    · rw [if_neg (fun h => ek h.1)] at h2
      rw [h2] at HV
      simp only [Option.getD_none, Option.isSome_none] at HV
      have n1 : ((k2 : Int) == (k : Int)) = false := by rw [beq_eq_false_iff_ne]; omega
      have n2 : (k2 == k) = false := by rw [beq_eq_false_iff_ne]; omega
      clear ek
      clear h2
      have Xc0 := X.cell (j := 0) rfl
      have Xc1 := X.cell (j := 1) rfl
      have Xc2 := X.cell (j := 2) rfl
      have Xc3 := X.cell (j := 3) rfl
      have Xc4 := X.cell (j := 4) rfl
      have Xc5 := X.cell (j := 5) rfl
      have Xc6 := X.cell (j := 6) rfl
      have MMc0 := MM.cell (j := 0) rfl
      have MMc1 := MM.cell (j := 1) rfl
      have MMc2 := MM.cell (j := 2) rfl
      have MMc3 := MM.cell (j := 3) rfl
      go_wp2_with fail
      refine (HV _ _ h).mono ?_
      clear h
      rintro x w5 ⟨rfl, h, b⟩
      clear Xc0 Xc1 Xc2 Xc3 Xc4 Xc5 Xc6 MMc0 MMc1 MMc2 MMc3
      replace X := X.but b Xo
      replace MM := MM.but b MMo
      replace c := c.trans (b.below c.size hw)
      clear b
      have Xc0 := X.cell (j := 0) rfl
      have Xc1 := X.cell (j := 1) rfl
      have Xc2 := X.cell (j := 2) rfl
      have Xc3 := X.cell (j := 3) rfl
      have Xc4 := X.cell (j := 4) rfl
      have Xc5 := X.cell (j := 5) rfl
      have Xc6 := X.cell (j := 6) rfl
      have MMc0 := MM.cell (j := 0) rfl
      have MMc1 := MM.cell (j := 1) rfl
      have MMc2 := MM.cell (j := 2) rfl
      have MMc3 := MM.cell (j := 3) rfl
      go_wp2
      go_ret
      exact ⟨rfl, c⟩
  · rw [show decide (0 < O2.bads) = true by rw [decide_eq_true_eq]; omega] at HB
    clear h1 h2 HU HV
    have Xc0 := X.cell (j := 0) rfl
    have Xc1 := X.cell (j := 1) rfl
    have Xc2 := X.cell (j := 2) rfl
    have Xc3 := X.cell (j := 3) rfl
    have Xc4 := X.cell (j := 4) rfl
    have Xc5 := X.cell (j := 5) rfl
    have Xc6 := X.cell (j := 6) rfl
    have MMc0 := MM.cell (j := 0) rfl
    have MMc1 := MM.cell (j := 1) rfl
    have MMc2 := MM.cell (j := 2) rfl
    have MMc3 := MM.cell (j := 3) rfl
    go_wp2_with fail
    refine (HB _ _ h).mono ?_
    rintro x w5 ⟨rfl, b⟩
    clear Xc0 Xc1 Xc2 Xc3 Xc4 Xc5 Xc6 MMc0 MMc1 MMc2 MMc3
    replace X := X.below b
    replace MM := MM.below b
    replace h := Orc.below h b
    replace c := c.trans (b.mono c.size)
    clear b
    have Xc0 := X.cell (j := 0) rfl
    have Xc1 := X.cell (j := 1) rfl
    have Xc2 := X.cell (j := 2) rfl
    have Xc3 := X.cell (j := 3) rfl
    have Xc4 := X.cell (j := 4) rfl
    have Xc5 := X.cell (j := 5) rfl
    have Xc6 := X.cell (j := 6) rfl
    have MMc0 := MM.cell (j := 0) rfl
    have MMc1 := MM.cell (j := 1) rfl
    have MMc2 := MM.cell (j := 2) rfl
    have MMc3 := MM.cell (j := 3) rfl
    go_wp2_with fail
    refine (HF _).mono ?_
    rintro x w6 ⟨rfl, b⟩
    clear Xc0 Xc1 Xc2 Xc3 Xc4 Xc5 Xc6 MMc0 MMc1 MMc2 MMc3
    replace X := X.below b
    replace MM := MM.below b
    replace h := Orc.below h b
    replace c := c.trans (b.mono c.size)
    clear b
    have Xc0 := X.cell (j := 0) rfl
    have Xc1 := X.cell (j := 1) rfl
    have Xc2 := X.cell (j := 2) rfl
    have Xc3 := X.cell (j := 3) rfl
    have Xc4 := X.cell (j := 4) rfl
    have Xc5 := X.cell (j := 5) rfl
    have Xc6 := X.cell (j := 6) rfl
    have MMc0 := MM.cell (j := 0) rfl
    have MMc1 := MM.cell (j := 1) rfl
    have MMc2 := MM.cell (j := 2) rfl
    have MMc3 := MM.cell (j := 3) rfl
    go_wp2
    go_ret
    exact ⟨rfl, c⟩
end Go.Proofs.Ytgdpamfphjehaaa.Opens5
