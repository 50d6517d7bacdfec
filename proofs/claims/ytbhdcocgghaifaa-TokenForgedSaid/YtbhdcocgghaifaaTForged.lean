/-
  TokenForged: a token that was not issued is not taken; one that was is, by its tag: the walk.
-/
import Derived.Test.YtbhdcocgghaifaaTokE
namespace Go.Proofs.Ytbhdcocgghaifaa
open Go.RowKit
open Ideal Ida
open Go.Lib (uvarint uvarint_small)

namespace Cap
set_option maxRecDepth 100000 in
set_option maxHeartbeats 8000000 in
theorem forged_any (l : List Nat) (hl : l.length * 8 ≤ 140737488355328) (hx : ∀ x ∈ l, x < 18446744073709551616) (k : Nat) (hk : k < 18446744073709551616) (ts : List Tok) (ht : ∀ t ∈ ts, fine t) (t : Tok) (hT : fine t) (v e z : Nat) (hz : z < 18446744073709551616) (dv tv : Value) (w : World) (rd : Kit.Sl w dv (nums l)) (rt : Toks w tv ts) :
    Calls Try.prog 5 #[.agg #[dv, .int .u64 (k : Int), tv], .agg #[.int .u64 (t.n : Int), .int .u64 (t.v : Int), .int .u64 (t.e : Int), .int .u64 (t.r : Int), .int .u64 (t.g : Int), .int .u64 (v : Int), .int .u64 (e : Int), .int .u64 (z : Int)]] w fun x W' => x = .returned (.bool true) ∧ Below w.heap.size w W' := by
  obtain ⟨da, dc, rfl⟩ := rd.rd.form
  generalize hdl : (nums l).length = dn at *
  obtain ⟨ta, tc, rfl⟩ := rt.form
  generalize htl : ts.length = tn at *
  have c0 := below_lit w (.cells #[.slice da dn dc, .int .u64 (k : Int), .slice ta tn tc] 33)
  have c := c0.trans ((below_lit (w.alloc (.cells #[.slice da dn dc, .int .u64 (k : Int), .slice ta tn tc] 33)) (.cells #[.int .u64 (t.n : Int), .int .u64 (t.v : Int), .int .u64 (t.e : Int), .int .u64 (t.r : Int), .int .u64 (t.g : Int), .int .u64 (v : Int), .int .u64 (e : Int), .int .u64 (z : Int)] 35)).mono c0.size)
  have X := (Box.new w #[.slice da dn dc, .int .u64 (k : Int), .slice ta tn tc] 33).alloc (.cells #[.int .u64 (t.n : Int), .int .u64 (t.v : Int), .int .u64 (t.e : Int), .int .u64 (t.r : Int), .int .u64 (t.g : Int), .int .u64 (v : Int), .int .u64 (e : Int), .int .u64 (z : Int)] 35)
  have Y := Box.new (w.alloc (.cells #[.slice da dn dc, .int .u64 (k : Int), .slice ta tn tc] 33)) #[.int .u64 (t.n : Int), .int .u64 (t.v : Int), .int .u64 (t.e : Int), .int .u64 (t.r : Int), .int .u64 (t.g : Int), .int .u64 (v : Int), .int .u64 (e : Int), .int .u64 (z : Int)] 35
  rw [World.size_alloc] at Y
  have HK := issued_any l hl hx k hk ts ht (.slice da dn dc) (.slice ta tn tc) _ (rd.below c) (rt.below c)
  have HF := fixed_any
  have HA := Or.forged_all k l (ts.take 100) (fun t h => ht t (List.mem_of_mem_take h)) t hT
  have HC := fun w' M (h : Orc w' M ((Or.new l).issOs k (ts.take 100))) => check_any h k hk t hT v e z hz
  have ht70 := Or.chk_tag (O := ((Or.new l).issOs k (ts.take 100))) (k := k) (t := t) (v := v) (e := e) (want := z)
  have HB := fun w' M (h : Orc w' M (((Or.new l).issOs k (ts.take 100)).chkO k t)) => o_bad h
  have hle : ((Or.new l).issTs k (ts.take 100)).length ≤ 100 := by rw [Or.issTs_len, List.length_take]; omega
  have hmem : ((Or.new l).issOs k (ts.take 100)).chk k t v e z = 70 ↔ t ∉ ((Or.new l).issTs k (ts.take 100)) := by
    rw [ht70, ← HA]
    simp
  generalize ((Or.new l).issTs k (ts.take 100)) = L at *
  generalize ((Or.new l).issOs k (ts.take 100)).chkO k t = O2 at *
  generalize ((Or.new l).issOs k (ts.take 100)).chk k t v e z = r at *
  generalize ((Or.new l).issOs k (ts.take 100)) = O at *
  clear hl hx hk ht rd rt hdl htl hz c0 HA ht70 hT
  go_enter Try.func5, Try.ntmps5
  have q0 := X.cell (j := 0) rfl
  have q1 := X.cell (j := 1) rfl
  have q2 := X.cell (j := 2) rfl
  go_wp2_with fail
  refine HK.mono ?_
  rintro x w1 ⟨M, v, rfl, h, hin, hT, hvo, b⟩
  have Xo : ¬ M.own w.heap.size := fun ho => by have := (hin.own _ ho).1; simp at this; omega
  have Yo : ¬ M.own (w.heap.size + 1) := fun ho => by have := (hin.own _ ho).1; simp at this; omega
  have hw : ∀ i, M.own i → w.heap.size ≤ i := fun i hi => by have := (hin.own i hi).1; simp at this; omega
  have hvn : ∀ g, v.ownBlock = some g → ¬ M.own g := fun g hg => (hvo g hg).1
  replace X := X.below b
  replace Y := Y.below b
  replace c := c.trans (b.mono c.size)
  clear q0 q1 q2 b HK hin hvo
  obtain ⟨va, vc, rfl⟩ := hT.form
  generalize hn : L.length = n at *
  have q1 := X.cell (j := 1) rfl
  have y0 := Y.cell (j := 0) rfl
  have y1 := Y.cell (j := 1) rfl
  have y2 := Y.cell (j := 2) rfl
  have y3 := Y.cell (j := 3) rfl
  have y4 := Y.cell (j := 4) rfl
  have y5 := Y.cell (j := 5) rfl
  have y6 := Y.cell (j := 6) rfl
  have y7 := Y.cell (j := 7) rfl
  go_wp2_with fail
  refine (HC _ _ h).mono ?_
  clear h
  rintro x w2 ⟨rfl, h, b⟩
  replace Y := Y.but b Yo
  replace hT := hT.but b hvn
  replace c := c.trans (b.below c.size hw)
  clear b HC X q1 y0 y1 y2 y3 y4 y5 y6 y7
  go_wp2_with fail
  refine (HF _).mono ?_
  rintro x w3 ⟨rfl, b⟩
  replace h := Orc.below h b
  replace Y := Y.below b
  replace hT := hT.below b
  replace c := c.trans (b.mono c.size)
  clear b
  by_cases hz : O2.bads = 0
  · rw [show decide (0 < O2.bads) = false by rw [hz]; rfl] at HB
    clear hz
    go_wp2_with fail
    refine (HB _ _ h).mono ?_
    rintro x w4 ⟨rfl, b⟩
    replace Y := Y.below b
    replace hT := hT.below b
    replace c := c.trans (b.mono c.size)
    clear b h HB HF hw hvn Yo Xo
    go_wp2
    go_loopw [8] (fun vi wr => ∃ i : Nat, i ≤ n ∧ vi = .int .i64 (i : Int) ∧ t ∉ L.take i ∧ Box (w.heap.size + 1) wr #[.int .u64 (t.n : Int), .int .u64 (t.v : Int), .int .u64 (t.e : Int), .int .u64 (t.r : Int), .int .u64 (t.g : Int), .int .u64 (v : Int), .int .u64 (e : Int), .int .u64 (z : Int)] 35 ∧ Toks wr (.slice va n vc) L ∧ Below w.heap.size w wr) (fun vi _ => n - (intOf vi).toNat)
    case atStart => exact ⟨0, Nat.zero_le _, rfl, by simp, Y, hT, c⟩
    case round =>
      clear Y hT c
      obtain ⟨i, hi, rfl, hno, Y, hT, c⟩ := hrel
      by_cases hlt : i < n
      · have g1 : (i : Int) < (n : Int) := by omega
        have hil : i < L.length := by omega
        obtain ⟨ad, rfl, a0, a1, a2, a3, a4⟩ := tok_at hT (List.getElem?_eq_getElem (l := L) (i := i) hil)
        have HQ := tok_eq L[i] t
        have hsn : L.take (i + 1) = L.take i ++ [L[i]] := List.take_succ_eq_append_getElem hil
        have hmi : L[i] ∈ L := List.getElem_mem hil
        generalize L[i] = s at *
        have hT2 := Lib.hid hT
        have Y2 := Lib.hid Y
        have y0 := Y.cell (j := 0) rfl
        have y1 := Y.cell (j := 1) rfl
        have y2 := Y.cell (j := 2) rfl
        have y3 := Y.cell (j := 3) rfl
        have y4 := Y.cell (j := 4) rfl
        clear hT Y
        by_cases he : s = t
        · subst he
          have hr : r ≠ 70 := fun h => (hmem.1 h) hmi
          have n1 : ((r : Int) != 70) = true := by simp; omega
          have n2 : (r != 70) = true := by simp; omega
          rw [decide_eq_true rfl] at HQ
          clear hr hmem hmi hno hsn
          go_wp2
          go_quiet (fail)
          go_wp2
          go_ret
          exact ⟨rfl, below_drewN c _⟩
        · have hno2 : t ∉ L.take (i + 1) := by
            rw [hsn]
            simp only [List.mem_append, List.mem_singleton, not_or]
            exact ⟨hno, fun h => he h.symm⟩
          have HN := Lib.hid hno2
          rw [decide_eq_false he] at HQ
          clear hno hno2 hsn hmi he
          go_wp2
          go_quiet (fail)
          go_wp2
          go_roundw
          case rel => exact ⟨i + 1, by omega, by go_num, HN.out, Y2.out.below (below_drewN (Below.refl _ _) _), hT2.out.below (below_drewN (Below.refl _ _) _), below_drewN c _⟩
          case measure => simp [intOf]; omega
      · obtain rfl : i = n := by omega
        have g1 : decide ((i : Int) < (i : Int)) = false := by rw [decide_eq_false_iff_not]; omega
        rw [List.take_of_length_le (by omega)] at hno
        obtain rfl := hmem.2 hno
        clear hlt hmem hno
        go_wp2
        go_ret
        exact ⟨rfl, c⟩
  · rw [show decide (0 < O2.bads) = true by rw [decide_eq_true_eq]; omega] at HB
    clear hz hmem
    go_wp2_with fail
    refine (HB _ _ h).mono ?_
    rintro x w4 ⟨rfl, b⟩
    replace c := c.trans (b.mono c.size)
    clear b h HB
    go_wp2_with fail
    refine (HF _).mono ?_
    rintro x w5 ⟨rfl, b⟩
    replace c := c.trans (b.mono c.size)
    clear b
    go_wp2
    go_ret
    exact ⟨rfl, c⟩
end Cap
end Go.Proofs.Ytbhdcocgghaifaa
