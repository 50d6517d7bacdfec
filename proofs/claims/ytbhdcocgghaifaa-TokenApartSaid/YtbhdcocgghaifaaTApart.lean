/-
  TokenApart: of the tokens that were issued two have one tag just if they are the same: the walk.
-/
import Derived.Test.YtbhdcocgghaifaaTokE
namespace Go.Proofs.Ytbhdcocgghaifaa
open Go.RowKit
open Ideal Ida
open Go.Lib (uvarint uvarint_small)

namespace Cap
set_option maxRecDepth 100000 in
set_option maxHeartbeats 8000000 in
theorem apart_any (l : List Nat) (hl : l.length * 8 ≤ 140737488355328) (hx : ∀ x ∈ l, x < 18446744073709551616) (k : Nat) (hk : k < 18446744073709551616) (ts : List Tok) (ht : ∀ t ∈ ts, fine t) (dv tv : Value) (w : World) (rd : Kit.Sl w dv (nums l)) (rt : Toks w tv ts) :
    Calls Try.prog 7 #[.agg #[dv, .int .u64 (k : Int), tv]] w fun e W' => e = .returned (.bool true) ∧ Below w.heap.size w W' := by
  obtain ⟨da, dc, rfl⟩ := rd.rd.form
  generalize hdl : (nums l).length = dn at *
  obtain ⟨ta, tc, rfl⟩ := rt.form
  generalize htl : ts.length = tn at *
  have c := below_lit w (.cells #[.slice da dn dc, .int .u64 (k : Int), .slice ta tn tc] 33)
  have X := Box.new w #[.slice da dn dc, .int .u64 (k : Int), .slice ta tn tc] 33
  have HK := issued_any l hl hx k hk ts ht (.slice da dn dc) (.slice ta tn tc) _ (rd.below c) (rt.below c)
  have HF := fixed_any
  have HA := Or.apart_tok k l (ts.take 100) (fun t h => ht t (List.mem_of_mem_take h)) hx (by rw [List.length_take]; omega)
  have HB := fun w' M (h : Orc w' M ((Or.new l).issOs k (ts.take 100))) => o_bad h
  have hle : ((Or.new l).issTs k (ts.take 100)).length ≤ 100 := by rw [Or.issTs_len, List.length_take]; omega
  generalize ((Or.new l).issTs k (ts.take 100)) = L at *
  generalize ((Or.new l).issOs k (ts.take 100)) = O at *
  clear hl hx hk ht rd rt hdl htl
  go_enter Try.func7, Try.ntmps7
  have q0 := X.cell (j := 0) rfl
  have q1 := X.cell (j := 1) rfl
  have q2 := X.cell (j := 2) rfl
  go_wp2_with fail
  refine HK.mono ?_
  rintro x w1 ⟨M, v, rfl, h, -, hT, -, b⟩
  replace c := c.trans (b.mono c.size)
  clear X q0 q1 q2 b HK
  obtain ⟨va, vc, rfl⟩ := hT.form
  generalize hn : L.length = n at *
  go_wp2_with fail
  refine (HF _).mono ?_
  rintro x w2 ⟨rfl, b⟩
  replace h := Orc.below h b
  replace hT := hT.below b
  replace c := c.trans (b.mono c.size)
  clear b
  by_cases hz : O.bads = 0
  · rw [show decide (0 < O.bads) = false by rw [hz]; rfl] at HB
    have HA := Lib.hid (HA hz)
    clear hz
    go_wp2_with fail
    refine (HB _ _ h).mono ?_
    rintro x w3 ⟨rfl, b⟩
    replace hT := hT.below b
    replace c := c.trans (b.mono c.size)
    clear b h HB HF
    go_wp2
    go_loopw [5] (fun vi wr => ∃ i : Nat, i ≤ n ∧ vi = .int .i64 (i : Int) ∧ Toks wr (.slice va n vc) L ∧ Below w.heap.size w wr) (fun vi _ => n - (intOf vi).toNat)
    case atStart => exact ⟨0, Nat.zero_le _, rfl, hT, c⟩
    case round =>
      obtain ⟨i, hi, rfl, hT, c⟩ := hrel
      by_cases hlt : i < n
      · have g1 : (i : Int) < (n : Int) := by omega
        obtain ⟨ad, rfl, a0, a1, a2, a3, a4⟩ := tok_at hT (List.getElem?_eq_getElem (l := L) (i := i) (by omega))
        clear a0 a1 a2 a3 a4
        go_wp2
        go_loopw [6] (fun vk wr => ∃ j : Nat, j ≤ i ∧ vk = .int .i64 (j : Int) ∧ Toks wr (.slice (some ad) n vc) L ∧ Below w.heap.size w wr) (fun vk _ => i - (intOf vk).toNat)
        case atStart => exact ⟨0, Nat.zero_le _, rfl, hT, c⟩
        case round =>
          clear hT c
          obtain ⟨j, hj, rfl, hT, c⟩ := hrel
          by_cases hjt : j < i
          · have g2 : (j : Int) < (i : Int) := by omega
            have g3 : (j : Int) < (n : Int) := by omega
            have g4 : j < n := by omega
            obtain ⟨ad1, e1, a0, a1, a2, a3, a4⟩ := tok_at hT (List.getElem?_eq_getElem (l := L) (i := i) (by omega))
            obtain rfl := Option.some.inj e1
            obtain ⟨ad2, e2, b0, b1, b2, b3, b4⟩ := tok_at hT (List.getElem?_eq_getElem (l := L) (i := j) (by omega))
            obtain rfl := Option.some.inj e2
            have HE := HA.out L[i] (List.getElem_mem _) L[j] (List.getElem_mem _)
            have HQ := tok_eq L[i] L[j]
            generalize L[i] = s at *
            generalize L[j] = t at *
            have hT2 := Lib.hid hT
            clear hT e1 e2
            by_cases he : s = t
            · subst he
              rw [decide_eq_true rfl] at HQ
              clear HE
              go_wp2
              go_quiet (fail)
              go_wp2
              go_roundw
              case rel => exact ⟨j + 1, by omega, by go_num, hT2.out.below (below_drewN (Below.refl _ _) _), below_drewN c _⟩
              case measure => simp [intOf]; omega
            · have hg : s.g ≠ t.g := fun h => he (HE h)
              have n1 : ((s.g : Int) == (t.g : Int)) = false := by rw [beq_eq_false_iff_ne]; omega
              have n2 : (s.g == t.g) = false := by rw [beq_eq_false_iff_ne]; omega
              rw [decide_eq_false he] at HQ
              clear HE he hg
              go_wp2
              go_quiet (fail)
              go_wp2
              go_roundw
              case rel => exact ⟨j + 1, by omega, by go_num, hT2.out.below (below_drewN (Below.refl _ _) _), below_drewN c _⟩
              case measure => simp [intOf]; omega
          · obtain rfl : j = i := by omega
            have g2 : decide ((j : Int) < (j : Int)) = false := by rw [decide_eq_false_iff_not]; omega
            clear hjt
            go_wp2
            go_roundw
            case rel => exact ⟨j + 1, by omega, by go_num, hT, c⟩
            case measure => simp [intOf]; omega
      · obtain rfl : i = n := by omega
        have g1 : decide ((i : Int) < (i : Int)) = false := by rw [decide_eq_false_iff_not]; omega
        clear hlt
        go_wp2
        go_ret
        exact ⟨rfl, c⟩
  · rw [show decide (0 < O.bads) = true by rw [decide_eq_true_eq]; omega] at HB
    clear hz HA
    go_wp2_with fail
    refine (HB _ _ h).mono ?_
    rintro x w3 ⟨rfl, b⟩
    replace c := c.trans (b.mono c.size)
    clear b h HB
    go_wp2_with fail
    refine (HF _).mono ?_
    rintro x w4 ⟨rfl, b⟩
    replace c := c.trans (b.mono c.size)
    clear b
    go_wp2
    go_ret
    exact ⟨rfl, c⟩
end Cap
end Go.Proofs.Ytbhdcocgghaifaa
