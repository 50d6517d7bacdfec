/-
  QuotaBack: the law's walk.
-/
import Derived.Test.YtdiocnehejeldaaQuLi
namespace Go.Proofs.Ytdiocnehejeldaa
open Go.RowKit
namespace Quo

theorem set_self {t : List Row} {k : Nat} {r : Row} (h : t[k]? = some r) : t.set k r = t := by
  apply List.ext_getElem?
  intro j
  rw [List.getElem?_set]
  by_cases hj : k = j
  · subst hj
    obtain ⟨h1, h2⟩ := List.getElem?_eq_some_iff.1 h
    simp [h1, h2]
  · simp [hj]
theorem putU_self (r : Row) : putU r.used r = r := rfl
theorem give_back {t : List Row} {d n k : Nat} {r : Row} (h : At t d k r) : give_ (t.set k (putU (r.used + n) r)) d n = (t, 0) := by
  have h' := h.put (r' := putU (r.used + n) r) h.hr
  rw [give_at h', List.set_set]
  congr 1
  have : putU ((putU (r.used + n) r).used - n) (putU (r.used + n) r) = r := by
    obtain ⟨a, b, c⟩ := r
    simp only [putU]
    congr 1
    omega
  rw [this, set_self h.hk]
theorem take_twice {t : List Row} {d n m k : Nat} {r : Row} (h : At t d k r) (ho : ¬ r.lim < r.used + (n + m)) : take_ (t.set k (putU (r.used + n) r)) d m = take_ t d (n + m) := by
  have h' := h.put (r' := putU (r.used + n) r) h.hr
  rw [take_at h' (by unfold putU; simp only; omega), take_at h ho, List.set_set]
  have : putU ((putU (r.used + n) r).used + m) (putU (r.used + n) r) = putU (r.used + (n + m)) r := by
    obtain ⟨a, b, c⟩ := r
    simp only [putU]
    congr 1
    omega
  rw [this]
theorem take_twice_over {t : List Row} {d n m k : Nat} {r : Row} (h : At t d k r) (ho : r.lim < r.used + (n + m)) : take_ (t.set k (putU (r.used + n) r)) d m = ([], 121) ∧ take_ t d (n + m) = ([], 121) := by
  have h' := h.put (r' := putU (r.used + n) r) h.hr
  exact ⟨take_over h' (by unfold putU; simp only; omega), take_over h ho⟩

set_option maxRecDepth 100000 in
set_option maxHeartbeats 16000000 in
theorem back_any (t : List Row) (hl : (t.length + 2) * 24 ≤ 140737488355328) (hw : wide t) (d n m : Nat) (hn : n < 18446744073709551616) (hm : m < 18446744073709551616) (v : Value) (w : World) (hv : Tb w v t) :
    Calls Try.prog 5 #[v, .int .u64 (d : Int), .agg #[.int .u64 (n : Int), .int .u64 (m : Int)]] w fun e w' => e = .returned (.bool true) ∧ Below w.heap.size w w' := by
  have H1 := fun w hv => take_any t (by omega) hw d n hn v w hv
  have HF := fixed_any
  have X0 := Box.new w #[.int .u64 (n : Int), .int .u64 (m : Int)] 36
  have hB := below_lit w (.cells #[.int .u64 (n : Int), .int .u64 (m : Int)] 36)
  replace hv := hv.below hB
  have x0 := X0.cell (j := 0) rfl
  have x1 := X0.cell (j := 1) rfl
  by_cases hbad : (take_ t d n).2 = 0
  · obtain ⟨k, r, ha, ho⟩ : ∃ k r, At t d k r ∧ ¬ r.lim < r.used + n := by
      rcases at_cases t d with h | ⟨k, r, h⟩
      · rw [take_off h] at hbad
        cases hbad
      · refine ⟨k, r, h, fun ho => ?_⟩
        rw [take_over h ho] at hbad
        cases hbad
    rw [take_at ha ho] at H1
    have hrw := hw r (List.mem_of_getElem? ha.hk)
    have halt := ha.lt
    have ha2 := ha.put (r' := putU (r.used + n) r) ha.hr
    have hwa := wide_put hw ha.hk (u := r.used + n) (by have := hrw.2.1; omega)
    have H2 := fun v w hv => give_any (t.set k (putU (r.used + n) r)) (by rw [List.length_set]; omega) hwa d n hn v w hv
    rw [give_back ha] at H2
    have H3 := fun u v w => is_any t t (by omega) u v w
    simp only [decide_true] at H3
    have H4 := fun w (hv : Tb w v t) => find_any t (by omega) d v w hv
    rw [idx_at ha] at H4
    have H5 := fun v w hv => take_any (t.set k (putU (r.used + n) r)) (by rw [List.length_set]; omega) hwa d m hm v w hv
    have H6 := fun (hnm : n + m < 18446744073709551616) w hv => take_any t (by omega) hw d (n + m) hnm v w hv
    have hal : (t.set k (putU (r.used + n) r)).length = t.length := List.length_set
    have HS := Lib.hid (fun i (hi : i ≠ k) => show (t.set k (putU (r.used + n) r))[i]? = t[i]? from List.getElem?_set_ne (Ne.symm hi))
    have HK := Lib.hid (And.intro ha.hk ha2.hk)
    have HT := Lib.hid (And.intro (fun h => take_twice (n := n) (m := m) ha h) (fun h => take_twice_over (n := n) (m := m) ha h))
    have i1 : (t.set k (putU (r.used + n) r)).length ≤ 9223372036854775807 := by omega
    have HLT := Lib.hid halt
    have HLE : Hid (∀ o : List Row × Int, o = take_ (t.set k (putU (r.used + n) r)) d m → o.1.length ≤ 9223372036854775807) := Lib.hid fun o ho => by rw [ho]; have := take_len (t.set k (putU (r.used + n) r)) d m; omega
    have g1 : ¬ ((r.used + n : Nat) : Int) > (r.lim : Int) := by omega
    have HG := Lib.hid (show IntKind.u64.wrap (((r.used + n : Nat) : Int) - (r.used : Int)) = (n : Int) by rw [IntKind.wrap_u64]; omega)
    have HU := Lib.hid (show r.lim < 18446744073709551616 from hrw.2.1)
    clear hbad hwa ha ha2 hrw hw i1 halt
    generalize hA : t.set k (putU (r.used + n) r) = A at *
    clear hA
    go_enter Try.func5, Try.ntmps5
    go_wp2
    go_quiet (fail)
    replace hB := below_drewN hB nq
    replace hv : Tb ((w.alloc (.cells #[.int .u64 (n : Int), .int .u64 (m : Int)] 36)).drewN nq) v t := hv
    generalize (w.alloc (.cells #[.int .u64 (n : Int), .int .u64 (m : Int)] 36)).drewN nq = w0 at *
    clear x0 x1 X0
    go_wp2_with fail
    refine (H1 _ hv).mono ?_
    rintro e w1 ⟨⟨v1, rfl, q1⟩, b⟩
    replace q1 := Tb.of_own q1
    replace hv := hv.below b
    replace hB := hB.trans (b.mono hB.size)
    clear b H1
    go_wp2_with fail
    refine (HF _).mono ?_
    rintro e w2 ⟨rfl, b⟩
    replace hv := hv.below b
    replace q1 := q1.below b
    replace hB := hB.trans (b.mono hB.size)
    clear b HF
    go_wp2_with fail
    refine (H2 _ _ q1).mono ?_
    rintro e w3 ⟨⟨v2, rfl, q2⟩, b⟩
    replace q2 := Tb.of_own q2
    replace hv := hv.below b
    replace q1 := q1.below b
    replace hB := hB.trans (b.mono hB.size)
    clear b H2
    obtain ⟨a1, p1, rfl⟩ := q1.form
    obtain ⟨at_, pt, rfl⟩ := hv.form
    have e0 : ((A.length : Int) != (t.length : Int)) = false := by rw [hal]; simp
    have HAL := Lib.hid hal
    clear hal
    go_wp2_with fail
    refine (H3 _ _ _ q2 hv).mono ?_
    rintro e w4 ⟨rfl, b⟩
    replace hv := hv.below b
    replace q1 := q1.below b
    replace hB := hB.trans (b.mono hB.size)
    clear b
    clear q2
    have HB0 := Lib.hid hB
    have HQ := Lib.hid (And.intro q1 hv)
    have HE0 := Lib.hid e0
    go_wp2
    go_loopw [13] (fun vi wr => ∃ i : Nat, i ≤ t.length ∧ vi = .int .i64 (i : Int) ∧ Below w4.heap.size w4 wr) (fun vi _ => t.length - (intOf vi).toNat)
    case atStart => exact ⟨0, Nat.zero_le _, rfl, Below.refl _ _⟩
    case round =>
      obtain ⟨i, hi, rfl, hb⟩ := hrel
      clear q1 hv hB
      have q1 := HQ.out.1.below hb
      have hv := HQ.out.2.below hb
      by_cases hlt : i < t.length
      · have j0 : (i : Int) < (t.length : Int) := by omega
        have j1 : (i : Int) < (A.length : Int) := by rw [HAL.out]; omega
        by_cases hik : i = k
        · subst hik
          have j2 : ((i : Int) == (i : Int)) = true := by simp
          go_wp2_with fail
          refine (H4 _ hv).mono ?_
          rintro e wf ⟨rfl, b⟩
          have q1f := q1.below b
          have hvf := hv.below b
          have hbf := hb.trans (b.mono hb.size)
          obtain ⟨da, rfl, s0, s1, s2⟩ := q1f.at_ HK.out.2
          obtain ⟨dt, rfl, y0, y1, y2⟩ := hvf.at_ HK.out.1
          have s1' : wf.cell? _ = some (Value.int .u64 ((r.used + n : Nat) : Int)) := s1
          have s2' : wf.cell? _ = some (Value.int .u64 (r.lim : Int)) := s2
          have hG := HG.out
          have g2 : ((n : Int) != (n : Int)) = false := by simp
          clear b q1f hvf q1 hv s0 s1 s2 y0 y2
          generalize r.used + n = un at *
          generalize r.used = ru at *
          generalize r.lim = rl at *
          go_wp2
          go_quiet (fail)
          go_wp2
          go_roundw
          case rel => exact ⟨i + 1, hlt, by go_num, below_drewN hbf _⟩
          case measure =>
            have l5 : (intOf (.int .i64 ((i : Int) + 1))).toNat = i + 1 := rfl
            have l6 : (intOf (.int .i64 (i : Int))).toNat = i := rfl
            rw [l5, l6]
            exact Nat.sub_lt_sub_left hlt (Nat.lt_succ_self i)
        · have j2 : ((i : Int) == (k : Int)) = false := by rw [beq_eq_false_iff_ne]; omega
          obtain ⟨y, hy⟩ : ∃ y, t[i]? = some y := ⟨_, List.getElem?_eq_getElem hlt⟩
          have hy2 : A[i]? = some y := by rw [HS.out i hik, hy]
          go_wp2_with fail
          refine (H4 _ hv).mono ?_
          rintro e wf ⟨rfl, b⟩
          have q1f := q1.below b
          have hvf := hv.below b
          have hbf := hb.trans (b.mono hb.size)
          obtain ⟨da, rfl, s0, s1, s2⟩ := q1f.at_ hy2
          obtain ⟨dt, rfl, y0, y1, y2⟩ := hvf.at_ hy
          have HN := fun w => row_neq y y w
          rw [decide_eq_true rfl] at HN
          clear b q1f hvf q1 hv hik hy hy2
          go_wp2
          go_quiet (fail)
          go_wp2
          go_roundw
          case rel => exact ⟨i + 1, hlt, by go_num, below_drewN hbf _⟩
          case measure =>
            have l5 : (intOf (.int .i64 ((i : Int) + 1))).toNat = i + 1 := rfl
            have l6 : (intOf (.int .i64 (i : Int))).toNat = i := rfl
            rw [l5, l6]
            exact Nat.sub_lt_sub_left hlt (Nat.lt_succ_self i)
      · obtain rfl : i = t.length := by omega
        have hd1 : ¬ (t.length : Int) < (t.length : Int) := by omega
        have hB := HB0.out.trans (hb.mono HB0.out.size)
        clear hlt hb H4
        have HU2 := HU.out
        clear HU g1 e0
        by_cases hov : r.lim < r.used + (n + m)
        · obtain ⟨e5, e6⟩ := HT.out.2 hov
          rw [e5] at H5
          go_wp2_with fail
          refine (H5 _ _ q1).mono ?_
          rintro e w5 ⟨⟨v5, rfl, q5⟩, b⟩
          replace q5 := Tb.of_own q5
          replace hv := hv.below b
          replace hB := hB.trans (b.mono hB.size)
          clear b q1 H5
          by_cases hnm : n + m < 18446744073709551616
          · have g3 : IntKind.u64.wrap ((n : Int) + (m : Int)) = ((n + m : Nat) : Int) := by rw [IntKind.wrap_u64]; omega
            have H7 := H6 hnm
            rw [e6] at H7
            have H8 := fun u v w => is_any [] [] (by decide) u v w
            simp only [decide_true] at H8
            have g4 : ¬ ((n + m : Nat) : Int) < (n : Int) := by omega
            clear H6 e5 e6 hov hnm HU2
            generalize n + m = s at *
            go_wp2_with fail
            refine (H7 _ hv).mono ?_
            rintro e w6 ⟨⟨v6, rfl, q6⟩, b⟩
            replace q6 := Tb.of_own q6
            replace q5 := q5.below b
            replace hB := hB.trans (b.mono hB.size)
            clear b H7 hv
            go_wp2_with fail
            refine (H8 _ _ _ q5 q6).mono ?_
            rintro e w7 ⟨rfl, b⟩
            replace hB := hB.trans (b.mono hB.size)
            clear b H8 q5 q6
            go_wp2
            go_ret
            exact ⟨rfl, hB⟩
          · obtain ⟨s, hs⟩ : ∃ s : Nat, s = n + m - 18446744073709551616 := ⟨_, rfl⟩
            have g3 : IntKind.u64.wrap ((n : Int) + (m : Int)) = (s : Int) := by rw [IntKind.wrap_u64]; omega
            have g4 : (s : Int) < (n : Int) := by omega
            clear H6 e5 e6 hov hnm HU2 hs q5 hv
            go_wp2
            go_ret
            exact ⟨rfl, hB⟩
        · have e5 := HT.out.1 hov
          have hnm : n + m < 18446744073709551616 := by omega
          have g3 : IntKind.u64.wrap ((n : Int) + (m : Int)) = ((n + m : Nat) : Int) := by rw [IntKind.wrap_u64]; omega
          have g4 : ¬ ((n + m : Nat) : Int) < (n : Int) := by omega
          have H7 := H6 hnm
          have hle := HLE.out _ rfl
          rw [e5] at H5 hle
          have HE5 := Lib.hid e5
          clear H6 e5 hov hnm HU2
          generalize hso : take_ t d (n + m) = o at *
          clear hso
          obtain ⟨o1, o2⟩ := o
          simp only at H5 H7 hle
          have H8 := fun u v w => is_any o1 o1 hle u v w
          simp only [decide_true] at H8
          have g5 : (o2 == o2) = true := beq_self_eq_true o2
          clear hle
          go_wp2_with fail
          refine (H5 _ _ q1).mono ?_
          rintro e w5 ⟨⟨v5, rfl, q5⟩, b⟩
          replace q5 := Tb.of_own q5
          replace hv := hv.below b
          replace hB := hB.trans (b.mono hB.size)
          clear b q1 H5
          generalize n + m = s at *
          go_wp2_with fail
          refine (H7 _ hv).mono ?_
          rintro e w6 ⟨⟨v6, rfl, q6⟩, b⟩
          replace q6 := Tb.of_own q6
          replace q5 := q5.below b
          replace hB := hB.trans (b.mono hB.size)
          clear b H7 hv
          go_wp2_with fail
          refine (H8 _ _ _ q5 q6).mono ?_
          rintro e w7 ⟨rfl, b⟩
          replace hB := hB.trans (b.mono hB.size)
          clear b H8 q5 q6
          go_wp2
          go_ret
          exact ⟨rfl, hB⟩
  · have g1 : ((take_ t d n).2 != 0) = true := by rw [bne_iff_ne]; exact hbad
    clear hbad
    generalize take_ t d n = o at *
    obtain ⟨o1, o2⟩ := o
    simp only at H1 g1
    go_enter Try.func5, Try.ntmps5
    go_wp2
    go_quiet (fail)
    replace hB := below_drewN hB nq
    replace hv : Tb ((w.alloc (.cells #[.int .u64 (n : Int), .int .u64 (m : Int)] 36)).drewN nq) v t := hv
    generalize (w.alloc (.cells #[.int .u64 (n : Int), .int .u64 (m : Int)] 36)).drewN nq = w0 at *
    clear x0 x1 X0
    go_wp2_with fail
    refine (H1 _ hv).mono ?_
    rintro e w1 ⟨⟨v1, rfl, q1⟩, b⟩
    replace q1 := Tb.of_own q1
    replace hB := hB.trans (b.mono hB.size)
    clear b H1
    clear q1
    go_wp2_with fail
    refine (HF _).mono ?_
    rintro e w2 ⟨rfl, b⟩
    replace hB := hB.trans (b.mono hB.size)
    clear b
    go_wp2_with fail
    refine (HF _).mono ?_
    rintro e w3 ⟨rfl, b⟩
    replace hB := hB.trans (b.mono hB.size)
    clear b HF
    go_wp2
    go_ret
    exact ⟨rfl, hB⟩
end Quo
end Go.Proofs.Ytdiocnehejeldaa
