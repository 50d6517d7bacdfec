/-
  QuotaLimits: the law's walk.
-/
import Derived.Test.YtdiocnehejeldaaQuCh
namespace Go.Proofs.Ytdiocnehejeldaa
open Go.RowKit
namespace Quo

/-- What a limit leaves. -/
theorem set_some {t : List Row} {d n : Nat} (hw : wide t) (hd : d < 18446744073709551616) (hn : n < 18446744073709551616) (hf : ¬ (Off t d ∧ 16 ≤ t.length)) :
    ∃ (a : List Row) (k : Nat) (r : Row), set_ t d n = some a ∧ At a d k r ∧ r.lim = n ∧ wide a ∧ a.length ≤ t.length + 1 ∧ (Off t d ∨ ∃ r0, At t d k r0 ∧ r0.used = r.used) := by
  rcases at_cases t d with h | ⟨k, r, h⟩
  · have hl : t.length < 16 := by
      rcases Nat.lt_or_ge t.length 16 with h1 | h1
      · exact h1
      · exact absurd ⟨h, h1⟩ hf
    refine ⟨_, t.length, ⟨d, n, 0⟩, set_off h hl, ⟨by simp, rfl, fun j hj x hx => ?_⟩, rfl, fun x hx => ?_, by simp, .inl h⟩
    · rw [List.getElem?_append_left hj] at hx
      exact h j x hx
    · rcases List.mem_append.1 hx with hx | hx
      · exact hw x hx
      · rw [List.mem_singleton.1 hx]
        exact ⟨hd, hn, Nat.zero_lt_succ _⟩
  · refine ⟨_, k, putL n r, set_at h, h.put (by unfold putL; exact h.hr), rfl, fun x hx => ?_, by rw [List.length_set]; omega, .inr ⟨r, h, rfl⟩⟩
    rcases List.mem_or_eq_of_mem_set hx with hx | rfl
    · exact hw x hx
    · have := hw r (List.mem_of_getElem? h.hk)
      exact ⟨this.1, hn, this.2.2⟩
theorem wide_put {t : List Row} {k u : Nat} {r : Row} (hw : wide t) (hk : t[k]? = some r) (hu : u < 18446744073709551616) : wide (t.set k (putU u r)) := fun x hx => by
  rcases List.mem_or_eq_of_mem_set hx with hx | rfl
  · exact hw x hx
  · have := hw r (List.mem_of_getElem? hk)
    exact ⟨this.1, this.2.1, hu⟩

set_option maxRecDepth 100000 in
set_option maxHeartbeats 8000000 in
theorem limits_any (t : List Row) (hl : (t.length + 2) * 24 ≤ 140737488355328) (hw : wide t) (d n : Nat) (hd : d < 18446744073709551616) (hn : n < 18446744073709551616) (v : Value) (w : World) (hv : Tb w v t) :
    Calls Try.prog 7 #[v, .int .u64 (d : Int), .int .u64 (n : Int)] w fun e w' => e = .returned (.bool true) ∧ Below w.heap.size w w' := by
  have H1 := fun w hv => set_any t (by omega) d n v w hv
  have H9 := fun w (hv : Tb w v t) => find_any t (by omega) d v w hv
  have HF := fixed_any
  have hB := Below.refl w.heap.size w
  by_cases hf : Off t d ∧ 16 ≤ t.length
  · rw [set_full hf.1 hf.2] at H1
    simp only [Option.getD_none, Option.isSome_none] at H1
    clear hf hl hw H9
    go_enter Try.func7, Try.ntmps7
    go_wp2_with fail
    refine (H1 _ hv).mono ?_
    rintro e w1 ⟨⟨v1, rfl, q1⟩, b⟩
    replace q1 := Tb.of_own q1
    replace hv := hv.below b
    replace hB := hB.trans (b.mono hB.size)
    clear b H1
    clear q1
    go_wp2_with fail
    refine (HF _).mono ?_
    rintro e w2 ⟨rfl, b⟩
    replace hv := hv.below b
    replace hB := hB.trans (b.mono hB.size)
    clear b
    go_wp2_with fail
    refine (HF _).mono ?_
    rintro e w3 ⟨rfl, b⟩
    replace hv := hv.below b
    replace hB := hB.trans (b.mono hB.size)
    clear b HF
    go_wp2
    go_ret
    exact ⟨rfl, hB⟩
  · obtain ⟨a, k, r, hset, ha, hrl, hwa, hal, hto⟩ := set_some (n := n) hw hd hn hf
    rw [hset] at H1
    simp only [Option.getD_some, Option.isSome_some] at H1
    have H2 := fun v w (hv : Tb w v a) => find_any a (by omega) d v w hv
    rw [idx_at ha] at H2
    have H3 := fun v w (hv : Tb w v a) => take_any a (by omega) hwa d 1 (by decide) v w hv
    have hrw := hwa r (List.mem_of_getElem? ha.hk)
    have halt := ha.lt
    have g0 : (k : Int) < (a.length : Int) := by omega
    have g3 : ¬ (k : Int) < 0 := by omega
    have g4 : (k : Int) ≥ 0 := by omega
    have hlim : ((r.lim : Int) != (n : Int)) = false := by rw [hrl]; simp
    have HT := Lib.hid hto
    have HK := Lib.hid ha.hk
    by_cases hge : n ≤ r.used
    · rw [take_over ha (by omega)] at H3
      have g5 : (r.used : Int) ≥ (n : Int) := by omega
      clear hset hrl hwa hal hto hf hl hw hge hrw halt ha
      go_enter Try.func7, Try.ntmps7
      go_wp2_with fail
      refine (H1 _ hv).mono ?_
      rintro e w1 ⟨⟨v1, rfl, q1⟩, b⟩
      replace q1 := Tb.of_own q1
      replace hv := hv.below b
      replace hB := hB.trans (b.mono hB.size)
      clear b H1
      obtain ⟨n1, p1, rfl⟩ := q1.form
      go_wp2_with fail
      refine (HF _).mono ?_
      rintro e w2 ⟨rfl, b⟩
      replace hv := hv.below b
      replace q1 := q1.below b
      replace hB := hB.trans (b.mono hB.size)
      clear b HF
      go_wp2_with fail
      refine (H2 _ _ q1).mono ?_
      rintro e w3 ⟨rfl, b⟩
      replace hv := hv.below b
      replace q1 := q1.below b
      replace hB := hB.trans (b.mono hB.size)
      clear b H2
      obtain ⟨da, rfl, x0, x1, x2⟩ := q1.at_ HK.out
      generalize r.lim = rl at *
      generalize r.used = ru at *
      rcases HT.out with ho | ⟨r0, h0, hu0⟩
      · rw [idx_off ho] at H9
        clear ho
        go_wp2_with fail
        refine (H9 _ hv).mono ?_
        rintro e w4 ⟨rfl, b⟩
        replace hv := hv.below b
        replace q1 := q1.below b
        replace hB := hB.trans (b.mono hB.size)
        clear b H9 x0 x2
        clear x1
        go_wp2_with fail
        refine (H3 _ _ q1).mono ?_
        rintro e w5 ⟨⟨v3, rfl, q3⟩, b⟩
        replace q3 := Tb.of_own q3
        replace q1 := q1.below b
        replace hB := hB.trans (b.mono hB.size)
        clear b H3
        clear q3
        go_wp2
        go_ret
        exact ⟨rfl, hB⟩
      · rw [idx_at h0] at H9
        have g7 : (k : Int) < (t.length : Int) := by have := h0.lt; omega
        have HK0 := Lib.hid h0.hk
        have HU0 := Lib.hid hu0
        clear h0 hu0
        obtain ⟨nt, pt, rfl⟩ := hv.form
        go_wp2_with fail
        refine (H9 _ hv).mono ?_
        rintro e w4 ⟨rfl, b⟩
        replace hv := hv.below b
        replace q1 := q1.below b
        replace hB := hB.trans (b.mono hB.size)
        clear b H9 x0 x2
        obtain ⟨dt, rfl, y0, y1, y2⟩ := hv.at_ HK0.out
        have g8 : ((r0.used : Int) != (ru : Int)) = false := by rw [HU0.out]; simp
        clear x1 y0 y2
        go_wp2_with fail
        refine (H3 _ _ q1).mono ?_
        rintro e w5 ⟨⟨v3, rfl, q3⟩, b⟩
        replace q3 := Tb.of_own q3
        replace q1 := q1.below b
        replace hB := hB.trans (b.mono hB.size)
        clear b H3 y1
        clear q3
        go_wp2
        go_ret
        exact ⟨rfl, hB⟩
    · rw [take_at ha (by omega)] at H3
      have g5 : ¬ (r.used : Int) ≥ (n : Int) := by omega
      have g6 : IntKind.u64.wrap ((n : Int) - (r.used : Int)) = ((n - r.used : Nat) : Int) := by rw [IntKind.wrap_u64]; omega
      have H4 := fun v w (hv : Tb w v a) => take_any a (by omega) hwa d (n - r.used) (by omega) v w hv
      rw [take_at ha (by omega), show r.used + (n - r.used) = n by omega] at H4
      have hb := ha.put (r' := putU n r) ha.hr
      have hwb := wide_put hwa ha.hk hn
      have H5 := fun v w (hv : Tb w v (a.set k (putU n r))) => take_any (a.set k (putU n r)) (by rw [List.length_set]; omega) hwb d 1 (by decide) v w hv
      rw [take_over hb (by unfold putU; simp only; omega)] at H5
      have HKB := Lib.hid hb.hk
      have g9 : (k : Int) < ((a.set k (putU n r)).length : Int) := by rw [List.length_set]; omega
      generalize a.set k (putU n r) = bT at *
      generalize a.set k (putU (r.used + 1) r) = cT at *
      clear hset hrl hwa hal hto hf hl hw hge hrw halt ha hb hwb
      go_enter Try.func7, Try.ntmps7
      go_wp2_with fail
      refine (H1 _ hv).mono ?_
      rintro e w1 ⟨⟨v1, rfl, q1⟩, b⟩
      replace q1 := Tb.of_own q1
      replace hv := hv.below b
      replace hB := hB.trans (b.mono hB.size)
      clear b H1
      obtain ⟨n1, p1, rfl⟩ := q1.form
      go_wp2_with fail
      refine (HF _).mono ?_
      rintro e w2 ⟨rfl, b⟩
      replace hv := hv.below b
      replace q1 := q1.below b
      replace hB := hB.trans (b.mono hB.size)
      clear b HF
      go_wp2_with fail
      refine (H2 _ _ q1).mono ?_
      rintro e w3 ⟨rfl, b⟩
      replace hv := hv.below b
      replace q1 := q1.below b
      replace hB := hB.trans (b.mono hB.size)
      clear b H2
      obtain ⟨da, rfl, x0, x1, x2⟩ := q1.at_ HK.out
      generalize r.lim = rl at *
      generalize r.used = ru at *
      rcases HT.out with ho | ⟨r0, h0, hu0⟩
      · rw [idx_off ho] at H9
        clear ho
        go_wp2_with fail
        refine (H9 _ hv).mono ?_
        rintro e w4 ⟨rfl, b⟩
        replace hv := hv.below b
        replace q1 := q1.below b
        replace hB := hB.trans (b.mono hB.size)
        clear b H9 x0 x2
        clear x1
        go_wp2_with fail
        refine (H3 _ _ q1).mono ?_
        rintro e w5 ⟨⟨v3, rfl, q3⟩, b⟩
        replace q3 := Tb.of_own q3
        replace q1 := q1.below b
        replace hB := hB.trans (b.mono hB.size)
        clear b H3
        clear q3
        go_wp2_with fail
        refine (H4 _ _ q1).mono ?_
        rintro e w6 ⟨⟨v4, rfl, q4⟩, b⟩
        replace q4 := Tb.of_own q4
        replace q1 := q1.below b
        replace hB := hB.trans (b.mono hB.size)
        clear b H4
        clear q1
        obtain ⟨n4, p4, rfl⟩ := q4.form
        go_wp2_with fail
        refine (H5 _ _ q4).mono ?_
        rintro e w7 ⟨⟨v5, rfl, q5⟩, b⟩
        replace q5 := Tb.of_own q5
        replace q4 := q4.below b
        replace hB := hB.trans (b.mono hB.size)
        clear b H5
        obtain ⟨db, rfl, z0, z1, z2⟩ := q4.at_ HKB.out
        have z1' : _ = some (Value.int .u64 (n : Int)) := z1
        clear z0 z1 z2 q4 q5
        go_wp2
        go_ret
        exact ⟨rfl, hB⟩
      · rw [idx_at h0] at H9
        have g7 : (k : Int) < (t.length : Int) := by have := h0.lt; omega
        have HK0 := Lib.hid h0.hk
        have HU0 := Lib.hid hu0
        clear h0 hu0
        obtain ⟨nt, pt, rfl⟩ := hv.form
        go_wp2_with fail
        refine (H9 _ hv).mono ?_
        rintro e w4 ⟨rfl, b⟩
        replace hv := hv.below b
        replace q1 := q1.below b
        replace hB := hB.trans (b.mono hB.size)
        clear b H9 x0 x2
        obtain ⟨dt, rfl, y0, y1, y2⟩ := hv.at_ HK0.out
        have g8 : ((r0.used : Int) != (ru : Int)) = false := by rw [HU0.out]; simp
        clear x1 y0 y2
        go_wp2_with fail
        refine (H3 _ _ q1).mono ?_
        rintro e w5 ⟨⟨v3, rfl, q3⟩, b⟩
        replace q3 := Tb.of_own q3
        replace q1 := q1.below b
        replace hB := hB.trans (b.mono hB.size)
        clear b H3 y1
        clear q3
        go_wp2_with fail
        refine (H4 _ _ q1).mono ?_
        rintro e w6 ⟨⟨v4, rfl, q4⟩, b⟩
        replace q4 := Tb.of_own q4
        replace q1 := q1.below b
        replace hB := hB.trans (b.mono hB.size)
        clear b H4
        clear q1
        obtain ⟨n4, p4, rfl⟩ := q4.form
        go_wp2_with fail
        refine (H5 _ _ q4).mono ?_
        rintro e w7 ⟨⟨v5, rfl, q5⟩, b⟩
        replace q5 := Tb.of_own q5
        replace q4 := q4.below b
        replace hB := hB.trans (b.mono hB.size)
        clear b H5
        obtain ⟨db, rfl, z0, z1, z2⟩ := q4.at_ HKB.out
        have z1' : _ = some (Value.int .u64 (n : Int)) := z1
        clear z0 z1 z2 q4 q5
        go_wp2
        go_ret
        exact ⟨rfl, hB⟩
end Quo
end Go.Proofs.Ytdiocnehejeldaa
