/-
  QuotaChanges: the law's walk.
-/
import Derived.Test.YtdiocnehejeldaaQuoF
namespace Go.Proofs.Ytdiocnehejeldaa
open Go.RowKit
namespace Quo

theorem set_len (t : List Row) (d n : Nat) : ((set_ t d n).getD []).length ≤ t.length + 1 := by
  rcases at_cases t d with h | ⟨k, r, h⟩
  · by_cases hl : t.length < 16
    · rw [set_off h hl, Option.getD_some, List.length_append, List.length_singleton]; exact Nat.le_refl _
    · rw [set_full h (by omega)]; simp
  · rw [set_at h, Option.getD_some, List.length_set]; exact Nat.le_succ _
theorem take_len (t : List Row) (d n : Nat) : (take_ t d n).1.length ≤ t.length := by
  rcases at_cases t d with h | ⟨k, r, h⟩
  · rw [take_off h]; simp
  · by_cases ho : r.lim < r.used + n
    · rw [take_over h ho]; simp
    · rw [take_at h ho, List.length_set]; exact Nat.le_refl _
theorem give_len (t : List Row) (d n : Nat) : (give_ t d n).1.length ≤ t.length := by
  rcases at_cases t d with h | ⟨k, r, h⟩
  · rw [give_off h]; simp
  · rw [give_at h, List.length_set]; exact Nat.le_refl _

set_option maxRecDepth 100000 in
set_option maxHeartbeats 8000000 in
theorem changes_any (t : List Row) (hl : (t.length + 1) * 24 ≤ 140737488355328) (hw : wide t) (d n : Nat) (hn : n < 18446744073709551616) (v : Value) (w : World) (hv : Tb w v t) :
    Calls Try.prog 3 #[v, .int .u64 (d : Int), .int .u64 (n : Int)] w fun e w' => e = .returned (.bool true) ∧ Below w.heap.size w w' := by
  have H1 := fun w hv => set_any t hl d n v w hv
  have H2 := fun w hv => rSet_any t hl d n v w hv
  have H3 := fun w hv => take_any t (by omega) hw d n hn v w hv
  have H4 := fun w hv => rTake_any t (by omega) hw d n hn v w hv
  have H5 := fun w hv => give_any t (by omega) hw d n hn v w hv
  have H6 := fun w hv => rGive_any t (by omega) hw d n hn v w hv
  have z1 := set_len t d n
  have z2 := take_len t d n
  have z3 := give_len t d n
  generalize (set_ t d n).getD [] = o1 at *
  generalize (set_ t d n).isSome = p1 at *
  generalize (take_ t d n).1 = o2 at *
  generalize (take_ t d n).2 = p2 at *
  generalize (give_ t d n).1 = o3 at *
  generalize (give_ t d n).2 = p3 at *
  have I1 := fun u v w => is_any o1 o1 (by omega) u v w
  have I2 := fun u v w => is_any o2 o2 (by omega) u v w
  have I3 := fun u v w => is_any o3 o3 (by omega) u v w
  simp only [decide_true] at I1 I2 I3
  have e1 : (p1 == p1) = true := beq_self_eq_true p1
  have e2 : (p2 == p2) = true := beq_self_eq_true p2
  have e3 : (p3 == p3) = true := beq_self_eq_true p3
  have HF := fixed_any
  have hB := Below.refl w.heap.size w
  clear z1 z2 z3 hl hw hn
  go_enter Try.func3, Try.ntmps3
  go_wp2_with fail
  refine (H1 _ hv).mono ?_
  rintro e w1 ⟨⟨v1, rfl, q1⟩, b⟩
  replace q1 := Tb.of_own q1
  replace hv := hv.below b
  replace hB := hB.trans (b.mono hB.size)
  clear b H1
  go_wp2_with fail
  refine (H2 _ hv).mono ?_
  rintro e w2 ⟨⟨v2, rfl, q2⟩, b⟩
  replace q2 := Tb.of_own q2
  replace hv := hv.below b
  replace q1 := q1.below b
  replace hB := hB.trans (b.mono hB.size)
  clear b H2
  go_wp2_with fail
  refine (H3 _ hv).mono ?_
  rintro e w3 ⟨⟨v3, rfl, q3⟩, b⟩
  replace q3 := Tb.of_own q3
  replace hv := hv.below b
  replace q1 := q1.below b
  replace q2 := q2.below b
  replace hB := hB.trans (b.mono hB.size)
  clear b H3
  go_wp2_with fail
  refine (H4 _ hv).mono ?_
  rintro e w4 ⟨⟨v4, rfl, q4⟩, b⟩
  replace q4 := Tb.of_own q4
  replace hv := hv.below b
  replace q1 := q1.below b
  replace q2 := q2.below b
  replace q3 := q3.below b
  replace hB := hB.trans (b.mono hB.size)
  clear b H4
  go_wp2_with fail
  refine (H5 _ hv).mono ?_
  rintro e w5 ⟨⟨v5, rfl, q5⟩, b⟩
  replace q5 := Tb.of_own q5
  replace hv := hv.below b
  replace q1 := q1.below b
  replace q2 := q2.below b
  replace q3 := q3.below b
  replace q4 := q4.below b
  replace hB := hB.trans (b.mono hB.size)
  clear b H5
  go_wp2_with fail
  refine (H6 _ hv).mono ?_
  rintro e w6 ⟨⟨v6, rfl, q6⟩, b⟩
  replace q6 := Tb.of_own q6
  replace hv := hv.below b
  replace q1 := q1.below b
  replace q2 := q2.below b
  replace q3 := q3.below b
  replace q4 := q4.below b
  replace q5 := q5.below b
  replace hB := hB.trans (b.mono hB.size)
  clear b H6
  go_wp2_with fail
  refine (HF _).mono ?_
  rintro e w7 ⟨rfl, b⟩
  replace q1 := q1.below b
  replace q2 := q2.below b
  replace q3 := q3.below b
  replace q4 := q4.below b
  replace q5 := q5.below b
  replace q6 := q6.below b
  replace hB := hB.trans (b.mono hB.size)
  clear b HF
  go_wp2_with fail
  refine (I1 _ _ _ q1 q2).mono ?_
  rintro e w8 ⟨rfl, b⟩
  replace q1 := q1.below b
  replace q2 := q2.below b
  replace q3 := q3.below b
  replace q4 := q4.below b
  replace q5 := q5.below b
  replace q6 := q6.below b
  replace hB := hB.trans (b.mono hB.size)
  clear b I1
  clear q1 q2
  go_wp2_with fail
  refine (I2 _ _ _ q3 q4).mono ?_
  rintro e w9 ⟨rfl, b⟩
  replace q3 := q3.below b
  replace q4 := q4.below b
  replace q5 := q5.below b
  replace q6 := q6.below b
  replace hB := hB.trans (b.mono hB.size)
  clear b I2
  clear q3 q4
  go_wp2_with fail
  refine (I3 _ _ _ q5 q6).mono ?_
  rintro e w10 ⟨rfl, b⟩
  replace q5 := q5.below b
  replace q6 := q6.below b
  replace hB := hB.trans (b.mono hB.size)
  clear b I3
  clear q5 q6
  go_wp2
  go_ret
  exact ⟨rfl, hB⟩
end Quo
end Go.Proofs.Ytdiocnehejeldaa
