/-
  The laws' fixed calls.
-/
import Derived.Test.YtdiocnehejeldaaQuoP
namespace Go.Proofs.Ytdiocnehejeldaa
open Go.RowKit
namespace Quo

def T1 : List Row := [⟨1, 3, 0⟩]
def T2 : List Row := [⟨1, 3, 2⟩]
theorem c1 : set_ [] 1 3 = some T1 := rfl
theorem c2 : take_ T1 1 2 = (T2, 0) := rfl
theorem c3 : take_ T2 1 2 = ([], 121) := rfl
theorem c4 : give_ T2 1 5 = (T1, 0) := rfl
theorem c5 : take_ [] 1 0 = ([], 120) := rfl
theorem ok1 : okB T1 = true := by
  refine okB_good (by decide) fun j hj x hx i hi => ?_
  have : j < 1 := hj
  omega
theorem wide1 : wide T1 := fun r hr => by
  simp only [T1, List.mem_singleton] at hr
  subst hr
  exact ⟨by decide, by decide, by decide⟩
theorem wide2 : wide T2 := fun r hr => by
  simp only [T2, List.mem_singleton] at hr
  subst hr
  exact ⟨by decide, by decide, by decide⟩
theorem wide0 : wide [] := fun r hr => by cases hr
theorem Tb.at0 {w : World} {l : List Row} {a : Option Addr} {n cap : Nat} (h : Tb w (.slice a n cap) l) {r : Row} (hi : l[0]? = some r) : ∃ ad : Addr, a = some ad ∧
    w.cell? ad = some (.int .u64 (r.ten : Int)) ∧ w.cell? ⟨ad.block, ad.off + 1, none⟩ = some (.int .u64 (r.used : Int)) ∧ w.cell? ⟨ad.block, ad.off + 2, none⟩ = some (.int .u64 (r.lim : Int)) := by
  obtain ⟨ad, rfl, x0, x1, x2⟩ := h.at_ hi
  have e : ad.add (0 * 3) = ad := by simp [Addr.add]
  rw [e] at x0 x1 x2
  exact ⟨ad, rfl, x0, x1, x2⟩

set_option maxRecDepth 100000 in
set_option maxHeartbeats 8000000 in
theorem fixed_any (w : World) : Calls Try.prog 14 #[] w fun e w' => e = .returned (.bool true) ∧ Below w.heap.size w w' := by
  have H1 := set_any [] (by decide) 1 3 (.slice none 0 0) w (Tb.nil_ w)
  rw [c1] at H1
  have H2 := fun v w hv => take_any T1 (by decide) wide1 1 2 (by decide) v w hv
  rw [c2] at H2
  have H3 := fun v w hv => take_any T2 (by decide) wide2 1 2 (by decide) v w hv
  rw [c3] at H3
  have H4 := fun v w hv => give_any T2 (by decide) wide2 1 5 (by decide) v w hv
  rw [c4] at H4
  have H5 := fun w => take_any [] (by decide) wide0 1 0 (by decide) (.slice none 0 0) w (Tb.nil_ w)
  rw [c5] at H5
  have HC := fun v w hv => check_any T1 (by decide) v w hv
  rw [ok1] at HC
  have l1 : T1.length = 1 := rfl
  have l2 : T2.length = 1 := rfl
  have a1 : T1[0]? = some ⟨1, 3, 0⟩ := rfl
  have a2 : T2[0]? = some ⟨1, 3, 2⟩ := rfl
  simp only [Option.getD_some, Option.isSome_some] at H1
  have hB := Below.refl w.heap.size w
  go_enter Try.func14, Try.ntmps14
  go_wp2_with fail
  refine (H1).mono ?_
  rintro e w1 ⟨⟨v1, rfl, q1⟩, b⟩
  replace q1 := Tb.of_own q1
  replace hB := hB.trans (b.mono hB.size)
  clear b H1
  go_wp2_with fail
  refine (H2 _ _ q1).mono ?_
  rintro e w2 ⟨⟨v2, rfl, q2⟩, b⟩
  replace q2 := Tb.of_own q2
  replace q1 := q1.below b
  replace hB := hB.trans (b.mono hB.size)
  clear b H2
  go_wp2_with fail
  refine (H3 _ _ q2).mono ?_
  rintro e w3 ⟨⟨v3, rfl, q3⟩, b⟩
  replace q3 := Tb.of_own q3
  replace q1 := q1.below b
  replace q2 := q2.below b
  replace hB := hB.trans (b.mono hB.size)
  clear b H3
  clear q3
  go_wp2_with fail
  refine (H4 _ _ q2).mono ?_
  rintro e w4 ⟨⟨v4, rfl, q4⟩, b⟩
  replace q4 := Tb.of_own q4
  replace q1 := q1.below b
  replace q2 := q2.below b
  replace hB := hB.trans (b.mono hB.size)
  clear b H4
  go_wp2_with fail
  refine (H5 _).mono ?_
  rintro e w5 ⟨⟨v5, rfl, q5⟩, b⟩
  replace q5 := Tb.of_own q5
  replace q1 := q1.below b
  replace q2 := q2.below b
  replace q4 := q4.below b
  replace hB := hB.trans (b.mono hB.size)
  clear b H5
  clear q5
  obtain ⟨n1, p1, rfl⟩ := q1.form
  obtain ⟨n2, p2, rfl⟩ := q2.form
  obtain ⟨n4, p4, rfl⟩ := q4.form
  rw [l1] at q1 q4
  rw [l2] at q2
  obtain ⟨d2, rfl, x0, x1, x2⟩ := q2.at0 a2
  obtain ⟨d4, rfl, y0, y1, y2⟩ := q4.at0 a1
  rw [l1, l2]
  clear a1 a2
  go_wp2_with fail
  refine (HC _ _ q1).mono ?_
  rintro e w6 ⟨rfl, b⟩
  replace q1 := q1.below b
  replace hB := hB.trans (b.mono hB.size)
  clear b HC
  go_wp2
  go_ret
  exact ⟨rfl, hB⟩
end Quo
end Go.Proofs.Ytdiocnehejeldaa
