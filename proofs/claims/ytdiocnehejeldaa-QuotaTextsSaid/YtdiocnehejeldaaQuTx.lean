/-
  QuotaTexts: the law's walk.
-/
import Derived.Test.YtdiocnehejeldaaQuoF
namespace Go.Proofs.Ytdiocnehejeldaa
open Go.RowKit
namespace Quo

set_option maxRecDepth 100000 in
set_option maxHeartbeats 8000000 in
theorem texts_any (t : List Row) (hl : t.length * 24 ≤ 140737488355328) (hw : wide t) (s : ByteArray) (hs : s.size ≤ 9223372036854775807) (v : Value) (w : World) (hv : Tb w v t) :
    Calls Try.prog 4 #[v, .string s] w fun e w' => e = .returned (.bool true) ∧ Below w.heap.size w w' := by
  have H1 := fun w => parse_any s hs w
  have H2 := fun w => rParse_any s hs w
  have hpl : ((parse s.data.toList).getD []).length ≤ 16 := by
    cases hp : parse s.data.toList with
    | none => simp
    | some u => exact (parse_some hp).1.1
  have H3 := fun w hv => text_any t hw hl v w hv
  have H4 := fun w hv => rText_any t hw hl v w hv
  have htx : (textL t).length ≤ 10 + 30 * t.length := by rw [← part_all]; exact part_len hw hl t.length
  have H5 := fun w => parse_any ⟨(textL t).toArray⟩ (by rw [Kit.size_mk]; omega) w
  rw [show (⟨(textL t).toArray⟩ : ByteArray).data.toList = textL t from rfl, parse_text hw (by omega)] at H5
  have H6 := fun w hv => check_any t (by omega) v w hv
  have H7 := fun w hv => rCheck_any t (by omega) v w hv
  have HF := fixed_any
  generalize parse s.data.toList = po at *
  generalize (⟨(textL t).toArray⟩ : ByteArray) = x at *
  have I1 := fun u v w => is_any (po.getD []) (po.getD []) (by omega) u v w
  have I2 := fun u v w => is_any t t (by omega) u v w
  simp only [decide_true] at I1 I2
  generalize hpb : po.isSome = pb at *
  have e1 : (pb == pb) = true := beq_self_eq_true pb
  have e2 : (x.toList == x.toList) = true := beq_self_eq_true _
  have hB := Below.refl w.heap.size w
  clear hpl htx hs hw hl
  cases hok : okB t with
  | true =>
    rw [hok] at H5 H6 H7
    simp only [if_true] at H5
    clear hok
    go_enter Try.func4, Try.ntmps4
    go_wp2_with fail
    refine (H1 _).mono ?_
    rintro e w1 ⟨⟨v1, rfl, q1⟩, b⟩
    replace hv := hv.below b
    replace hB := hB.trans (b.mono hB.size)
    clear b H1
    rw [hpb]
    go_wp2_with fail
    refine (H2 _).mono ?_
    rintro e w2 ⟨⟨v2, rfl, q2⟩, b⟩
    replace hv := hv.below b
    replace q1 := q1.below b
    replace hB := hB.trans (b.mono hB.size)
    clear b H2
    rw [hpb]
    go_wp2_with fail
    refine (H3 _ hv).mono ?_
    rintro e w3 ⟨rfl, b⟩
    replace hv := hv.below b
    replace q1 := q1.below b
    replace q2 := q2.below b
    replace hB := hB.trans (b.mono hB.size)
    clear b
    go_wp2_with fail
    refine (H5 _).mono ?_
    rintro e w4 ⟨⟨v3, rfl, q3⟩, b⟩
    replace hv := hv.below b
    replace q1 := q1.below b
    replace q2 := q2.below b
    replace hB := hB.trans (b.mono hB.size)
    clear b H5
    simp only [Option.isSome_some, Option.getD_some] at q3 ⊢
    go_wp2_with fail
    refine (HF _).mono ?_
    rintro e w5 ⟨rfl, b⟩
    replace hv := hv.below b
    replace q1 := q1.below b
    replace q2 := q2.below b
    replace q3 := q3.below b
    replace hB := hB.trans (b.mono hB.size)
    clear b HF
    go_wp2_with fail
    refine (H6 _ hv).mono ?_
    rintro e w6 ⟨rfl, b⟩
    replace hv := hv.below b
    replace q1 := q1.below b
    replace q2 := q2.below b
    replace q3 := q3.below b
    replace hB := hB.trans (b.mono hB.size)
    clear b
    go_wp2_with fail
    refine (H7 _ hv).mono ?_
    rintro e w7 ⟨rfl, b⟩
    replace hv := hv.below b
    replace q1 := q1.below b
    replace q2 := q2.below b
    replace q3 := q3.below b
    replace hB := hB.trans (b.mono hB.size)
    clear b H7
    go_wp2_with fail
    refine (H3 _ hv).mono ?_
    rintro e w8 ⟨rfl, b⟩
    replace hv := hv.below b
    replace q1 := q1.below b
    replace q2 := q2.below b
    replace q3 := q3.below b
    replace hB := hB.trans (b.mono hB.size)
    clear b H3
    go_wp2_with fail
    refine (H4 _ hv).mono ?_
    rintro e w9 ⟨rfl, b⟩
    replace hv := hv.below b
    replace q1 := q1.below b
    replace q2 := q2.below b
    replace q3 := q3.below b
    replace hB := hB.trans (b.mono hB.size)
    clear b H4
    go_wp2_with fail
    refine (I1 _ _ _ q1 q2).mono ?_
    rintro e w10 ⟨rfl, b⟩
    replace hv := hv.below b
    replace q1 := q1.below b
    replace q2 := q2.below b
    replace q3 := q3.below b
    replace hB := hB.trans (b.mono hB.size)
    clear b I1
    clear q1 q2
    go_wp2_with fail
    refine (H6 _ hv).mono ?_
    rintro e w11 ⟨rfl, b⟩
    replace hv := hv.below b
    replace q3 := q3.below b
    replace hB := hB.trans (b.mono hB.size)
    clear b H6
    go_wp2_with fail
    refine (I2 _ _ _ q3 hv).mono ?_
    rintro e w12 ⟨rfl, b⟩
    replace hv := hv.below b
    replace q3 := q3.below b
    replace hB := hB.trans (b.mono hB.size)
    clear b I2
    go_wp2
    go_ret
    exact ⟨rfl, hB⟩
  | false =>
    rw [hok] at H5 H6 H7
    simp only [if_false, Bool.false_eq_true] at H5
    clear hok I2
    go_enter Try.func4, Try.ntmps4
    go_wp2_with fail
    refine (H1 _).mono ?_
    rintro e w1 ⟨⟨v1, rfl, q1⟩, b⟩
    replace hv := hv.below b
    replace hB := hB.trans (b.mono hB.size)
    clear b H1
    rw [hpb]
    go_wp2_with fail
    refine (H2 _).mono ?_
    rintro e w2 ⟨⟨v2, rfl, q2⟩, b⟩
    replace hv := hv.below b
    replace q1 := q1.below b
    replace hB := hB.trans (b.mono hB.size)
    clear b H2
    rw [hpb]
    go_wp2_with fail
    refine (H3 _ hv).mono ?_
    rintro e w3 ⟨rfl, b⟩
    replace hv := hv.below b
    replace q1 := q1.below b
    replace q2 := q2.below b
    replace hB := hB.trans (b.mono hB.size)
    clear b
    go_wp2_with fail
    refine (H5 _).mono ?_
    rintro e w4 ⟨⟨v3, rfl, q3⟩, b⟩
    replace hv := hv.below b
    replace q1 := q1.below b
    replace q2 := q2.below b
    replace hB := hB.trans (b.mono hB.size)
    clear b H5
    simp only [Option.isSome_none, Option.getD_none] at q3 ⊢
    go_wp2_with fail
    refine (HF _).mono ?_
    rintro e w5 ⟨rfl, b⟩
    replace hv := hv.below b
    replace q1 := q1.below b
    replace q2 := q2.below b
    replace q3 := q3.below b
    replace hB := hB.trans (b.mono hB.size)
    clear b HF
    go_wp2_with fail
    refine (H6 _ hv).mono ?_
    rintro e w6 ⟨rfl, b⟩
    replace hv := hv.below b
    replace q1 := q1.below b
    replace q2 := q2.below b
    replace q3 := q3.below b
    replace hB := hB.trans (b.mono hB.size)
    clear b
    go_wp2_with fail
    refine (H7 _ hv).mono ?_
    rintro e w7 ⟨rfl, b⟩
    replace hv := hv.below b
    replace q1 := q1.below b
    replace q2 := q2.below b
    replace q3 := q3.below b
    replace hB := hB.trans (b.mono hB.size)
    clear b H7
    go_wp2_with fail
    refine (H3 _ hv).mono ?_
    rintro e w8 ⟨rfl, b⟩
    replace hv := hv.below b
    replace q1 := q1.below b
    replace q2 := q2.below b
    replace q3 := q3.below b
    replace hB := hB.trans (b.mono hB.size)
    clear b H3
    go_wp2_with fail
    refine (H4 _ hv).mono ?_
    rintro e w9 ⟨rfl, b⟩
    replace hv := hv.below b
    replace q1 := q1.below b
    replace q2 := q2.below b
    replace q3 := q3.below b
    replace hB := hB.trans (b.mono hB.size)
    clear b H4
    go_wp2_with fail
    refine (I1 _ _ _ q1 q2).mono ?_
    rintro e w10 ⟨rfl, b⟩
    replace hv := hv.below b
    replace q1 := q1.below b
    replace q2 := q2.below b
    replace q3 := q3.below b
    replace hB := hB.trans (b.mono hB.size)
    clear b I1
    clear q1 q2
    go_wp2_with fail
    refine (H6 _ hv).mono ?_
    rintro e w11 ⟨rfl, b⟩
    replace hv := hv.below b
    replace q3 := q3.below b
    replace hB := hB.trans (b.mono hB.size)
    clear b H6
    go_wp2
    go_ret
    exact ⟨rfl, hB⟩
end Quo
end Go.Proofs.Ytdiocnehejeldaa
