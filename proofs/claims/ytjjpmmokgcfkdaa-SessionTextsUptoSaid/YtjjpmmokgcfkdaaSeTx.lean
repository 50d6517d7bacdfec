/-
  SessionTexts: the law's walk.
-/
import Derived.Test.YtjjpmmokgcfkdaaSesF
import Derived.Test.YtjjpmmokgcfkdaaSesT
import Derived.Test.YtjjpmmokgcfkdaaSesW
namespace Go.Proofs.Ytjjpmmokgcfkdaa
open Go.RowKit
namespace Ses

theorem parse_len {l : List UInt8} {t : List Row} (h : parse l = some t) : t.length ≤ 16 := (parse_some h).1.1

set_option maxRecDepth 100000 in
set_option maxHeartbeats 8000000 in
theorem texts_any (t : List Row) (hw : wide t) (hz : tweight t ≤ 1048576) (s : ByteArray) (hs : s.size ≤ 9223372036854775807) (v : Value) (w : World) (hv : Tb w v t) :
    Calls Try.prog 4 #[v, .string s] w fun e w' => e = .returned (.bool true) ∧ Below w.heap.size w w' := by
  have htl := tweight_len t
  have HP := parse_any s hs w
  have HR := fun w => rParse_any s hs w
  have hpl : ((parse s.data.toList).getD []).length ≤ 16 := by
    cases hp : parse s.data.toList with
    | none => simp
    | some u => exact parse_len hp
  have HC := fun w hv => check_any t (by omega) v w hv
  have HD := fun w hv => rCheck_any t (by omega) v w hv
  have HT := fun w hv => text_any t hw hz v w hv
  have HU := fun w hv => rText_any t hw hz v w hv
  generalize parse s.data.toList = po at *
  generalize okB t = c at *
  generalize (⟨(textL t).toArray⟩ : ByteArray) = x at *
  have HI := fun u v w => is_any (po.getD []) (po.getD []) (by omega) u v w
  simp only [decide_true] at HI
  have HF := fixed_any
  generalize hpb : po.isSome = pb at *
  have g1 : (c == c) = true := beq_self_eq_true c
  have g2 : (pb == pb) = true := beq_self_eq_true pb
  have g3 : (x.toList == x.toList) = true := beq_self_eq_true _
  clear hpl htl hw hz hs
  go_enter Try.func4, Try.ntmps4
  go_wp2_with fail
  refine HP.mono ?_
  rintro e w1 ⟨⟨u1, rfl, q1⟩, b⟩
  have hB := b
  have h := hv.below b
  clear b HP
  rw [hpb]
  go_wp2_with fail
  refine (HR _).mono ?_
  rintro e w2 ⟨⟨u2, rfl, q2⟩, b⟩
  replace q1 := q1.below b
  replace h := h.below b
  replace hB := hB.trans (b.mono hB.size)
  clear b HR
  rw [hpb]
  go_wp2_with fail
  refine (HF _).mono ?_
  rintro e w3 ⟨rfl, b⟩
  replace q1 := q1.below b
  replace q2 := q2.below b
  replace h := h.below b
  replace hB := hB.trans (b.mono hB.size)
  clear b HF
  go_wp2_with fail
  refine (HC _ h).mono ?_
  rintro e w4 ⟨rfl, b⟩
  replace q1 := q1.below b
  replace q2 := q2.below b
  replace h := h.below b
  replace hB := hB.trans (b.mono hB.size)
  clear b HC
  go_wp2_with fail
  refine (HD _ h).mono ?_
  rintro e w5 ⟨rfl, b⟩
  replace q1 := q1.below b
  replace q2 := q2.below b
  replace h := h.below b
  replace hB := hB.trans (b.mono hB.size)
  clear b HD
  go_wp2_with fail
  refine (HT _ h).mono ?_
  rintro e w6 ⟨rfl, b⟩
  replace q1 := q1.below b
  replace q2 := q2.below b
  replace h := h.below b
  replace hB := hB.trans (b.mono hB.size)
  clear b HT
  go_wp2_with fail
  refine (HU _ h).mono ?_
  rintro e w7 ⟨rfl, b⟩
  replace q1 := q1.below b
  replace q2 := q2.below b
  replace hB := hB.trans (b.mono hB.size)
  clear b HU h
  go_wp2_with fail
  refine (HI _ _ _ q1 q2).mono ?_
  rintro e w8 ⟨rfl, b⟩
  replace hB := hB.trans (b.mono hB.size)
  clear b HI q1 q2
  go_wp2
  go_ret
  exact ⟨rfl, hB⟩
end Ses
end Go.Proofs.Ytjjpmmokgcfkdaa
