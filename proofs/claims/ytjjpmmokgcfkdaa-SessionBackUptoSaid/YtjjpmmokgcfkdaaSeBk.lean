/-
  SessionBack: the law's walk.
-/
import Derived.Test.YtjjpmmokgcfkdaaSesF
import Derived.Test.YtjjpmmokgcfkdaaSesT
import Derived.Test.YtjjpmmokgcfkdaaSesV
namespace Go.Proofs.Ytjjpmmokgcfkdaa
open Go.RowKit
open Go.Lib (uvarint uvarint_pos)
open Leb (encT)
namespace Ses

theorem tweight_rows : ∀ t : List Row, tweight t ≤ (rowsL t).length
  | [] => Nat.le_refl _
  | r :: t => by
    have h1 := tweight_rows t
    have h2 := uvarint_pos r.id
    have h3 : r.ans.size ≤ (encT r.ans.data.toList).length := by rw [encT_len]; omega
    rw [tweight, rowsL, List.length_append]
    unfold rowL
    rw [List.length_append, List.length_append]
    omega
theorem parse_weight {s : ByteArray} {u : List Row} (h : parse s.data.toList = some u) : tweight u ≤ s.size := by
  have h1 := (parse_some h).2.1
  have h2 := tweight_rows u
  have h3 : (textL u).length = s.size := by rw [h1, Kit.size_list]
  unfold textL at h3
  rw [List.length_append] at h3
  omega
theorem sizes_of {t : List Row} (hz : tweight t ≤ 1048576) : ∀ r ∈ t, r.ans.size < 18446744073709551616 := fun r hr => by
  obtain ⟨j, hj⟩ := List.mem_iff_getElem?.1 hr
  have := tweight_at hj
  omega

set_option maxRecDepth 100000 in
set_option maxHeartbeats 8000000 in
theorem back_any (t : List Row) (hw : wide t) (hz : tweight t ≤ 1048576) (s : ByteArray) (hs : s.size ≤ 1048576) (v : Value) (w : World) (hv : Tb w v t) :
    Calls Try.prog 5 #[v, .string s] w fun e w' => e = .returned (.bool true) ∧ Below w.heap.size w w' := by
  have htl := tweight_len t
  have HT := text_any t hw hz v w hv
  have htx : (textL t).length ≤ 31457290 := by rw [← part_all]; exact part_len hw hz t.length
  have HP := fun w => parse_any ⟨(textL t).toArray⟩ (by rw [Kit.size_mk]; omega) w
  have HQ := fun w => parse_any s (by omega) w
  rw [show (⟨(textL t).toArray⟩ : ByteArray).data.toList = textL t from rfl, parse_text hw (sizes_of hz) (by omega)] at HP
  have HC := fun w hv => check_any t (by omega) v w hv
  have HF := fixed_any
  generalize (⟨(textL t).toArray⟩ : ByteArray) = x at *
  clear htx
  cases hok : okB t with
  | true =>
    rw [hok] at HP HC
    simp only [if_true] at HP
    clear hok
    have HI := fun u v w => is_any t t (by omega) u v w
    simp only [decide_true] at HI
    clear hw hz htl
    cases hp : parse s.data.toList with
    | none =>
      rw [hp] at HQ
      clear hp
      go_enter Try.func5, Try.ntmps5
      go_wp2_with fail
      refine HT.mono ?_
      rintro e w1 ⟨rfl, b⟩
      have hB := b
      have h := hv.below b
      clear b HT hv
      go_wp2_with fail
      refine (HP _).mono ?_
      rintro e w2 ⟨⟨u1, rfl, q1⟩, b⟩
      replace h := h.below b
      replace hB := hB.trans (b.mono hB.size)
      clear b HP
      simp only [Option.isSome_some, Option.getD_some] at q1 ⊢
      go_wp2_with fail
      refine (HQ _).mono ?_
      rintro e w3 ⟨⟨u2, rfl, q2⟩, b⟩
      replace q1 := q1.below b
      replace h := h.below b
      replace hB := hB.trans (b.mono hB.size)
      clear b HQ
      simp only [Option.isSome_none, Option.getD_none] at q2 ⊢
      go_wp2_with fail
      refine (HF _).mono ?_
      rintro e w4 ⟨rfl, b⟩
      replace q1 := q1.below b
      replace q2 := q2.below b
      replace h := h.below b
      replace hB := hB.trans (b.mono hB.size)
      clear b HF
      go_wp2_with fail
      refine (HC _ h).mono ?_
      rintro e w5 ⟨rfl, b⟩
      replace q1 := q1.below b
      replace q2 := q2.below b
      replace h := h.below b
      replace hB := hB.trans (b.mono hB.size)
      clear b HC
      go_wp2_with fail
      refine (HI _ _ _ q1 h).mono ?_
      rintro e w6 ⟨rfl, b⟩
      replace q2 := q2.below b
      replace hB := hB.trans (b.mono hB.size)
      clear b HI
      go_wp2
      go_ret
      exact ⟨rfl, hB⟩
    | some u =>
      rw [hp] at HQ
      obtain ⟨hu1, hu2, hu3⟩ := parse_some hp
      have huz := parse_weight hp
      have hul := tweight_len u
      have HCu := fun v w hv => check_any u (by omega) v w hv
      rw [okB_iff.2 hu1] at HCu
      have HTu := fun v w hv => text_any u hu3 (by omega) v w hv
      rw [hu2, ← Kit.bytes_of_data s] at HTu
      have gs : (s.toList == s.toList) = true := beq_self_eq_true _
      clear hp hu1 hu2 hu3 huz hul hs
      go_enter Try.func5, Try.ntmps5
      go_wp2_with fail
      refine HT.mono ?_
      rintro e w1 ⟨rfl, b⟩
      have hB := b
      have h := hv.below b
      clear b HT hv
      go_wp2_with fail
      refine (HP _).mono ?_
      rintro e w2 ⟨⟨u1, rfl, q1⟩, b⟩
      replace h := h.below b
      replace hB := hB.trans (b.mono hB.size)
      clear b HP
      simp only [Option.isSome_some, Option.getD_some] at q1 ⊢
      go_wp2_with fail
      refine (HQ _).mono ?_
      rintro e w3 ⟨⟨u2, rfl, q2⟩, b⟩
      replace q1 := q1.below b
      replace h := h.below b
      replace hB := hB.trans (b.mono hB.size)
      clear b HQ
      simp only [Option.isSome_some, Option.getD_some] at q2 ⊢
      go_wp2_with fail
      refine (HF _).mono ?_
      rintro e w4 ⟨rfl, b⟩
      replace q1 := q1.below b
      replace q2 := q2.below b
      replace h := h.below b
      replace hB := hB.trans (b.mono hB.size)
      clear b HF
      go_wp2_with fail
      refine (HC _ h).mono ?_
      rintro e w5 ⟨rfl, b⟩
      replace q1 := q1.below b
      replace q2 := q2.below b
      replace h := h.below b
      replace hB := hB.trans (b.mono hB.size)
      clear b HC
      go_wp2_with fail
      refine (HI _ _ _ q1 h).mono ?_
      rintro e w6 ⟨rfl, b⟩
      replace q2 := q2.below b
      replace hB := hB.trans (b.mono hB.size)
      clear b HI
      go_wp2_with fail
      refine (HCu _ _ q2).mono ?_
      rintro e w7 ⟨rfl, b⟩
      replace q2 := q2.below b
      replace hB := hB.trans (b.mono hB.size)
      clear b HCu
      go_wp2_with fail
      refine (HTu _ _ q2).mono ?_
      rintro e w8 ⟨rfl, b⟩
      replace hB := hB.trans (b.mono hB.size)
      clear b HTu q2
      go_wp2
      go_ret
      exact ⟨rfl, hB⟩
  | false =>
    rw [hok] at HP HC
    simp only [if_false, Bool.false_eq_true] at HP
    clear hok
    clear hw hz htl
    cases hp : parse s.data.toList with
    | none =>
      rw [hp] at HQ
      clear hp
      go_enter Try.func5, Try.ntmps5
      go_wp2_with fail
      refine HT.mono ?_
      rintro e w1 ⟨rfl, b⟩
      have hB := b
      have h := hv.below b
      clear b HT hv
      go_wp2_with fail
      refine (HP _).mono ?_
      rintro e w2 ⟨⟨u1, rfl, q1⟩, b⟩
      replace h := h.below b
      replace hB := hB.trans (b.mono hB.size)
      clear b HP
      simp only [Option.isSome_none, Option.getD_none] at q1 ⊢
      go_wp2_with fail
      refine (HQ _).mono ?_
      rintro e w3 ⟨⟨u2, rfl, q2⟩, b⟩
      replace q1 := q1.below b
      replace h := h.below b
      replace hB := hB.trans (b.mono hB.size)
      clear b HQ
      simp only [Option.isSome_none, Option.getD_none] at q2 ⊢
      go_wp2_with fail
      refine (HF _).mono ?_
      rintro e w4 ⟨rfl, b⟩
      replace q1 := q1.below b
      replace q2 := q2.below b
      replace h := h.below b
      replace hB := hB.trans (b.mono hB.size)
      clear b HF
      go_wp2_with fail
      refine (HC _ h).mono ?_
      rintro e w5 ⟨rfl, b⟩
      replace q1 := q1.below b
      replace q2 := q2.below b
      replace h := h.below b
      replace hB := hB.trans (b.mono hB.size)
      clear b HC
      go_wp2
      go_ret
      exact ⟨rfl, hB⟩
    | some u =>
      rw [hp] at HQ
      obtain ⟨hu1, hu2, hu3⟩ := parse_some hp
      have huz := parse_weight hp
      have hul := tweight_len u
      have HCu := fun v w hv => check_any u (by omega) v w hv
      rw [okB_iff.2 hu1] at HCu
      have HTu := fun v w hv => text_any u hu3 (by omega) v w hv
      rw [hu2, ← Kit.bytes_of_data s] at HTu
      have gs : (s.toList == s.toList) = true := beq_self_eq_true _
      clear hp hu1 hu2 hu3 huz hul hs
      go_enter Try.func5, Try.ntmps5
      go_wp2_with fail
      refine HT.mono ?_
      rintro e w1 ⟨rfl, b⟩
      have hB := b
      have h := hv.below b
      clear b HT hv
      go_wp2_with fail
      refine (HP _).mono ?_
      rintro e w2 ⟨⟨u1, rfl, q1⟩, b⟩
      replace h := h.below b
      replace hB := hB.trans (b.mono hB.size)
      clear b HP
      simp only [Option.isSome_none, Option.getD_none] at q1 ⊢
      go_wp2_with fail
      refine (HQ _).mono ?_
      rintro e w3 ⟨⟨u2, rfl, q2⟩, b⟩
      replace q1 := q1.below b
      replace h := h.below b
      replace hB := hB.trans (b.mono hB.size)
      clear b HQ
      simp only [Option.isSome_some, Option.getD_some] at q2 ⊢
      go_wp2_with fail
      refine (HF _).mono ?_
      rintro e w4 ⟨rfl, b⟩
      replace q1 := q1.below b
      replace q2 := q2.below b
      replace h := h.below b
      replace hB := hB.trans (b.mono hB.size)
      clear b HF
      go_wp2_with fail
      refine (HC _ h).mono ?_
      rintro e w5 ⟨rfl, b⟩
      replace q1 := q1.below b
      replace q2 := q2.below b
      replace h := h.below b
      replace hB := hB.trans (b.mono hB.size)
      clear b HC
      go_wp2_with fail
      refine (HCu _ _ q2).mono ?_
      rintro e w7 ⟨rfl, b⟩
      replace q2 := q2.below b
      replace hB := hB.trans (b.mono hB.size)
      clear b HCu
      go_wp2_with fail
      refine (HTu _ _ q2).mono ?_
      rintro e w8 ⟨rfl, b⟩
      replace hB := hB.trans (b.mono hB.size)
      clear b HTu q2
      go_wp2
      go_ret
      exact ⟨rfl, hB⟩
end Ses
end Go.Proofs.Ytjjpmmokgcfkdaa
