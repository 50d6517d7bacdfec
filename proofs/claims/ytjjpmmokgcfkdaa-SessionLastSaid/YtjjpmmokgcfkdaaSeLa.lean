/-
  SessionLast: the law's walk.
-/
import Derived.Test.YtjjpmmokgcfkdaaSesF
import Derived.Test.YtjjpmmokgcfkdaaSesS
import Derived.Deep.RegionHeld3
namespace Go.Proofs.Ytjjpmmokgcfkdaa
open Go.RowKit
namespace Ses

/-- Noted twice an id has the second one alone. -/
theorem note_note (t : List Row) (id n m : Nat) (a b : ByteArray) : note (note t id n a) id m b = note t id m b := by
  have h : others (note t id n a) id = lastOf 15 (others t id) := by
    rw [note_snoc, others_snoc_out rfl]
    unfold others
    rw [List.filter_eq_self]
    intro x hx
    have := (others_mem.1 (List.mem_of_mem_drop hx)).2
    simpa using this
  rw [note_snoc, note_snoc t id m b, h, lastOf_all (l := lastOf 15 (others t id)) (by rw [lastOf_len]; omega)]
theorem note_end (t : List Row) (id n : Nat) (a : ByteArray) : (note t id n a)[(note t id n a).length - 1]? = some ⟨id, n, short a⟩ := by
  rw [note_snoc, List.length_append, List.length_singleton, Nat.add_sub_cancel, List.getElem?_append_right (Nat.le_refl _), Nat.sub_self]
  rfl
theorem note_pos (t : List Row) (id n : Nat) (a : ByteArray) : 0 < (note t id n a).length := by rw [note_len]; omega

set_option maxRecDepth 100000 in
set_option maxHeartbeats 8000000 in
theorem last_any (t : List Row) (hl : (t.length + 1) * 32 ≤ 140737488355328) (x y : Row) (v : Value) (w : World) (hv : Tb w v t) :
    Calls Try.prog 7 #[v, .agg #[.int .u64 (x.id : Int), .int .u64 (x.num : Int), .string x.ans], .agg #[.int .u64 (y.id : Int), .int .u64 (y.num : Int), .string y.ans]] w fun e w' => e = .returned (.bool true) ∧ Below w.heap.size w w' := by
  have H1 := fun v w (hv : Tb w v t) => note_any t hl x.id x.num x.ans v w hv
  have H3 := fun w (hv : Tb w v t) => note_any t hl x.id y.num y.ans v w hv
  have hu := note_le t x.id x.num x.ans
  have H2 := fun v w (hv : Tb w v (note t x.id x.num x.ans)) => note_any (note t x.id x.num x.ans) (by omega) x.id y.num y.ans v w hv
  simp only [note_note] at H2
  have h16 := note_le t x.id y.num y.ans
  have hpos := note_pos t x.id y.num y.ans
  have HE := Lib.hid (note_end t x.id y.num y.ans)
  have HI := fun u v w => is_any (note t x.id y.num y.ans) (note t x.id y.num y.ans) (by omega) u v w
  simp only [decide_true] at HI
  generalize note t x.id y.num y.ans = T at *
  generalize note t x.id x.num x.ans = U at *
  generalize short y.ans = sh at *
  have HF := fixed_any
  have c0 := below_lit w (.cells #[.int .u64 (x.id : Int), .int .u64 (x.num : Int), .string x.ans] 25)
  have A0 := (Box.new w #[.int .u64 (x.id : Int), .int .u64 (x.num : Int), .string x.ans] 25).alloc (.cells #[.int .u64 (y.id : Int), .int .u64 (y.num : Int), .string y.ans] 25)
  have B0 := Box.new (w.alloc (.cells #[.int .u64 (x.id : Int), .int .u64 (x.num : Int), .string x.ans] 25)) #[.int .u64 (y.id : Int), .int .u64 (y.num : Int), .string y.ans] 25
  have c1 := c0.trans ((below_lit (w.alloc (.cells #[.int .u64 (x.id : Int), .int .u64 (x.num : Int), .string x.ans] 25)) (.cells #[.int .u64 (y.id : Int), .int .u64 (y.num : Int), .string y.ans] 25)).mono c0.size)
  rw [World.size_alloc] at B0
  replace hv := hv.below c1
  generalize x.id = xi at *
  generalize x.num = xn at *
  generalize x.ans = xs at *
  generalize y.id = yi at *
  generalize y.num = yn at *
  generalize y.ans = ys at *
  generalize hw1 : (w.alloc (.cells #[.int .u64 (xi : Int), .int .u64 (xn : Int), .string xs] 25)).alloc (.cells #[.int .u64 (yi : Int), .int .u64 (yn : Int), .string ys] 25) = w1 at *
  have HCL : ∀ w', Below w1.heap.size w1 w' → w'.cell? ⟨w.heap.size, 0, none⟩ = some (.int .u64 (xi : Int)) ∧ w'.cell? ⟨w.heap.size, 1, none⟩ = some (.int .u64 (xn : Int)) ∧ w'.cell? ⟨w.heap.size, 2, none⟩ = some (.string xs) ∧ w'.cell? ⟨w.heap.size + 1, 1, none⟩ = some (.int .u64 (yn : Int)) ∧ w'.cell? ⟨w.heap.size + 1, 2, none⟩ = some (.string ys) ∧ Below w1.heap.size w1 w' := fun w' b =>
    ⟨(A0.below b).cell rfl, (A0.below b).cell rfl, (A0.below b).cell rfl, (B0.below b).cell rfl, (B0.below b).cell rfl, b⟩
  have HV := Lib.hid hv
  have HC := Lib.hid c1
  have HB := Lib.hid (And.intro A0 B0)
  have HW := Lib.hid hw1
  have bd : Below w1.heap.size w1 w1.drew := (Below.refl _ w1).drew
  clear hv c0 c1 A0 B0 hl hu
  go_enter Try.func7, Try.ntmps7
  clear hw1
  go_upto_region 1 with (fail)
  rw [HW.out]
  go_region_held3 (fun w' => w'.cell? ⟨w.heap.size, 0, none⟩ = some (.int .u64 (xi : Int)) ∧ w'.cell? ⟨w.heap.size, 1, none⟩ = some (.int .u64 (xn : Int)) ∧ w'.cell? ⟨w.heap.size, 2, none⟩ = some (.string xs) ∧ w'.cell? ⟨w.heap.size + 1, 1, none⟩ = some (.int .u64 (yn : Int)) ∧ w'.cell? ⟨w.heap.size + 1, 2, none⟩ = some (.string ys) ∧ Below w1.heap.size w1 w')
    (first | exact HCL _ b4 | exact HCL _ b3 | exact HCL _ bd)
    (first
      | (go_at_call 12; refine (H2 _ _ h3).mono ?_; rintro e w4 ⟨v4, rfl, h4, b⟩; have h4 := Tb.of_own h4; have b4 := b3.trans (b.mono b3.size))
      | (go_at_call 12; refine (H1 _ _ (HV.out.below bd)).mono ?_; rintro e w3 ⟨v3, rfl, h3, b⟩; have h3 := Tb.of_own h3; have b3 := bd.trans (b.mono bd.size)))
  obtain ⟨q0, q1, q2, q3, q4, -⟩ := HCL _ b4
  clear b h3 bd
  go_wp2_with fail
  refine (H3 _ (HV.out.below b4)).mono ?_
  rintro e w5 ⟨v5, rfl, h5, b⟩
  replace h5 := Tb.of_own h5
  replace h4 := h4.below b
  replace b4 := b4.trans (b.mono b4.size)
  clear b H1 H2 H3 q0 q1 q2 q3 q4
  go_wp2_with fail
  refine (HF _).mono ?_
  rintro e w6 ⟨rfl, b⟩
  replace h5 := h5.below b
  replace h4 := h4.below b
  replace b4 := b4.trans (b.mono b4.size)
  clear b HF
  obtain ⟨a4, cap4, rfl⟩ := h4.form
  have g1 : ((T.length : Int) == 0) = false := by rw [beq_eq_false_iff_ne]; omega
  go_wp2_with fail
  refine (HI _ _ _ h4 h5).mono ?_
  rintro e w7 ⟨rfl, b⟩
  replace h4 := h4.below b
  replace b4 := b4.trans (b.mono b4.size)
  clear b HI h5
  have HE2 := HE.out
  obtain ⟨m, hm⟩ : ∃ m, T.length = m + 1 := ⟨T.length - 1, by omega⟩
  rw [hm] at HE2
  have hm2 : T[m]? = some ⟨xi, yn, sh⟩ := HE2
  obtain ⟨ad, rfl, t0, t1, t2⟩ := h4.at_ hm2
  have bb := b4.trans ((below_lit w7 (.cells #[.int .u64 (xi : Int), .int .u64 (yn : Int), .string sh] 25)).mono b4.size)
  obtain ⟨q0, q1, q2, q3, q4, -⟩ := HCL _ bb
  have fin := HC.out.trans (bb.mono HC.out.size)
  have g2 : (m : Int) < (m : Int) + 1 := by omega
  have g3 : (m : Int) + 1 ≤ 16 := by omega
  have g4 : wrap64 ((m : Int) + 1 - 1) = (m : Int) := by unfold wrap64; omega
  clear HE2 hm2 h4 bb b4 HCL HE h16 hpos g1
  rw [hm]
  clear hm
  go_wp2
  go_ret
  exact ⟨rfl, fin⟩
end Ses
end Go.Proofs.Ytjjpmmokgcfkdaa
