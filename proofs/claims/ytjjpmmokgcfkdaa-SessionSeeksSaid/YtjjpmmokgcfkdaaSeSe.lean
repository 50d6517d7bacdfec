/-
  SessionSeeks: the law's walk.
-/
import Derived.Test.YtjjpmmokgcfkdaaSesF
import Derived.Test.YtjjpmmokgcfkdaaSesS
import Derived.Deep.RegionHeld3
namespace Go.Proofs.Ytjjpmmokgcfkdaa
open Go.RowKit
namespace Ses

set_option maxRecDepth 100000 in
set_option maxHeartbeats 8000000 in
theorem seeks_any (t : List Row) (hl : (t.length + 1) * 32 ≤ 140737488355328) (r : Row) (v : Value) (w : World) (hv : Tb w v t) :
    Calls Try.prog 3 #[v, .agg #[.int .u64 (r.id : Int), .int .u64 (r.num : Int), .string r.ans]] w fun e w' => e = .returned (.bool true) ∧ Below w.heap.size w w' := by
  have hl2 : t.length ≤ 9223372036854775807 := by omega
  have HS := fun w (hv : Tb w v t) => seek_any t hl2 r.id r.num v w hv
  have HR := fun w (hv : Tb w v t) => rSeek_any t hl2 r.id r.num v w hv
  have HN := fun w (hv : Tb w v t) => note_any t hl r.id r.num r.ans v w hv
  have HM := fun w (hv : Tb w v t) => rNote_any t hl r.id r.num r.ans v w hv
  have h16 := note_le t r.id r.num r.ans
  have HI := fun u v w => is_any (note t r.id r.num r.ans) (note t r.id r.num r.ans) (by omega) u v w
  simp only [decide_true] at HI
  generalize note t r.id r.num r.ans = T at *
  generalize seek t r.id r.num = p at *
  obtain ⟨k, s⟩ := p
  simp only [seekV] at HS HR
  have HF := fixed_any
  have X0 := Box.new w #[.int .u64 (r.id : Int), .int .u64 (r.num : Int), .string r.ans] 25
  have c0 := below_lit w (.cells #[.int .u64 (r.id : Int), .int .u64 (r.num : Int), .string r.ans] 25)
  replace hv := hv.below c0
  generalize r.id = ri at *
  generalize r.num = rn at *
  generalize r.ans = ra at *
  clear hl hl2 h16
  go_enter Try.func3, Try.ntmps3
  have x0 := X0.cell (j := 0) rfl
  have x1 := X0.cell (j := 1) rfl
  go_wp2_with fail
  refine (HS _ hv).mono ?_
  rintro e w1 ⟨rfl, b⟩
  replace hv := hv.below b
  replace X0 := X0.below b
  replace c0 := c0.trans (b.mono c0.size)
  clear b HS x0 x1
  have x0 := X0.cell (j := 0) rfl
  have x1 := X0.cell (j := 1) rfl
  go_wp2_with fail
  refine (HR _ hv).mono ?_
  rintro e w2 ⟨rfl, b⟩
  replace hv := hv.below b
  replace X0 := X0.below b
  replace c0 := c0.trans (b.mono c0.size)
  clear b HR x0 x1
  have hk : (k == k) = true := beq_self_eq_true k
  have hs : (s.toList == s.toList) = true := beq_self_eq_true _
  have HCL : ∀ w', Below w2.heap.size w2 w' → w'.cell? ⟨w.heap.size, 0, none⟩ = some (.int .u64 (ri : Int)) ∧ w'.cell? ⟨w.heap.size, 1, none⟩ = some (.int .u64 (rn : Int)) ∧ w'.cell? ⟨w.heap.size, 2, none⟩ = some (.string ra) ∧ Below w2.heap.size w2 w' := fun w' b =>
    ⟨(X0.below b).cell rfl, (X0.below b).cell rfl, (X0.below b).cell rfl, b⟩
  have HV := Lib.hid hv
  have HC := Lib.hid c0
  have bd : Below w2.heap.size w2 w2.drew := (Below.refl _ w2).drew
  clear hv c0 X0
  go_upto_region 3 with (fail)
  go_region_held3 (fun w' => w'.cell? ⟨w.heap.size, 0, none⟩ = some (.int .u64 (ri : Int)) ∧ w'.cell? ⟨w.heap.size, 1, none⟩ = some (.int .u64 (rn : Int)) ∧ w'.cell? ⟨w.heap.size, 2, none⟩ = some (.string ra) ∧ Below w2.heap.size w2 w')
    (first | exact HCL _ b6 | exact HCL _ b5 | exact HCL _ b4 | exact HCL _ b3 | exact HCL _ bd)
    (first
      | (go_at_call 11; refine (HI _ _ _ h4' h5).mono ?_; rintro e w6 ⟨rfl, b⟩; have b6 := b5.trans (b.mono b5.size))
      | (go_at_call 13; refine (HM _ (HV.out.below b4)).mono ?_; rintro e w5 ⟨v5, rfl, h5, b⟩; have b5 := b4.trans (b.mono b4.size); have h4' := h4.below b)
      | (go_at_call 12; refine (HN _ (HV.out.below b3)).mono ?_; rintro e w4 ⟨v4, rfl, h4, b⟩; have h4 := Tb.of_own h4; have b4 := b3.trans (b.mono b3.size))
      | (go_at_call 10; refine (HF _).mono ?_; rintro e w3 ⟨rfl, b⟩; have b3 := bd.trans (b.mono bd.size)))
  go_wp2
  go_ret
  exact ⟨rfl, HC.out.trans (b6.mono HC.out.size)⟩
end Ses
end Go.Proofs.Ytjjpmmokgcfkdaa
