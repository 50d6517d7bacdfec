/-
  The laws' fixed calls, and has.
-/
import Derived.Test.YtjjpmmokgcfkdaaSesC
namespace Go.Proofs.Ytjjpmmokgcfkdaa
open Go.RowKit
namespace Ses

def sa : ByteArray := ⟨#[97]⟩
def T0 : List Row := [⟨1, 5, sa⟩]
theorem n0 : note [] 1 5 sa = T0 := by
  have h : short sa = sa := short_all (by decide)
  unfold note
  rw [h]
  rfl
theorem s1 : seek T0 1 5 = (1, sa) := rfl
theorem s2 : seek T0 1 4 = (2, ⟨#[]⟩) := rfl
theorem s3 : seek T0 1 6 = (0, ⟨#[]⟩) := rfl
theorem s4 : seek T0 2 5 = (0, ⟨#[]⟩) := rfl
theorem ok0 : okB T0 = true := by
  refine okB_good (by decide) fun j hj x hx => ?_
  obtain rfl : j = 0 := by simp [T0] at hj; omega
  injection hx with hx
  subst hx
  exact ⟨by decide, fun i hi => absurd hi (Nat.not_lt_zero i)⟩

set_option maxRecDepth 100000 in
set_option maxHeartbeats 8000000 in
theorem fixed_any (w : World) : Calls Try.prog 10 #[] w fun e w' => e = .returned (.bool true) ∧ Below w.heap.size w w' := by
  have HN := note_any [] (by decide) 1 5 sa (.slice none 0 0) w (Tb.nil_ w)
  rw [n0] at HN
  have HS := fun n v (w : World) (hv : Tb w v T0) => seek_any T0 (by decide) 1 n v w hv
  have HS2 := fun v (w : World) (hv : Tb w v T0) => seek_any T0 (by decide) 2 5 v w hv
  have H1 := HS 5
  have H2 := HS 4
  have H3 := HS 6
  rw [s1] at H1
  rw [s2] at H2
  rw [s3] at H3
  rw [s4] at HS2
  have HC := fun v (w : World) (hv : Tb w v T0) => check_any T0 (by decide) v w hv
  rw [ok0] at HC
  have hl : T0.length = 1 := rfl
  have es : sa.toList = (⟨#[97]⟩ : ByteArray).toList := rfl
  have ea : (⟨#[97]⟩ : ByteArray) = sa := rfl
  simp only [seekV] at H1 H2 H3 HS2
  clear HS
  go_enter Try.func10, Try.ntmps10
  go_wp2_with fail
  refine HN.mono ?_
  rintro e w1 ⟨v, rfl, h1, b1⟩
  have hv := Tb.of_own h1
  obtain ⟨a, cap, rfl⟩ := hv.form
  rw [hl] at hv
  clear HN h1
  rw [hl]
  go_wp2_with fail
  refine (H1 _ _ hv).mono ?_
  rintro e w2 ⟨rfl, b2⟩
  replace hv := hv.below b2
  replace b1 := b1.trans (b2.mono b1.size)
  clear b2 H1
  go_wp2_with fail
  refine (H2 _ _ hv).mono ?_
  rintro e w3 ⟨rfl, b2⟩
  replace hv := hv.below b2
  replace b1 := b1.trans (b2.mono b1.size)
  clear b2 H2
  go_wp2_with fail
  refine (H3 _ _ hv).mono ?_
  rintro e w4 ⟨rfl, b2⟩
  replace hv := hv.below b2
  replace b1 := b1.trans (b2.mono b1.size)
  clear b2 H3
  go_wp2_with fail
  refine (HS2 _ _ hv).mono ?_
  rintro e w5 ⟨rfl, b2⟩
  replace hv := hv.below b2
  replace b1 := b1.trans (b2.mono b1.size)
  clear b2 HS2
  go_wp2_with fail
  refine (HC _ _ hv).mono ?_
  rintro e w6 ⟨rfl, b2⟩
  replace b1 := b1.trans (b2.mono b1.size)
  clear b2 HC hv
  go_wp2
  go_ret
  exact ⟨rfl, b1⟩

set_option maxRecDepth 100000 in
set_option maxHeartbeats 2000000 in
theorem has_any (l : List Nat) (hl : l.length ≤ 9223372036854775807) (n : Nat) (v : Value) (w : World) (hv : Kit.Rd w v (nums l)) :
    Calls Try.prog 20 #[v, .int .u64 (n : Int)] w fun e w' => e = .returned (.bool (decide (n ∈ l))) ∧ Below w.heap.size w w' := by
  obtain ⟨a, cap, rfl⟩ := hv.form
  have hll : (nums l).length = l.length := by simp [nums]
  rw [hll] at hv ⊢
  clear hll
  go_enter Try.func20, Try.ntmps20
  go_wp2
  go_loopw [5] (fun vi wr => ∃ k : Nat, k ≤ l.length ∧ vi = .int .i64 (k : Int) ∧ Hid (n ∉ l.take k) ∧ Below w.heap.size w wr) (fun vi _ => l.length - (intOf vi).toNat)
  case atStart => exact ⟨0, Nat.zero_le _, rfl, Lib.hid (by simp), Below.refl _ _⟩
  case round =>
    obtain ⟨k, hk, rfl, HN, hB⟩ := hrel
    by_cases hlt : k < l.length
    · have hlt2 : (k : Int) < (l.length : Int) := by omega
      obtain ⟨ad, rfl, t0⟩ := (hv.below hB).at_ (k := k) (u := .int .u64 (l[k] : Nat)) (by simp [nums, hlt])
      by_cases he : l[k] = n
      · have hd : Hid (decide (n ∈ l) = true) := Lib.hid (by rw [decide_eq_true_iff, ← he]; exact List.getElem_mem hlt)
        have he2 : (((l[k] : Nat) : Int) == (n : Int)) = true := by rw [he]; simp
        clear he
        generalize l[k] = x at *
        go_wp2
        go_ret
        exact ⟨by rw [hd.out]; rfl, hB⟩
      · have HN2 : Hid (n ∉ l.take (k + 1)) := Lib.hid (by
          rw [List.take_succ_eq_append_getElem hlt, List.mem_append, List.mem_singleton]
          rintro (h | h)
          · exact HN.out h
          · exact he h.symm)
        have he2 : (((l[k] : Nat) : Int) == (n : Int)) = false := by rw [beq_eq_false_iff_ne]; omega
        clear he
        generalize l[k] = x at *
        go_wp2
        go_roundw
        case rel => exact ⟨k + 1, hlt, by go_num, HN2, hB⟩
        case measure =>
          have l5 : (intOf (.int .i64 ((k : Int) + 1))).toNat = k + 1 := rfl
          have l6 : (intOf (.int .i64 (k : Int))).toNat = k := rfl
          rw [l5, l6]
          exact Nat.sub_lt_sub_left hlt (Nat.lt_succ_self k)
    · obtain rfl : k = l.length := by omega
      have hd : Hid (decide (n ∈ l) = false) := Lib.hid (by rw [decide_eq_false_iff_not]; have := HN.out; rwa [List.take_length] at this)
      have hd1 : ¬ (l.length : Int) < (l.length : Int) := by omega
      clear hlt
      go_wp2
      go_ret
      exact ⟨by rw [hd.out]; rfl, hB⟩
end Ses
end Go.Proofs.Ytjjpmmokgcfkdaa
