/-
  Package slot: Unframe.
-/
import Derived.Test.YtgjejofdmfpdjaaSltB
import Derived.Test.YtgjejofdmfpdjaaDskP
import Derived.BigQuiet
import Derived.Deep.QuietTactic
namespace Go.Proofs.Ytgjejofdmfpdjaa
open Go.RowKit
namespace Slt
open Dsk

theorem isSize_drawn (z : Int) (n : Nat) (w : World) :
    Calls Try.prog 40 #[.int .i64 z] (w.drewN n) fun e w' => e = .returned (.bool (decide (32 ≤ z ∧ z ≤ 512))) ∧ w' = w.drewN n := isSize_same z _

set_option maxRecDepth 100000 in
set_option maxHeartbeats 4000000 in
theorem unframe_any (s : ByteArray) (w : World) :
    Calls Try.prog 56 #[.string s] w fun e w' => e = .returned (.tuple #[.int .u64 ((un s).1 : Int), .string (un s).2.1, .bool (un s).2.2]) ∧ Below w.heap.size w w' := by
  have HS := fun n => isSize_drawn (s.size : Int) n w
  by_cases hz : 32 ≤ s.size ∧ s.size ≤ 512
  · rw [decide_eq_true (show 32 ≤ (s.size : Int) ∧ (s.size : Int) ≤ 512 by omega)] at HS
    obtain ⟨hz1, hz2⟩ := hz
    by_cases he : first s = final s
    · have hl : (s.extract 0 8).toList = (s.extract (s.size - 8) s.size).toList := congrArg ByteArray.toList he
      have hf8 : (s.extract 0 8).size ≤ 8 := by rw [ByteArray.size_extract]; omega
      have hl8 : (s.extract 8 10).size ≤ 8 := by rw [ByteArray.size_extract]; omega
      have HT := fun (a : ByteArray) (ha : a.size ≤ 8) (w : World) => take_any a ha w
      have hn2 : vb (s.extract 0 8) < 18446744073709551616 := by
        have := vb_lt (s := s.extract 0 8) (k := 8) (by rw [ByteArray.size_extract]; omega)
        omega
      have hm2 : vb (s.extract 8 10) < 65536 := by
        have := vb_lt (s := s.extract 8 10) (k := 2) (by rw [ByteArray.size_extract]; omega)
        omega
      have ew : ((s.size : Int) - 18) = ((s.size - 18 : Nat) : Int) := by omega
      by_cases h0 : vb (s.extract 0 8) = 0
      · have e : un s = (0, ⟨#[]⟩, false) := un_not (by unfold framed; rw [decide_eq_false_iff_not]; exact fun h => h.2.2.2.1 h0)
        rw [e]
        clear e
        clear he
        go_enter Try.func56, Try.ntmps56
        go_wp2_with fail
        go_quiet (first | (go_at_call 40; exact Calls.quiet_of_same (HS _)))
        have hb := Dsk.below_drewN w nq
        clear HS
        generalize w.drewN nq = wx at *
        go_wp2_with fail
        go_quiet (first | (go_at_call 65; exact Calls.quiet_of_same (HT _ (by assumption) _)))
        have hb := hb.trans ((Dsk.below_drewN wx nq).mono hb.size)
        clear HT hf8 hl8 hl
        generalize wx.drewN nq = wy at *
        have g0 : ((vb (s.extract 0 8) : Int) == 0) = true := by rw [h0]; rfl
        go_wp2
        go_ret3
        exact ⟨rfl, hb⟩
      · have g0 : ((vb (s.extract 0 8) : Int) == 0) = false := by rw [beq_eq_false_iff_ne]; omega
        by_cases h1 : vb (s.extract 8 10) ≤ s.size - 18
        · have e : un s = (vb (s.extract 0 8), s.extract 10 (10 + vb (s.extract 8 10)), true) := un_is (by unfold framed; rw [decide_eq_true_iff]; exact ⟨hz1, hz2, he, h0, h1⟩)
          have g1 : decide ((vb (s.extract 8 10) : Int) > (s.size : Int) - 18) = false := by rw [decide_eq_false_iff_not]; omega
          rw [e]
          clear e
          clear he
          go_enter Try.func56, Try.ntmps56
          go_wp2_with fail
          go_quiet (first | (go_at_call 40; exact Calls.quiet_of_same (HS _)))
          have hb := Dsk.below_drewN w nq
          clear HS
          generalize w.drewN nq = wx at *
          go_wp2_with fail
          go_quiet (first | (go_at_call 65; exact Calls.quiet_of_same (HT _ (by assumption) _)))
          have hb := hb.trans ((Dsk.below_drewN wx nq).mono hb.size)
          clear HT hf8 hl8 hl
          generalize wx.drewN nq = wy at *
          go_wp2_with fail
          go_quiet (fail)
          have hb := hb.trans ((Dsk.below_drewN wy nq).mono hb.size)
          go_wp2
          go_ret3
          exact ⟨rfl, hb⟩
        · have e : un s = (0, ⟨#[]⟩, false) := un_not (by unfold framed; rw [decide_eq_false_iff_not]; exact fun h => h1 h.2.2.2.2)
          have g1 : decide ((vb (s.extract 8 10) : Int) > (s.size : Int) - 18) = true := by rw [decide_eq_true_iff]; omega
          rw [e]
          clear e
          clear he
          go_enter Try.func56, Try.ntmps56
          go_wp2_with fail
          go_quiet (first | (go_at_call 40; exact Calls.quiet_of_same (HS _)))
          have hb := Dsk.below_drewN w nq
          clear HS
          generalize w.drewN nq = wx at *
          go_wp2_with fail
          go_quiet (first | (go_at_call 65; exact Calls.quiet_of_same (HT _ (by assumption) _)))
          have hb := hb.trans ((Dsk.below_drewN wx nq).mono hb.size)
          clear HT hf8 hl8 hl
          generalize wx.drewN nq = wy at *
          go_wp2
          go_ret3
          exact ⟨rfl, hb⟩
    · have e : un s = (0, ⟨#[]⟩, false) := un_not (by unfold framed; rw [decide_eq_false_iff_not]; exact fun h => he h.2.2.1)
      rw [e]
      have hl : ((s.extract 0 8).toList == (s.extract (s.size - 8) s.size).toList) = false := by
        rw [beq_eq_false_iff_ne]
        intro h
        apply he
        rw [ByteArray.toList_eq, ByteArray.toList_eq] at h
        exact bytes_inj h
      clear e he
      go_enter Try.func56, Try.ntmps56
      go_wp2_with fail
      go_quiet (first | (go_at_call 40; exact Calls.quiet_of_same (HS _)))
      go_wp2
      go_ret3
      exact ⟨rfl, Dsk.below_drewN _ _⟩
  · rw [decide_eq_false (show ¬ (32 ≤ (s.size : Int) ∧ (s.size : Int) ≤ 512) by omega)] at HS
    have e : un s = (0, ⟨#[]⟩, false) := un_not (by unfold framed; rw [decide_eq_false_iff_not]; exact fun h => hz ⟨h.1, h.2.1⟩)
    rw [e]
    go_enter Try.func56, Try.ntmps56
    go_wp2_with fail
    go_quiet (first | (go_at_call 40; exact Calls.quiet_of_same (HS _)))
    go_wp2
    go_ret3
    exact ⟨rfl, Dsk.below_drewN _ _⟩
end Slt
end Go.Proofs.Ytgjejofdmfpdjaa
