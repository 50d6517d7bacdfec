/-
  The document's Frame, Unframe.
-/
import Derived.Test.YtolanlnabdbolaaSltC
import Derived.Deep.RegionHeld3
namespace Go.Proofs.Ytolanlnabdbolaa
open Go.RowKit
namespace Slt
open Dsk

theorem zero_first {s : ByteArray} (hs : 8 ≤ s.size) (h : vb (s.extract 0 8) = 0) : s.extract 0 8 = zeros 8 := by
  have hl : (s.extract 0 8).data.toList.length = 8 := by rw [Kit.size_list, ByteArray.size_extract]; omega
  apply bytes_inj
  rw [val_zero h, hl]
  rfl
theorem two_bytes {s : ByteArray} (hs : 10 ≤ s.size) : vb (s.extract 8 10) = 256 * s[8].toNat + s[9].toNat := by
  have e : (s.extract 8 10).data.toList = [s[8], s[9]] := by
    rw [ext_list, Kit.drop_byte s 8 (by omega), Kit.drop_byte s 9 (by omega)]
    rfl
  unfold vb
  rw [e]
  simp [val, Nat.mul_comm]

set_option maxRecDepth 100000 in
set_option maxHeartbeats 4000000 in
theorem rUnframe_any (s : ByteArray) (w : World) :
    Calls Try.prog 11 #[.string s] w fun e w' => e = .returned (.tuple #[.int .u64 ((un s).1 : Int), .string (un s).2.1, .bool (un s).2.2]) ∧ Below w.heap.size w w' := by
  by_cases h1 : s.size < 32
  · have e : un s = (0, ⟨#[]⟩, false) := un_not (by unfold framed; rw [decide_eq_false_iff_not]; exact fun h => by omega)
    rw [e]
    have g1 : decide ((s.size : Int) < 32) = true := by rw [decide_eq_true_iff]; omega
    go_enter Try.func11, Try.ntmps11
    go_wp2_with fail
    go_quiet (fail)
    go_wp2
    go_ret3
    exact ⟨rfl, Dsk.below_drewN _ _⟩
  · have g1 : decide ((s.size : Int) < 32) = false := by rw [decide_eq_false_iff_not]; omega
    by_cases h2 : s.size > 512
    · have e : un s = (0, ⟨#[]⟩, false) := un_not (by unfold framed; rw [decide_eq_false_iff_not]; exact fun h => by omega)
      rw [e]
      have g2 : decide ((s.size : Int) > 512) = true := by rw [decide_eq_true_iff]; omega
      go_enter Try.func11, Try.ntmps11
      go_wp2_with fail
      go_quiet (fail)
      go_wp2
      go_ret3
      exact ⟨rfl, Dsk.below_drewN _ _⟩
    · have g2 : decide ((s.size : Int) > 512) = false := by rw [decide_eq_false_iff_not]; omega
      have z1 : 32 ≤ s.size := by omega
      have z2 : s.size ≤ 512 := by omega
      have i1 : (8 : Int) ≤ (s.size : Int) := by omega
      have i2 : IntKind.i64.wrap ((s.size : Int) - 8) = (s.size : Int) - 8 := by rw [IntKind.wrap_i64]; omega
      have i3 : (0 : Int) ≤ (s.size : Int) - 8 := by omega
      have i4 : (s.size : Int) - 8 ≤ (s.size : Int) := by omega
      have i5 : ((s.size : Int) - 8).toNat = s.size - 8 := by omega
      by_cases he : first s = final s
      · have hl : (s.extract 0 8).toList = (s.extract (s.size - 8) s.size).toList := congrArg ByteArray.toList he
        have HZ := fun w => rZeros_any 8 (by omega) w
        by_cases h0 : vb (s.extract 0 8) = 0
        · have e : un s = (0, ⟨#[]⟩, false) := un_not (by unfold framed; rw [decide_eq_false_iff_not]; exact fun h => h.2.2.2.1 h0)
          rw [e]
          have hz : (s.extract (s.size - 8) s.size).toList = (zeros 8).toList := by rw [← hl, zero_first (by omega) h0]
          clear e h0
          generalize zeros 8 = z8 at *
          clear he
          go_enter Try.func11, Try.ntmps11
          go_upto_region 1 with (fail)
          go_region_held3 (fun w' => Below w.heap.size w w')
            (first | exact (Below.refl _ _).drew | exact Below.trans (by assumption) (hb.mono (Below.size (by assumption))))
            (first
              | (go_at_call 13; refine (HZ _).mono ?_; rintro e w' ⟨rfl, hb⟩))
          have hB : Below w.heap.size w w' := by assumption
          clear hb HZ hl
          go_wp2
          go_ret3
          exact ⟨rfl, hB⟩
        · have hz : ((s.extract (s.size - 8) s.size).toList == (zeros 8).toList) = false := by
            rw [beq_eq_false_iff_ne, ← hl]
            intro h
            apply h0
            rw [ByteArray.toList_eq, ByteArray.toList_eq] at h
            rw [bytes_inj h]
            exact vb_zeros 8
          by_cases h3 : vb (s.extract 8 10) ≤ s.size - 18
          · have e : un s = (vb (s.extract 0 8), s.extract 10 (10 + vb (s.extract 8 10)), true) := un_is (by unfold framed; rw [decide_eq_true_iff]; exact ⟨z1, z2, he, h0, h3⟩)
            rw [e]
            clear e h0
            have hv8 : val ((s.data.toList.take 8)) = vb (s.extract 0 8) := by unfold vb; rw [ext_list, List.drop_zero]
            have H8 := Lib.hid hv8
            have hTB := two_bytes (s := s) (by omega)
            have HT := Lib.hid hTB
            have hb8 : s[8].toNat < 256 := s[8].toNat_lt
            have hb9 : s[9].toNat < 256 := s[9].toNat_lt
            clear hv8 hTB
            generalize zeros 8 = z8 at *
            clear he
            go_enter Try.func11, Try.ntmps11
            go_upto_region 1 with (fail)
            go_region_held3 (fun w' => Below w.heap.size w w')
              (first | exact (Below.refl _ _).drew | exact Below.trans (by assumption) (hb.mono (Below.size (by assumption))))
              (first
                | (go_at_call 13; refine (HZ _).mono ?_; rintro e w' ⟨rfl, hb⟩))
            have hB : Below w.heap.size w w' := by assumption
            clear hb HZ hl
            go_wp2
            go_loopw [5, 6] (fun vn vi wr => ∃ i : Nat, i ≤ 8 ∧ vi = .int .i64 (i : Int) ∧ vn = .int .u64 (val (s.data.toList.take i) : Int) ∧ wr = w')
              (fun _ vi _ => 8 - (intOf vi).toNat)
            case atStart => exact ⟨0, Nat.zero_le _, rfl, rfl, rfl⟩
            case round =>
              obtain ⟨i, hi, rfl, rfl, rfl⟩ := hrel
              by_cases hlt : i < 8
              · have l1 : (i : Int) < 8 := by omega
                have hlen : (s.data.toList.take i).length = i := by rw [List.length_take, Kit.size_list]; omega
                have hv := val_le hlen (by omega)
                have hlts : i < s.size := by omega
                have hb : s[i].toNat < 256 := s[i].toNat_lt
                have hnx : val (s.data.toList.take (i + 1)) = val (s.data.toList.take i) * 256 + s[i].toNat := by
                  rw [List.take_add_one, List.getElem?_eq_getElem (by rw [Kit.size_list]; exact hlts)]
                  exact val_snoc _ _
                have HN := Lib.hid hnx
                clear hnx hlen
                generalize val (s.data.toList.take i) = v at *
                go_wp2
                go_roundw
                case rel => exact ⟨i + 1, hlt, rfl, by rw [HN.out]; congr 1; omega, trivial⟩
                case measure =>
                  have l5 : (intOf (.int .i64 ((i : Int) + 1))).toNat = i + 1 := rfl
                  have l6 : (intOf (.int .i64 (i : Int))).toNat = i := rfl
                  rw [l5, l6]
                  exact Nat.sub_lt_sub_left hlt (Nat.lt_succ_self i)
              · obtain rfl : i = 8 := by omega
                have l1 : ¬ ((8 : Nat) : Int) < 8 := by decide
                rw [H8.out]
                have q8 : (8 : Int) < (s.size : Int) := by omega
                have q8n : 8 < s.size := by omega
                have q9 : (9 : Int) < (s.size : Int) := by omega
                have q9n : 9 < s.size := by omega
                have l3 : 256 * (s[8].toNat : Int) + (s[9].toNat : Int) ≤ (s.size : Int) - 18 := by have := HT.out; omega
                have l4 : ¬ ((s.size : Int) - 18 < 256 * (s[8].toNat : Int) + (s[9].toNat : Int)) := by omega
                have g3 : decide (256 * (s[8].toNat : Int) + (s[9].toNat : Int) > (s.size : Int) - 18) = false := by rw [decide_eq_false_iff_not]; omega
                have l5 : (10 : Int) ≤ 10 + (256 * (s[8].toNat : Int) + (s[9].toNat : Int)) := by omega
                have l6 : 10 + (256 * (s[8].toNat : Int) + (s[9].toNat : Int)) ≤ (s.size : Int) := by omega
                go_wp2_with fail
                go_quiet (fail)
                have hB := hB.trans ((Dsk.below_drewN wr nq).mono hB.size)
                go_wp2_with fail
                go_quiet (fail)
                have hB := hB.trans ((Dsk.below_drewN _ nq).mono hB.size)
                go_wp2
                go_ret3
                exact ⟨by rw [HT.out]; rfl, hB⟩
          · have e : un s = (0, ⟨#[]⟩, false) := un_not (by unfold framed; rw [decide_eq_false_iff_not]; exact fun h => h3 h.2.2.2.2)
            rw [e]
            clear e h0
            have hv8 : val ((s.data.toList.take 8)) = vb (s.extract 0 8) := by unfold vb; rw [ext_list, List.drop_zero]
            have H8 := Lib.hid hv8
            have hTB := two_bytes (s := s) (by omega)
            have HT := Lib.hid hTB
            have hb8 : s[8].toNat < 256 := s[8].toNat_lt
            have hb9 : s[9].toNat < 256 := s[9].toNat_lt
            clear hv8 hTB
            generalize zeros 8 = z8 at *
            clear he
            go_enter Try.func11, Try.ntmps11
            go_upto_region 1 with (fail)
            go_region_held3 (fun w' => Below w.heap.size w w')
              (first | exact (Below.refl _ _).drew | exact Below.trans (by assumption) (hb.mono (Below.size (by assumption))))
              (first
                | (go_at_call 13; refine (HZ _).mono ?_; rintro e w' ⟨rfl, hb⟩))
            have hB : Below w.heap.size w w' := by assumption
            clear hb HZ hl
            go_wp2
            go_loopw [5, 6] (fun vn vi wr => ∃ i : Nat, i ≤ 8 ∧ vi = .int .i64 (i : Int) ∧ vn = .int .u64 (val (s.data.toList.take i) : Int) ∧ wr = w')
              (fun _ vi _ => 8 - (intOf vi).toNat)
            case atStart => exact ⟨0, Nat.zero_le _, rfl, rfl, rfl⟩
            case round =>
              obtain ⟨i, hi, rfl, rfl, rfl⟩ := hrel
              by_cases hlt : i < 8
              · have l1 : (i : Int) < 8 := by omega
                have hlen : (s.data.toList.take i).length = i := by rw [List.length_take, Kit.size_list]; omega
                have hv := val_le hlen (by omega)
                have hlts : i < s.size := by omega
                have hb : s[i].toNat < 256 := s[i].toNat_lt
                have hnx : val (s.data.toList.take (i + 1)) = val (s.data.toList.take i) * 256 + s[i].toNat := by
                  rw [List.take_add_one, List.getElem?_eq_getElem (by rw [Kit.size_list]; exact hlts)]
                  exact val_snoc _ _
                have HN := Lib.hid hnx
                clear hnx hlen
                generalize val (s.data.toList.take i) = v at *
                go_wp2
                go_roundw
                case rel => exact ⟨i + 1, hlt, rfl, by rw [HN.out]; congr 1; omega, trivial⟩
                case measure =>
                  have l5 : (intOf (.int .i64 ((i : Int) + 1))).toNat = i + 1 := rfl
                  have l6 : (intOf (.int .i64 (i : Int))).toNat = i := rfl
                  rw [l5, l6]
                  exact Nat.sub_lt_sub_left hlt (Nat.lt_succ_self i)
              · obtain rfl : i = 8 := by omega
                have l1 : ¬ ((8 : Nat) : Int) < 8 := by decide
                rw [H8.out]
                have q8 : (8 : Int) < (s.size : Int) := by omega
                have q8n : 8 < s.size := by omega
                have q9 : (9 : Int) < (s.size : Int) := by omega
                have q9n : 9 < s.size := by omega
                have l3 : ¬ 256 * (s[8].toNat : Int) + (s[9].toNat : Int) ≤ (s.size : Int) - 18 := by have := HT.out; omega
                have l4 : (s.size : Int) - 18 < 256 * (s[8].toNat : Int) + (s[9].toNat : Int) := by omega
                have g3 : decide (256 * (s[8].toNat : Int) + (s[9].toNat : Int) > (s.size : Int) - 18) = true := by rw [decide_eq_true_iff]; omega
                go_wp2_with fail
                go_quiet (fail)
                have hB := hB.trans ((Dsk.below_drewN wr nq).mono hB.size)
                go_wp2
                go_ret3
                exact ⟨rfl, hB⟩
      · have e : un s = (0, ⟨#[]⟩, false) := un_not (by unfold framed; rw [decide_eq_false_iff_not]; exact fun h => he h.2.2.1)
        rw [e]
        have hl : ((s.extract 0 8).toList == (s.extract (s.size - 8) s.size).toList) = false := by
          rw [beq_eq_false_iff_ne]
          intro h
          apply he
          rw [ByteArray.toList_eq, ByteArray.toList_eq] at h
          exact bytes_inj h
        clear e he
        go_enter Try.func11, Try.ntmps11
        go_wp2_with fail
        go_quiet (fail)
        go_wp2
        go_ret3
        exact ⟨rfl, Dsk.below_drewN _ _⟩
end Slt
end Go.Proofs.Ytolanlnabdbolaa
