/-
  What the document's own TakeUint does.
-/
import Derived.Test.YtdiocnehejeldaaWalksC
import Derived.Deep.DeepCutAuto
import Derived.Deep.RegionWith
import Derived.RegionCalls
namespace Go.Proofs.Ytdiocnehejeldaa
open Go.RowKit
open Go.Lib (uvarint uvarint_small uvarint_big uvarint_length64 uvarint_pos byteCells)
open Leb (dec decFrom)

theorem rPutUint_int (x : Int) (h0 : 0 ≤ x) (hx : x ≤ 18446744073709551615) (w : World) :
    Calls Try.prog 29 #[.int .u64 x] w fun e w' => e = .returned (.string ⟨(uvarint x.toNat).toArray⟩) ∧ Below w.heap.size w w' := by
  obtain ⟨n, rfl⟩ := Int.eq_ofNat_of_zero_le h0
  exact rPutUint_any n (by omega) w

theorem toList_take (s : ByteArray) (k : Nat) : (s.extract 0 k).toList = s.data.toList.take k := by
  rw [Go.ByteArray.toList_eq, ByteArray.data_extract, Array.toList_extract, List.extract_eq_take_drop]
  rfl

theorem test_some {s : ByteArray} {x : Int} {N k : Nat} (hk : k + 1 ≤ s.size) (hd : dec s.data.toList = some (N, s.data.toList.drop (k + 1))) (hx : x.toNat = N) :
    (!(uvarint x.toNat == (s.extract 0 (k + 1)).toList)) = false := by
  have h1 := (Leb.dec_some hd).1
  have hl : s.data.toList.length = s.size := Kit.size_list s
  rw [toList_take, hx]
  have h2 : s.data.toList.take (k + 1) = uvarint N := by
    have h3 := congrArg List.length h1
    rw [List.length_append, List.length_drop, hl] at h3
    have h4 : (uvarint N).length = k + 1 := by omega
    conv => lhs; rw [h1, ← h4, List.take_left]
  rw [h2]
  simp

theorem test_noneN {s : ByteArray} {x k : Nat} (hd : dec s.data.toList = none) (hx : x < 18446744073709551616) :
    (!(uvarint x == (s.extract 0 (k + 1)).toList)) = true := by
  rw [toList_take]
  simp only [Bool.not_eq_true', beq_eq_false_iff_ne, ne_eq]
  intro h
  have h1 := Leb.dec_put hx (s.data.toList.drop (k + 1))
  rw [h, List.take_append_drop, hd] at h1
  cases h1

theorem test_none {s : ByteArray} {x : Int} {k : Nat} (hd : dec s.data.toList = none) (h0 : 0 ≤ x) (hx : x ≤ 18446744073709551615) :
    (!(uvarint x.toNat == (s.extract 0 (k + 1)).toList)) = true := by
  rw [toList_take]
  simp only [Bool.not_eq_true', beq_eq_false_iff_ne, ne_eq]
  intro h
  have h1 := Leb.dec_put (x := x.toNat) (by omega) (s.data.toList.drop (k + 1))
  rw [h, List.take_append_drop, hd] at h1
  cases h1

theorem u64_lo (x : Int) : 0 ≤ IntKind.u64.wrap x := (wrap_within .u64 x).1
theorem u64_hi (x : Int) : IntKind.u64.wrap x ≤ 18446744073709551615 := (wrap_within .u64 x).2

/-- What holds of the loop's sum z and its factor m behind k bytes. -/
def SofarR (l : List UInt8) (k : Nat) (z m : Int) : Prop :=
  0 ≤ z ∧ z ≤ 18446744073709551615 ∧ ∃ acc : Nat, (k ≤ 9 → z = acc ∧ acc < 128 ^ k ∧ m = ((128 ^ k : Nat) : Int)) ∧ Hid (dec l = decFrom k acc (l.drop k))

set_option maxHeartbeats 4000000 in
set_option maxRecDepth 100000 in
theorem rTakeUint_any (s : ByteArray) (hs : s.size ≤ 9223372036854775807) (w : World) :
    Calls Try.prog 27 #[.string s] w fun e w' => e = .returned (uintRes (dec s.data.toList)) ∧ Below w.heap.size w w' := by
  go_enter Try.func27, Try.ntmps27
  go_wp2
  go_loopw [5, 6, 7] (fun vn vm vi wr => ∃ (k : Nat) (z m : Int), vi = .int .i64 k ∧ vn = .int .u64 z ∧ vm = .int .u64 m ∧ k ≤ 10 ∧ k ≤ s.size ∧ SofarR s.data.toList k z m ∧ Below w.heap.size w wr)
    (fun _ _ vi _ => s.size - (intOf vi).toNat)
  case atStart => exact ⟨0, 0, 1, rfl, rfl, rfl, by omega, by omega, ⟨by omega, by omega, 0, fun _ => ⟨rfl, by decide, rfl⟩, rfl⟩, Below.refl _ _⟩
  case round =>
    obtain ⟨k, z, m, rfl, rfl, rfl, hk10, hkn, ⟨hz0, hz1, acc, hacc, Hdec⟩, hb0⟩ := hrel
    by_cases hk : k < s.size
    · have hdec := Hdec.out
      rw [Kit.drop_byte s k hk] at hdec
      clear Hdec
      have hks : k = 0 ∨ k = 1 ∨ k = 2 ∨ k = 3 ∨ k = 4 ∨ k = 5 ∨ k = 6 ∨ k = 7 ∨ k = 8 ∨ k = 9 ∨ k = 10 := by omega
      rcases hks with rfl | rfl | rfl | rfl | rfl | rfl | rfl | rfl | rfl | rfl | rfl
      · have Hr := Lib.hid hdec
        clear hdec
        obtain ⟨rfl, haccM, rfl⟩ := hacc (by omega)
        have hc256 : s[0].toNat < 256 := s[0].toNat_lt
        have e1 : (128 : Nat) ^ 0 = 1 := by decide
        rw [e1] at haccM ⊢
        clear e1 hacc
        have hsl : (1 : Int) ≤ (s.size : Int) := by omega
        have hw2 : IntKind.i64.wrap 1 = 1 := by decide
        by_cases h128 : 128 ≤ s[0].toNat
        · have Hs := Lib.hid (Leb.step_more (acc := acc) (r := s.data.toList.drop (0 + 1)) (show 128 ^ 0 = 1 by decide) (by omega) h128)
          go_wp2
          go_roundw
          case rel =>
            have e2 : (128 : Nat) ^ 1 = 128 := by decide
            refine ⟨1, _, _, rfl, rfl, rfl, by omega, by omega, ⟨by omega, by omega, acc + s[0].toNat % 128 * 1, fun _ => ⟨by omega, by rw [e2]; omega, by rw [e2]; rfl⟩, Lib.hid (Hr.out.trans Hs.out)⟩, hb0⟩
          case measure => simp [intOf]; omega
        · have Hs := Lib.hid (Leb.step_end (k := 0) (acc := acc) (r := s.data.toList.drop (0 + 1)) (show 128 ^ 0 = 1 by decide) (by omega) (show s[0].toNat < 128 by omega) (by omega))
          go_upto_region 10 with (fail)
          go_cut [39] (fun c wx => c = .bool false ∧ Below w.heap.size w wx)
          case first =>
            go_region_with ((go_at_call 29; refine (rPutUint_int _ ?_ ?_ _).mono ?_; (omega); (omega); rintro e w' ⟨rfl, hb⟩))
            all_goals (go_wp2_with fail)
            all_goals go_meet
            all_goals (refine ⟨congrArg Value.bool (test_some (k := 0) (by omega) (Hr.out.trans Hs.out) ?_), hb0.drew.trans (hb.mono hb0.drew.size)⟩)
            all_goals omega
          case rest =>
            obtain ⟨rfl, hbc⟩ := hcut
            go_wp2
            go_quiet (fail)
            go_wp2
            go_ret3
            refine ⟨?_, below_drewN hbc _⟩
            rw [Hr.out, Hs.out]
            refine ret_some ?_ (Kit.extract_drop s 1)
            omega
      · have Hr := Lib.hid hdec
        clear hdec
        obtain ⟨rfl, haccM, rfl⟩ := hacc (by omega)
        have hc256 : s[1].toNat < 256 := s[1].toNat_lt
        have e1 : (128 : Nat) ^ 1 = 128 := by decide
        rw [e1] at haccM ⊢
        clear e1 hacc
        have hsl : (2 : Int) ≤ (s.size : Int) := by omega
        have hw2 : IntKind.i64.wrap 2 = 2 := by decide
        by_cases h128 : 128 ≤ s[1].toNat
        · have Hs := Lib.hid (Leb.step_more (acc := acc) (r := s.data.toList.drop (1 + 1)) (show 128 ^ 1 = 128 by decide) (by omega) h128)
          go_wp2
          go_roundw
          case rel =>
            have e2 : (128 : Nat) ^ 2 = 16384 := by decide
            refine ⟨2, _, _, rfl, rfl, rfl, by omega, by omega, ⟨by omega, by omega, acc + s[1].toNat % 128 * 128, fun _ => ⟨by omega, by rw [e2]; omega, by rw [e2]; rfl⟩, Lib.hid (Hr.out.trans Hs.out)⟩, hb0⟩
          case measure => simp [intOf]; omega
        · by_cases h0 : s[1].toNat = 0
          · have Hs := Lib.hid (Leb.step_none (k := 1) (acc := acc) (r := s.data.toList.drop (1 + 1)) (by omega) (show s[1].toNat < 128 by omega) (by omega))
            go_upto_region 10 with (fail)
            go_cut [39] (fun c wx => c = .bool true ∧ Below w.heap.size w wx)
            case first =>
              go_region_with ((go_at_call 29; refine (rPutUint_int _ ?_ ?_ _).mono ?_; (omega); (omega); rintro e w' ⟨rfl, hb⟩))
              all_goals (go_wp2_with fail)
              all_goals go_meet
              all_goals (refine ⟨congrArg Value.bool (test_noneN (k := 1) (Hr.out.trans Hs.out) ?_), hb0.drew.trans (hb.mono hb0.drew.size)⟩)
              all_goals omega
            case rest =>
              obtain ⟨rfl, hbc⟩ := hcut
              go_wp2
              go_ret3
              exact ⟨by rw [Hr.out, Hs.out]; rfl, hbc⟩
          · have Hs := Lib.hid (Leb.step_end (k := 1) (acc := acc) (r := s.data.toList.drop (1 + 1)) (show 128 ^ 1 = 128 by decide) (by omega) (show s[1].toNat < 128 by omega) (by omega))
            go_upto_region 10 with (fail)
            go_cut [39] (fun c wx => c = .bool false ∧ Below w.heap.size w wx)
            case first =>
              go_region_with ((go_at_call 29; refine (rPutUint_int _ ?_ ?_ _).mono ?_; (omega); (omega); rintro e w' ⟨rfl, hb⟩))
              all_goals (go_wp2_with fail)
              all_goals go_meet
              all_goals (refine ⟨congrArg Value.bool (test_some (k := 1) (by omega) (Hr.out.trans Hs.out) ?_), hb0.drew.trans (hb.mono hb0.drew.size)⟩)
              all_goals omega
            case rest =>
              obtain ⟨rfl, hbc⟩ := hcut
              go_wp2
              go_quiet (fail)
              go_wp2
              go_ret3
              refine ⟨?_, below_drewN hbc _⟩
              rw [Hr.out, Hs.out]
              refine ret_some ?_ (Kit.extract_drop s 2)
              omega
      · have Hr := Lib.hid hdec
        clear hdec
        obtain ⟨rfl, haccM, rfl⟩ := hacc (by omega)
        have hc256 : s[2].toNat < 256 := s[2].toNat_lt
        have e1 : (128 : Nat) ^ 2 = 16384 := by decide
        rw [e1] at haccM ⊢
        clear e1 hacc
        have hsl : (3 : Int) ≤ (s.size : Int) := by omega
        have hw2 : IntKind.i64.wrap 3 = 3 := by decide
        by_cases h128 : 128 ≤ s[2].toNat
        · have Hs := Lib.hid (Leb.step_more (acc := acc) (r := s.data.toList.drop (2 + 1)) (show 128 ^ 2 = 16384 by decide) (by omega) h128)
          go_wp2
          go_roundw
          case rel =>
            have e2 : (128 : Nat) ^ 3 = 2097152 := by decide
            refine ⟨3, _, _, rfl, rfl, rfl, by omega, by omega, ⟨by omega, by omega, acc + s[2].toNat % 128 * 16384, fun _ => ⟨by omega, by rw [e2]; omega, by rw [e2]; rfl⟩, Lib.hid (Hr.out.trans Hs.out)⟩, hb0⟩
          case measure => simp [intOf]; omega
        · by_cases h0 : s[2].toNat = 0
          · have Hs := Lib.hid (Leb.step_none (k := 2) (acc := acc) (r := s.data.toList.drop (2 + 1)) (by omega) (show s[2].toNat < 128 by omega) (by omega))
            go_upto_region 10 with (fail)
            go_cut [39] (fun c wx => c = .bool true ∧ Below w.heap.size w wx)
            case first =>
              go_region_with ((go_at_call 29; refine (rPutUint_int _ ?_ ?_ _).mono ?_; (omega); (omega); rintro e w' ⟨rfl, hb⟩))
              all_goals (go_wp2_with fail)
              all_goals go_meet
              all_goals (refine ⟨congrArg Value.bool (test_noneN (k := 2) (Hr.out.trans Hs.out) ?_), hb0.drew.trans (hb.mono hb0.drew.size)⟩)
              all_goals omega
            case rest =>
              obtain ⟨rfl, hbc⟩ := hcut
              go_wp2
              go_ret3
              exact ⟨by rw [Hr.out, Hs.out]; rfl, hbc⟩
          · have Hs := Lib.hid (Leb.step_end (k := 2) (acc := acc) (r := s.data.toList.drop (2 + 1)) (show 128 ^ 2 = 16384 by decide) (by omega) (show s[2].toNat < 128 by omega) (by omega))
            go_upto_region 10 with (fail)
            go_cut [39] (fun c wx => c = .bool false ∧ Below w.heap.size w wx)
            case first =>
              go_region_with ((go_at_call 29; refine (rPutUint_int _ ?_ ?_ _).mono ?_; (omega); (omega); rintro e w' ⟨rfl, hb⟩))
              all_goals (go_wp2_with fail)
              all_goals go_meet
              all_goals (refine ⟨congrArg Value.bool (test_some (k := 2) (by omega) (Hr.out.trans Hs.out) ?_), hb0.drew.trans (hb.mono hb0.drew.size)⟩)
              all_goals omega
            case rest =>
              obtain ⟨rfl, hbc⟩ := hcut
              go_wp2
              go_quiet (fail)
              go_wp2
              go_ret3
              refine ⟨?_, below_drewN hbc _⟩
              rw [Hr.out, Hs.out]
              refine ret_some ?_ (Kit.extract_drop s 3)
              omega
      · have Hr := Lib.hid hdec
        clear hdec
        obtain ⟨rfl, haccM, rfl⟩ := hacc (by omega)
        have hc256 : s[3].toNat < 256 := s[3].toNat_lt
        have e1 : (128 : Nat) ^ 3 = 2097152 := by decide
        rw [e1] at haccM ⊢
        clear e1 hacc
        have hsl : (4 : Int) ≤ (s.size : Int) := by omega
        have hw2 : IntKind.i64.wrap 4 = 4 := by decide
        by_cases h128 : 128 ≤ s[3].toNat
        · have Hs := Lib.hid (Leb.step_more (acc := acc) (r := s.data.toList.drop (3 + 1)) (show 128 ^ 3 = 2097152 by decide) (by omega) h128)
          go_wp2
          go_roundw
          case rel =>
            have e2 : (128 : Nat) ^ 4 = 268435456 := by decide
            refine ⟨4, _, _, rfl, rfl, rfl, by omega, by omega, ⟨by omega, by omega, acc + s[3].toNat % 128 * 2097152, fun _ => ⟨by omega, by rw [e2]; omega, by rw [e2]; rfl⟩, Lib.hid (Hr.out.trans Hs.out)⟩, hb0⟩
          case measure => simp [intOf]; omega
        · by_cases h0 : s[3].toNat = 0
          · have Hs := Lib.hid (Leb.step_none (k := 3) (acc := acc) (r := s.data.toList.drop (3 + 1)) (by omega) (show s[3].toNat < 128 by omega) (by omega))
            go_upto_region 10 with (fail)
            go_cut [39] (fun c wx => c = .bool true ∧ Below w.heap.size w wx)
            case first =>
              go_region_with ((go_at_call 29; refine (rPutUint_int _ ?_ ?_ _).mono ?_; (omega); (omega); rintro e w' ⟨rfl, hb⟩))
              all_goals (go_wp2_with fail)
              all_goals go_meet
              all_goals (refine ⟨congrArg Value.bool (test_noneN (k := 3) (Hr.out.trans Hs.out) ?_), hb0.drew.trans (hb.mono hb0.drew.size)⟩)
              all_goals omega
            case rest =>
              obtain ⟨rfl, hbc⟩ := hcut
              go_wp2
              go_ret3
              exact ⟨by rw [Hr.out, Hs.out]; rfl, hbc⟩
          · have Hs := Lib.hid (Leb.step_end (k := 3) (acc := acc) (r := s.data.toList.drop (3 + 1)) (show 128 ^ 3 = 2097152 by decide) (by omega) (show s[3].toNat < 128 by omega) (by omega))
            go_upto_region 10 with (fail)
            go_cut [39] (fun c wx => c = .bool false ∧ Below w.heap.size w wx)
            case first =>
              go_region_with ((go_at_call 29; refine (rPutUint_int _ ?_ ?_ _).mono ?_; (omega); (omega); rintro e w' ⟨rfl, hb⟩))
              all_goals (go_wp2_with fail)
              all_goals go_meet
              all_goals (refine ⟨congrArg Value.bool (test_some (k := 3) (by omega) (Hr.out.trans Hs.out) ?_), hb0.drew.trans (hb.mono hb0.drew.size)⟩)
              all_goals omega
            case rest =>
              obtain ⟨rfl, hbc⟩ := hcut
              go_wp2
              go_quiet (fail)
              go_wp2
              go_ret3
              refine ⟨?_, below_drewN hbc _⟩
              rw [Hr.out, Hs.out]
              refine ret_some ?_ (Kit.extract_drop s 4)
              omega
      · have Hr := Lib.hid hdec
        clear hdec
        obtain ⟨rfl, haccM, rfl⟩ := hacc (by omega)
        have hc256 : s[4].toNat < 256 := s[4].toNat_lt
        have e1 : (128 : Nat) ^ 4 = 268435456 := by decide
        rw [e1] at haccM ⊢
        clear e1 hacc
        have hsl : (5 : Int) ≤ (s.size : Int) := by omega
        have hw2 : IntKind.i64.wrap 5 = 5 := by decide
        by_cases h128 : 128 ≤ s[4].toNat
        · have Hs := Lib.hid (Leb.step_more (acc := acc) (r := s.data.toList.drop (4 + 1)) (show 128 ^ 4 = 268435456 by decide) (by omega) h128)
          go_wp2
          go_roundw
          case rel =>
            have e2 : (128 : Nat) ^ 5 = 34359738368 := by decide
            refine ⟨5, _, _, rfl, rfl, rfl, by omega, by omega, ⟨by omega, by omega, acc + s[4].toNat % 128 * 268435456, fun _ => ⟨by omega, by rw [e2]; omega, by rw [e2]; rfl⟩, Lib.hid (Hr.out.trans Hs.out)⟩, hb0⟩
          case measure => simp [intOf]; omega
        · by_cases h0 : s[4].toNat = 0
          · have Hs := Lib.hid (Leb.step_none (k := 4) (acc := acc) (r := s.data.toList.drop (4 + 1)) (by omega) (show s[4].toNat < 128 by omega) (by omega))
            go_upto_region 10 with (fail)
            go_cut [39] (fun c wx => c = .bool true ∧ Below w.heap.size w wx)
            case first =>
              go_region_with ((go_at_call 29; refine (rPutUint_int _ ?_ ?_ _).mono ?_; (omega); (omega); rintro e w' ⟨rfl, hb⟩))
              all_goals (go_wp2_with fail)
              all_goals go_meet
              all_goals (refine ⟨congrArg Value.bool (test_noneN (k := 4) (Hr.out.trans Hs.out) ?_), hb0.drew.trans (hb.mono hb0.drew.size)⟩)
              all_goals omega
            case rest =>
              obtain ⟨rfl, hbc⟩ := hcut
              go_wp2
              go_ret3
              exact ⟨by rw [Hr.out, Hs.out]; rfl, hbc⟩
          · have Hs := Lib.hid (Leb.step_end (k := 4) (acc := acc) (r := s.data.toList.drop (4 + 1)) (show 128 ^ 4 = 268435456 by decide) (by omega) (show s[4].toNat < 128 by omega) (by omega))
            go_upto_region 10 with (fail)
            go_cut [39] (fun c wx => c = .bool false ∧ Below w.heap.size w wx)
            case first =>
              go_region_with ((go_at_call 29; refine (rPutUint_int _ ?_ ?_ _).mono ?_; (omega); (omega); rintro e w' ⟨rfl, hb⟩))
              all_goals (go_wp2_with fail)
              all_goals go_meet
              all_goals (refine ⟨congrArg Value.bool (test_some (k := 4) (by omega) (Hr.out.trans Hs.out) ?_), hb0.drew.trans (hb.mono hb0.drew.size)⟩)
              all_goals omega
            case rest =>
              obtain ⟨rfl, hbc⟩ := hcut
              go_wp2
              go_quiet (fail)
              go_wp2
              go_ret3
              refine ⟨?_, below_drewN hbc _⟩
              rw [Hr.out, Hs.out]
              refine ret_some ?_ (Kit.extract_drop s 5)
              omega
      · have Hr := Lib.hid hdec
        clear hdec
        obtain ⟨rfl, haccM, rfl⟩ := hacc (by omega)
        have hc256 : s[5].toNat < 256 := s[5].toNat_lt
        have e1 : (128 : Nat) ^ 5 = 34359738368 := by decide
        rw [e1] at haccM ⊢
        clear e1 hacc
        have hsl : (6 : Int) ≤ (s.size : Int) := by omega
        have hw2 : IntKind.i64.wrap 6 = 6 := by decide
        by_cases h128 : 128 ≤ s[5].toNat
        · have Hs := Lib.hid (Leb.step_more (acc := acc) (r := s.data.toList.drop (5 + 1)) (show 128 ^ 5 = 34359738368 by decide) (by omega) h128)
          go_wp2
          go_roundw
          case rel =>
            have e2 : (128 : Nat) ^ 6 = 4398046511104 := by decide
            refine ⟨6, _, _, rfl, rfl, rfl, by omega, by omega, ⟨by omega, by omega, acc + s[5].toNat % 128 * 34359738368, fun _ => ⟨by omega, by rw [e2]; omega, by rw [e2]; rfl⟩, Lib.hid (Hr.out.trans Hs.out)⟩, hb0⟩
          case measure => simp [intOf]; omega
        · by_cases h0 : s[5].toNat = 0
          · have Hs := Lib.hid (Leb.step_none (k := 5) (acc := acc) (r := s.data.toList.drop (5 + 1)) (by omega) (show s[5].toNat < 128 by omega) (by omega))
            go_upto_region 10 with (fail)
            go_cut [39] (fun c wx => c = .bool true ∧ Below w.heap.size w wx)
            case first =>
              go_region_with ((go_at_call 29; refine (rPutUint_int _ ?_ ?_ _).mono ?_; (omega); (omega); rintro e w' ⟨rfl, hb⟩))
              all_goals (go_wp2_with fail)
              all_goals go_meet
              all_goals (refine ⟨congrArg Value.bool (test_noneN (k := 5) (Hr.out.trans Hs.out) ?_), hb0.drew.trans (hb.mono hb0.drew.size)⟩)
              all_goals omega
            case rest =>
              obtain ⟨rfl, hbc⟩ := hcut
              go_wp2
              go_ret3
              exact ⟨by rw [Hr.out, Hs.out]; rfl, hbc⟩
          · have Hs := Lib.hid (Leb.step_end (k := 5) (acc := acc) (r := s.data.toList.drop (5 + 1)) (show 128 ^ 5 = 34359738368 by decide) (by omega) (show s[5].toNat < 128 by omega) (by omega))
            go_upto_region 10 with (fail)
            go_cut [39] (fun c wx => c = .bool false ∧ Below w.heap.size w wx)
            case first =>
              go_region_with ((go_at_call 29; refine (rPutUint_int _ ?_ ?_ _).mono ?_; (omega); (omega); rintro e w' ⟨rfl, hb⟩))
              all_goals (go_wp2_with fail)
              all_goals go_meet
              all_goals (refine ⟨congrArg Value.bool (test_some (k := 5) (by omega) (Hr.out.trans Hs.out) ?_), hb0.drew.trans (hb.mono hb0.drew.size)⟩)
              all_goals omega
            case rest =>
              obtain ⟨rfl, hbc⟩ := hcut
              go_wp2
              go_quiet (fail)
              go_wp2
              go_ret3
              refine ⟨?_, below_drewN hbc _⟩
              rw [Hr.out, Hs.out]
              refine ret_some ?_ (Kit.extract_drop s 6)
              omega
      · have Hr := Lib.hid hdec
        clear hdec
        obtain ⟨rfl, haccM, rfl⟩ := hacc (by omega)
        have hc256 : s[6].toNat < 256 := s[6].toNat_lt
        have e1 : (128 : Nat) ^ 6 = 4398046511104 := by decide
        rw [e1] at haccM ⊢
        clear e1 hacc
        have hsl : (7 : Int) ≤ (s.size : Int) := by omega
        have hw2 : IntKind.i64.wrap 7 = 7 := by decide
        by_cases h128 : 128 ≤ s[6].toNat
        · have Hs := Lib.hid (Leb.step_more (acc := acc) (r := s.data.toList.drop (6 + 1)) (show 128 ^ 6 = 4398046511104 by decide) (by omega) h128)
          go_wp2
          go_roundw
          case rel =>
            have e2 : (128 : Nat) ^ 7 = 562949953421312 := by decide
            refine ⟨7, _, _, rfl, rfl, rfl, by omega, by omega, ⟨by omega, by omega, acc + s[6].toNat % 128 * 4398046511104, fun _ => ⟨by omega, by rw [e2]; omega, by rw [e2]; rfl⟩, Lib.hid (Hr.out.trans Hs.out)⟩, hb0⟩
          case measure => simp [intOf]; omega
        · by_cases h0 : s[6].toNat = 0
          · have Hs := Lib.hid (Leb.step_none (k := 6) (acc := acc) (r := s.data.toList.drop (6 + 1)) (by omega) (show s[6].toNat < 128 by omega) (by omega))
            go_upto_region 10 with (fail)
            go_cut [39] (fun c wx => c = .bool true ∧ Below w.heap.size w wx)
            case first =>
              go_region_with ((go_at_call 29; refine (rPutUint_int _ ?_ ?_ _).mono ?_; (omega); (omega); rintro e w' ⟨rfl, hb⟩))
              all_goals (go_wp2_with fail)
              all_goals go_meet
              all_goals (refine ⟨congrArg Value.bool (test_noneN (k := 6) (Hr.out.trans Hs.out) ?_), hb0.drew.trans (hb.mono hb0.drew.size)⟩)
              all_goals omega
            case rest =>
              obtain ⟨rfl, hbc⟩ := hcut
              go_wp2
              go_ret3
              exact ⟨by rw [Hr.out, Hs.out]; rfl, hbc⟩
          · have Hs := Lib.hid (Leb.step_end (k := 6) (acc := acc) (r := s.data.toList.drop (6 + 1)) (show 128 ^ 6 = 4398046511104 by decide) (by omega) (show s[6].toNat < 128 by omega) (by omega))
            go_upto_region 10 with (fail)
            go_cut [39] (fun c wx => c = .bool false ∧ Below w.heap.size w wx)
            case first =>
              go_region_with ((go_at_call 29; refine (rPutUint_int _ ?_ ?_ _).mono ?_; (omega); (omega); rintro e w' ⟨rfl, hb⟩))
              all_goals (go_wp2_with fail)
              all_goals go_meet
              all_goals (refine ⟨congrArg Value.bool (test_some (k := 6) (by omega) (Hr.out.trans Hs.out) ?_), hb0.drew.trans (hb.mono hb0.drew.size)⟩)
              all_goals omega
            case rest =>
              obtain ⟨rfl, hbc⟩ := hcut
              go_wp2
              go_quiet (fail)
              go_wp2
              go_ret3
              refine ⟨?_, below_drewN hbc _⟩
              rw [Hr.out, Hs.out]
              refine ret_some ?_ (Kit.extract_drop s 7)
              omega
      · have Hr := Lib.hid hdec
        clear hdec
        obtain ⟨rfl, haccM, rfl⟩ := hacc (by omega)
        have hc256 : s[7].toNat < 256 := s[7].toNat_lt
        have e1 : (128 : Nat) ^ 7 = 562949953421312 := by decide
        rw [e1] at haccM ⊢
        clear e1 hacc
        have hsl : (8 : Int) ≤ (s.size : Int) := by omega
        have hw2 : IntKind.i64.wrap 8 = 8 := by decide
        by_cases h128 : 128 ≤ s[7].toNat
        · have Hs := Lib.hid (Leb.step_more (acc := acc) (r := s.data.toList.drop (7 + 1)) (show 128 ^ 7 = 562949953421312 by decide) (by omega) h128)
          go_wp2
          go_roundw
          case rel =>
            have e2 : (128 : Nat) ^ 8 = 72057594037927936 := by decide
            refine ⟨8, _, _, rfl, rfl, rfl, by omega, by omega, ⟨by omega, by omega, acc + s[7].toNat % 128 * 562949953421312, fun _ => ⟨by omega, by rw [e2]; omega, by rw [e2]; rfl⟩, Lib.hid (Hr.out.trans Hs.out)⟩, hb0⟩
          case measure => simp [intOf]; omega
        · by_cases h0 : s[7].toNat = 0
          · have Hs := Lib.hid (Leb.step_none (k := 7) (acc := acc) (r := s.data.toList.drop (7 + 1)) (by omega) (show s[7].toNat < 128 by omega) (by omega))
            go_upto_region 10 with (fail)
            go_cut [39] (fun c wx => c = .bool true ∧ Below w.heap.size w wx)
            case first =>
              go_region_with ((go_at_call 29; refine (rPutUint_int _ ?_ ?_ _).mono ?_; (omega); (omega); rintro e w' ⟨rfl, hb⟩))
              all_goals (go_wp2_with fail)
              all_goals go_meet
              all_goals (refine ⟨congrArg Value.bool (test_noneN (k := 7) (Hr.out.trans Hs.out) ?_), hb0.drew.trans (hb.mono hb0.drew.size)⟩)
              all_goals omega
            case rest =>
              obtain ⟨rfl, hbc⟩ := hcut
              go_wp2
              go_ret3
              exact ⟨by rw [Hr.out, Hs.out]; rfl, hbc⟩
          · have Hs := Lib.hid (Leb.step_end (k := 7) (acc := acc) (r := s.data.toList.drop (7 + 1)) (show 128 ^ 7 = 562949953421312 by decide) (by omega) (show s[7].toNat < 128 by omega) (by omega))
            go_upto_region 10 with (fail)
            go_cut [39] (fun c wx => c = .bool false ∧ Below w.heap.size w wx)
            case first =>
              go_region_with ((go_at_call 29; refine (rPutUint_int _ ?_ ?_ _).mono ?_; (omega); (omega); rintro e w' ⟨rfl, hb⟩))
              all_goals (go_wp2_with fail)
              all_goals go_meet
              all_goals (refine ⟨congrArg Value.bool (test_some (k := 7) (by omega) (Hr.out.trans Hs.out) ?_), hb0.drew.trans (hb.mono hb0.drew.size)⟩)
              all_goals omega
            case rest =>
              obtain ⟨rfl, hbc⟩ := hcut
              go_wp2
              go_quiet (fail)
              go_wp2
              go_ret3
              refine ⟨?_, below_drewN hbc _⟩
              rw [Hr.out, Hs.out]
              refine ret_some ?_ (Kit.extract_drop s 8)
              omega
      · have Hr := Lib.hid hdec
        clear hdec
        obtain ⟨rfl, haccM, rfl⟩ := hacc (by omega)
        have hc256 : s[8].toNat < 256 := s[8].toNat_lt
        have e1 : (128 : Nat) ^ 8 = 72057594037927936 := by decide
        rw [e1] at haccM ⊢
        clear e1 hacc
        have hsl : (9 : Int) ≤ (s.size : Int) := by omega
        have hw2 : IntKind.i64.wrap 9 = 9 := by decide
        by_cases h128 : 128 ≤ s[8].toNat
        · have Hs := Lib.hid (Leb.step_more (acc := acc) (r := s.data.toList.drop (8 + 1)) (show 128 ^ 8 = 72057594037927936 by decide) (by omega) h128)
          go_wp2
          go_roundw
          case rel =>
            have e2 : (128 : Nat) ^ 9 = 9223372036854775808 := by decide
            refine ⟨9, _, _, rfl, rfl, rfl, by omega, by omega, ⟨by omega, by omega, acc + s[8].toNat % 128 * 72057594037927936, fun _ => ⟨by omega, by rw [e2]; omega, by rw [e2]; rfl⟩, Lib.hid (Hr.out.trans Hs.out)⟩, hb0⟩
          case measure => simp [intOf]; omega
        · by_cases h0 : s[8].toNat = 0
          · have Hs := Lib.hid (Leb.step_none (k := 8) (acc := acc) (r := s.data.toList.drop (8 + 1)) (by omega) (show s[8].toNat < 128 by omega) (by omega))
            go_upto_region 10 with (fail)
            go_cut [39] (fun c wx => c = .bool true ∧ Below w.heap.size w wx)
            case first =>
              go_region_with ((go_at_call 29; refine (rPutUint_int _ ?_ ?_ _).mono ?_; (omega); (omega); rintro e w' ⟨rfl, hb⟩))
              all_goals (go_wp2_with fail)
              all_goals go_meet
              all_goals (refine ⟨congrArg Value.bool (test_noneN (k := 8) (Hr.out.trans Hs.out) ?_), hb0.drew.trans (hb.mono hb0.drew.size)⟩)
              all_goals omega
            case rest =>
              obtain ⟨rfl, hbc⟩ := hcut
              go_wp2
              go_ret3
              exact ⟨by rw [Hr.out, Hs.out]; rfl, hbc⟩
          · have Hs := Lib.hid (Leb.step_end (k := 8) (acc := acc) (r := s.data.toList.drop (8 + 1)) (show 128 ^ 8 = 72057594037927936 by decide) (by omega) (show s[8].toNat < 128 by omega) (by omega))
            go_upto_region 10 with (fail)
            go_cut [39] (fun c wx => c = .bool false ∧ Below w.heap.size w wx)
            case first =>
              go_region_with ((go_at_call 29; refine (rPutUint_int _ ?_ ?_ _).mono ?_; (omega); (omega); rintro e w' ⟨rfl, hb⟩))
              all_goals (go_wp2_with fail)
              all_goals go_meet
              all_goals (refine ⟨congrArg Value.bool (test_some (k := 8) (by omega) (Hr.out.trans Hs.out) ?_), hb0.drew.trans (hb.mono hb0.drew.size)⟩)
              all_goals omega
            case rest =>
              obtain ⟨rfl, hbc⟩ := hcut
              go_wp2
              go_quiet (fail)
              go_wp2
              go_ret3
              refine ⟨?_, below_drewN hbc _⟩
              rw [Hr.out, Hs.out]
              refine ret_some ?_ (Kit.extract_drop s 9)
              omega
      · have Hr := Lib.hid hdec
        clear hdec
        obtain ⟨rfl, haccM, rfl⟩ := hacc (by omega)
        have hc256 : s[9].toNat < 256 := s[9].toNat_lt
        have e1 : (128 : Nat) ^ 9 = 9223372036854775808 := by decide
        rw [e1] at haccM ⊢
        clear e1 hacc
        have hsl : (10 : Int) ≤ (s.size : Int) := by omega
        have hw2 : IntKind.i64.wrap 10 = 10 := by decide
        by_cases h128 : 128 ≤ s[9].toNat
        · have Hs := Lib.hid (Leb.step_more (acc := acc) (r := s.data.toList.drop (9 + 1)) (show 128 ^ 9 = 9223372036854775808 by decide) (by omega) h128)
          go_wp2
          go_roundw
          case rel =>
            exact ⟨10, _, _, rfl, rfl, rfl, by omega, by omega, ⟨u64_lo _, u64_hi _, _, fun h => absurd h (by omega), Lib.hid (Hr.out.trans Hs.out)⟩, hb0⟩
          case measure => simp [intOf]; omega
        · by_cases h0 : s[9].toNat = 0
          · have Hs := Lib.hid (Leb.step_none (k := 9) (acc := acc) (r := s.data.toList.drop (9 + 1)) (by omega) (show s[9].toNat < 128 by omega) (by omega))
            go_upto_region 10 with (fail)
            go_cut [39] (fun c wx => c = .bool true ∧ Below w.heap.size w wx)
            case first =>
              go_region_with ((go_at_call 29; refine (rPutUint_int _ ?_ ?_ _).mono ?_; (omega); (omega); rintro e w' ⟨rfl, hb⟩))
              all_goals (go_wp2_with fail)
              all_goals go_meet
              all_goals (refine ⟨congrArg Value.bool (test_noneN (k := 9) (Hr.out.trans Hs.out) ?_), hb0.drew.trans (hb.mono hb0.drew.size)⟩)
              all_goals first | omega | exact u64_lo _ | exact u64_hi _
            case rest =>
              obtain ⟨rfl, hbc⟩ := hcut
              go_wp2
              go_ret3
              exact ⟨by rw [Hr.out, Hs.out]; rfl, hbc⟩
          · by_cases h1 : s[9].toNat = 1
            · have Hs := Lib.hid (Leb.step_end (k := 9) (acc := acc) (r := s.data.toList.drop (9 + 1)) (show 128 ^ 9 = 9223372036854775808 by decide) (by omega) (show s[9].toNat < 128 by omega) (by omega))
              go_upto_region 10 with (fail)
              go_cut [39] (fun c wx => c = .bool false ∧ Below w.heap.size w wx)
              case first =>
                go_region_with ((go_at_call 29; refine (rPutUint_int _ ?_ ?_ _).mono ?_; (omega); (omega); rintro e w' ⟨rfl, hb⟩))
                all_goals (go_wp2_with fail)
                all_goals go_meet
                all_goals (refine ⟨congrArg Value.bool (test_some (k := 9) (by omega) (Hr.out.trans Hs.out) ?_), hb0.drew.trans (hb.mono hb0.drew.size)⟩)
                all_goals first | omega | exact u64_lo _ | exact u64_hi _
              case rest =>
                obtain ⟨rfl, hbc⟩ := hcut
                go_wp2
                go_quiet (fail)
                go_wp2
                go_ret3
                refine ⟨?_, below_drewN hbc _⟩
                rw [Hr.out, Hs.out]
                refine ret_some ?_ (Kit.extract_drop s 10)
                omega
            · have Hs := Lib.hid (Leb.step_none (k := 9) (acc := acc) (r := s.data.toList.drop (9 + 1)) (by omega) (show s[9].toNat < 128 by omega) (by omega))
              go_upto_region 10 with (fail)
              go_cut [39] (fun c wx => c = .bool true ∧ Below w.heap.size w wx)
              case first =>
                go_region_with ((go_at_call 29; refine (rPutUint_int _ ?_ ?_ _).mono ?_; (exact u64_lo _); (exact u64_hi _); rintro e w' ⟨rfl, hb⟩))
                all_goals (go_wp2_with fail)
                all_goals go_meet
                all_goals (refine ⟨congrArg Value.bool (test_none (k := 9) (Hr.out.trans Hs.out) ?_ ?_), hb0.drew.trans (hb.mono hb0.drew.size)⟩)
                all_goals first | omega | exact u64_lo _ | exact u64_hi _
              case rest =>
                obtain ⟨rfl, hbc⟩ := hcut
                go_wp2
                go_ret3
                exact ⟨by rw [Hr.out, Hs.out]; rfl, hbc⟩
      · have Hr := Lib.hid (hdec.trans (Leb.decFrom_ten _ _))
        clear hdec hacc
        go_wp2
        go_ret3
        exact ⟨by rw [Hr.out]; rfl, hb0⟩
    · have hdec := Hdec.out
      rw [List.drop_eq_nil_of_le (by rw [Kit.size_list]; omega)] at hdec
      have Hr := Lib.hid (hdec.trans Leb.step_nil)
      clear hdec Hdec hacc
      go_wp2
      go_ret3
      exact ⟨by rw [Hr.out]; rfl, hb0⟩
end Go.Proofs.Ytdiocnehejeldaa
