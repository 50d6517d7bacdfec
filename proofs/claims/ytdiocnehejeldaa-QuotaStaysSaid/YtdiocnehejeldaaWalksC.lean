/-
  What package wire's TakeUint does.
-/
import Derived.Test.YtdiocnehejeldaaWalksA
import Derived.BigQuiet
import Derived.Deep.QuietTactic
import Derived.Lib.VarintBits
import Derived.Laws.Closers25b
namespace Go.Proofs.Ytdiocnehejeldaa
open Go.RowKit
open Leb (dec decFrom)

def uintRes : Option (Nat × List UInt8) → Value
  | none => .tuple #[.int .u64 0, .string ⟨#[]⟩, .bool false]
  | some (n, r) => .tuple #[.int .u64 n, .string ⟨r.toArray⟩, .bool true]

theorem ret_some {z : Int} {n : Nat} {t : ByteArray} {r : List UInt8} (h : z = n) (ht : t.data.toList = r) : Ending.returned (.tuple #[.int .u64 z, .string t, .bool true]) = Ending.returned (uintRes (some (n, r))) := by
  subst h ht
  rw [uintRes, ← Kit.bytes_of_data]
theorem below_drewN {B : Nat} {a w : World} (h : Below B a w) (n : Nat) : Below B a (w.drewN n) := ⟨h.os, h.tape, h.output, h.size, h.block⟩

theorem toNat_lt70 {z : Int} (h : z ≤ 18446744073709551615) : z.toNat < 1180591620717411303424 := by omega

/-- What holds of the loop's sum z behind k bytes. -/
def Sofar (l : List UInt8) (k : Nat) (z : Int) : Prop := ∃ acc : Nat, z = acc ∧ acc < 128 ^ k ∧ Hid (dec l = decFrom k acc (l.drop k))

set_option maxHeartbeats 4000000 in
set_option maxRecDepth 100000 in
theorem takeUint_any (s : ByteArray) (hs : s.size ≤ 9223372036854775807) (w : World) :
    Calls Try.prog 25 #[.string s] w fun e w' => e = .returned (uintRes (dec s.data.toList)) ∧ Below w.heap.size w w' := by
  go_enter Try.func25, Try.ntmps25
  go_wp2
  go_loop [5, 6] (fun vn vi => ∃ (k : Nat) (z : Int), vi = .int .i64 k ∧ vn = .int .u64 z ∧ k ≤ 10 ∧ k ≤ s.size ∧ Sofar s.data.toList k z)
    (fun _ vi => s.size - (intOf vi).toNat)
  case atStart => exact ⟨0, 0, rfl, rfl, by omega, by omega, 0, rfl, by decide, rfl⟩
  case round =>
    obtain ⟨k, z, rfl, rfl, hk10, hkn, acc, rfl, hacc, Hdec⟩ := hrel
    by_cases hk : k < s.size
    · have hdec := Hdec.out
      rw [Kit.drop_byte s k hk] at hdec
      clear Hdec
      have hks : k = 0 ∨ k = 1 ∨ k = 2 ∨ k = 3 ∨ k = 4 ∨ k = 5 ∨ k = 6 ∨ k = 7 ∨ k = 8 ∨ k = 9 ∨ k = 10 := by omega
      rcases hks with rfl | rfl | rfl | rfl | rfl | rfl | rfl | rfl | rfl | rfl | rfl
      · have Hr := Lib.hid hdec
        clear hdec
        have hc256 : s[0].toNat < 256 := s[0].toNat_lt
        have haccM : acc < 1 := by
          have e1 : (128 : Nat) ^ 0 = 1 := by decide
          omega
        clear hacc
        obtain rfl : acc = 0 := by omega
        by_cases h128 : 128 ≤ s[0].toNat
        · have Hs := Lib.hid (Leb.step_more (acc := 0) (r := s.data.toList.drop (0 + 1)) (show 128 ^ 0 = 1 by decide) (by omega) h128)
          go_wp2
          refine ⟨⟨1, _, rfl, rfl, by omega, by omega, ⟨0 + s[0].toNat % 128 * 1, ?_, ?_, Lib.hid (Hr.out.trans Hs.out)⟩⟩, by simp [intOf]; omega⟩
          · simp (disch := omega) only [u64_orv0]
            omega
          · omega
        · have Hs := Lib.hid (Leb.step_end (k := 0) (acc := 0) (r := s.data.toList.drop (0 + 1)) (show 128 ^ 0 = 1 by decide) (by omega) (show s[0].toNat < 128 by omega) (by omega))
          go_wp2
          go_quiet (fail)
          go_wp2
          go_ret3
          refine ⟨?_, below_drewN (Below.refl _ _) _⟩
          rw [Hr.out, Hs.out]
          refine ret_some ?_ (Kit.extract_drop s 1)
          simp (disch := omega) only [u64_orv0]
          omega
      · have Hr := Lib.hid hdec
        clear hdec
        have hc256 : s[1].toNat < 256 := s[1].toNat_lt
        have haccM : acc < 128 := by
          have e1 : (128 : Nat) ^ 1 = 128 := by decide
          omega
        clear hacc
        by_cases h128 : 128 ≤ s[1].toNat
        · have Hs := Lib.hid (Leb.step_more (acc := acc) (r := s.data.toList.drop (1 + 1)) (show 128 ^ 1 = 128 by decide) (by omega) h128)
          go_wp2
          refine ⟨⟨2, _, rfl, rfl, by omega, by omega, ⟨acc + s[1].toNat % 128 * 128, ?_, ?_, Lib.hid (Hr.out.trans Hs.out)⟩⟩, by simp [intOf]; omega⟩
          · simp (disch := omega) only [u64_orv7]
            omega
          · have e1 : (128 : Nat) ^ 2 = 16384 := by decide
            omega
        · by_cases h0 : s[1].toNat = 0
          · have Hs := Lib.hid (Leb.step_none (k := 1) (acc := acc) (r := s.data.toList.drop (1 + 1)) (by omega) (show s[1].toNat < 128 by omega) (by omega))
            go_wp2
            go_ret3
            exact ⟨by rw [Hr.out, Hs.out]; rfl, Below.refl _ _⟩
          · have hb0 : ((s[1].toNat : Int) == 0) = false := by simpa using h0
            have Hs := Lib.hid (Leb.step_end (k := 1) (acc := acc) (r := s.data.toList.drop (1 + 1)) (show 128 ^ 1 = 128 by decide) (by omega) (show s[1].toNat < 128 by omega) (by omega))
            go_wp2
            go_quiet (fail)
            go_wp2
            go_ret3
            refine ⟨?_, below_drewN (Below.refl _ _) _⟩
            rw [Hr.out, Hs.out]
            refine ret_some ?_ (Kit.extract_drop s 2)
            simp (disch := omega) only [u64_orv7]
            omega
      · have Hr := Lib.hid hdec
        clear hdec
        have hc256 : s[2].toNat < 256 := s[2].toNat_lt
        have haccM : acc < 16384 := by
          have e1 : (128 : Nat) ^ 2 = 16384 := by decide
          omega
        clear hacc
        by_cases h128 : 128 ≤ s[2].toNat
        · have Hs := Lib.hid (Leb.step_more (acc := acc) (r := s.data.toList.drop (2 + 1)) (show 128 ^ 2 = 16384 by decide) (by omega) h128)
          go_wp2
          refine ⟨⟨3, _, rfl, rfl, by omega, by omega, ⟨acc + s[2].toNat % 128 * 16384, ?_, ?_, Lib.hid (Hr.out.trans Hs.out)⟩⟩, by simp [intOf]; omega⟩
          · simp (disch := omega) only [u64_orv14]
            omega
          · have e1 : (128 : Nat) ^ 3 = 2097152 := by decide
            omega
        · by_cases h0 : s[2].toNat = 0
          · have Hs := Lib.hid (Leb.step_none (k := 2) (acc := acc) (r := s.data.toList.drop (2 + 1)) (by omega) (show s[2].toNat < 128 by omega) (by omega))
            go_wp2
            go_ret3
            exact ⟨by rw [Hr.out, Hs.out]; rfl, Below.refl _ _⟩
          · have hb0 : ((s[2].toNat : Int) == 0) = false := by simpa using h0
            have Hs := Lib.hid (Leb.step_end (k := 2) (acc := acc) (r := s.data.toList.drop (2 + 1)) (show 128 ^ 2 = 16384 by decide) (by omega) (show s[2].toNat < 128 by omega) (by omega))
            go_wp2
            go_quiet (fail)
            go_wp2
            go_ret3
            refine ⟨?_, below_drewN (Below.refl _ _) _⟩
            rw [Hr.out, Hs.out]
            refine ret_some ?_ (Kit.extract_drop s 3)
            simp (disch := omega) only [u64_orv14]
            omega
      · have Hr := Lib.hid hdec
        clear hdec
        have hc256 : s[3].toNat < 256 := s[3].toNat_lt
        have haccM : acc < 2097152 := by
          have e1 : (128 : Nat) ^ 3 = 2097152 := by decide
          omega
        clear hacc
        by_cases h128 : 128 ≤ s[3].toNat
        · have Hs := Lib.hid (Leb.step_more (acc := acc) (r := s.data.toList.drop (3 + 1)) (show 128 ^ 3 = 2097152 by decide) (by omega) h128)
          go_wp2
          refine ⟨⟨4, _, rfl, rfl, by omega, by omega, ⟨acc + s[3].toNat % 128 * 2097152, ?_, ?_, Lib.hid (Hr.out.trans Hs.out)⟩⟩, by simp [intOf]; omega⟩
          · simp (disch := omega) only [u64_orv21]
            omega
          · have e1 : (128 : Nat) ^ 4 = 268435456 := by decide
            omega
        · by_cases h0 : s[3].toNat = 0
          · have Hs := Lib.hid (Leb.step_none (k := 3) (acc := acc) (r := s.data.toList.drop (3 + 1)) (by omega) (show s[3].toNat < 128 by omega) (by omega))
            go_wp2
            go_ret3
            exact ⟨by rw [Hr.out, Hs.out]; rfl, Below.refl _ _⟩
          · have hb0 : ((s[3].toNat : Int) == 0) = false := by simpa using h0
            have Hs := Lib.hid (Leb.step_end (k := 3) (acc := acc) (r := s.data.toList.drop (3 + 1)) (show 128 ^ 3 = 2097152 by decide) (by omega) (show s[3].toNat < 128 by omega) (by omega))
            go_wp2
            go_quiet (fail)
            go_wp2
            go_ret3
            refine ⟨?_, below_drewN (Below.refl _ _) _⟩
            rw [Hr.out, Hs.out]
            refine ret_some ?_ (Kit.extract_drop s 4)
            simp (disch := omega) only [u64_orv21]
            omega
      · have Hr := Lib.hid hdec
        clear hdec
        have hc256 : s[4].toNat < 256 := s[4].toNat_lt
        have haccM : acc < 268435456 := by
          have e1 : (128 : Nat) ^ 4 = 268435456 := by decide
          omega
        clear hacc
        by_cases h128 : 128 ≤ s[4].toNat
        · have Hs := Lib.hid (Leb.step_more (acc := acc) (r := s.data.toList.drop (4 + 1)) (show 128 ^ 4 = 268435456 by decide) (by omega) h128)
          go_wp2
          refine ⟨⟨5, _, rfl, rfl, by omega, by omega, ⟨acc + s[4].toNat % 128 * 268435456, ?_, ?_, Lib.hid (Hr.out.trans Hs.out)⟩⟩, by simp [intOf]; omega⟩
          · simp (disch := omega) only [u64_orv28]
            omega
          · have e1 : (128 : Nat) ^ 5 = 34359738368 := by decide
            omega
        · by_cases h0 : s[4].toNat = 0
          · have Hs := Lib.hid (Leb.step_none (k := 4) (acc := acc) (r := s.data.toList.drop (4 + 1)) (by omega) (show s[4].toNat < 128 by omega) (by omega))
            go_wp2
            go_ret3
            exact ⟨by rw [Hr.out, Hs.out]; rfl, Below.refl _ _⟩
          · have hb0 : ((s[4].toNat : Int) == 0) = false := by simpa using h0
            have Hs := Lib.hid (Leb.step_end (k := 4) (acc := acc) (r := s.data.toList.drop (4 + 1)) (show 128 ^ 4 = 268435456 by decide) (by omega) (show s[4].toNat < 128 by omega) (by omega))
            go_wp2
            go_quiet (fail)
            go_wp2
            go_ret3
            refine ⟨?_, below_drewN (Below.refl _ _) _⟩
            rw [Hr.out, Hs.out]
            refine ret_some ?_ (Kit.extract_drop s 5)
            simp (disch := omega) only [u64_orv28]
            omega
      · have Hr := Lib.hid hdec
        clear hdec
        have hc256 : s[5].toNat < 256 := s[5].toNat_lt
        have haccM : acc < 34359738368 := by
          have e1 : (128 : Nat) ^ 5 = 34359738368 := by decide
          omega
        clear hacc
        by_cases h128 : 128 ≤ s[5].toNat
        · have Hs := Lib.hid (Leb.step_more (acc := acc) (r := s.data.toList.drop (5 + 1)) (show 128 ^ 5 = 34359738368 by decide) (by omega) h128)
          go_wp2
          refine ⟨⟨6, _, rfl, rfl, by omega, by omega, ⟨acc + s[5].toNat % 128 * 34359738368, ?_, ?_, Lib.hid (Hr.out.trans Hs.out)⟩⟩, by simp [intOf]; omega⟩
          · simp (disch := omega) only [u64_orv35]
            omega
          · have e1 : (128 : Nat) ^ 6 = 4398046511104 := by decide
            omega
        · by_cases h0 : s[5].toNat = 0
          · have Hs := Lib.hid (Leb.step_none (k := 5) (acc := acc) (r := s.data.toList.drop (5 + 1)) (by omega) (show s[5].toNat < 128 by omega) (by omega))
            go_wp2
            go_ret3
            exact ⟨by rw [Hr.out, Hs.out]; rfl, Below.refl _ _⟩
          · have hb0 : ((s[5].toNat : Int) == 0) = false := by simpa using h0
            have Hs := Lib.hid (Leb.step_end (k := 5) (acc := acc) (r := s.data.toList.drop (5 + 1)) (show 128 ^ 5 = 34359738368 by decide) (by omega) (show s[5].toNat < 128 by omega) (by omega))
            go_wp2
            go_quiet (fail)
            go_wp2
            go_ret3
            refine ⟨?_, below_drewN (Below.refl _ _) _⟩
            rw [Hr.out, Hs.out]
            refine ret_some ?_ (Kit.extract_drop s 6)
            simp (disch := omega) only [u64_orv35]
            omega
      · have Hr := Lib.hid hdec
        clear hdec
        have hc256 : s[6].toNat < 256 := s[6].toNat_lt
        have haccM : acc < 4398046511104 := by
          have e1 : (128 : Nat) ^ 6 = 4398046511104 := by decide
          omega
        clear hacc
        by_cases h128 : 128 ≤ s[6].toNat
        · have Hs := Lib.hid (Leb.step_more (acc := acc) (r := s.data.toList.drop (6 + 1)) (show 128 ^ 6 = 4398046511104 by decide) (by omega) h128)
          go_wp2
          refine ⟨⟨7, _, rfl, rfl, by omega, by omega, ⟨acc + s[6].toNat % 128 * 4398046511104, ?_, ?_, Lib.hid (Hr.out.trans Hs.out)⟩⟩, by simp [intOf]; omega⟩
          · simp (disch := omega) only [u64_orv42]
            omega
          · have e1 : (128 : Nat) ^ 7 = 562949953421312 := by decide
            omega
        · by_cases h0 : s[6].toNat = 0
          · have Hs := Lib.hid (Leb.step_none (k := 6) (acc := acc) (r := s.data.toList.drop (6 + 1)) (by omega) (show s[6].toNat < 128 by omega) (by omega))
            go_wp2
            go_ret3
            exact ⟨by rw [Hr.out, Hs.out]; rfl, Below.refl _ _⟩
          · have hb0 : ((s[6].toNat : Int) == 0) = false := by simpa using h0
            have Hs := Lib.hid (Leb.step_end (k := 6) (acc := acc) (r := s.data.toList.drop (6 + 1)) (show 128 ^ 6 = 4398046511104 by decide) (by omega) (show s[6].toNat < 128 by omega) (by omega))
            go_wp2
            go_quiet (fail)
            go_wp2
            go_ret3
            refine ⟨?_, below_drewN (Below.refl _ _) _⟩
            rw [Hr.out, Hs.out]
            refine ret_some ?_ (Kit.extract_drop s 7)
            simp (disch := omega) only [u64_orv42]
            omega
      · have Hr := Lib.hid hdec
        clear hdec
        have hc256 : s[7].toNat < 256 := s[7].toNat_lt
        have haccM : acc < 562949953421312 := by
          have e1 : (128 : Nat) ^ 7 = 562949953421312 := by decide
          omega
        clear hacc
        by_cases h128 : 128 ≤ s[7].toNat
        · have Hs := Lib.hid (Leb.step_more (acc := acc) (r := s.data.toList.drop (7 + 1)) (show 128 ^ 7 = 562949953421312 by decide) (by omega) h128)
          go_wp2
          refine ⟨⟨8, _, rfl, rfl, by omega, by omega, ⟨acc + s[7].toNat % 128 * 562949953421312, ?_, ?_, Lib.hid (Hr.out.trans Hs.out)⟩⟩, by simp [intOf]; omega⟩
          · simp (disch := omega) only [u64_orv49]
            omega
          · have e1 : (128 : Nat) ^ 8 = 72057594037927936 := by decide
            omega
        · by_cases h0 : s[7].toNat = 0
          · have Hs := Lib.hid (Leb.step_none (k := 7) (acc := acc) (r := s.data.toList.drop (7 + 1)) (by omega) (show s[7].toNat < 128 by omega) (by omega))
            go_wp2
            go_ret3
            exact ⟨by rw [Hr.out, Hs.out]; rfl, Below.refl _ _⟩
          · have hb0 : ((s[7].toNat : Int) == 0) = false := by simpa using h0
            have Hs := Lib.hid (Leb.step_end (k := 7) (acc := acc) (r := s.data.toList.drop (7 + 1)) (show 128 ^ 7 = 562949953421312 by decide) (by omega) (show s[7].toNat < 128 by omega) (by omega))
            go_wp2
            go_quiet (fail)
            go_wp2
            go_ret3
            refine ⟨?_, below_drewN (Below.refl _ _) _⟩
            rw [Hr.out, Hs.out]
            refine ret_some ?_ (Kit.extract_drop s 8)
            simp (disch := omega) only [u64_orv49]
            omega
      · have Hr := Lib.hid hdec
        clear hdec
        have hc256 : s[8].toNat < 256 := s[8].toNat_lt
        have haccM : acc < 72057594037927936 := by
          have e1 : (128 : Nat) ^ 8 = 72057594037927936 := by decide
          omega
        clear hacc
        by_cases h128 : 128 ≤ s[8].toNat
        · have Hs := Lib.hid (Leb.step_more (acc := acc) (r := s.data.toList.drop (8 + 1)) (show 128 ^ 8 = 72057594037927936 by decide) (by omega) h128)
          go_wp2
          refine ⟨⟨9, _, rfl, rfl, by omega, by omega, ⟨acc + s[8].toNat % 128 * 72057594037927936, ?_, ?_, Lib.hid (Hr.out.trans Hs.out)⟩⟩, by simp [intOf]; omega⟩
          · simp (disch := omega) only [u64_orv56]
            omega
          · have e1 : (128 : Nat) ^ 9 = 9223372036854775808 := by decide
            omega
        · by_cases h0 : s[8].toNat = 0
          · have Hs := Lib.hid (Leb.step_none (k := 8) (acc := acc) (r := s.data.toList.drop (8 + 1)) (by omega) (show s[8].toNat < 128 by omega) (by omega))
            go_wp2
            go_ret3
            exact ⟨by rw [Hr.out, Hs.out]; rfl, Below.refl _ _⟩
          · have hb0 : ((s[8].toNat : Int) == 0) = false := by simpa using h0
            have Hs := Lib.hid (Leb.step_end (k := 8) (acc := acc) (r := s.data.toList.drop (8 + 1)) (show 128 ^ 8 = 72057594037927936 by decide) (by omega) (show s[8].toNat < 128 by omega) (by omega))
            go_wp2
            go_quiet (fail)
            go_wp2
            go_ret3
            refine ⟨?_, below_drewN (Below.refl _ _) _⟩
            rw [Hr.out, Hs.out]
            refine ret_some ?_ (Kit.extract_drop s 9)
            simp (disch := omega) only [u64_orv56]
            omega
      · have Hr := Lib.hid hdec
        clear hdec
        have hc256 : s[9].toNat < 256 := s[9].toNat_lt
        have haccM : acc < 9223372036854775808 := by
          have e1 : (128 : Nat) ^ 9 = 9223372036854775808 := by decide
          omega
        clear hacc
        by_cases h128 : 128 ≤ s[9].toNat
        · have Hs := Lib.hid (Leb.step_more (acc := acc) (r := s.data.toList.drop (9 + 1)) (show 128 ^ 9 = 9223372036854775808 by decide) (by omega) h128)
          clear haccM
          go_wp2
          refine ⟨⟨10, _, rfl, rfl, by omega, by omega, ⟨Int.toNat _, (Int.toNat_of_nonneg (bits_lo_u64 _ _ _)).symm, ?_, Lib.hid (Hr.out.trans (Hs.out.trans ((Leb.decFrom_ten _ _).trans (Leb.decFrom_ten _ _).symm)))⟩⟩, by simp [intOf]; omega⟩
          have e1 : (128 : Nat) ^ 10 = 1180591620717411303424 := by decide
          rw [e1]
          exact toNat_lt70 (bits_hi_u64 _ _ _)
        · by_cases h0 : s[9].toNat = 0
          · have Hs := Lib.hid (Leb.step_none (k := 9) (acc := acc) (r := s.data.toList.drop (9 + 1)) (by omega) (show s[9].toNat < 128 by omega) (by omega))
            go_wp2
            go_ret3
            exact ⟨by rw [Hr.out, Hs.out]; rfl, Below.refl _ _⟩
          · have hb0 : ((s[9].toNat : Int) == 0) = false := by simpa using h0
            by_cases h1 : 1 < s[9].toNat
            · have Hs := Lib.hid (Leb.step_none (k := 9) (acc := acc) (r := s.data.toList.drop (9 + 1)) (by omega) (show s[9].toNat < 128 by omega) (by omega))
              go_wp2
              go_ret3
              exact ⟨by rw [Hr.out, Hs.out]; rfl, Below.refl _ _⟩
            · have hone : s[9].toNat = 1 := by omega
              have Hs := Lib.hid (Leb.step_end (k := 9) (acc := acc) (r := s.data.toList.drop (9 + 1)) (show 128 ^ 9 = 9223372036854775808 by decide) (by omega) (show s[9].toNat < 128 by omega) (by omega))
              go_wp2
              go_quiet (fail)
              go_wp2
              go_ret3
              refine ⟨?_, below_drewN (Below.refl _ _) _⟩
              rw [Hr.out, Hs.out]
              refine ret_some ?_ (Kit.extract_drop s 10)
              simp (disch := omega) only [u64_orv63]
              omega
      · have Hr := Lib.hid (hdec.trans (Leb.decFrom_ten _ _))
        clear hdec hacc
        go_wp2
        go_ret3
        exact ⟨by rw [Hr.out]; rfl, Below.refl _ _⟩
    · have hdec := Hdec.out
      rw [List.drop_eq_nil_of_le (by rw [Kit.size_list]; omega)] at hdec
      have Hr := Lib.hid (hdec.trans Leb.step_nil)
      clear hdec Hdec hacc
      go_wp2
      go_ret3
      exact ⟨by rw [Hr.out]; rfl, Below.refl _ _⟩
end Go.Proofs.Ytdiocnehejeldaa
