/-
  The document's Frame, Newest.
-/
import Derived.Test.YtolanlnabdbolaaSltD
namespace Go.Proofs.Ytolanlnabdbolaa
open Go.RowKit
namespace Slt
open Dsk

set_option maxRecDepth 100000 in
set_option maxHeartbeats 4000000 in
theorem rFrame_any (n : Nat) (hn : n < 18446744073709551616) (t : ByteArray) (z : Int) (w : World) :
    Calls Try.prog 9 #[.int .u64 (n : Int), .string t, .int .i64 z] w fun e w' => e = .returned (.tuple #[.string (frame n t z).1, .bool (frame n t z).2]) ∧ Below w.heap.size w w' := by
  by_cases hf : fits n t z = true
  · have h := of_decide_eq_true hf
    rw [frame_good hf]
    obtain ⟨k, rfl⟩ : ∃ k : Nat, z = (k : Int) := ⟨z.toNat, by omega⟩
    have HP := fun w => rEight_any n hn w
    have HR := fun w => rZeros_any (k - 18 - t.size) (by omega) w
    have e1 : IntKind.i64.wrap ((k : Int) - 18 - (t.size : Int)) = ((k - 18 - t.size : Nat) : Int) := by rw [IntKind.wrap_i64]; omega
    have e5 : (k : Int) - 18 - (t.size : Int) = ((k - 18 - t.size : Nat) : Int) := by omega
    have e2 : body n t k = eight n ++ two t.size ++ t ++ zeros (k - 18 - t.size) ++ eight n := rfl
    have e6 : two t.size = ⟨[UInt8.ofNat (t.size / 256), UInt8.ofNat (t.size % 256)].toArray⟩ := by
      show (⟨[UInt8.ofNat (t.size / 256 ^ 1 % 256), UInt8.ofNat (t.size / 256 ^ 0 % 256)].toArray⟩ : ByteArray) = _
      rw [Nat.pow_one, Nat.pow_zero, Nat.div_one, Nat.mod_eq_of_lt (a := t.size / 256) (by omega)]
    have z1 := eight_size n
    have z2 := two_size t.size
    have z3 : (zeros (k - 18 - t.size)).size ≤ 512 := by rw [zeros_size]; omega
    have g0 : ((n : Int) == 0) = false := by have := h.2.2.1; simpa using this
    have g1 : decide ((t.size : Int) > (k : Int) - 18) = false := by rw [decide_eq_false_iff_not]; omega
    have g2 : decide ((k : Int) < 32) = false := by rw [decide_eq_false_iff_not]; omega
    have g3 : decide ((k : Int) > 512) = false := by rw [decide_eq_false_iff_not]; omega
    have z4 : t.size ≤ 494 := by omega
    have k1 : 32 ≤ k := by omega
    have k2 : k ≤ 512 := by omega
    have k3 : t.size ≤ k - 18 := by omega
    have w1 : wrap64 ((k : Int) - 18) = (k : Int) - 18 := by unfold wrap64; omega
    have hz : (k : Int).toNat = k := rfl
    rw [hz]
    have hcv : (convert 63 9 (.slice (some ⟨w.heap.size, 0, none⟩) 2 2)).run Try.prog (w.alloc (.cells #[.int .u8 ((t.size : Int) / 256), .int .u8 ((t.size : Int) % 256)] 5)) = .ok (.string (two t.size)) (w.alloc (.cells #[.int .u8 ((t.size : Int) / 256), .int .u8 ((t.size : Int) % 256)] 5)) := by
      have u1 : (t.size : Int) / 256 = ((UInt8.ofNat (t.size / 256)).toNat : Int) := by rw [UInt8.toNat_ofNat', Nat.mod_eq_of_lt (by omega)]; rfl
      have u2 : (t.size : Int) % 256 = ((UInt8.ofNat (t.size % 256)).toNat : Int) := by rw [UInt8.toNat_ofNat', Nat.mod_eq_of_lt (by omega)]; rfl
      rw [e6, u1, u2]
      exact conv_any (World.ownsRow_lit (base := 0) (e := 5) (size := 1) w #[.int .u8 ((UInt8.ofNat (t.size / 256)).toNat : Int), .int .u8 ((UInt8.ofNat (t.size % 256)).toNat : Int)] 2 (Nat.zero_le _) (by decide) rfl)
    have c0 := below_lit w (.cells #[.int .u8 ((t.size : Int) / 256), .int .u8 ((t.size : Int) % 256)] 5)
    have E2 := Lib.hid e2
    clear hf h hn e2 hz e6
    generalize eight n = en at *
    generalize two t.size = tw at *
    generalize zeros (k - 18 - t.size) = zs at *
    go_enter Try.func9, Try.ntmps9
    go_wp2_with fail
    refine (HP _).mono ?_
    rintro e w2 ⟨rfl, b2⟩
    have c2 := c0.trans (b2.mono c0.size)
    go_wp2_with fail
    refine (HR _).mono ?_
    rintro e w3 ⟨rfl, b3⟩
    have c3 := c2.trans (b3.mono c2.size)
    go_wp2_with fail
    refine (HP _).mono ?_
    rintro e w4 ⟨rfl, b4⟩
    have c4 := c3.trans (b4.mono c3.size)
    go_wp2_with fail
    go_ret2
    exact ⟨by rw [E2.out]; rfl, c4⟩
  · have hf : fits n t z = false := by simpa using hf
    rw [frame_bad hf]
    have h := of_decide_eq_false hf
    by_cases h1 : z < 32
    · go_enter Try.func9, Try.ntmps9
      go_wp2_with fail
      go_ret2
      exact ⟨rfl, Below.refl _ _⟩
    · by_cases h2 : z > 512
      · go_enter Try.func9, Try.ntmps9
        go_wp2_with fail
        go_ret2
        exact ⟨rfl, Below.refl _ _⟩
      · obtain ⟨k, rfl⟩ : ∃ k : Nat, z = (k : Int) := ⟨z.toNat, by omega⟩
        by_cases h0 : n = 0
        · subst h0
          clear hf h
          go_enter Try.func9, Try.ntmps9
          go_wp2_with fail
          go_ret2
          exact ⟨rfl, Below.refl _ _⟩
        · have g0 : ((n : Int) == 0) = false := by simpa using h0
          have w1 : wrap64 ((k : Int) - 18) = (k : Int) - 18 := by unfold wrap64; omega
          have g1 : decide ((t.size : Int) > (k : Int) - 18) = true := by rw [decide_eq_true_iff]; omega
          clear hf h
          go_enter Try.func9, Try.ntmps9
          go_wp2_with fail
          go_ret2
          exact ⟨rfl, Below.refl _ _⟩

set_option maxRecDepth 100000 in
set_option maxHeartbeats 4000000 in
theorem rNewest_any (s t : ByteArray) (w : World) :
    Calls Try.prog 38 #[.string s, .string t] w fun e w' => e = .returned (.tuple #[.int .i64 ((nw (un s) (un t)).1 : Int), .int .u64 ((nw (un s) (un t)).2.1 : Int), .string (nw (un s) (un t)).2.2]) ∧ Below w.heap.size w w' := by
  have HS := fun w => rUnframe_any s w
  have HT := fun w => rUnframe_any t w
  generalize un s = x at *
  generalize un t = y at *
  obtain ⟨n, u, ok⟩ := x
  obtain ⟨m, v, is_⟩ := y
  by_cases hc : ok = true ∧ (is_ = false ∨ m ≤ n)
  · have e : nw (n, u, ok) (m, v, is_) = (1, n, u) := by unfold nw; rw [if_pos hc]
    rw [e]
    obtain ⟨rfl, hc⟩ := hc
    cases is_ with
    | false =>
      clear hc
      go_enter Try.func38, Try.ntmps38
      go_wp2_with fail
      refine (HS _).mono ?_
      rintro e w1 ⟨rfl, b1⟩
      go_wp2_with fail
      refine (HT _).mono ?_
      rintro e w2 ⟨rfl, b2⟩
      have c2 := b1.trans (b2.mono b1.size)
      go_wp2
      go_ret3
      exact ⟨rfl, c2⟩
    | true =>
      have hl : (n : Int) ≥ (m : Int) := by have := hc.resolve_left (by decide); omega
      clear hc
      go_enter Try.func38, Try.ntmps38
      go_wp2_with fail
      refine (HS _).mono ?_
      rintro e w1 ⟨rfl, b1⟩
      go_wp2_with fail
      refine (HT _).mono ?_
      rintro e w2 ⟨rfl, b2⟩
      have c2 := b1.trans (b2.mono b1.size)
      go_wp2
      go_ret3
      exact ⟨rfl, c2⟩
  · cases is_ with
    | true =>
      have e : nw (n, u, ok) (m, v, true) = (2, m, v) := by unfold nw; rw [if_neg hc, if_pos rfl]
      rw [e]
      cases ok with
      | false =>
        clear hc
        go_enter Try.func38, Try.ntmps38
        go_wp2_with fail
        refine (HS _).mono ?_
        rintro e w1 ⟨rfl, b1⟩
        go_wp2_with fail
        refine (HT _).mono ?_
        rintro e w2 ⟨rfl, b2⟩
        have c2 := b1.trans (b2.mono b1.size)
        go_wp2
        go_ret3
        exact ⟨rfl, c2⟩
      | true =>
        have hl : ¬ (n : Int) ≥ (m : Int) := fun h => hc ⟨rfl, .inr (by omega)⟩
        clear hc
        go_enter Try.func38, Try.ntmps38
        go_wp2_with fail
        refine (HS _).mono ?_
        rintro e w1 ⟨rfl, b1⟩
        go_wp2_with fail
        refine (HT _).mono ?_
        rintro e w2 ⟨rfl, b2⟩
        have c2 := b1.trans (b2.mono b1.size)
        go_wp2
        go_ret3
        exact ⟨rfl, c2⟩
    | false =>
      have e : nw (n, u, ok) (m, v, false) = (0, 0, ⟨#[]⟩) := by unfold nw; rw [if_neg hc, if_neg Bool.false_ne_true]
      rw [e]
      obtain rfl : ok = false := by
        cases ok with
        | false => rfl
        | true => exact absurd ⟨rfl, .inl rfl⟩ hc
      clear hc
      go_enter Try.func38, Try.ntmps38
      go_wp2_with fail
      refine (HS _).mono ?_
      rintro e w1 ⟨rfl, b1⟩
      go_wp2_with fail
      refine (HT _).mono ?_
      rintro e w2 ⟨rfl, b2⟩
      have c2 := b1.trans (b2.mono b1.size)
      go_wp2
      go_ret3
      exact ⟨rfl, c2⟩
end Slt
end Go.Proofs.Ytolanlnabdbolaa
