/-
  What package wire's takeCount, TakeText and takeAnyText do, and the document's own TakeText.
-/
import Derived.Test.YtnbjlhbaeghihaaWalksD
import Derived.IntWalk
namespace Go.Proofs.Ytnbjlhbaeghihaa
open Go.RowKit
open Go.Lib (uvarint uvarint_small uvarint_big uvarint_length64 uvarint_pos byteCells)
open Leb (dec decFrom decC decT)

def countRes : Option (Nat × List UInt8) → Value
  | none => .tuple #[.int .i64 0, .string ⟨#[]⟩, .bool false]
  | some (n, r) => .tuple #[.int .i64 n, .string ⟨r.toArray⟩, .bool true]

def textRes : Option (List UInt8 × List UInt8) → Value
  | none => .tuple #[.string ⟨#[]⟩, .string ⟨#[]⟩, .bool false]
  | some (x, r) => .tuple #[.string ⟨x.toArray⟩, .string ⟨r.toArray⟩, .bool true]

theorem decC_no {l : List UInt8} {most : Int} (h : dec l = none) : decC l most = none := by unfold decC; rw [h]
theorem decC_yes {l r : List UInt8} {n : Nat} {most : Int} (h : dec l = some (n, r)) (h1 : (n : Int) ≤ most) (h2 : n ≤ r.length) : decC l most = some (n, r) := by
  unfold decC; rw [h]; exact if_pos ⟨h1, h2⟩
theorem decC_out {l r : List UInt8} {n : Nat} {most : Int} (h : dec l = some (n, r)) (h1 : ¬ ((n : Int) ≤ most ∧ n ≤ r.length)) : decC l most = none := by
  unfold decC; rw [h]; exact if_neg h1
theorem dec_len {s : ByteArray} {r : List UInt8} {n : Nat} (h : dec s.data.toList = some (n, r)) : r.length < s.size := by
  have h1 := Leb.dec_lt h
  rw [Kit.size_list] at h1
  exact h1

set_option maxHeartbeats 1000000 in
set_option maxRecDepth 100000 in
theorem takeCount_any (s : ByteArray) (hs : s.size ≤ 9223372036854775807) (m : Int) (hm0 : -9223372036854775808 ≤ m) (hm1 : m ≤ 9223372036854775807) (w : World) :
    Calls Try.prog 44 #[.string s, .int .i64 m] w fun e w' => e = .returned (countRes (decC s.data.toList m)) ∧ Below w.heap.size w w' := by
  have H := takeUint_any s hs w
  cases hd : dec s.data.toList with
  | none =>
    rw [hd] at H
    have Hr := Lib.hid (decC_no (most := m) hd)
    clear hd
    go_enter Try.func44, Try.ntmps44
    go_wp2_with fail
    refine H.mono ?_
    rintro e w1 ⟨rfl, hb1⟩
    clear H
    simp only [uintRes]
    go_wp2
    go_ret3
    exact ⟨by rw [Hr.out]; rfl, hb1⟩
  | some x =>
    obtain ⟨n, r⟩ := x
    rw [hd] at H
    have hn := (Leb.dec_some hd).2
    have hrl := dec_len hd
    have Hd := Lib.hid hd
    clear hd
    go_enter Try.func44, Try.ntmps44
    go_wp2_with fail
    refine H.mono ?_
    rintro e w1 ⟨rfl, hb1⟩
    clear H
    simp only [uintRes]
    by_cases h1 : m < 0
    · have Hr := Lib.hid (decC_out (most := m) Hd.out (by omega))
      go_wp2
      go_ret3
      exact ⟨by rw [Hr.out]; rfl, hb1⟩
    · by_cases h2 : m < n
      · have Hr := Lib.hid (decC_out (most := m) Hd.out (by omega))
        go_wp2
        go_ret3
        exact ⟨by rw [Hr.out]; rfl, hb1⟩
      · by_cases h3 : r.length < n
        · have Hr := Lib.hid (decC_out (most := m) Hd.out (by omega))
          go_wp2
          go_ret3
          exact ⟨by rw [Hr.out]; rfl, hb1⟩
        · have Hr := Lib.hid (decC_yes (most := m) Hd.out (by omega) (by omega))
          go_wp2
          go_ret3
          exact ⟨by rw [Hr.out]; rfl, hb1⟩

theorem decT_no {l : List UInt8} {most : Int} (h : decC l most = none) : decT l most = none := by unfold decT; rw [h]
theorem decT_yes {l r : List UInt8} {n : Nat} {most : Int} (h : decC l most = some (n, r)) : decT l most = some (r.take n, r.drop n) := by unfold decT; rw [h]

theorem ret_text {a b : ByteArray} {x r : List UInt8} (ha : a.data.toList = x) (hb : b.data.toList = r) : Ending.returned (.tuple #[.string a, .string b, .bool true]) = Ending.returned (textRes (some (x, r))) := by
  subst ha hb
  rw [textRes, ← Kit.bytes_of_data, ← Kit.bytes_of_data]
theorem take_of (r : List UInt8) (n : Nat) : ((⟨r.toArray⟩ : ByteArray).extract 0 n).data.toList = r.take n := by
  rw [ByteArray.extract_mk]; simp
theorem drop_of (r : List UInt8) (n : Nat) : ((⟨r.toArray⟩ : ByteArray).extract n r.length).data.toList = r.drop n := by
  rw [ByteArray.extract_mk]
  simp only
  exact List.take_of_length_le (by rw [List.length_drop]; exact Nat.le_refl _)

set_option maxHeartbeats 1000000 in
set_option maxRecDepth 100000 in
theorem takeText_any (s : ByteArray) (hs : s.size ≤ 9223372036854775807) (m : Int) (hm0 : -9223372036854775808 ≤ m) (hm1 : m ≤ 9223372036854775807) (w : World) :
    Calls Try.prog 45 #[.string s, .int .i64 m] w fun e w' => e = .returned (textRes (decT s.data.toList m)) ∧ Below w.heap.size w w' := by
  have H := takeCount_any s hs m hm0 hm1 w
  cases hd : decC s.data.toList m with
  | none =>
    rw [hd] at H
    have Hr := Lib.hid (decT_no hd)
    clear hd
    go_enter Try.func45, Try.ntmps45
    go_wp2_with fail
    refine H.mono ?_
    rintro e w1 ⟨rfl, hb1⟩
    clear H
    simp only [countRes]
    go_wp2
    go_ret3
    exact ⟨by rw [Hr.out]; rfl, hb1⟩
  | some x =>
    obtain ⟨n, r⟩ := x
    rw [hd] at H
    obtain ⟨h1, h2, h3⟩ := Leb.decC_some hd
    have hrl := dec_len h1
    have hnr : (n : Int) ≤ (r.length : Int) := by omega
    have Hr := Lib.hid (decT_yes hd)
    clear hd h1
    go_enter Try.func45, Try.ntmps45
    go_wp2_with fail
    refine H.mono ?_
    rintro e w1 ⟨rfl, hb1⟩
    clear H
    simp only [countRes]
    go_wp2
    go_quiet (fail)
    go_wp2
    go_ret3
    refine ⟨?_, below_drewN hb1 _⟩
    rw [Hr.out]
    exact ret_text (take_of r n) (drop_of r n)

set_option maxHeartbeats 1000000 in
set_option maxRecDepth 100000 in
theorem takeAny_any (s : ByteArray) (hs : s.size ≤ 9223372036854775807) (w : World) :
    Calls Try.prog 40 #[.string s] w fun e w' => e = .returned (textRes (decT s.data.toList s.size)) ∧ Below w.heap.size w w' := by
  have H := takeText_any s hs s.size (by omega) (by omega) w
  generalize decT s.data.toList s.size = o at *
  go_enter Try.func40, Try.ntmps40
  go_wp2_with fail
  refine H.mono ?_
  rintro e w1 ⟨rfl, hb1⟩
  clear H
  rcases o with _ | ⟨x, r⟩
  · simp only [textRes]
    go_wp2
    go_ret3
    exact ⟨rfl, hb1⟩
  · simp only [textRes]
    go_wp2
    go_ret3
    exact ⟨rfl, hb1⟩

set_option maxHeartbeats 1000000 in
set_option maxRecDepth 100000 in
theorem rTakeText_any (s : ByteArray) (hs : s.size ≤ 9223372036854775807) (m : Int) (hm0 : -9223372036854775808 ≤ m) (hm1 : m ≤ 9223372036854775807) (w : World) :
    Calls Try.prog 41 #[.string s, .int .i64 m] w fun e w' => e = .returned (textRes (decT s.data.toList m)) ∧ Below w.heap.size w w' := by
  have H := rTakeUint_any s hs w
  cases hd : dec s.data.toList with
  | none =>
    rw [hd] at H
    have Hr := Lib.hid (decT_no (decC_no (most := m) hd))
    clear hd
    go_enter Try.func41, Try.ntmps41
    go_wp2_with fail
    refine H.mono ?_
    rintro e w1 ⟨rfl, hb1⟩
    clear H
    simp only [uintRes]
    go_wp2
    go_ret3
    exact ⟨by rw [Hr.out]; rfl, hb1⟩
  | some x =>
    obtain ⟨n, r⟩ := x
    rw [hd] at H
    have hn := (Leb.dec_some hd).2
    have hrl := dec_len hd
    have Hd := Lib.hid hd
    clear hd
    go_enter Try.func41, Try.ntmps41
    go_wp2_with fail
    refine H.mono ?_
    rintro e w1 ⟨rfl, hb1⟩
    clear H
    simp only [uintRes]
    by_cases h1 : m < 0
    · have Hr := Lib.hid (decT_no (decC_out (most := m) Hd.out (by omega)))
      go_wp2
      go_ret3
      exact ⟨by rw [Hr.out]; rfl, hb1⟩
    · by_cases h2 : m < n
      · have Hr := Lib.hid (decT_no (decC_out (most := m) Hd.out (by omega)))
        go_wp2
        go_ret3
        exact ⟨by rw [Hr.out]; rfl, hb1⟩
      · by_cases h3 : r.length < n
        · have Hr := Lib.hid (decT_no (decC_out (most := m) Hd.out (by omega)))
          go_wp2
          go_ret3
          exact ⟨by rw [Hr.out]; rfl, hb1⟩
        · have Hr := Lib.hid (decT_yes (decC_yes (most := m) Hd.out (by omega) (by omega)))
          have hnr : (n : Int) ≤ (r.length : Int) := by omega
          have hw : IntKind.i64.wrap (n : Int) = (n : Int) := IntWalk.i64_in _ (by omega)
          go_wp2
          go_quiet (fail)
          go_wp2
          go_ret3
          refine ⟨?_, below_drewN hb1 _⟩
          rw [Hr.out]
          exact ret_text (take_of r n) (drop_of r n)
end Go.Proofs.Ytnbjlhbaeghihaa
