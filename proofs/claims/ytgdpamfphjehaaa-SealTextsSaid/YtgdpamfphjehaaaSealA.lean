/-
  Package seal: Ad, Text, Parse, Lock, Unlock.
-/
import Derived.Test.YtgdpamfphjehaaaSeal
import Derived.Test.YtgdpamfphjehaaaBox
import Derived.Test.YtgdpamfphjehaaaWalksC
import Derived.Laws.ResultCell
namespace Go.Proofs.Ytgdpamfphjehaaa
open Go.RowKit
open Go.Lib (uvarint uvarint_length64)
open Leb (dec encNs)
open Ideal Ida

namespace Sea
theorem encNs_size : ∀ (l : List Nat), (∀ x ∈ l, x < 18446744073709551616) → (encNs l).length ≤ 10 * l.length
  | [], _ => Nat.le_refl _
  | n :: l, h => by
    have h1 := uvarint_length64 (h n (by simp))
    have h2 := encNs_size l (fun x hx => h x (by simp [hx]))
    show (uvarint n ++ encNs l).length ≤ 10 * (l.length + 1)
    rw [List.length_append]
    omega
theorem encNs_snoc {l : List Nat} {k : Nat} (hk : k < l.length) : encNs (l.take (k + 1)) = encNs (l.take k) ++ uvarint l[k] := by
  rw [List.take_succ_eq_append_getElem hk, Leb.encNs_append]
  simp [encNs]
theorem cat_lists (a b : List UInt8) : (⟨a.toArray⟩ : ByteArray) ++ ⟨b.toArray⟩ = ⟨(a ++ b).toArray⟩ := by
  apply ByteArray.ext
  simp

set_option maxRecDepth 100000 in
set_option maxHeartbeats 2000000 in
theorem put_any (l : List Nat) (hl : l.length ≤ 1000) (hx : ∀ x ∈ l, x < 18446744073709551616) (v : Value) (w : World) (hv : Kit.Rd w v (nums l)) :
    Calls Try.prog 29 #[v] w fun e w' => e = .returned (.string ⟨(encNs l).toArray⟩) ∧ Below w.heap.size w w' := by
  obtain ⟨a, cap, rfl⟩ := hv.form
  have hll : (nums l).length = l.length := by simp [nums]
  rw [hll] at hv ⊢
  clear hll
  go_enter Try.func29, Try.ntmps29
  go_wp2
  go_loopw [3, 8] (fun vs vi wr => ∃ k : Nat, k ≤ l.length ∧ vi = .int .i64 (k : Int) ∧ vs = .string ⟨(encNs (l.take k)).toArray⟩ ∧ Below w.heap.size w wr) (fun _ vi _ => l.length - (intOf vi).toNat)
  case atStart => exact ⟨0, Nat.zero_le _, rfl, rfl, Below.refl _ _⟩
  case round =>
    obtain ⟨k, hk, rfl, rfl, hb2⟩ := hrel
    by_cases hlt : k < l.length
    · have hlt2 : (k : Int) < (l.length : Int) := by omega
      obtain ⟨ad, rfl, hc⟩ := (hv.below hb2).at_ (k := k) (u := .int .u64 (l[k] : Nat)) (by simp [nums, hlt])
      have e1 := encNs_snoc hlt
      have s1 : (encNs (l.take k)).length ≤ 10 * l.length := by
        have := encNs_size (l.take k) (fun x hm => hx x (List.mem_of_mem_take hm))
        rw [List.length_take] at this
        omega
      have HT := fun w => putUint_any l[k] (hx _ (List.getElem_mem hlt)) w
      have s2 : (⟨(uvarint l[k]).toArray⟩ : ByteArray).size ≤ 10 := by rw [Kit.size_mk]; exact uvarint_length64 (hx _ (List.getElem_mem hlt))
      have s3 : (⟨(encNs (l.take k)).toArray⟩ : ByteArray).size ≤ 10000 := by rw [Kit.size_mk]; omega
      have e2 : (⟨(encNs (l.take k)).toArray⟩ : ByteArray) ++ ⟨(uvarint l[k]).toArray⟩ = ⟨(encNs (l.take (k + 1))).toArray⟩ := by rw [e1, cat_lists]
      have E2 := Lib.hid e2
      have Hx := Lib.hid hx
      generalize (⟨(uvarint l[k]).toArray⟩ : ByteArray) = t at *
      generalize (⟨(encNs (l.take k)).toArray⟩ : ByteArray) = A at *
      have ht : (9223372036854775807 < (A.size : Int) + (t.size : Int)) = False := by simp; omega
      have ht2 : (9223372036854775807 < A.size + t.size) = False := by simp; omega
      generalize l[k] = n at *
      clear e1 e2 s1 s2 s3 hx
      go_wp2_with fail
      refine (HT _).mono ?_
      rintro e w3 ⟨rfl, hb3⟩
      have hb4 := hb2.trans (hb3.mono hb2.size)
      have hx := Hx.out
      clear HT hb3
      go_wp2
      go_roundw
      case rel => exact ⟨k + 1, by omega, by go_num, by rw [E2.out], hb4⟩
      case measure => simp [intOf]; omega
    · obtain rfl : k = l.length := by omega
      rw [List.take_length]
      have hd1 : decide ((l.length : Int) < (l.length : Int)) = false := by rw [decide_eq_false_iff_not]; omega
      clear hlt
      go_wp2
      go_ret
      exact ⟨rfl, hb2⟩

set_option maxRecDepth 100000 in
set_option maxHeartbeats 1000000 in
theorem ad_any (a b c d : Nat) (ha : a < 18446744073709551616) (hb : b < 18446744073709551616) (hc : c < 18446744073709551616) (hd : d < 18446744073709551616) (w : World) :
    Calls Try.prog 24 #[.int .u64 (a : Int), .int .u64 (b : Int), .int .u64 (c : Int), .int .u64 (d : Int)] w fun e w' => e = .returned (.string (four a b c d)) ∧ Below w.heap.size w w' := by
  have H := put_any [a, b, c, d] (by simp) (by intro x hx; simp at hx; omega) _ (w.alloc (.cells (nums [a, b, c, d]).toArray 22)) (lit_rd w [a, b, c, d] 22)
  have c0 := below_lit w (.cells (nums [a, b, c, d]).toArray 22)
  rw [show (⟨(encNs [a, b, c, d]).toArray⟩ : ByteArray) = four a b c d from rfl] at H
  generalize four a b c d = t at *
  clear ha hb hc hd
  go_enter Try.func24, Try.ntmps24
  go_wp2_with fail
  refine H.mono ?_
  rintro e w1 ⟨rfl, h1⟩
  have fin := c0.trans (h1.mono c0.size)
  clear h1 H c0
  go_wp2
  go_ret
  exact ⟨rfl, fin⟩

set_option maxRecDepth 100000 in
set_option maxHeartbeats 1000000 in
theorem text_any (l : Leaf) (hl : fine l) (w : World) :
    Calls Try.prog 11 #[.agg #[.int .u64 (l.v : Int), .int .u64 (l.e : Int), .int .u64 (l.n : Int), .int .u64 (l.c : Int)]] w fun e w' => e = .returned (.string (text l)) ∧ Below w.heap.size w w' := by
  obtain ⟨a, b, c, d⟩ := l
  obtain ⟨ha, hb, hc, hd⟩ := hl
  simp only at ha hb hc hd ⊢
  have H := put_any [a, b, c, d] (by simp) (by intro x hx; simp at hx; omega) _ ((w.alloc (.cells #[.int .u64 (a : Int), .int .u64 (b : Int), .int .u64 (c : Int), .int .u64 (d : Int)] 24)).alloc (.cells (nums [a, b, c, d]).toArray 22)) (lit_rd (w.alloc (.cells #[.int .u64 (a : Int), .int .u64 (b : Int), .int .u64 (c : Int), .int .u64 (d : Int)] 24)) [a, b, c, d] 22)
  have c0 := below_lit w (.cells #[.int .u64 (a : Int), .int .u64 (b : Int), .int .u64 (c : Int), .int .u64 (d : Int)] 24)
  have c1 := c0.trans ((below_lit (w.alloc (.cells #[.int .u64 (a : Int), .int .u64 (b : Int), .int .u64 (c : Int), .int .u64 (d : Int)] 24)) (.cells (nums [a, b, c, d]).toArray 22)).mono c0.size)
  rw [show (⟨(encNs [a, b, c, d]).toArray⟩ : ByteArray) = text ⟨a, b, c, d⟩ from rfl, World.size_alloc] at H
  generalize text ⟨a, b, c, d⟩ = t at *
  clear ha hb hc hd c0
  go_enter Try.func11, Try.ntmps11
  go_wp2_with fail
  refine H.mono ?_
  rintro e w1 ⟨rfl, h1⟩
  have fin := c1.trans (h1.mono c1.size)
  clear h1 H c1
  go_wp2
  go_ret
  exact ⟨rfl, fin⟩
end Sea
end Go.Proofs.Ytgdpamfphjehaaa
