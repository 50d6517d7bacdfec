/-
  Package token: put, Text, Pack.
-/
import Derived.Test.YtbhdcocgghaifaaTok
import Derived.Test.YtbhdcocgghaifaaBox
import Derived.Test.YtbhdcocgghaifaaWalksC
import Derived.Laws.ResultCell
namespace Go.Proofs.Ytbhdcocgghaifaa
open Go.RowKit
open Go.Lib (uvarint uvarint_length64)
open Leb (dec encNs)
open Ideal Ida

namespace Cap
theorem encNs_size : ∀ (l : List Nat), (∀ x ∈ l, x < 18446744073709551616) → (encNs l).length ≤ 10 * l.length
  | [], _ => Nat.le_refl _
  | n :: l, h => by
    have h1 := uvarint_length64 (h n (by simp))
    have h2 := encNs_size l (fun x hx => h x (by simp [hx]))
    show (uvarint n ++ encNs l).length ≤ 10 * (l.length + 1)
    rw [List.length_append]
    omega
theorem encNs_snoc {l : List Nat} {k : Nat} (hk : k < l.length) : encNs (l.take (k + 1)) = encNs (l.take k) ++ uvarint l[k] := by
  rw [List.take_succ_eq_append_getElem hk, Leb.encNs_append]
  simp [encNs]
theorem cat_lists (a b : List UInt8) : (⟨a.toArray⟩ : ByteArray) ++ ⟨b.toArray⟩ = ⟨(a ++ b).toArray⟩ := by
  apply ByteArray.ext
  simp


set_option maxRecDepth 100000 in
set_option maxHeartbeats 2000000 in
theorem put_any (l : List Nat) (hl : l.length ≤ 1000) (hx : ∀ x ∈ l, x < 18446744073709551616) (v : Value) (w : World) (hv : Kit.Rd w v (nums l)) :
    Calls Try.prog 26 #[v] w fun e w' => e = .returned (.string ⟨(encNs l).toArray⟩) ∧ Below w.heap.size w w' := by
  obtain ⟨a, cap, rfl⟩ := hv.form
  have hll : (nums l).length = l.length := by simp [nums]
  rw [hll] at hv ⊢
  clear hll
  go_enter Try.func26, Try.ntmps26
  go_wp2
  go_loopw [3, 8] (fun vs vi wr => ∃ k : Nat, k ≤ l.length ∧ vi = .int .i64 (k : Int) ∧ vs = .string ⟨(encNs (l.take k)).toArray⟩ ∧ Below w.heap.size w wr) (fun _ vi _ => l.length - (intOf vi).toNat)
  case atStart => exact ⟨0, Nat.zero_le _, rfl, rfl, Below.refl _ _⟩
  case round =>
    obtain ⟨k, hk, rfl, rfl, hb2⟩ := hrel
    by_cases hlt : k < l.length
    · have hlt2 : (k : Int) < (l.length : Int) := by omega
      obtain ⟨ad, rfl, hc⟩ := (hv.below hb2).at_ (k := k) (u := .int .u64 (l[k] : Nat)) (by simp [nums, hlt])
      have e1 := encNs_snoc hlt
      have s1 : (encNs (l.take k)).length ≤ 10 * l.length := by
        have := encNs_size (l.take k) (fun x hm => hx x (List.mem_of_mem_take hm))
        rw [List.length_take] at this
        omega
      have HT := fun w => putUint_any l[k] (hx _ (List.getElem_mem hlt)) w
      have s2 : (⟨(uvarint l[k]).toArray⟩ : ByteArray).size ≤ 10 := by rw [Kit.size_mk]; exact uvarint_length64 (hx _ (List.getElem_mem hlt))
      have s3 : (⟨(encNs (l.take k)).toArray⟩ : ByteArray).size ≤ 10000 := by rw [Kit.size_mk]; omega
      have e2 : (⟨(encNs (l.take k)).toArray⟩ : ByteArray) ++ ⟨(uvarint l[k]).toArray⟩ = ⟨(encNs (l.take (k + 1))).toArray⟩ := by rw [e1, cat_lists]
      have E2 := Lib.hid e2
      have Hx := Lib.hid hx
      generalize (⟨(uvarint l[k]).toArray⟩ : ByteArray) = t at *
      generalize (⟨(encNs (l.take k)).toArray⟩ : ByteArray) = A at *
      have ht : (9223372036854775807 < (A.size : Int) + (t.size : Int)) = False := by simp; omega
      have ht2 : (9223372036854775807 < A.size + t.size) = False := by simp; omega
      generalize l[k] = n at *
      clear e1 e2 s1 s2 s3 hx
      go_wp2_with fail
      refine (HT _).mono ?_
      rintro e w3 ⟨rfl, hb3⟩
      have hb4 := hb2.trans (hb3.mono hb2.size)
      have hx := Hx.out
      clear HT hb3
      go_wp2
      go_roundw
      case rel => exact ⟨k + 1, by omega, by go_num, by rw [E2.out], hb4⟩
      case measure => simp [intOf]; omega
    · obtain rfl : k = l.length := by omega
      rw [List.take_length]
      have hd1 : decide ((l.length : Int) < (l.length : Int)) = false := by rw [decide_eq_false_iff_not]; omega
      clear hlt
      go_wp2
      go_ret
      exact ⟨rfl, hb2⟩


set_option maxRecDepth 100000 in
set_option maxHeartbeats 1000000 in
theorem text_any (t : Tok) (ht : fine t) (w : World) :
    Calls Try.prog 13 #[.agg #[.int .u64 (t.n : Int), .int .u64 (t.v : Int), .int .u64 (t.e : Int), .int .u64 (t.r : Int), .int .u64 (t.g : Int)]] w fun e w' => e = .returned (.string (text t)) ∧ Below w.heap.size w w' := by
  obtain ⟨a, b, c, d, g⟩ := t
  obtain ⟨ha, hb, hc, hd, hg⟩ := ht
  simp only at ha hb hc hd hg ⊢
  have H := put_any [a, b, c, d] (by simp) (by intro x hx; simp at hx; omega) _ ((w.alloc (.cells #[.int .u64 (a : Int), .int .u64 (b : Int), .int .u64 (c : Int), .int .u64 (d : Int), .int .u64 (g : Int)] 24)).alloc (.cells (nums [a, b, c, d]).toArray 22)) (lit_rd (w.alloc (.cells #[.int .u64 (a : Int), .int .u64 (b : Int), .int .u64 (c : Int), .int .u64 (d : Int), .int .u64 (g : Int)] 24)) [a, b, c, d] 22)
  have c0 := below_lit w (.cells #[.int .u64 (a : Int), .int .u64 (b : Int), .int .u64 (c : Int), .int .u64 (d : Int), .int .u64 (g : Int)] 24)
  have c1 := c0.trans ((below_lit (w.alloc (.cells #[.int .u64 (a : Int), .int .u64 (b : Int), .int .u64 (c : Int), .int .u64 (d : Int), .int .u64 (g : Int)] 24)) (.cells (nums [a, b, c, d]).toArray 22)).mono c0.size)
  rw [show (⟨(encNs [a, b, c, d]).toArray⟩ : ByteArray) = said ⟨a, b, c, d, g⟩ from rfl, World.size_alloc] at H
  have hs := said_size (t := ⟨a, b, c, d, g⟩) ⟨ha, hb, hc, hd, hg⟩
  have ht : text ⟨a, b, c, d, g⟩ = (⟨#[116, 111, 107, 101, 110]⟩ : ByteArray) ++ said ⟨a, b, c, d, g⟩ := rfl
  have HT := Lib.hid ht
  have f1 : (9223372036854775807 < ((⟨#[116, 111, 107, 101, 110]⟩ : ByteArray).size : Int) + ((said ⟨a, b, c, d, g⟩).size : Int)) = False := by
    rw [show (⟨#[116, 111, 107, 101, 110]⟩ : ByteArray).size = 5 from rfl]; simp; omega
  have f2 : (9223372036854775807 < 5 + ((said ⟨a, b, c, d, g⟩).size : Int)) = False := by simp; omega
  have f3 : (9223372036854775807 < 5 + (said ⟨a, b, c, d, g⟩).size) = False := by simp; omega
  generalize text ⟨a, b, c, d, g⟩ = tt at *
  generalize said ⟨a, b, c, d, g⟩ = t at *
  clear ha hb hc hd hg c0 ht hs
  go_enter Try.func13, Try.ntmps13
  go_wp2_with fail
  refine H.mono ?_
  rintro e w1 ⟨rfl, h1⟩
  have fin := c1.trans (h1.mono c1.size)
  clear h1 H c1
  go_wp2
  go_ret
  exact ⟨by rw [HT.out]; rfl, fin⟩

set_option maxRecDepth 100000 in
set_option maxHeartbeats 1000000 in
theorem pack_any (t : Tok) (ht : fine t) (w : World) :
    Calls Try.prog 10 #[.agg #[.int .u64 (t.n : Int), .int .u64 (t.v : Int), .int .u64 (t.e : Int), .int .u64 (t.r : Int), .int .u64 (t.g : Int)]] w fun e w' => e = .returned (.string (pack t)) ∧ Below w.heap.size w w' := by
  obtain ⟨a, b, c, d, g⟩ := t
  obtain ⟨ha, hb, hc, hd, hg⟩ := ht
  simp only at ha hb hc hd hg ⊢
  have H := put_any [a, b, c, d, g] (by simp) (by intro x hx; simp at hx; omega) _ ((w.alloc (.cells #[.int .u64 (a : Int), .int .u64 (b : Int), .int .u64 (c : Int), .int .u64 (d : Int), .int .u64 (g : Int)] 24)).alloc (.cells (nums [a, b, c, d, g]).toArray 22)) (lit_rd (w.alloc (.cells #[.int .u64 (a : Int), .int .u64 (b : Int), .int .u64 (c : Int), .int .u64 (d : Int), .int .u64 (g : Int)] 24)) [a, b, c, d, g] 22)
  have c0 := below_lit w (.cells #[.int .u64 (a : Int), .int .u64 (b : Int), .int .u64 (c : Int), .int .u64 (d : Int), .int .u64 (g : Int)] 24)
  have c1 := c0.trans ((below_lit (w.alloc (.cells #[.int .u64 (a : Int), .int .u64 (b : Int), .int .u64 (c : Int), .int .u64 (d : Int), .int .u64 (g : Int)] 24)) (.cells (nums [a, b, c, d, g]).toArray 22)).mono c0.size)
  rw [show (⟨(encNs [a, b, c, d, g]).toArray⟩ : ByteArray) = pack ⟨a, b, c, d, g⟩ from rfl, World.size_alloc] at H
  generalize pack ⟨a, b, c, d, g⟩ = t at *
  clear ha hb hc hd hg c0
  go_enter Try.func10, Try.ntmps10
  go_wp2_with fail
  refine H.mono ?_
  rintro e w1 ⟨rfl, h1⟩
  have fin := c1.trans (h1.mono c1.size)
  clear h1 H c1
  go_wp2
  go_ret
  exact ⟨rfl, fin⟩
end Cap
end Go.Proofs.Ytbhdcocgghaifaa
