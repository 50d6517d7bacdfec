/-
  The document's own Said and Pack.
-/
import Derived.Test.YtbhdcocgghaifaaTokB
import Derived.Test.YtbhdcocgghaifaaWalksD
import Derived.Deep.RegionHeld3
import Derived.Deep.DeepCutAuto
namespace Go.Proofs.Ytbhdcocgghaifaa
open Go.RowKit
open Ideal Ida
open Go.Lib (uvarint uvarint_length64)
open Leb (dec encNs)

namespace Cap
set_option maxRecDepth 100000 in
set_option maxHeartbeats 4000000 in
theorem rsaid_any (t : Tok) (ht : fine t) (w : World) :
    Calls Try.prog 14 #[.agg #[.int .u64 (t.n : Int), .int .u64 (t.v : Int), .int .u64 (t.e : Int), .int .u64 (t.r : Int), .int .u64 (t.g : Int)]] w fun e w' => e = .returned (.string (said t)) ∧ Below w.heap.size w w' := by
  have HA := fun w => rPutUint_any t.n ht.1 w
  have HB := fun w => rPutUint_any t.v ht.2.1 w
  have HC := fun w => rPutUint_any t.e ht.2.2.1 w
  have HD := fun w => rPutUint_any t.r ht.2.2.2.1 w
  have sa : (⟨(uvarint t.n).toArray⟩ : ByteArray).size ≤ 10 := by rw [Kit.size_mk]; exact uvarint_length64 ht.1
  have sb : (⟨(uvarint t.v).toArray⟩ : ByteArray).size ≤ 10 := by rw [Kit.size_mk]; exact uvarint_length64 ht.2.1
  have sc : (⟨(uvarint t.e).toArray⟩ : ByteArray).size ≤ 10 := by rw [Kit.size_mk]; exact uvarint_length64 ht.2.2.1
  have sd : (⟨(uvarint t.r).toArray⟩ : ByteArray).size ≤ 10 := by rw [Kit.size_mk]; exact uvarint_length64 ht.2.2.2.1
  have hcat : (⟨(uvarint t.n).toArray⟩ : ByteArray) ++ (⟨(uvarint t.v).toArray⟩ : ByteArray) ++ (⟨(uvarint t.e).toArray⟩ : ByteArray) ++ (⟨(uvarint t.r).toArray⟩ : ByteArray) = said t := by
    rw [cat_lists, cat_lists, cat_lists]
    unfold said Sea.four
    congr 2
    simp [Leb.encNs]
  have Hcat := Lib.hid hcat
  generalize (⟨(uvarint t.n).toArray⟩ : ByteArray) = ta at *
  generalize (⟨(uvarint t.v).toArray⟩ : ByteArray) = tb at *
  generalize (⟨(uvarint t.e).toArray⟩ : ByteArray) = tc at *
  generalize (⟨(uvarint t.r).toArray⟩ : ByteArray) = td at *
  have f1 : (9223372036854775807 < (ta.size : Int) + (tb.size : Int)) = False := by simp; omega
  have g1 : (9223372036854775807 < ta.size + tb.size) = False := by simp; omega
  have f2 : (9223372036854775807 < (ta.size : Int) + (tb.size : Int) + (tc.size : Int)) = False := by simp; omega
  have g2 : (9223372036854775807 < ta.size + tb.size + tc.size) = False := by simp; omega
  have f3 : (9223372036854775807 < (ta.size : Int) + (tb.size : Int) + (tc.size : Int) + (td.size : Int)) = False := by simp; omega
  have g3 : (9223372036854775807 < ta.size + tb.size + tc.size + td.size) = False := by simp; omega
  have B0 := (Box.new w #[.int .u64 (t.n : Int), .int .u64 (t.v : Int), .int .u64 (t.e : Int), .int .u64 (t.r : Int), .int .u64 (t.g : Int)] 24).drew
  have c0 := (below_lit w (.cells #[.int .u64 (t.n : Int), .int .u64 (t.v : Int), .int .u64 (t.e : Int), .int .u64 (t.r : Int), .int .u64 (t.g : Int)] 24)).drew
  clear sa sb sc sd hcat ht
  go_enter Try.func14, Try.ntmps14
  go_upto_region 1 with (fail)
  go_region_held3 (fun w' => w'.cell? ⟨w.heap.size, 0, none⟩ = some (.int .u64 (t.n : Int)) ∧ w'.cell? ⟨w.heap.size, 1, none⟩ = some (.int .u64 (t.v : Int)) ∧ w'.cell? ⟨w.heap.size, 2, none⟩ = some (.int .u64 (t.e : Int)) ∧ w'.cell? ⟨w.heap.size, 3, none⟩ = some (.int .u64 (t.r : Int)))
    (first | exact ⟨B0.cell rfl, B0.cell rfl, B0.cell rfl, B0.cell rfl⟩ | exact ⟨B1.cell rfl, B1.cell rfl, B1.cell rfl, B1.cell rfl⟩ | exact ⟨B2.cell rfl, B2.cell rfl, B2.cell rfl, B2.cell rfl⟩ | exact ⟨B3.cell rfl, B3.cell rfl, B3.cell rfl, B3.cell rfl⟩ | exact ⟨B4.cell rfl, B4.cell rfl, B4.cell rfl, B4.cell rfl⟩)
    (first
      | (go_at_call 29; have hbS := B3; refine (HD _).mono ?_; rintro x w4 ⟨rfl, b4⟩; have B4 := B3.below b4; have c4 := c3.trans (b4.mono c3.size))
      | (go_at_call 29; have hbS := B2; refine (HC _).mono ?_; rintro x w3 ⟨rfl, b3⟩; have B3 := B2.below b3; have c3 := c2.trans (b3.mono c2.size))
      | (go_at_call 29; have hbS := B1; refine (HB _).mono ?_; rintro x w2 ⟨rfl, b2⟩; have B2 := B1.below b2; have c2 := c1.trans (b2.mono c1.size))
      | (go_at_call 29; refine (HA _).mono ?_; rintro x w1 ⟨rfl, b1⟩; have B1 := B0.below b1; have c1 := c0.trans (b1.mono c0.size)))
  go_wp2
  go_ret
  exact ⟨by rw [← Hcat.out]; rfl, c4⟩

set_option maxRecDepth 100000 in
set_option maxHeartbeats 4000000 in
theorem rpack_any (t : Tok) (ht : fine t) (w : World) :
    Calls Try.prog 12 #[.agg #[.int .u64 (t.n : Int), .int .u64 (t.v : Int), .int .u64 (t.e : Int), .int .u64 (t.r : Int), .int .u64 (t.g : Int)]] w fun e w' => e = .returned (.string (pack t)) ∧ Below w.heap.size w w' := by
  have HS := fun w => rsaid_any t ht w
  have HG := fun w => rPutUint_any t.g ht.2.2.2.2 w
  have ss := said_size ht
  have sg : (⟨(uvarint t.g).toArray⟩ : ByteArray).size ≤ 10 := by rw [Kit.size_mk]; exact uvarint_length64 ht.2.2.2.2
  have hcat : said t ++ (⟨(uvarint t.g).toArray⟩ : ByteArray) = pack t := by
    unfold said Sea.four pack five
    rw [cat_lists]
    congr 2
    simp [Leb.encNs]
  have Hcat := Lib.hid hcat
  generalize (⟨(uvarint t.g).toArray⟩ : ByteArray) = tg at *
  generalize said t = ta at *
  have f1 : (9223372036854775807 < (ta.size : Int) + (tg.size : Int)) = False := by simp; omega
  have g1 : (9223372036854775807 < ta.size + tg.size) = False := by simp; omega
  have B0 := (Box.new w #[.int .u64 (t.n : Int), .int .u64 (t.v : Int), .int .u64 (t.e : Int), .int .u64 (t.r : Int), .int .u64 (t.g : Int)] 24).drew
  have c0 := (below_lit w (.cells #[.int .u64 (t.n : Int), .int .u64 (t.v : Int), .int .u64 (t.e : Int), .int .u64 (t.r : Int), .int .u64 (t.g : Int)] 24)).drew
  clear ss sg hcat ht
  go_enter Try.func12, Try.ntmps12
  go_upto_region 1 with (fail)
  go_region_held3 (fun w' => w'.cell? ⟨w.heap.size, 0, none⟩ = some (.int .u64 (t.n : Int)) ∧ w'.cell? ⟨w.heap.size, 1, none⟩ = some (.int .u64 (t.v : Int)) ∧ w'.cell? ⟨w.heap.size, 2, none⟩ = some (.int .u64 (t.e : Int)) ∧ w'.cell? ⟨w.heap.size, 3, none⟩ = some (.int .u64 (t.r : Int)) ∧ w'.cell? ⟨w.heap.size, 4, none⟩ = some (.int .u64 (t.g : Int)))
    (first | exact ⟨B0.cell rfl, B0.cell rfl, B0.cell rfl, B0.cell rfl, B0.cell rfl⟩ | exact ⟨B1.cell rfl, B1.cell rfl, B1.cell rfl, B1.cell rfl, B1.cell rfl⟩ | exact ⟨B2.cell rfl, B2.cell rfl, B2.cell rfl, B2.cell rfl, B2.cell rfl⟩)
    (first
      | (go_at_call 29; have hbS := B1; refine (HG _).mono ?_; rintro x w2 ⟨rfl, b2⟩; have B2 := B1.below b2; have c2 := c1.trans (b2.mono c1.size))
      | (go_at_call 14; refine (HS _).mono ?_; rintro x w1 ⟨rfl, b1⟩; have B1 := B0.below b1; have c1 := c0.trans (b1.mono c0.size)))
  go_wp2
  go_ret
  exact ⟨by rw [← Hcat.out]; rfl, c2⟩
end Cap
end Go.Proofs.Ytbhdcocgghaifaa
