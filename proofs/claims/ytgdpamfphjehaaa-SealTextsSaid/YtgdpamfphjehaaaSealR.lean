/-
  The document's own Ad, Text and Parse.
-/
import Derived.Test.YtgdpamfphjehaaaSealB
import Derived.Test.YtgdpamfphjehaaaWalksD
namespace Go.Proofs.Ytgdpamfphjehaaa
open Go.RowKit
open Go.Lib (uvarint uvarint_length64)
open Leb (dec)

namespace Sea
/-- A number taken, told without cases. -/
def tk (s : List UInt8) : Nat × List UInt8 × Bool := match dec s with | none => (0, [], false) | some (n, r) => (n, r, true)
theorem uint_tk (s : List UInt8) : uintRes (dec s) = .tuple #[.int .u64 ((tk s).1 : Int), .string ⟨(tk s).2.1.toArray⟩, .bool (tk s).2.2] := by
  unfold tk
  cases dec s with
  | none => rfl
  | some x => rfl
theorem tk_len (s : List UInt8) : (tk s).2.1.length ≤ s.length := by
  unfold tk
  cases h : dec s with
  | none => exact Nat.zero_le _
  | some x => exact Nat.le_of_lt (Leb.dec_lt h)
theorem parse_tk (s : List UInt8) : parse s = if (tk s).2.2 && (tk (tk s).2.1).2.2 && (tk (tk (tk s).2.1).2.1).2.2 && (tk (tk (tk (tk s).2.1).2.1).2.1).2.2 && (tk (tk (tk (tk s).2.1).2.1).2.1).2.1.isEmpty then some ⟨(tk s).1, (tk (tk s).2.1).1, (tk (tk (tk s).2.1).2.1).1, (tk (tk (tk (tk s).2.1).2.1).2.1).1⟩ else none := by
  unfold parse
  cases h1 : dec s with
  | none => simp [tk, h1]
  | some x1 =>
  obtain ⟨a, s1⟩ := x1
  have e1 : tk s = (a, s1, true) := by simp [tk, h1]
  rw [e1]
  simp only [p1]
  cases h2 : dec s1 with
  | none => simp [tk, h2]
  | some x2 =>
  obtain ⟨b, s2⟩ := x2
  have e2 : tk s1 = (b, s2, true) := by simp [tk, h2]
  rw [e2]
  simp only [p2]
  cases h3 : dec s2 with
  | none => simp [tk, h3]
  | some x3 =>
  obtain ⟨c, s3⟩ := x3
  have e3 : tk s2 = (c, s3, true) := by simp [tk, h3]
  rw [e3]
  simp only [p3]
  cases h4 : dec s3 with
  | none => simp [tk, h4]
  | some x4 =>
  obtain ⟨d, s4⟩ := x4
  have e4 : tk s3 = (d, s4, true) := by simp [tk, h4]
  rw [e4]
  simp only [p4]
  cases s4 with
  | nil => rfl
  | cons y ys => rfl

set_option maxRecDepth 100000 in
set_option maxHeartbeats 2000000 in
theorem rad_any (a b c d : Nat) (ha : a < 18446744073709551616) (hb : b < 18446744073709551616) (hc : c < 18446744073709551616) (hd : d < 18446744073709551616) (w : World) :
    Calls Try.prog 25 #[.int .u64 (a : Int), .int .u64 (b : Int), .int .u64 (c : Int), .int .u64 (d : Int)] w fun e w' => e = .returned (.string (four a b c d)) ∧ Below w.heap.size w w' := by
  have HA := fun w => rPutUint_any a ha w
  have HB := fun w => rPutUint_any b hb w
  have HC := fun w => rPutUint_any c hc w
  have HD := fun w => rPutUint_any d hd w
  have sa : (⟨(uvarint a).toArray⟩ : ByteArray).size ≤ 10 := by rw [Kit.size_mk]; exact uvarint_length64 ha
  have sb : (⟨(uvarint b).toArray⟩ : ByteArray).size ≤ 10 := by rw [Kit.size_mk]; exact uvarint_length64 hb
  have sc : (⟨(uvarint c).toArray⟩ : ByteArray).size ≤ 10 := by rw [Kit.size_mk]; exact uvarint_length64 hc
  have sd : (⟨(uvarint d).toArray⟩ : ByteArray).size ≤ 10 := by rw [Kit.size_mk]; exact uvarint_length64 hd
  have hcat : (⟨(uvarint a).toArray⟩ : ByteArray) ++ ⟨(uvarint b).toArray⟩ ++ ⟨(uvarint c).toArray⟩ ++ ⟨(uvarint d).toArray⟩ = four a b c d := by
    rw [cat_lists, cat_lists, cat_lists]
    unfold four
    congr 2
    simp [Leb.encNs]
  have Hcat := Lib.hid hcat
  generalize (⟨(uvarint a).toArray⟩ : ByteArray) = ta at *
  generalize (⟨(uvarint b).toArray⟩ : ByteArray) = tb at *
  generalize (⟨(uvarint c).toArray⟩ : ByteArray) = tc at *
  generalize (⟨(uvarint d).toArray⟩ : ByteArray) = td at *
  have f1 : (9223372036854775807 < (ta.size : Int) + (tb.size : Int)) = False := by simp; omega
  have g1 : (9223372036854775807 < ta.size + tb.size) = False := by simp; omega
  have f2 : (9223372036854775807 < (ta.size : Int) + (tb.size : Int) + (tc.size : Int)) = False := by simp; omega
  have g2 : (9223372036854775807 < ta.size + tb.size + tc.size) = False := by simp; omega
  have f3 : (9223372036854775807 < (ta.size : Int) + (tb.size : Int) + (tc.size : Int) + (td.size : Int)) = False := by simp; omega
  have g3 : (9223372036854775807 < ta.size + tb.size + tc.size + td.size) = False := by simp; omega
  clear sa sb sc sd hcat
  have c0 := Below.refl w.heap.size w
  go_enter Try.func25, Try.ntmps25
  go_wp2_with fail
  refine (HA _).mono ?_
  rintro e w1 ⟨rfl, b1⟩
  replace c0 := c0.trans (b1.mono c0.size)
  clear b1 HA
  go_wp2_with fail
  refine (HB _).mono ?_
  rintro e w2 ⟨rfl, b1⟩
  replace c0 := c0.trans (b1.mono c0.size)
  clear b1 HB
  go_wp2_with fail
  refine (HC _).mono ?_
  rintro e w3 ⟨rfl, b1⟩
  replace c0 := c0.trans (b1.mono c0.size)
  clear b1 HC
  go_wp2_with fail
  refine (HD _).mono ?_
  rintro e w4 ⟨rfl, b1⟩
  replace c0 := c0.trans (b1.mono c0.size)
  clear b1 HD
  go_wp2
  go_ret
  exact ⟨by rw [← Hcat.out]; rfl, c0⟩

set_option maxRecDepth 100000 in
set_option maxHeartbeats 1000000 in
theorem rtext_any (l : Leaf) (hl : fine l) (w : World) :
    Calls Try.prog 13 #[.agg #[.int .u64 (l.v : Int), .int .u64 (l.e : Int), .int .u64 (l.n : Int), .int .u64 (l.c : Int)]] w fun e w' => e = .returned (.string (text l)) ∧ Below w.heap.size w w' := by
  have H := fun w => rad_any l.v l.e l.n l.c hl.1 hl.2.1 hl.2.2.1 hl.2.2.2 w
  have c0 := below_lit w (.cells #[.int .u64 (l.v : Int), .int .u64 (l.e : Int), .int .u64 (l.n : Int), .int .u64 (l.c : Int)] 24)
  have B := Box.new w #[.int .u64 (l.v : Int), .int .u64 (l.e : Int), .int .u64 (l.n : Int), .int .u64 (l.c : Int)] 24
  unfold text
  generalize four l.v l.e l.n l.c = t at *
  have q0 := B.cell (j := 0) rfl
  have q1 := B.cell (j := 1) rfl
  have q2 := B.cell (j := 2) rfl
  have q3 := B.cell (j := 3) rfl
  clear hl B
  go_enter Try.func13, Try.ntmps13
  go_wp2_with fail
  refine (H _).mono ?_
  rintro e w1 ⟨rfl, h1⟩
  have fin := c0.trans (h1.mono c0.size)
  clear h1 H c0 q0 q1 q2 q3
  go_wp2
  go_ret
  exact ⟨rfl, fin⟩

set_option maxRecDepth 100000 in
set_option maxHeartbeats 4000000 in
theorem rparse_any (s : ByteArray) (hs : s.size ≤ 9223372036854775807) (w : World) :
    Calls Try.prog 10 #[.string s] w fun e w' => e = .returned (leafRes (parse s.data.toList)) ∧ Below w.heap.size w w' := by
  have hs : s.data.toList.length ≤ 9223372036854775807 := by rw [Kit.size_list]; exact hs
  have es := Kit.bytes_of_data s
  have hp := parse_tk s.data.toList
  have l1 := tk_len s.data.toList
  have l2 := tk_len (tk s.data.toList).2.1
  have l3 := tk_len (tk (tk s.data.toList).2.1).2.1
  have HT := fun (r : List UInt8) (h : r.length ≤ 9223372036854775807) w => rTakeUint_any ⟨r.toArray⟩ (by rw [Kit.size_mk]; exact h) w
  have H1 := HT s.data.toList hs
  have H2 := HT (tk s.data.toList).2.1 (by omega)
  have H3 := HT (tk (tk s.data.toList).2.1).2.1 (by omega)
  have H4 := HT (tk (tk (tk s.data.toList).2.1).2.1).2.1 (by omega)
  simp only [uint_tk] at H1 H2 H3 H4
  rw [← es] at H1
  clear HT l1 l2 l3 hs es
  generalize s.data.toList = z at *
  have eq1 : ∀ r : List UInt8, (⟨r.toArray⟩ : ByteArray).toList = r := fun r => by rw [ByteArray.toList_eq]
  generalize (tk (tk (tk (tk z).2.1).2.1).2.1).2.2 = y4 at *
  generalize (tk (tk (tk (tk z).2.1).2.1).2.1).2.1 = s4 at *
  generalize (tk (tk (tk (tk z).2.1).2.1).2.1).1 = d at *
  generalize (tk (tk (tk z).2.1).2.1).2.2 = y3 at *
  generalize (tk (tk (tk z).2.1).2.1).2.1 = s3 at *
  generalize (tk (tk (tk z).2.1).2.1).1 = c at *
  generalize (tk (tk z).2.1).2.2 = y2 at *
  generalize (tk (tk z).2.1).2.1 = s2 at *
  generalize (tk (tk z).2.1).1 = b at *
  generalize (tk z).2.2 = y1 at *
  generalize (tk z).2.1 = s1 at *
  generalize (tk z).1 = a at *
  generalize parse z = P at *
  have e4 := eq1 s4
  generalize (⟨s1.toArray⟩ : ByteArray) = t1 at *
  generalize (⟨s2.toArray⟩ : ByteArray) = t2 at *
  generalize (⟨s3.toArray⟩ : ByteArray) = t3 at *
  generalize (⟨s4.toArray⟩ : ByteArray) = t4 at *
  have B := Box.new w #[.int .u64 0, .int .u64 0, .int .u64 0, .int .u64 0] 24
  have c0 := below_lit w (.cells #[.int .u64 0, .int .u64 0, .int .u64 0, .int .u64 0] 24)
  have Hp := Lib.hid hp
  clear eq1 hp
  go_enter Try.func10, Try.ntmps10
  go_wp2_with fail
  refine (H1 _).mono ?_
  rintro e w1 ⟨rfl, b1⟩
  replace B := B.below b1
  replace c0 := c0.trans (b1.mono c0.size)
  clear b1 H1
  go_wp2_with fail
  refine (H2 _).mono ?_
  rintro e w2 ⟨rfl, b1⟩
  replace B := B.below b1
  replace c0 := c0.trans (b1.mono c0.size)
  clear b1 H2
  go_wp2_with fail
  refine (H3 _).mono ?_
  rintro e w3 ⟨rfl, b1⟩
  replace B := B.below b1
  replace c0 := c0.trans (b1.mono c0.size)
  clear b1 H3
  go_wp2_with fail
  refine (H4 _).mono ?_
  rintro e w4 ⟨rfl, b1⟩
  replace B := B.below b1
  replace c0 := c0.trans (b1.mono c0.size)
  clear b1 H4
  have q0 := B.cell (j := 0) rfl
  have q1 := B.cell (j := 1) rfl
  have q2 := B.cell (j := 2) rfl
  have q3 := B.cell (j := 3) rfl
  have f0 := B.frozen 0
  have f1 := B.frozen 1
  have f2 := B.frozen 2
  have f3 := B.frozen 3
  cases y1 with
  | false =>
    go_wp2
    refine bodyPost_ret (results_leaf2 rfl rfl rfl (B.put4 (.int .u64 0) (.int .u64 0) (.int .u64 0) (.int .u64 0))) rfl ?_
    exact ⟨by rw [Hp.out]; rfl, below_put4 c0 (Nat.le_refl _) _ _ _ _⟩
  | true =>
  cases y2 with
  | false =>
    go_wp2
    refine bodyPost_ret (results_leaf2 rfl rfl rfl (B.put4 (.int .u64 0) (.int .u64 0) (.int .u64 0) (.int .u64 0))) rfl ?_
    exact ⟨by rw [Hp.out]; rfl, below_put4 c0 (Nat.le_refl _) _ _ _ _⟩
  | true =>
  cases y3 with
  | false =>
    go_wp2
    refine bodyPost_ret (results_leaf2 rfl rfl rfl (B.put4 (.int .u64 0) (.int .u64 0) (.int .u64 0) (.int .u64 0))) rfl ?_
    exact ⟨by rw [Hp.out]; rfl, below_put4 c0 (Nat.le_refl _) _ _ _ _⟩
  | true =>
  cases y4 with
  | false =>
    go_wp2
    refine bodyPost_ret (results_leaf2 rfl rfl rfl (B.put4 (.int .u64 0) (.int .u64 0) (.int .u64 0) (.int .u64 0))) rfl ?_
    exact ⟨by rw [Hp.out]; rfl, below_put4 c0 (Nat.le_refl _) _ _ _ _⟩
  | true =>
  cases s4 with
  | nil =>
    have e5 : t4.toList.isEmpty = true := by rw [e4]; rfl
    clear e4
    go_wp2
    refine bodyPost_ret (results_leaf2 rfl rfl rfl (B.put4 (.int .u64 (a : Int)) (.int .u64 (b : Int)) (.int .u64 (c : Int)) (.int .u64 (d : Int)))) rfl ?_
    exact ⟨by rw [Hp.out]; rfl, below_put4 c0 (Nat.le_refl _) _ _ _ _⟩
  | cons y ys =>
    have e5 : t4.toList.isEmpty = false := by rw [e4]; rfl
    clear e4
    go_wp2
    refine bodyPost_ret (results_leaf2 rfl rfl rfl (B.put4 (.int .u64 0) (.int .u64 0) (.int .u64 0) (.int .u64 0))) rfl ?_
    exact ⟨by rw [Hp.out]; rfl, below_put4 c0 (Nat.le_refl _) _ _ _ _⟩
end Sea
end Go.Proofs.Ytgdpamfphjehaaa
