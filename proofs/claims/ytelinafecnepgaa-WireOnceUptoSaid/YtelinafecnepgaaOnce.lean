/-
  The law WireOnce returns true whatever text and most it is given, where the text has at most 1048576 letters.
-/
import Derived.Test.YtelinafecnepgaaArgs
namespace Go.Proofs.Ytelinafecnepgaa.once
open Go.RowKit Go.ChangeShapes Go.WideShapes Go.ChangeAt
open Go.Lib (uvarint uvarint_small uvarint_big uvarint_length64 uvarint_pos)
open Leb (encT encN encL encNs encTs dec decT decN decL)

theorem size_of {l : List UInt8} {n : Nat} (h : l.length ≤ n) : (⟨l.toArray⟩ : ByteArray).size ≤ n := by rw [Kit.size_mk]; exact h
theorem strsL_of (l : List (List UInt8)) : strs (l.map fun x => (⟨x.toArray⟩ : ByteArray)) = strsL l := by
  simp [strs, strsL]
theorem bys_of (l : List (List UInt8)) : bys (l.map fun x => (⟨x.toArray⟩ : ByteArray)) = l := by
  induction l with
  | nil => rfl
  | cons x l ih =>
    simp only [bys, List.map_cons] at ih ⊢
    rw [ih]

/-- What the second region asks of a list that is told: its bytes ahead of the rest are what stood there. -/
theorem putNums_back {s r : List UInt8} {l : List Nat} {m : Int} (hs : s.length ≤ 1048576) (h : decN s m = some (l, r)) (v : Value) (w : World) (hv : Kit.Rd w v (nums l)) :
    Calls Try.prog 15 #[v] w fun e w' => e = .returned (.string ⟨(encN l).toArray⟩) ∧ Below w.heap.size w w' := by
  obtain ⟨h1, _, h3⟩ := Leb.decN_some h
  have h2 := congrArg List.length h1
  rw [List.length_append] at h2
  exact putNums_any l h3 (by omega) v w hv
theorem putList_back {s r : List UInt8} {l : List (List UInt8)} {m : Int} (hs : s.length ≤ 1048576) (h : decL s m = some (l, r)) (v : Value) (w : World) (hv : Kit.Rd w v (strsL l)) :
    Calls Try.prog 17 #[v] w fun e w' => e = .returned (.string ⟨(encL l).toArray⟩) ∧ Below w.heap.size w w' := by
  obtain ⟨h1, _⟩ := Leb.decL_some h
  have h2 := congrArg List.length h1
  rw [List.length_append] at h2
  have h := putList_any (l.map fun x => (⟨x.toArray⟩ : ByteArray)) (by rw [bys_of]; omega) v w (by rw [strsL_of]; exact hv)
  rw [bys_of] at h
  exact h
theorem putText_back {s x r : List UInt8} {m : Int} (hs : s.length ≤ 1048576) (h : decT s m = some (x, r)) (w : World) :
    Calls Try.prog 13 #[.string ⟨x.toArray⟩] w fun e w' => e = .returned (.string ⟨(encT x).toArray⟩) ∧ Below w.heap.size w w' := by
  have h1 := (Leb.decT_some h).1
  have h2 := congrArg List.length h1
  have h3 : (encT x).length = (uvarint x.length).length + x.length := by unfold encT; rw [List.length_append]
  rw [List.length_append] at h2
  exact putText_any ⟨x.toArray⟩ (by rw [Kit.size_mk]; omega) w
theorem cat_eq {a r s : List UInt8} (h : s = a ++ r) : (⟨a.toArray⟩ : ByteArray) ++ ⟨r.toArray⟩ = ⟨s.toArray⟩ := by
  rw [Kit.cat_bytes, h]
theorem cat_len {a r s : List UInt8} (h : s = a ++ r) (hs : s.length ≤ 1048576) : ¬ 9223372036854775807 < a.length + r.length := by
  have := congrArg List.length h
  rw [List.length_append] at this
  omega

set_option maxHeartbeats 4000000 in
set_option maxRecDepth 100000 in
theorem walk_0000 (s : List UInt8) (hs : s.length ≤ 1048576) (m : Int) (hm0 : -9223372036854775808 ≤ m) (hm1 : m ≤ 9223372036854775807) (hd : dec s = none) (ht : decT s m = none) (hn : decN s m = none) (hl : decL s m = none) (w : World) :
    Calls Try.prog 6 #[.string ⟨s.toArray⟩, .int .i64 m] w fun e w' => e = .returned (.bool true) ∧ Below w.heap.size w w' := by
  have Hf := fun w => fixed_any w
  have H1 := fun w => takeUint_any ⟨s.toArray⟩ (by rw [Kit.size_mk]; omega) w
  have H2 := fun w => takeText_any ⟨s.toArray⟩ (by rw [Kit.size_mk]; omega) m hm0 hm1 w
  have H3 := fun w => takeNums_any ⟨s.toArray⟩ (by rw [Kit.size_mk]; omega) m hm0 hm1 w
  have H4 := fun w => takeList_any ⟨s.toArray⟩ (by rw [Kit.size_mk]; omega) m hm0 hm1 w
  rw [show dec (⟨s.toArray⟩ : ByteArray).data.toList = _ from hd] at H1
  rw [show decT (⟨s.toArray⟩ : ByteArray).data.toList m = _ from ht] at H2
  rw [show decN (⟨s.toArray⟩ : ByteArray).data.toList m = _ from hn] at H3
  rw [show decL (⟨s.toArray⟩ : ByteArray).data.toList m = _ from hl] at H4
  clear hd ht hn hl
  have hc0 := Below.refl w.heap.size w
  go_enter Try.func6, Try.ntmps6
  go_wp2_with fail
  refine (H1 w).mono ?_
  rintro e w1 ⟨rfl, hb1⟩
  have hc1 := hc0.trans (hb1.mono hc0.size)
  clear hc0 hb1
  simp only [uintRes]
  go_wp2_with fail
  refine (H2 w1).mono ?_
  rintro e w2 ⟨rfl, hb2⟩
  have hc2 := hc1.trans (hb2.mono hc1.size)
  clear hc1 hb2
  simp only [textRes]
  go_wp2_with fail
  refine (H3 w2).mono ?_
  rintro e w3 ⟨rfl, hb3⟩
  have hc3 := hc2.trans (hb3.mono hc2.size)
  clear hc2 hb3
  go_wp2_with fail
  refine (H4 w3).mono ?_
  rintro e w4 ⟨rfl, hb4⟩
  have hc4 := hc3.trans (hb4.mono hc3.size)
  clear hc3 hb4
  go_wp2_with fail
  refine (Hf w4).mono ?_
  rintro e w5 ⟨rfl, hb5⟩
  have hc5 := hc4.trans (hb5.mono hc4.size)
  clear hc4 hb5
  go_wp2
  go_ret
  exact ⟨rfl, hc5⟩

set_option maxHeartbeats 4000000 in
set_option maxRecDepth 100000 in
theorem walk_1000 (s : List UInt8) (hs : s.length ≤ 1048576) (m : Int) (hm0 : -9223372036854775808 ≤ m) (hm1 : m ≤ 9223372036854775807) (x0 : Nat) (r0 : List UInt8) (hd : dec s = some (x0, r0)) (ht : decT s m = none) (hn : decN s m = none) (hl : decL s m = none) (w : World) :
    Calls Try.prog 6 #[.string ⟨s.toArray⟩, .int .i64 m] w fun e w' => e = .returned (.bool true) ∧ Below w.heap.size w w' := by
  have Hf := fun w => fixed_any w
  have H1 := fun w => takeUint_any ⟨s.toArray⟩ (by rw [Kit.size_mk]; omega) w
  have H2 := fun w => takeText_any ⟨s.toArray⟩ (by rw [Kit.size_mk]; omega) m hm0 hm1 w
  have H3 := fun w => takeNums_any ⟨s.toArray⟩ (by rw [Kit.size_mk]; omega) m hm0 hm1 w
  have H4 := fun w => takeList_any ⟨s.toArray⟩ (by rw [Kit.size_mk]; omega) m hm0 hm1 w
  rw [show dec (⟨s.toArray⟩ : ByteArray).data.toList = _ from hd] at H1
  rw [show decT (⟨s.toArray⟩ : ByteArray).data.toList m = _ from ht] at H2
  rw [show decN (⟨s.toArray⟩ : ByteArray).data.toList m = _ from hn] at H3
  rw [show decL (⟨s.toArray⟩ : ByteArray).data.toList m = _ from hl] at H4
  have G0 := fun w => putUint_any x0 (Leb.dec_some hd).2 w
  have e0 := cat_eq (Leb.dec_some hd).1
  have q0 := cat_len (Leb.dec_some hd).1 hs
  generalize uvarint x0 = c0 at *
  clear hd ht hn hl
  have hc0 := Below.refl w.heap.size w
  go_enter Try.func6, Try.ntmps6
  go_wp2_with fail
  refine (H1 w).mono ?_
  rintro e w1 ⟨rfl, hb1⟩
  have hc1 := hc0.trans (hb1.mono hc0.size)
  clear hc0 hb1
  simp only [uintRes]
  go_wp2_with fail
  refine (H2 w1).mono ?_
  rintro e w2 ⟨rfl, hb2⟩
  have hc2 := hc1.trans (hb2.mono hc1.size)
  clear hc1 hb2
  simp only [textRes]
  go_wp2_with fail
  refine (H3 w2).mono ?_
  rintro e w3 ⟨rfl, hb3⟩
  have hc3 := hc2.trans (hb3.mono hc2.size)
  clear hc2 hb3
  go_wp2_with fail
  refine (H4 w3).mono ?_
  rintro e w4 ⟨rfl, hb4⟩
  have hc4 := hc3.trans (hb4.mono hc3.size)
  clear hc3 hb4
  go_wp2_with fail
  refine (Hf w4).mono ?_
  rintro e w5 ⟨rfl, hb5⟩
  have hc5 := hc4.trans (hb5.mono hc4.size)
  clear hc4 hb5
  go_wp2_with fail
  refine (G0 w5).mono ?_
  rintro e w6 ⟨rfl, hb6⟩
  have hc6 := hc5.trans (hb6.mono hc5.size)
  clear hc5 hb6
  go_wp2
  go_ret
  exact ⟨rfl, hc6⟩

set_option maxHeartbeats 4000000 in
set_option maxRecDepth 100000 in
theorem walk_1001 (s : List UInt8) (hs : s.length ≤ 1048576) (m : Int) (hm0 : -9223372036854775808 ≤ m) (hm1 : m ≤ 9223372036854775807) (x0 : Nat) (r0 : List UInt8) (x3 : List (List UInt8)) (r3 : List UInt8) (hd : dec s = some (x0, r0)) (ht : decT s m = none) (hn : decN s m = none) (hl : decL s m = some (x3, r3)) (w : World) :
    Calls Try.prog 6 #[.string ⟨s.toArray⟩, .int .i64 m] w fun e w' => e = .returned (.bool true) ∧ Below w.heap.size w w' := by
  have Hf := fun w => fixed_any w
  have H1 := fun w => takeUint_any ⟨s.toArray⟩ (by rw [Kit.size_mk]; omega) w
  have H2 := fun w => takeText_any ⟨s.toArray⟩ (by rw [Kit.size_mk]; omega) m hm0 hm1 w
  have H3 := fun w => takeNums_any ⟨s.toArray⟩ (by rw [Kit.size_mk]; omega) m hm0 hm1 w
  have H4 := fun w => takeList_any ⟨s.toArray⟩ (by rw [Kit.size_mk]; omega) m hm0 hm1 w
  rw [show dec (⟨s.toArray⟩ : ByteArray).data.toList = _ from hd] at H1
  rw [show decT (⟨s.toArray⟩ : ByteArray).data.toList m = _ from ht] at H2
  rw [show decN (⟨s.toArray⟩ : ByteArray).data.toList m = _ from hn] at H3
  rw [show decL (⟨s.toArray⟩ : ByteArray).data.toList m = _ from hl] at H4
  have G0 := fun w => putUint_any x0 (Leb.dec_some hd).2 w
  have e0 := cat_eq (Leb.dec_some hd).1
  have q0 := cat_len (Leb.dec_some hd).1 hs
  generalize uvarint x0 = c0 at *
  have G3 := fun v w hv => putList_back hs hl v w hv
  have e3 := cat_eq (Leb.decL_some hl).1
  have q3 := cat_len (Leb.decL_some hl).1 hs
  have b3 := (Leb.decL_some hl).2
  generalize encL x3 = c3 at *
  clear hd ht hn hl
  have hc0 := Below.refl w.heap.size w
  go_enter Try.func6, Try.ntmps6
  go_wp2_with fail
  refine (H1 w).mono ?_
  rintro e w1 ⟨rfl, hb1⟩
  have hc1 := hc0.trans (hb1.mono hc0.size)
  clear hc0 hb1
  simp only [uintRes]
  go_wp2_with fail
  refine (H2 w1).mono ?_
  rintro e w2 ⟨rfl, hb2⟩
  have hc2 := hc1.trans (hb2.mono hc1.size)
  clear hc1 hb2
  simp only [textRes]
  go_wp2_with fail
  refine (H3 w2).mono ?_
  rintro e w3 ⟨rfl, hb3⟩
  have hc3 := hc2.trans (hb3.mono hc2.size)
  clear hc2 hb3
  go_wp2_with fail
  refine (H4 w3).mono ?_
  rintro e w4 ⟨⟨v3, rfl, hr3⟩, hb4⟩
  have hc4 := hc3.trans (hb4.mono hc3.size)
  clear hc3 hb4
  obtain ⟨a3, cap3, rfl⟩ := hr3.form
  rw [show (strsL x3).length = x3.length by simp [strsL]] at hr3 ⊢
  go_wp2_with fail
  refine (Hf w4).mono ?_
  rintro e w5 ⟨rfl, hb5⟩
  have hr3 := hr3.below hb5
  have hc5 := hc4.trans (hb5.mono hc4.size)
  clear hc4 hb5
  go_wp2_with fail
  refine (G0 w5).mono ?_
  rintro e w6 ⟨rfl, hb6⟩
  have hr3 := hr3.below hb6
  have hc6 := hc5.trans (hb6.mono hc5.size)
  clear hc5 hb6
  go_wp2_with fail
  refine (G3 _ w6 hr3).mono ?_
  rintro e w7 ⟨rfl, hb7⟩
  have hr3 := hr3.below hb7
  have hc7 := hc6.trans (hb7.mono hc6.size)
  clear hc6 hb7
  go_wp2
  go_ret
  exact ⟨rfl, hc7⟩

set_option maxHeartbeats 4000000 in
set_option maxRecDepth 100000 in
theorem walk_1010 (s : List UInt8) (hs : s.length ≤ 1048576) (m : Int) (hm0 : -9223372036854775808 ≤ m) (hm1 : m ≤ 9223372036854775807) (x0 : Nat) (r0 : List UInt8) (x2 : List Nat) (r2 : List UInt8) (hd : dec s = some (x0, r0)) (ht : decT s m = none) (hn : decN s m = some (x2, r2)) (hl : decL s m = none) (w : World) :
    Calls Try.prog 6 #[.string ⟨s.toArray⟩, .int .i64 m] w fun e w' => e = .returned (.bool true) ∧ Below w.heap.size w w' := by
  have Hf := fun w => fixed_any w
  have H1 := fun w => takeUint_any ⟨s.toArray⟩ (by rw [Kit.size_mk]; omega) w
  have H2 := fun w => takeText_any ⟨s.toArray⟩ (by rw [Kit.size_mk]; omega) m hm0 hm1 w
  have H3 := fun w => takeNums_any ⟨s.toArray⟩ (by rw [Kit.size_mk]; omega) m hm0 hm1 w
  have H4 := fun w => takeList_any ⟨s.toArray⟩ (by rw [Kit.size_mk]; omega) m hm0 hm1 w
  rw [show dec (⟨s.toArray⟩ : ByteArray).data.toList = _ from hd] at H1
  rw [show decT (⟨s.toArray⟩ : ByteArray).data.toList m = _ from ht] at H2
  rw [show decN (⟨s.toArray⟩ : ByteArray).data.toList m = _ from hn] at H3
  rw [show decL (⟨s.toArray⟩ : ByteArray).data.toList m = _ from hl] at H4
  have G0 := fun w => putUint_any x0 (Leb.dec_some hd).2 w
  have e0 := cat_eq (Leb.dec_some hd).1
  have q0 := cat_len (Leb.dec_some hd).1 hs
  generalize uvarint x0 = c0 at *
  have G2 := fun v w hv => putNums_back hs hn v w hv
  have e2 := cat_eq (Leb.decN_some hn).1
  have q2 := cat_len (Leb.decN_some hn).1 hs
  have b2 := (Leb.decN_some hn).2.1
  generalize encN x2 = c2 at *
  clear hd ht hn hl
  have hc0 := Below.refl w.heap.size w
  go_enter Try.func6, Try.ntmps6
  go_wp2_with fail
  refine (H1 w).mono ?_
  rintro e w1 ⟨rfl, hb1⟩
  have hc1 := hc0.trans (hb1.mono hc0.size)
  clear hc0 hb1
  simp only [uintRes]
  go_wp2_with fail
  refine (H2 w1).mono ?_
  rintro e w2 ⟨rfl, hb2⟩
  have hc2 := hc1.trans (hb2.mono hc1.size)
  clear hc1 hb2
  simp only [textRes]
  go_wp2_with fail
  refine (H3 w2).mono ?_
  rintro e w3 ⟨⟨v2, rfl, hr2⟩, hb3⟩
  have hc3 := hc2.trans (hb3.mono hc2.size)
  clear hc2 hb3
  go_wp2_with fail
  refine (H4 w3).mono ?_
  rintro e w4 ⟨rfl, hb4⟩
  have hr2 := hr2.below hb4
  have hc4 := hc3.trans (hb4.mono hc3.size)
  clear hc3 hb4
  obtain ⟨a2, cap2, rfl⟩ := hr2.form
  rw [show (nums x2).length = x2.length by simp [nums]] at hr2 ⊢
  go_wp2_with fail
  refine (Hf w4).mono ?_
  rintro e w5 ⟨rfl, hb5⟩
  have hr2 := hr2.below hb5
  have hc5 := hc4.trans (hb5.mono hc4.size)
  clear hc4 hb5
  go_wp2_with fail
  refine (G0 w5).mono ?_
  rintro e w6 ⟨rfl, hb6⟩
  have hr2 := hr2.below hb6
  have hc6 := hc5.trans (hb6.mono hc5.size)
  clear hc5 hb6
  go_wp2_with fail
  refine (G2 _ w6 hr2).mono ?_
  rintro e w7 ⟨rfl, hb7⟩
  have hr2 := hr2.below hb7
  have hc7 := hc6.trans (hb7.mono hc6.size)
  clear hc6 hb7
  go_wp2
  go_ret
  exact ⟨rfl, hc7⟩

set_option maxHeartbeats 4000000 in
set_option maxRecDepth 100000 in
theorem walk_1011 (s : List UInt8) (hs : s.length ≤ 1048576) (m : Int) (hm0 : -9223372036854775808 ≤ m) (hm1 : m ≤ 9223372036854775807) (x0 : Nat) (r0 : List UInt8) (x2 : List Nat) (r2 : List UInt8) (x3 : List (List UInt8)) (r3 : List UInt8) (hd : dec s = some (x0, r0)) (ht : decT s m = none) (hn : decN s m = some (x2, r2)) (hl : decL s m = some (x3, r3)) (w : World) :
    Calls Try.prog 6 #[.string ⟨s.toArray⟩, .int .i64 m] w fun e w' => e = .returned (.bool true) ∧ Below w.heap.size w w' := by
  have Hf := fun w => fixed_any w
  have H1 := fun w => takeUint_any ⟨s.toArray⟩ (by rw [Kit.size_mk]; omega) w
  have H2 := fun w => takeText_any ⟨s.toArray⟩ (by rw [Kit.size_mk]; omega) m hm0 hm1 w
  have H3 := fun w => takeNums_any ⟨s.toArray⟩ (by rw [Kit.size_mk]; omega) m hm0 hm1 w
  have H4 := fun w => takeList_any ⟨s.toArray⟩ (by rw [Kit.size_mk]; omega) m hm0 hm1 w
  rw [show dec (⟨s.toArray⟩ : ByteArray).data.toList = _ from hd] at H1
  rw [show decT (⟨s.toArray⟩ : ByteArray).data.toList m = _ from ht] at H2
  rw [show decN (⟨s.toArray⟩ : ByteArray).data.toList m = _ from hn] at H3
  rw [show decL (⟨s.toArray⟩ : ByteArray).data.toList m = _ from hl] at H4
  have G0 := fun w => putUint_any x0 (Leb.dec_some hd).2 w
  have e0 := cat_eq (Leb.dec_some hd).1
  have q0 := cat_len (Leb.dec_some hd).1 hs
  generalize uvarint x0 = c0 at *
  have G2 := fun v w hv => putNums_back hs hn v w hv
  have e2 := cat_eq (Leb.decN_some hn).1
  have q2 := cat_len (Leb.decN_some hn).1 hs
  have b2 := (Leb.decN_some hn).2.1
  generalize encN x2 = c2 at *
  have G3 := fun v w hv => putList_back hs hl v w hv
  have e3 := cat_eq (Leb.decL_some hl).1
  have q3 := cat_len (Leb.decL_some hl).1 hs
  have b3 := (Leb.decL_some hl).2
  generalize encL x3 = c3 at *
  clear hd ht hn hl
  have hc0 := Below.refl w.heap.size w
  go_enter Try.func6, Try.ntmps6
  go_wp2_with fail
  refine (H1 w).mono ?_
  rintro e w1 ⟨rfl, hb1⟩
  have hc1 := hc0.trans (hb1.mono hc0.size)
  clear hc0 hb1
  simp only [uintRes]
  go_wp2_with fail
  refine (H2 w1).mono ?_
  rintro e w2 ⟨rfl, hb2⟩
  have hc2 := hc1.trans (hb2.mono hc1.size)
  clear hc1 hb2
  simp only [textRes]
  go_wp2_with fail
  refine (H3 w2).mono ?_
  rintro e w3 ⟨⟨v2, rfl, hr2⟩, hb3⟩
  have hc3 := hc2.trans (hb3.mono hc2.size)
  clear hc2 hb3
  go_wp2_with fail
  refine (H4 w3).mono ?_
  rintro e w4 ⟨⟨v3, rfl, hr3⟩, hb4⟩
  have hr2 := hr2.below hb4
  have hc4 := hc3.trans (hb4.mono hc3.size)
  clear hc3 hb4
  obtain ⟨a2, cap2, rfl⟩ := hr2.form
  rw [show (nums x2).length = x2.length by simp [nums]] at hr2 ⊢
  obtain ⟨a3, cap3, rfl⟩ := hr3.form
  rw [show (strsL x3).length = x3.length by simp [strsL]] at hr3 ⊢
  go_wp2_with fail
  refine (Hf w4).mono ?_
  rintro e w5 ⟨rfl, hb5⟩
  have hr2 := hr2.below hb5
  have hr3 := hr3.below hb5
  have hc5 := hc4.trans (hb5.mono hc4.size)
  clear hc4 hb5
  go_wp2_with fail
  refine (G0 w5).mono ?_
  rintro e w6 ⟨rfl, hb6⟩
  have hr2 := hr2.below hb6
  have hr3 := hr3.below hb6
  have hc6 := hc5.trans (hb6.mono hc5.size)
  clear hc5 hb6
  go_wp2_with fail
  refine (G2 _ w6 hr2).mono ?_
  rintro e w7 ⟨rfl, hb7⟩
  have hr2 := hr2.below hb7
  have hr3 := hr3.below hb7
  have hc7 := hc6.trans (hb7.mono hc6.size)
  clear hc6 hb7
  go_wp2_with fail
  refine (G3 _ w7 hr3).mono ?_
  rintro e w8 ⟨rfl, hb8⟩
  have hr3 := hr3.below hb8
  have hc8 := hc7.trans (hb8.mono hc7.size)
  clear hc7 hb8
  go_wp2
  go_ret
  exact ⟨rfl, hc8⟩

set_option maxHeartbeats 4000000 in
set_option maxRecDepth 100000 in
theorem walk_1100 (s : List UInt8) (hs : s.length ≤ 1048576) (m : Int) (hm0 : -9223372036854775808 ≤ m) (hm1 : m ≤ 9223372036854775807) (x0 : Nat) (r0 : List UInt8) (x1 r1 : List UInt8) (hd : dec s = some (x0, r0)) (ht : decT s m = some (x1, r1)) (hn : decN s m = none) (hl : decL s m = none) (w : World) :
    Calls Try.prog 6 #[.string ⟨s.toArray⟩, .int .i64 m] w fun e w' => e = .returned (.bool true) ∧ Below w.heap.size w w' := by
  have Hf := fun w => fixed_any w
  have H1 := fun w => takeUint_any ⟨s.toArray⟩ (by rw [Kit.size_mk]; omega) w
  have H2 := fun w => takeText_any ⟨s.toArray⟩ (by rw [Kit.size_mk]; omega) m hm0 hm1 w
  have H3 := fun w => takeNums_any ⟨s.toArray⟩ (by rw [Kit.size_mk]; omega) m hm0 hm1 w
  have H4 := fun w => takeList_any ⟨s.toArray⟩ (by rw [Kit.size_mk]; omega) m hm0 hm1 w
  rw [show dec (⟨s.toArray⟩ : ByteArray).data.toList = _ from hd] at H1
  rw [show decT (⟨s.toArray⟩ : ByteArray).data.toList m = _ from ht] at H2
  rw [show decN (⟨s.toArray⟩ : ByteArray).data.toList m = _ from hn] at H3
  rw [show decL (⟨s.toArray⟩ : ByteArray).data.toList m = _ from hl] at H4
  have G0 := fun w => putUint_any x0 (Leb.dec_some hd).2 w
  have e0 := cat_eq (Leb.dec_some hd).1
  have q0 := cat_len (Leb.dec_some hd).1 hs
  generalize uvarint x0 = c0 at *
  have G1 := fun w => putText_back hs ht w
  have e1 := cat_eq (Leb.decT_some ht).1
  have q1 := cat_len (Leb.decT_some ht).1 hs
  have b1 := (Leb.decT_some ht).2
  generalize encT x1 = c1 at *
  clear hd ht hn hl
  have hc0 := Below.refl w.heap.size w
  go_enter Try.func6, Try.ntmps6
  go_wp2_with fail
  refine (H1 w).mono ?_
  rintro e w1 ⟨rfl, hb1⟩
  have hc1 := hc0.trans (hb1.mono hc0.size)
  clear hc0 hb1
  simp only [uintRes]
  go_wp2_with fail
  refine (H2 w1).mono ?_
  rintro e w2 ⟨rfl, hb2⟩
  have hc2 := hc1.trans (hb2.mono hc1.size)
  clear hc1 hb2
  simp only [textRes]
  go_wp2_with fail
  refine (H3 w2).mono ?_
  rintro e w3 ⟨rfl, hb3⟩
  have hc3 := hc2.trans (hb3.mono hc2.size)
  clear hc2 hb3
  go_wp2_with fail
  refine (H4 w3).mono ?_
  rintro e w4 ⟨rfl, hb4⟩
  have hc4 := hc3.trans (hb4.mono hc3.size)
  clear hc3 hb4
  go_wp2_with fail
  refine (Hf w4).mono ?_
  rintro e w5 ⟨rfl, hb5⟩
  have hc5 := hc4.trans (hb5.mono hc4.size)
  clear hc4 hb5
  go_wp2_with fail
  refine (G0 w5).mono ?_
  rintro e w6 ⟨rfl, hb6⟩
  have hc6 := hc5.trans (hb6.mono hc5.size)
  clear hc5 hb6
  go_wp2_with fail
  refine (G1 w6).mono ?_
  rintro e w7 ⟨rfl, hb7⟩
  have hc7 := hc6.trans (hb7.mono hc6.size)
  clear hc6 hb7
  go_wp2
  go_ret
  exact ⟨rfl, hc7⟩

set_option maxHeartbeats 4000000 in
set_option maxRecDepth 100000 in
theorem walk_1101 (s : List UInt8) (hs : s.length ≤ 1048576) (m : Int) (hm0 : -9223372036854775808 ≤ m) (hm1 : m ≤ 9223372036854775807) (x0 : Nat) (r0 : List UInt8) (x1 r1 : List UInt8) (x3 : List (List UInt8)) (r3 : List UInt8) (hd : dec s = some (x0, r0)) (ht : decT s m = some (x1, r1)) (hn : decN s m = none) (hl : decL s m = some (x3, r3)) (w : World) :
    Calls Try.prog 6 #[.string ⟨s.toArray⟩, .int .i64 m] w fun e w' => e = .returned (.bool true) ∧ Below w.heap.size w w' := by
  have Hf := fun w => fixed_any w
  have H1 := fun w => takeUint_any ⟨s.toArray⟩ (by rw [Kit.size_mk]; omega) w
  have H2 := fun w => takeText_any ⟨s.toArray⟩ (by rw [Kit.size_mk]; omega) m hm0 hm1 w
  have H3 := fun w => takeNums_any ⟨s.toArray⟩ (by rw [Kit.size_mk]; omega) m hm0 hm1 w
  have H4 := fun w => takeList_any ⟨s.toArray⟩ (by rw [Kit.size_mk]; omega) m hm0 hm1 w
  rw [show dec (⟨s.toArray⟩ : ByteArray).data.toList = _ from hd] at H1
  rw [show decT (⟨s.toArray⟩ : ByteArray).data.toList m = _ from ht] at H2
  rw [show decN (⟨s.toArray⟩ : ByteArray).data.toList m = _ from hn] at H3
  rw [show decL (⟨s.toArray⟩ : ByteArray).data.toList m = _ from hl] at H4
  have G0 := fun w => putUint_any x0 (Leb.dec_some hd).2 w
  have e0 := cat_eq (Leb.dec_some hd).1
  have q0 := cat_len (Leb.dec_some hd).1 hs
  generalize uvarint x0 = c0 at *
  have G1 := fun w => putText_back hs ht w
  have e1 := cat_eq (Leb.decT_some ht).1
  have q1 := cat_len (Leb.decT_some ht).1 hs
  have b1 := (Leb.decT_some ht).2
  generalize encT x1 = c1 at *
  have G3 := fun v w hv => putList_back hs hl v w hv
  have e3 := cat_eq (Leb.decL_some hl).1
  have q3 := cat_len (Leb.decL_some hl).1 hs
  have b3 := (Leb.decL_some hl).2
  generalize encL x3 = c3 at *
  clear hd ht hn hl
  have hc0 := Below.refl w.heap.size w
  go_enter Try.func6, Try.ntmps6
  go_wp2_with fail
  refine (H1 w).mono ?_
  rintro e w1 ⟨rfl, hb1⟩
  have hc1 := hc0.trans (hb1.mono hc0.size)
  clear hc0 hb1
  simp only [uintRes]
  go_wp2_with fail
  refine (H2 w1).mono ?_
  rintro e w2 ⟨rfl, hb2⟩
  have hc2 := hc1.trans (hb2.mono hc1.size)
  clear hc1 hb2
  simp only [textRes]
  go_wp2_with fail
  refine (H3 w2).mono ?_
  rintro e w3 ⟨rfl, hb3⟩
  have hc3 := hc2.trans (hb3.mono hc2.size)
  clear hc2 hb3
  go_wp2_with fail
  refine (H4 w3).mono ?_
  rintro e w4 ⟨⟨v3, rfl, hr3⟩, hb4⟩
  have hc4 := hc3.trans (hb4.mono hc3.size)
  clear hc3 hb4
  obtain ⟨a3, cap3, rfl⟩ := hr3.form
  rw [show (strsL x3).length = x3.length by simp [strsL]] at hr3 ⊢
  go_wp2_with fail
  refine (Hf w4).mono ?_
  rintro e w5 ⟨rfl, hb5⟩
  have hr3 := hr3.below hb5
  have hc5 := hc4.trans (hb5.mono hc4.size)
  clear hc4 hb5
  go_wp2_with fail
  refine (G0 w5).mono ?_
  rintro e w6 ⟨rfl, hb6⟩
  have hr3 := hr3.below hb6
  have hc6 := hc5.trans (hb6.mono hc5.size)
  clear hc5 hb6
  go_wp2_with fail
  refine (G1 w6).mono ?_
  rintro e w7 ⟨rfl, hb7⟩
  have hr3 := hr3.below hb7
  have hc7 := hc6.trans (hb7.mono hc6.size)
  clear hc6 hb7
  go_wp2_with fail
  refine (G3 _ w7 hr3).mono ?_
  rintro e w8 ⟨rfl, hb8⟩
  have hr3 := hr3.below hb8
  have hc8 := hc7.trans (hb8.mono hc7.size)
  clear hc7 hb8
  go_wp2
  go_ret
  exact ⟨rfl, hc8⟩

set_option maxHeartbeats 4000000 in
set_option maxRecDepth 100000 in
theorem walk_1110 (s : List UInt8) (hs : s.length ≤ 1048576) (m : Int) (hm0 : -9223372036854775808 ≤ m) (hm1 : m ≤ 9223372036854775807) (x0 : Nat) (r0 : List UInt8) (x1 r1 : List UInt8) (x2 : List Nat) (r2 : List UInt8) (hd : dec s = some (x0, r0)) (ht : decT s m = some (x1, r1)) (hn : decN s m = some (x2, r2)) (hl : decL s m = none) (w : World) :
    Calls Try.prog 6 #[.string ⟨s.toArray⟩, .int .i64 m] w fun e w' => e = .returned (.bool true) ∧ Below w.heap.size w w' := by
  have Hf := fun w => fixed_any w
  have H1 := fun w => takeUint_any ⟨s.toArray⟩ (by rw [Kit.size_mk]; omega) w
  have H2 := fun w => takeText_any ⟨s.toArray⟩ (by rw [Kit.size_mk]; omega) m hm0 hm1 w
  have H3 := fun w => takeNums_any ⟨s.toArray⟩ (by rw [Kit.size_mk]; omega) m hm0 hm1 w
  have H4 := fun w => takeList_any ⟨s.toArray⟩ (by rw [Kit.size_mk]; omega) m hm0 hm1 w
  rw [show dec (⟨s.toArray⟩ : ByteArray).data.toList = _ from hd] at H1
  rw [show decT (⟨s.toArray⟩ : ByteArray).data.toList m = _ from ht] at H2
  rw [show decN (⟨s.toArray⟩ : ByteArray).data.toList m = _ from hn] at H3
  rw [show decL (⟨s.toArray⟩ : ByteArray).data.toList m = _ from hl] at H4
  have G0 := fun w => putUint_any x0 (Leb.dec_some hd).2 w
  have e0 := cat_eq (Leb.dec_some hd).1
  have q0 := cat_len (Leb.dec_some hd).1 hs
  generalize uvarint x0 = c0 at *
  have G1 := fun w => putText_back hs ht w
  have e1 := cat_eq (Leb.decT_some ht).1
  have q1 := cat_len (Leb.decT_some ht).1 hs
  have b1 := (Leb.decT_some ht).2
  generalize encT x1 = c1 at *
  have G2 := fun v w hv => putNums_back hs hn v w hv
  have e2 := cat_eq (Leb.decN_some hn).1
  have q2 := cat_len (Leb.decN_some hn).1 hs
  have b2 := (Leb.decN_some hn).2.1
  generalize encN x2 = c2 at *
  clear hd ht hn hl
  have hc0 := Below.refl w.heap.size w
  go_enter Try.func6, Try.ntmps6
  go_wp2_with fail
  refine (H1 w).mono ?_
  rintro e w1 ⟨rfl, hb1⟩
  have hc1 := hc0.trans (hb1.mono hc0.size)
  clear hc0 hb1
  simp only [uintRes]
  go_wp2_with fail
  refine (H2 w1).mono ?_
  rintro e w2 ⟨rfl, hb2⟩
  have hc2 := hc1.trans (hb2.mono hc1.size)
  clear hc1 hb2
  simp only [textRes]
  go_wp2_with fail
  refine (H3 w2).mono ?_
  rintro e w3 ⟨⟨v2, rfl, hr2⟩, hb3⟩
  have hc3 := hc2.trans (hb3.mono hc2.size)
  clear hc2 hb3
  go_wp2_with fail
  refine (H4 w3).mono ?_
  rintro e w4 ⟨rfl, hb4⟩
  have hr2 := hr2.below hb4
  have hc4 := hc3.trans (hb4.mono hc3.size)
  clear hc3 hb4
  obtain ⟨a2, cap2, rfl⟩ := hr2.form
  rw [show (nums x2).length = x2.length by simp [nums]] at hr2 ⊢
  go_wp2_with fail
  refine (Hf w4).mono ?_
  rintro e w5 ⟨rfl, hb5⟩
  have hr2 := hr2.below hb5
  have hc5 := hc4.trans (hb5.mono hc4.size)
  clear hc4 hb5
  go_wp2_with fail
  refine (G0 w5).mono ?_
  rintro e w6 ⟨rfl, hb6⟩
  have hr2 := hr2.below hb6
  have hc6 := hc5.trans (hb6.mono hc5.size)
  clear hc5 hb6
  go_wp2_with fail
  refine (G1 w6).mono ?_
  rintro e w7 ⟨rfl, hb7⟩
  have hr2 := hr2.below hb7
  have hc7 := hc6.trans (hb7.mono hc6.size)
  clear hc6 hb7
  go_wp2_with fail
  refine (G2 _ w7 hr2).mono ?_
  rintro e w8 ⟨rfl, hb8⟩
  have hr2 := hr2.below hb8
  have hc8 := hc7.trans (hb8.mono hc7.size)
  clear hc7 hb8
  go_wp2
  go_ret
  exact ⟨rfl, hc8⟩

set_option maxHeartbeats 4000000 in
set_option maxRecDepth 100000 in
theorem walk_1111 (s : List UInt8) (hs : s.length ≤ 1048576) (m : Int) (hm0 : -9223372036854775808 ≤ m) (hm1 : m ≤ 9223372036854775807) (x0 : Nat) (r0 : List UInt8) (x1 r1 : List UInt8) (x2 : List Nat) (r2 : List UInt8) (x3 : List (List UInt8)) (r3 : List UInt8) (hd : dec s = some (x0, r0)) (ht : decT s m = some (x1, r1)) (hn : decN s m = some (x2, r2)) (hl : decL s m = some (x3, r3)) (w : World) :
    Calls Try.prog 6 #[.string ⟨s.toArray⟩, .int .i64 m] w fun e w' => e = .returned (.bool true) ∧ Below w.heap.size w w' := by
  have Hf := fun w => fixed_any w
  have H1 := fun w => takeUint_any ⟨s.toArray⟩ (by rw [Kit.size_mk]; omega) w
  have H2 := fun w => takeText_any ⟨s.toArray⟩ (by rw [Kit.size_mk]; omega) m hm0 hm1 w
  have H3 := fun w => takeNums_any ⟨s.toArray⟩ (by rw [Kit.size_mk]; omega) m hm0 hm1 w
  have H4 := fun w => takeList_any ⟨s.toArray⟩ (by rw [Kit.size_mk]; omega) m hm0 hm1 w
  rw [show dec (⟨s.toArray⟩ : ByteArray).data.toList = _ from hd] at H1
  rw [show decT (⟨s.toArray⟩ : ByteArray).data.toList m = _ from ht] at H2
  rw [show decN (⟨s.toArray⟩ : ByteArray).data.toList m = _ from hn] at H3
  rw [show decL (⟨s.toArray⟩ : ByteArray).data.toList m = _ from hl] at H4
  have G0 := fun w => putUint_any x0 (Leb.dec_some hd).2 w
  have e0 := cat_eq (Leb.dec_some hd).1
  have q0 := cat_len (Leb.dec_some hd).1 hs
  generalize uvarint x0 = c0 at *
  have G1 := fun w => putText_back hs ht w
  have e1 := cat_eq (Leb.decT_some ht).1
  have q1 := cat_len (Leb.decT_some ht).1 hs
  have b1 := (Leb.decT_some ht).2
  generalize encT x1 = c1 at *
  have G2 := fun v w hv => putNums_back hs hn v w hv
  have e2 := cat_eq (Leb.decN_some hn).1
  have q2 := cat_len (Leb.decN_some hn).1 hs
  have b2 := (Leb.decN_some hn).2.1
  generalize encN x2 = c2 at *
  have G3 := fun v w hv => putList_back hs hl v w hv
  have e3 := cat_eq (Leb.decL_some hl).1
  have q3 := cat_len (Leb.decL_some hl).1 hs
  have b3 := (Leb.decL_some hl).2
  generalize encL x3 = c3 at *
  clear hd ht hn hl
  have hc0 := Below.refl w.heap.size w
  go_enter Try.func6, Try.ntmps6
  go_wp2_with fail
  refine (H1 w).mono ?_
  rintro e w1 ⟨rfl, hb1⟩
  have hc1 := hc0.trans (hb1.mono hc0.size)
  clear hc0 hb1
  simp only [uintRes]
  go_wp2_with fail
  refine (H2 w1).mono ?_
  rintro e w2 ⟨rfl, hb2⟩
  have hc2 := hc1.trans (hb2.mono hc1.size)
  clear hc1 hb2
  simp only [textRes]
  go_wp2_with fail
  refine (H3 w2).mono ?_
  rintro e w3 ⟨⟨v2, rfl, hr2⟩, hb3⟩
  have hc3 := hc2.trans (hb3.mono hc2.size)
  clear hc2 hb3
  go_wp2_with fail
  refine (H4 w3).mono ?_
  rintro e w4 ⟨⟨v3, rfl, hr3⟩, hb4⟩
  have hr2 := hr2.below hb4
  have hc4 := hc3.trans (hb4.mono hc3.size)
  clear hc3 hb4
  obtain ⟨a2, cap2, rfl⟩ := hr2.form
  rw [show (nums x2).length = x2.length by simp [nums]] at hr2 ⊢
  obtain ⟨a3, cap3, rfl⟩ := hr3.form
  rw [show (strsL x3).length = x3.length by simp [strsL]] at hr3 ⊢
  go_wp2_with fail
  refine (Hf w4).mono ?_
  rintro e w5 ⟨rfl, hb5⟩
  have hr2 := hr2.below hb5
  have hr3 := hr3.below hb5
  have hc5 := hc4.trans (hb5.mono hc4.size)
  clear hc4 hb5
  go_wp2_with fail
  refine (G0 w5).mono ?_
  rintro e w6 ⟨rfl, hb6⟩
  have hr2 := hr2.below hb6
  have hr3 := hr3.below hb6
  have hc6 := hc5.trans (hb6.mono hc5.size)
  clear hc5 hb6
  go_wp2_with fail
  refine (G1 w6).mono ?_
  rintro e w7 ⟨rfl, hb7⟩
  have hr2 := hr2.below hb7
  have hr3 := hr3.below hb7
  have hc7 := hc6.trans (hb7.mono hc6.size)
  clear hc6 hb7
  go_wp2_with fail
  refine (G2 _ w7 hr2).mono ?_
  rintro e w8 ⟨rfl, hb8⟩
  have hr2 := hr2.below hb8
  have hr3 := hr3.below hb8
  have hc8 := hc7.trans (hb8.mono hc7.size)
  clear hc7 hb8
  go_wp2_with fail
  refine (G3 _ w8 hr3).mono ?_
  rintro e w9 ⟨rfl, hb9⟩
  have hr3 := hr3.below hb9
  have hc9 := hc8.trans (hb9.mono hc8.size)
  clear hc8 hb9
  go_wp2
  go_ret
  exact ⟨rfl, hc9⟩

theorem none_all {s : List UInt8} {m : Int} (h : dec s = none) : decT s m = none ∧ decN s m = none ∧ decL s m = none := by
  have hc := decC_no (most := m) h
  exact ⟨decT_no hc, decN_no hc, decL_no hc⟩

theorem walk (s : List UInt8) (hs : s.length ≤ 1048576) (m : Int) (hm0 : -9223372036854775808 ≤ m) (hm1 : m ≤ 9223372036854775807) (w : World) :
    Calls Try.prog 6 #[.string ⟨s.toArray⟩, .int .i64 m] w fun e w' => e = .returned (.bool true) ∧ Below w.heap.size w w' := by
  cases hd : dec s with
  | none =>
    obtain ⟨ht, hn, hl⟩ := none_all (m := m) hd
    exact walk_0000 s hs m hm0 hm1 hd ht hn hl w
  | some y0 =>
    obtain ⟨x0, r0⟩ := y0
    rcases ht : decT s m with _ | ⟨x1, r1⟩ <;> rcases hn : decN s m with _ | ⟨x2, r2⟩ <;> rcases hl : decL s m with _ | ⟨x3, r3⟩
    · exact walk_1000 s hs m hm0 hm1 x0 r0 hd ht hn hl w
    · exact walk_1001 s hs m hm0 hm1 x0 r0 x3 r3 hd ht hn hl w
    · exact walk_1010 s hs m hm0 hm1 x0 r0 x2 r2 hd ht hn hl w
    · exact walk_1011 s hs m hm0 hm1 x0 r0 x2 r2 x3 r3 hd ht hn hl w
    · exact walk_1100 s hs m hm0 hm1 x0 r0 x1 r1 hd ht hn hl w
    · exact walk_1101 s hs m hm0 hm1 x0 r0 x1 r1 x3 r3 hd ht hn hl w
    · exact walk_1110 s hs m hm0 hm1 x0 r0 x1 r1 x2 r2 hd ht hn hl w
    · exact walk_1111 s hs m hm0 hm1 x0 r0 x1 r1 x2 r2 x3 r3 hd ht hn hl w

theorem readable : ∀ t ∈ Try.f6.params.toList, Try.prog.readableRec t = true ∧ t < Try.prog.types.size := by
  rw [Try.params6]
  intro t ht
  simp only [List.mem_cons, List.not_mem_nil, or_false] at ht
  rcases ht with rfl | rfl
  all_goals exact ⟨by kernel_rfl, of_decide_eq_true (by kernel_rfl)⟩

theorem contract (H : Type) (enc : TypeId × Value → H) (W : World) (base : Nat) (args : Array Value) (ds gs : List (DataW H)) (before : List MemPlace)
    (hval : ∀ (j : Nat) t v, Try.f6.params[j]? = some t → args[j]? = some v → Value.okWide Try.prog W .any base t v)
    (hW : DataW.Whole enc Try.prog Try.f6.params.toList Rows.wireOnceSpec.vars false W args.toList ds gs before) (hk : Rows.uptoSmall H (ds ++ gs) = true) :
    Calls Try.prog 6 args W fun e W' => ∃ v, e = .returned v ∧ Rows.wireOnceSpec.post enc Try.prog Try.f6 false true false false W args v W' := by
  have hW' := hW
  obtain ⟨p, q, hA0, hV, rfl, hfz, hnd⟩ := hW
  have hA : DataW.TrodAll enc Try.prog W 0 (fun _ => true) true Try.f6.params.toList args.toList ds p := hA0
  rw [Try.params6] at hA hval
  obtain ⟨v0, v1, d0, d1, p0, p1, rfl, rfl, rfl, h0, h1⟩ := trodAll_two hA
  obtain ⟨rfl, rfl⟩ := trodVars_none hV
  obtain ⟨s, rfl, rfl, rfl, ms⟩ := ChangeMaps.open_string Try.underlying9 (hval 0 9 v0 rfl rfl) h0
  obtain ⟨m, rfl, rfl, rfl, wm⟩ := open_int Try.underlying3 (hval 1 3 v1 rfl rfl) h1
  have bm := bounds_i64 wm
  obtain ⟨sl, rfl⟩ : ∃ sl : List UInt8, s = ⟨sl.toArray⟩ := ⟨_, Kit.bytes_of_data s⟩
  have hb := bulk_bound hk
  simp only [List.append_nil, Rows.uptoBulkAll, Rows.uptoBulk] at hb
  refine (walk sl (by omega) m bm.1 bm.2 W).mono fun e W' ⟨he, hb'⟩ => ?_
  subst he
  exact ⟨_, rfl, Kit.law_post (tb := 4) hW' laid readable rfl (by kernel_rfl) Try.underlying4 rfl rfl rfl hb'⟩

set_option maxRecDepth 100000 in
theorem lifted (os : Os) (started : os.Started) (H : Type) (enc : TypeId × Value → H) (F : Stop.Interp) :
    ReturnsInHanded {} Try.checked os 6 .any ((Rows.OpenSpec.upto Rows.wireOnceSpec).pre6 enc Try.prog Try.f6 Rows.wireOnceUptoRow.domain false) (((Rows.OpenSpec.upto Rows.wireOnceSpec).at F).post enc Try.prog Try.f6 false true false false) := by
  refine returnsInHanded_of_cond (C := Try.checked) (s := Rows.OpenSpec.upto Rows.wireOnceSpec) (k := Rows.uptoSmall) rfl own started (by kernel_rfl) Try.func6
    (OpenSpec.witness (enc := enc) (C := Try.checked) (s := Rows.OpenSpec.upto Rows.wireOnceSpec) (k := Rows.uptoSmall) rfl false ⟨#[], #[.string .empty, .int .i64 0], []⟩ 8 (by kernel_rfl) (by kernel_rfl) (by kernel_rfl)
      (x := ([.lit (.string []), .lit (.int .i64 0)], [], [])) (by kernel_rfl) rfl (by kernel_rfl)) ?_
  intro W base args ds gs before hval hW _ hk _
  exact contract H enc W base args ds gs before hval hW hk

theorem proved : Rows.WireOnceUptoSaid :=
  OpenClaim.holds_of_cond 6 Try.f6 rfl rfl rfl rfl rfl rfl rfl ⟨rfl, rfl, rfl, rfl, rfl⟩ rfl rfl rfl rfl rfl (by kernel_rfl) Try.func6 (by kernel_rfl)
    (of_decide_eq_true (by kernel_rfl)) (by unfold Func.isWrapper; first | (rw [if_pos (by decide +kernel)]; kernel_rfl) | (rw [if_neg (by decide +kernel)]; exact ⟨rfl, rfl⟩))
    (fun os started H enc _ F => lifted os started H enc F)
end Go.Proofs.Ytelinafecnepgaa.once
