/-
  DiskTurned: two writes to unlike sectors may change places: flushed the disk is the same: the walk, for every input.
-/
import Derived.Test.YtfhplbfiakejlaaDskP
namespace Go.Proofs.Ytfhplbfiakejlaa.Turned8
open Go.RowKit
open Dsk

def B3 (w : World) (n s : Int) (v : Value) (a : Int) (t : ByteArray) (c : Int) (b : Int) (u : ByteArray) (e : Int) : World :=
  ((w.alloc (.cells #[.int .i64 n, .int .i64 s, v] 24)).alloc (.cells #[.int .i64 a, .string t, .int .i64 c] 49)).alloc (.cells #[.int .i64 b, .string u, .int .i64 e] 49)
structure Bx (w : World) (n s : Int) (v : Value) (a : Int) (t : ByteArray) (c : Int) (b : Int) (u : ByteArray) (e : Int) (W : World) : Prop where
  x : Box w.heap.size W #[.int .i64 n, .int .i64 s, v] 24
  y : Box (w.heap.size + 1) W #[.int .i64 a, .string t, .int .i64 c] 49
  z : Box (w.heap.size + 1 + 1) W #[.int .i64 b, .string u, .int .i64 e] 49
  low : Below w.heap.size w W
theorem Bx.lower {w W W' : World} {n s : Int} {v : Value} {a : Int} {t : ByteArray} {c : Int} {b : Int} {u : ByteArray} {e : Int} (h : Bx w n s v a t c b u e W) (hb : Below (w.heap.size + 3) W W') : Bx w n s v a t c b u e W' :=
  ⟨h.x.low hb (by omega), h.y.low hb (by omega), h.z.low hb (by omega), h.low.trans (hb.mono (by omega))⟩
theorem Bx.made (w : World) (n s : Int) (v : Value) (a : Int) (t : ByteArray) (c : Int) (b : Int) (u : ByteArray) (e : Int) : Bx w n s v a t c b u e (B3 w n s v a t c b u e) ∧ (B3 w n s v a t c b u e).heap.size = w.heap.size + 3 := by
  unfold B3
  refine ⟨⟨((Box.new w _ _).alloc _).alloc _, ?_, ?_, ?_⟩, by simp⟩
  · have h := (Box.new (w.alloc (.cells #[.int .i64 n, .int .i64 s, v] 24)) #[.int .i64 a, .string t, .int .i64 c] 49).alloc (.cells #[.int .i64 b, .string u, .int .i64 e] 49)
    rw [World.size_alloc] at h
    exact h
  · have h := Box.new ((w.alloc (.cells #[.int .i64 n, .int .i64 s, v] 24)).alloc (.cells #[.int .i64 a, .string t, .int .i64 c] 49)) #[.int .i64 b, .string u, .int .i64 e] 49
    rw [World.size_alloc, World.size_alloc] at h
    exact h
  · exact (((Below.refl _ w).alloc (Nat.le_refl _) _).alloc (by simp) _).alloc (by simp; omega) _

set_option maxRecDepth 100000 in
set_option maxHeartbeats 8000000 in
theorem turned_bad (n s : Int) (hc : Dk.can n s = false) (l : List Ac) (v : Value) (a : Int) (t : ByteArray) (c : Int) (b : Int) (u : ByteArray) (e : Int) (w : World) (hl : Acts w v l) :
    Calls Try.prog 7 #[.agg #[.int .i64 n, .int .i64 s, v], .agg #[.int .i64 a, .string t, .int .i64 c], .agg #[.int .i64 b, .string u, .int .i64 e]] w fun e w' => e = .returned (.bool true) ∧ Below w.heap.size w w' := by
  have HL := Lib.hid hl
  obtain ⟨la, lc, rfl⟩ := hl.form
  obtain ⟨X, zX⟩ := Bx.made w n s (.slice la l.length lc) a t c b u e
  have HM := fun w' (h : Below w.heap.size w w') => made_bad n s hc l _ w' (HL.out.below h)
  have HF := fixed_any
  have ZX := Lib.hid zX
  unfold B3 at *
  clear hc hl zX
  have x0 := X.x.cell (j := 0) rfl
  have x1 := X.x.cell (j := 1) rfl
  have x2 := X.x.cell (j := 2) rfl
  go_enter Try.func7, Try.ntmps7
  go_wp2_with fail
  refine (HM _ X.low).mono ?_
  rintro e w1 ⟨rfl, b1⟩
  have X1 := X.lower (b1.mono (by rw [ZX.out]; exact Nat.le_refl _))
  have c1 : w.heap.size + 3 ≤ w1.heap.size := by have := b1.size; rwa [ZX.out] at this
  clear X x0 x1 x2 b1
  have x0 := X1.x.cell (j := 0) rfl
  have x1 := X1.x.cell (j := 1) rfl
  have x2 := X1.x.cell (j := 2) rfl
  go_wp2_with fail
  refine (HM _ X1.low).mono ?_
  rintro e w2 ⟨rfl, b1⟩
  have l2 := X1.low.trans (b1.mono (by omega))
  have z2 := b1.size
  clear X1 x0 x1 x2 b1 HM
  go_wp2_with fail
  refine (HF _).mono ?_
  rintro e w3 ⟨rfl, b3⟩
  have l3 := l2.trans (b3.mono (by omega))
  have z3 := b3.size
  clear b3 l2
  go_wp2_with fail
  refine (HF _).mono ?_
  rintro e w4 ⟨rfl, b4⟩
  have l4 := l3.trans (b4.mono (by omega))
  clear b4 l3
  go_wp2
  go_ret
  exact ⟨rfl, l4⟩

set_option maxRecDepth 100000 in
set_option maxHeartbeats 8000000 in
theorem turned_same (n s : Nat) (hc : Dk.can n s = true) (l : List Ac) (v : Value) (a : Int) (t : ByteArray) (c : Int) (b : Int) (u : ByteArray) (e : Int) (hab : a = b) (w : World) (hl : Acts w v l) :
    Calls Try.prog 7 #[.agg #[.int .i64 (n : Int), .int .i64 (s : Int), v], .agg #[.int .i64 a, .string t, .int .i64 c], .agg #[.int .i64 b, .string u, .int .i64 e]] w fun e w' => e = .returned (.bool true) ∧ Below w.heap.size w w' := by
  have HL := Lib.hid hl
  obtain ⟨la, lc, rfl⟩ := hl.form
  obtain ⟨X, zX⟩ := Bx.made w n s (.slice la l.length lc) a t c b u e
  have HM := fun w' (h : Below w.heap.size w w') => made_any n s hc l _ w' (HL.out.below h)
  have HF := fixed_any
  have ZX := Lib.hid zX
  unfold B3 at *
  subst hab
  clear hc hl zX
  generalize mk n s l 200 = D at *
  have x0 := X.x.cell (j := 0) rfl
  have x1 := X.x.cell (j := 1) rfl
  have x2 := X.x.cell (j := 2) rfl
  go_enter Try.func7, Try.ntmps7
  go_wp2_with fail
  refine (HM _ X.low).mono ?_
  rintro e w1 ⟨p, K, rfl, h1, hK, b1⟩
  have hK : ∀ i, K i → w.heap.size + 3 ≤ i := fun i hi => by have := hK i hi; rwa [ZX.out] at this
  have X1 := X.lower (b1.mono (by rw [ZX.out]; exact Nat.le_refl _))
  have z1 : w.heap.size + 3 ≤ w1.heap.size := by have := b1.size; rwa [ZX.out] at this
  clear X x0 x1 x2 b1 ZX
  have x0 := X1.x.cell (j := 0) rfl
  have x1 := X1.x.cell (j := 1) rfl
  have x2 := X1.x.cell (j := 2) rfl
  go_wp2_with fail
  refine (HM _ X1.low).mono ?_
  rintro e w2 ⟨q, M, rfl, h2, hM, b2⟩
  have W2 : Both (w.heap.size + 3) w1 w2 p K D q M D := Two.of h1 hK (Below.refl _ _) z1 b2 h2 hM
  clear x0 x1 x2 b2 h1 hK h2 hM HM
  go_wp2_with fail
  refine (HF _).mono ?_
  rintro e w3 ⟨rfl, b3⟩
  have W3 := W2.below b3
  have X3 := X1.lower W3.low
  clear b3 W2
  have y0 := X3.y.cell (j := 0) rfl
  have y1 := X3.y.cell (j := 1) rfl
  have u0 := X3.z.cell (j := 0) rfl
  have u1 := X3.z.cell (j := 1) rfl
  go_wp2_with fail
  refine (HF _).mono ?_
  rintro e w4 ⟨rfl, b4⟩
  have l4 := X3.low.trans (b4.mono (Nat.le_trans (by omega) W3.size))
  clear b4 y0 y1 u0 u1 X1 X3 W3
  go_wp2
  go_ret
  exact ⟨rfl, l4⟩

set_option maxRecDepth 100000 in
set_option maxHeartbeats 8000000 in
theorem turned_main (n s : Nat) (hc : Dk.can n s = true) (l : List Ac) (v : Value) (a : Int) (t : ByteArray) (c : Int) (b : Int) (u : ByteArray) (e : Int) (hab : a ≠ b) (w : World) (hl : Acts w v l) :
    Calls Try.prog 7 #[.agg #[.int .i64 (n : Int), .int .i64 (s : Int), v], .agg #[.int .i64 a, .string t, .int .i64 c], .agg #[.int .i64 b, .string u, .int .i64 e]] w fun e w' => e = .returned (.bool true) ∧ Below w.heap.size w w' := by
  have HL := Lib.hid hl
  obtain ⟨la, lc, rfl⟩ := hl.form
  obtain ⟨X, zX⟩ := Bx.made w n s (.slice la l.length lc) a t c b u e
  have HM := fun w' (h : Below w.heap.size w w') => made_any n s hc l _ w' (HL.out.below h)
  have HF := fixed_any
  have HCN := Lib.hid hc
  have ZX := Lib.hid zX
  unfold B3 at *
  have hp0 := mk_pend n s l 200
  have hn : (mk n s l 200).safe.length = n := (mk_same n s l 200).2
  clear hc hl zX
  generalize mk n s l 200 = D at *
  have hpa := Dk.pend_write D a t
  have hpab := Dk.pend_write (D.write a t) b u
  have hpb := Dk.pend_write D b u
  have hpba := Dk.pend_write (D.write b u) a t
  have hcn := of_decide_eq_true HCN.out
  have HN := Lib.hid (show n ≤ 256 by omega)
  have HS := Lib.hid (turned D a b t u hab)
  have HP := Lib.hid (And.intro hp0 (And.intro hpa (And.intro hpab (And.intro hpb hpba))))
  have e0 : (a == b) = false := by simpa using hab
  clear hp0 hpa hpab hpb hpba hn hcn HCN hab
  have x0 := X.x.cell (j := 0) rfl
  have x1 := X.x.cell (j := 1) rfl
  have x2 := X.x.cell (j := 2) rfl
  go_enter Try.func7, Try.ntmps7
  go_wp2_with fail
  refine (HM _ X.low).mono ?_
  rintro e w1 ⟨p, K, rfl, h1, hK, b1⟩
  have hK : ∀ i, K i → w.heap.size + 3 ≤ i := fun i hi => by have := hK i hi; rwa [ZX.out] at this
  have X1 := X.lower (b1.mono (by rw [ZX.out]; exact Nat.le_refl _))
  have z1 : w.heap.size + 3 ≤ w1.heap.size := by have := b1.size; rwa [ZX.out] at this
  clear X x0 x1 x2 b1 ZX
  have x0 := X1.x.cell (j := 0) rfl
  have x1 := X1.x.cell (j := 1) rfl
  have x2 := X1.x.cell (j := 2) rfl
  go_wp2_with fail
  refine (HM _ X1.low).mono ?_
  rintro e w2 ⟨q, M, rfl, h2, hM, b2⟩
  have W2 : Both (w.heap.size + 3) w1 w2 p K D q M D := Two.of h1 hK (Below.refl _ _) z1 b2 h2 hM
  clear x0 x1 x2 b2 h1 hK h2 hM HM
  go_wp2_with fail
  refine (HF _).mono ?_
  rintro e w3 ⟨rfl, b3⟩
  have W3 := W2.below b3
  have X3 := X1.lower W3.low
  clear b3 W2
  have y0 := X3.y.cell (j := 0) rfl
  have y1 := X3.y.cell (j := 1) rfl
  have u0 := X3.z.cell (j := 0) rfl
  have u1 := X3.z.cell (j := 1) rfl
  have H := write_any W3.d (by have := HP.out; omega) a t
  go_wp2_with fail
  refine H.mono ?_
  rintro e w4 ⟨rfl, K4, h, st⟩
  have W4 := W3.left st h
  have X4 := X1.lower W4.low
  clear H h st y0 y1 u0 u1 W3 X3
  have y0 := X4.y.cell (j := 0) rfl
  have y1 := X4.y.cell (j := 1) rfl
  have u0 := X4.z.cell (j := 0) rfl
  have u1 := X4.z.cell (j := 1) rfl
  have H := write_any W4.d (by have := HP.out; omega) b u
  go_wp2_with fail
  refine H.mono ?_
  rintro e w5 ⟨rfl, K5, h, st⟩
  have W5 := W4.left st h
  have X5 := X1.lower W5.low
  clear H h st y0 y1 u0 u1 W4 X4
  have y0 := X5.y.cell (j := 0) rfl
  have y1 := X5.y.cell (j := 1) rfl
  have u0 := X5.z.cell (j := 0) rfl
  have u1 := X5.z.cell (j := 1) rfl
  have H := write_any W5.e (by have := HP.out; omega) b u
  go_wp2_with fail
  refine H.mono ?_
  rintro e w6 ⟨rfl, M6, h, st⟩
  have W6 := W5.right st h
  have X6 := X1.lower W6.low
  clear H h st y0 y1 u0 u1 W5 X5
  have y0 := X6.y.cell (j := 0) rfl
  have y1 := X6.y.cell (j := 1) rfl
  have u0 := X6.z.cell (j := 0) rfl
  have u1 := X6.z.cell (j := 1) rfl
  have H := write_any W6.e (by have := HP.out; omega) a t
  go_wp2_with fail
  refine H.mono ?_
  rintro e w7 ⟨rfl, M7, h, st⟩
  have W7 := W6.right st h
  have X7 := X1.lower W7.low
  clear H h st y0 y1 u0 u1 W6 X6
  have y0 := X7.y.cell (j := 0) rfl
  have y1 := X7.y.cell (j := 1) rfl
  have u0 := X7.z.cell (j := 0) rfl
  have u1 := X7.z.cell (j := 1) rfl
  clear y0 y1 u0 u1 X7
  have H := flush_any W7.d (by have := HP.out; omega)
  go_wp2_with fail
  refine H.mono ?_
  rintro e w8 ⟨rfl, h, hb⟩
  have W8 := W7.leftBut hb h
  clear H h hb W7
  have H := flush_any W8.e (by have := HP.out; omega)
  go_wp2_with fail
  refine H.mono ?_
  rintro e w9 ⟨rfl, h, hb⟩
  have W9 := W8.rightBut hb h
  clear H h hb W8
  have HSF : ∀ i : Int, ((D.write b u).write a t).flush.safeOf i = ((D.write a t).write b u).flush.safeOf i := fun i => (safeOf_of HS.out i).symm
  have HX := Lib.hid (And.intro X1 (And.intro W9 HSF))
  clear W9 HSF HS HP X1 HF
  generalize ((D.write a t).write b u).flush = E1 at *
  generalize ((D.write b u).write a t).flush = E2 at *
  go_wp2
  go_loopw [11] (fun vi wr => ∃ i : Nat, i ≤ n ∧ vi = .int .i64 (i : Int) ∧ Below w9.heap.size w9 wr) (fun vi _ => n - (intOf vi).toNat)
  case atStart => exact ⟨0, Nat.zero_le _, rfl, Below.refl _ _⟩
  case round =>
    obtain ⟨i, hi, rfl, hb⟩ := hrel
    have W := HX.out.2.1.below hb
    have X := HX.out.1.lower W.low
    have x0 : wr.cell? ⟨w.heap.size, 0, none⟩ = some (.int .i64 (n : Int)) := X.x.cell (j := 0) rfl
    by_cases hlt : i < n
    · have g1 : (i : Int) < (n : Int) := by omega
      have H1 := safe_any W.d (i : Int)
      have H2 := fun w' h => safe_any (W.below (w' := w') h).e (i : Int)
      rw [HX.out.2.2] at H2
      generalize (E1.safeOf (i : Int)).1 = tx at *
      generalize (E1.safeOf (i : Int)).2 = ty at *
      have HB := Lib.hid hb
      have e3 : wrap64 ((i : Int) + 1) = (i : Int) + 1 := by unfold wrap64; have := HN.out; omega
      clear W X hb
      go_wp2_with fail
      refine H1.mono ?_
      rintro e wa ⟨rfl, ba⟩
      have H3 := H2 _ ba
      clear H2 x0
      go_wp2_with fail
      refine H3.mono ?_
      rintro e wb ⟨rfl, bb⟩
      have hbb := HB.out.trans ((ba.mono HB.out.size).trans (bb.mono (Nat.le_trans HB.out.size ba.size)))
      clear H3 ba bb
      go_wp2
      go_roundw
      case rel => exact ⟨i + 1, hlt, by rw [e3]; rfl, hbb⟩
      case measure =>
        have l5 : (intOf (.int .i64 (wrap64 ((i : Int) + 1)))).toNat = i + 1 := by rw [e3]; rfl
        have l6 : (intOf (.int .i64 (i : Int))).toNat = i := rfl
        rw [l5, l6]
        exact Nat.sub_lt_sub_left hlt (Nat.lt_succ_self i)
    · obtain rfl : i = n := by omega
      have g1 : ¬ (i : Int) < (i : Int) := by omega
      have fin := X.low
      clear W X hb
      go_wp2
      go_ret
      exact ⟨rfl, fin⟩

theorem turned_any (n s : Int) (l : List Ac) (v : Value) (a : Int) (t : ByteArray) (c : Int) (b : Int) (u : ByteArray) (e : Int) (w : World) (hl : Acts w v l) :
    Calls Try.prog 7 #[.agg #[.int .i64 n, .int .i64 s, v], .agg #[.int .i64 a, .string t, .int .i64 c], .agg #[.int .i64 b, .string u, .int .i64 e]] w fun e w' => e = .returned (.bool true) ∧ Below w.heap.size w w' := by
  by_cases hc : Dk.can n s = true
  · have h := of_decide_eq_true hc
    obtain ⟨n, rfl⟩ : ∃ k : Nat, n = (k : Int) := ⟨n.toNat, by omega⟩
    obtain ⟨s, rfl⟩ : ∃ k : Nat, s = (k : Int) := ⟨s.toNat, by omega⟩
    by_cases hab : a = b
    · exact turned_same n s hc l v a t c b u e hab w hl
    · exact turned_main n s hc l v a t c b u e hab w hl
  · exact turned_bad n s (by simpa using hc) l v a t c b u e w hl
end Go.Proofs.Ytfhplbfiakejlaa.Turned8
