/-
  DiskTorn: of one write that a crash cuts short the first bytes are there, and behind them what was safe: the walk, for every input.
-/
import Derived.Test.YtfhplbfiakejlaaDskP
import Derived.BigQuiet
namespace Go.Proofs.Ytfhplbfiakejlaa.Torn8
open Go.RowKit
open Dsk

theorem flush_pend (D : Dk) : D.flush.pend = [] := rfl
theorem torn (D : Dk) (a : Int) (t : ByteArray) (c : Int) (h : D.flush.canWrite a t = true) :
    (((D.flush.write a t).crash [c]).read a).1 = cut (pad t D.size) (D.flush.safeOf a).1 (Dk.keepOf [c] D.size 0) := by
  have e := write_yes h
  have hw := h
  simp only [Dk.canWrite, Bool.and_eq_true, Dk.there_iff] at h
  obtain ⟨k, rfl⟩ : ∃ k : Nat, a = (k : Int) := ⟨a.toNat, by omega⟩
  have hk : k < D.flush.safe.length := by omega
  have ht : D.flush.there (k : Int) = true := Dk.there_iff.2 h.1
  rw [e]
  have e1 : ((k : Int)).toNat = k := rfl
  rw [e1]
  have hsz : D.flush.size = D.size := rfl
  rw [hsz]
  have hx : (D.flush.push k (pad t D.size)).pend[0]? = some ⟨k, pad t D.size⟩ := rfl
  have hs : ((D.flush.push k (pad t D.size)).crash [c]).safe = D.flush.safe.set k (cut (pad t D.size) (D.flush.safe.getD k ⟨#[]⟩) (Dk.keepOf [c] D.size 0)) := by
    show after (Dk.keepOf [c] D.size) (D.flush.push k (pad t D.size)).pend D.flush.safe 1 = _
    rw [after_succ hx]
    rfl
  have hso : (D.flush.safeOf (k : Int)).1 = D.flush.safe.getD k ⟨#[]⟩ := by
    unfold Dk.safeOf
    rw [if_pos ht]
    rfl
  have ht2 : ((D.flush.push k (pad t D.size)).crash [c]).there (k : Int) = true := by
    rw [Dk.there_iff, hs, List.length_set]
    exact h.1
  unfold Dk.read
  rw [if_pos ht2, hs, hso]
  show (D.flush.safe.set k (cut (pad t D.size) (D.flush.safe.getD k ⟨#[]⟩) (Dk.keepOf [c] D.size 0))).getD k ⟨#[]⟩ = _
  rw [List.getD_eq_getElem?_getD, List.getElem?_set_self hk]
  rfl

structure Bx (w : World) (n s : Int) (v : Value) (a : Int) (t : ByteArray) (c : Int) (W : World) : Prop where
  x : Box w.heap.size W #[.int .i64 n, .int .i64 s, v] 24
  y : Box (w.heap.size + 1) W #[.int .i64 a, .string t, .int .i64 c] 49
  low : Below w.heap.size w W
section
variable {w W W' : World} {n s : Int} {v : Value} {a : Int} {t : ByteArray} {c : Int}
theorem Bx.lower (h : Bx w n s v a t c W) (hb : Below (w.heap.size + 2) W W') : Bx w n s v a t c W' := ⟨h.x.low hb (by omega), h.y.low hb (by omega), h.low.trans (hb.mono (by omega))⟩
theorem Bx.made (w : World) (n s : Int) (v : Value) (a : Int) (t : ByteArray) (c : Int) :
    Bx w n s v a t c ((w.alloc (.cells #[.int .i64 n, .int .i64 s, v] 24)).alloc (.cells #[.int .i64 a, .string t, .int .i64 c] 49)) ∧ ((w.alloc (.cells #[.int .i64 n, .int .i64 s, v] 24)).alloc (.cells #[.int .i64 a, .string t, .int .i64 c] 49)).heap.size = w.heap.size + 2 := by
  refine ⟨⟨(Box.new w _ _).alloc _, ?_, ?_⟩, by simp⟩
  · have h := Box.new (w.alloc (.cells #[.int .i64 n, .int .i64 s, v] 24)) #[.int .i64 a, .string t, .int .i64 c] 49
    rw [World.size_alloc] at h
    exact h
  · exact ((Below.refl _ w).alloc (Nat.le_refl _) _).alloc (by simp) _
end

set_option maxRecDepth 100000 in
set_option maxHeartbeats 8000000 in
theorem torn_bad (n s : Int) (hc : Dk.can n s = false) (l : List Ac) (v : Value) (a : Int) (t : ByteArray) (c : Int) (w : World) (hl : Acts w v l) :
    Calls Try.prog 6 #[.agg #[.int .i64 n, .int .i64 s, v], .agg #[.int .i64 a, .string t, .int .i64 c]] w fun e w' => e = .returned (.bool true) ∧ Below w.heap.size w w' := by
  have HL := Lib.hid hl
  obtain ⟨la, lc, rfl⟩ := hl.form
  obtain ⟨X, zX⟩ := Bx.made w n s (.slice la l.length lc) a t c
  have HM := fun w' (h : Below w.heap.size w w') => made_bad n s hc l _ w' (HL.out.below h)
  have HF := fixed_any
  have ZX := Lib.hid zX
  clear hc hl zX
  have XX := Lib.hid X
  have y0 : ((w.alloc (.cells #[.int .i64 n, .int .i64 s, .slice la l.length lc] 24)).alloc (.cells #[.int .i64 a, .string t, .int .i64 c] 49)).drew.cell? ⟨w.heap.size + 1, 0, none⟩ = some (.int .i64 a) := X.y.cell (j := 0) rfl
  have y1 : ((w.alloc (.cells #[.int .i64 n, .int .i64 s, .slice la l.length lc] 24)).alloc (.cells #[.int .i64 a, .string t, .int .i64 c] 49)).drew.cell? ⟨w.heap.size + 1, 1, none⟩ = some (.string t) := X.y.cell (j := 1) rfl
  have y2 : ((w.alloc (.cells #[.int .i64 n, .int .i64 s, .slice la l.length lc] 24)).alloc (.cells #[.int .i64 a, .string t, .int .i64 c] 49)).drew.cell? ⟨w.heap.size + 1, 2, none⟩ = some (.int .i64 c) := X.y.cell (j := 2) rfl
  have x0 : ((w.alloc (.cells #[.int .i64 n, .int .i64 s, .slice la l.length lc] 24)).alloc (.cells #[.int .i64 a, .string t, .int .i64 c] 49)).drew.cell? ⟨w.heap.size, 0, none⟩ = some (.int .i64 n) := X.x.cell (j := 0) rfl
  have x1 : ((w.alloc (.cells #[.int .i64 n, .int .i64 s, .slice la l.length lc] 24)).alloc (.cells #[.int .i64 a, .string t, .int .i64 c] 49)).drew.cell? ⟨w.heap.size, 1, none⟩ = some (.int .i64 s) := X.x.cell (j := 1) rfl
  have x2 : ((w.alloc (.cells #[.int .i64 n, .int .i64 s, .slice la l.length lc] 24)).alloc (.cells #[.int .i64 a, .string t, .int .i64 c] 49)).drew.cell? ⟨w.heap.size, 2, none⟩ = some (.slice la l.length lc) := X.x.cell (j := 2) rfl
  clear X
  go_enter Try.func6, Try.ntmps6
  go_wp2_with fail
  go_region
  go_wp2_with fail
  refine (HM _ XX.out.low.drew).mono ?_
  rintro e w1 ⟨rfl, b1⟩
  have l1 : Below w.heap.size w w1 := XX.out.low.drew.trans (b1.mono XX.out.low.drew.size)
  have z1 : w.heap.size ≤ w1.heap.size := l1.size
  clear x0 x1 x2 y0 y1 y2 b1 HM XX ZX
  go_wp2_with fail
  refine (HF _).mono ?_
  rintro e w3 ⟨rfl, b3⟩
  have l3 := l1.trans (b3.mono z1)
  clear b3 l1
  go_wp2_with fail
  refine (HF _).mono ?_
  rintro e w4 ⟨rfl, b4⟩
  have l4 := l3.trans (b4.mono l3.size)
  clear b4 l3
  go_wp2
  go_ret
  exact ⟨rfl, l4⟩

set_option maxRecDepth 100000 in
set_option maxHeartbeats 8000000 in
theorem torn_no (n s : Nat) (hc : Dk.can n s = true) (l : List Ac) (v : Value) (a : Int) (t : ByteArray) (c : Int) (hw : ¬ (mk n s l 200).flush.canWrite a t = true) (w : World) (hl : Acts w v l) :
    Calls Try.prog 6 #[.agg #[.int .i64 (n : Int), .int .i64 (s : Int), v], .agg #[.int .i64 a, .string t, .int .i64 c]] w fun e w' => e = .returned (.bool true) ∧ Below w.heap.size w w' := by
  have HL := Lib.hid hl
  obtain ⟨la, lc, rfl⟩ := hl.form
  obtain ⟨X, zX⟩ := Bx.made w n s (.slice la l.length lc) a t c
  have HM := fun w' (h : Below w.heap.size w w') => made_any n s hc l _ w' (HL.out.below h)
  have HF := fixed_any
  have ZX := Lib.hid zX
  have hp0 := mk_pend n s l 200
  have hs0 := (mk_same n s l 200).1
  have HP := Lib.hid hp0
  have hcw : (mk n s l 200).flush.canWrite a t = false := by simpa using hw
  have hso : (mk n s l 200).flush.safeOf a = (((mk n s l 200).flush.safeOf a).1, (mk n s l 200).flush.there a) := by
    unfold Dk.safeOf
    split <;> simp_all
  have hor : (mk n s l 200).flush.there a = false ∨ s < t.size := by
    have hsz : (mk n s l 200).flush.size = s := hs0
    unfold Dk.canWrite at hcw
    rw [hsz] at hcw
    rcases Bool.and_eq_false_iff.1 hcw with h | h
    · exact .inl h
    · exact .inr (by have := of_decide_eq_false h; omega)
  clear hc hl zX
  generalize mk n s l 200 = D at *
  generalize (D.flush.safeOf a).1 = old at *
  generalize D.flush.there a = is at *
  clear hw hp0 hs0
  have XX := Lib.hid X
  have y0 : ((w.alloc (.cells #[.int .i64 (n : Int), .int .i64 (s : Int), .slice la l.length lc] 24)).alloc (.cells #[.int .i64 a, .string t, .int .i64 c] 49)).drew.cell? ⟨w.heap.size + 1, 0, none⟩ = some (.int .i64 a) := X.y.cell (j := 0) rfl
  have y1 : ((w.alloc (.cells #[.int .i64 (n : Int), .int .i64 (s : Int), .slice la l.length lc] 24)).alloc (.cells #[.int .i64 a, .string t, .int .i64 c] 49)).drew.cell? ⟨w.heap.size + 1, 1, none⟩ = some (.string t) := X.y.cell (j := 1) rfl
  have y2 : ((w.alloc (.cells #[.int .i64 (n : Int), .int .i64 (s : Int), .slice la l.length lc] 24)).alloc (.cells #[.int .i64 a, .string t, .int .i64 c] 49)).drew.cell? ⟨w.heap.size + 1, 2, none⟩ = some (.int .i64 c) := X.y.cell (j := 2) rfl
  have x0 : ((w.alloc (.cells #[.int .i64 (n : Int), .int .i64 (s : Int), .slice la l.length lc] 24)).alloc (.cells #[.int .i64 a, .string t, .int .i64 c] 49)).drew.cell? ⟨w.heap.size, 0, none⟩ = some (.int .i64 (n : Int)) := X.x.cell (j := 0) rfl
  have x1 : ((w.alloc (.cells #[.int .i64 (n : Int), .int .i64 (s : Int), .slice la l.length lc] 24)).alloc (.cells #[.int .i64 a, .string t, .int .i64 c] 49)).drew.cell? ⟨w.heap.size, 1, none⟩ = some (.int .i64 (s : Int)) := X.x.cell (j := 1) rfl
  have x2 : ((w.alloc (.cells #[.int .i64 (n : Int), .int .i64 (s : Int), .slice la l.length lc] 24)).alloc (.cells #[.int .i64 a, .string t, .int .i64 c] 49)).drew.cell? ⟨w.heap.size, 2, none⟩ = some (.slice la l.length lc) := X.x.cell (j := 2) rfl
  clear X
  go_enter Try.func6, Try.ntmps6
  go_wp2_with fail
  go_region
  go_wp2_with fail
  refine (HM _ XX.out.low.drew).mono ?_
  rintro e w1 ⟨p, K, rfl, h1, hK, b1⟩
  have zd : (((w.alloc (.cells #[.int .i64 (n : Int), .int .i64 (s : Int), .slice la l.length lc] 24)).alloc (.cells #[.int .i64 a, .string t, .int .i64 c] 49)) : World).drew.heap.size = w.heap.size + 2 := ZX.out
  have hK : ∀ i, K i → w.heap.size + 2 ≤ i := fun i hi => by have := hK i hi; rwa [zd] at this
  have z1 : w.heap.size + 2 ≤ w1.heap.size := by have := b1.size; rwa [zd] at this
  have X1 : Bx w n s (.slice la l.length lc) a t c w1 := Bx.lower (W := (((w.alloc (.cells #[.int .i64 (n : Int), .int .i64 (s : Int), .slice la l.length lc] 24)).alloc (.cells #[.int .i64 a, .string t, .int .i64 c] 49))).drew) ⟨XX.out.x.drew, XX.out.y.drew, XX.out.low.drew⟩ (b1.mono (by rw [zd]; exact Nat.le_refl _))
  have O1 : One (w.heap.size + 2) w1 w1 p K D := ⟨h1, hK, Below.refl _ _, z1⟩
  have X1 := Lib.hid X1
  clear x0 x1 x2 y0 y1 y2 b1 HM XX ZX zd hK h1 z1
  go_wp2_with fail
  refine (HF _).mono ?_
  rintro e w2 ⟨rfl, b2⟩
  have O2 := O1.below b2
  clear b2 O1 HF
  have H := flush_any O2.d (by have := HP.out; omega)
  go_wp2_with fail
  refine H.mono ?_
  rintro e w3 ⟨rfl, h3, hb3⟩
  have O3 := O2.same hb3 h3
  clear O2 h3 hb3 H
  have H := safe_any O3.d a
  rw [hso] at H
  go_wp2_with fail
  refine H.mono ?_
  rintro e w4 ⟨rfl, b4⟩
  have O4 := O3.below b4
  clear O3 b4 H
  have H := write_any O4.d (by show 0 < 1000; decide) a t
  rw [hcw] at H
  go_wp2_with fail
  refine H.mono ?_
  rintro e w5 ⟨rfl, K5, h5, st⟩
  have O5 := O4.turn st h5
  clear O4 st h5 H
  have x1 : w5.cell? ⟨w.heap.size, 1, none⟩ = some (.int .i64 (s : Int)) := (X1.out.lower O5.low).x.cell (j := 1) rfl
  rcases hor with rfl | hlt
  · go_wp2
    go_ret
    exact ⟨rfl, X1.out.low.trans (O5.low.mono (by omega))⟩
  · have g1 : decide ((t.size : Int) ≤ (s : Int)) = false := by rw [decide_eq_false_iff_not]; omega
    have g2 : decide (t.size ≤ s) = false := by rw [decide_eq_false_iff_not]; omega
    cases is
    · go_wp2
      go_ret
      exact ⟨rfl, X1.out.low.trans (O5.low.mono (by omega))⟩
    · go_wp2
      go_ret
      exact ⟨rfl, X1.out.low.trans (O5.low.mono (by omega))⟩

set_option maxRecDepth 100000 in
set_option maxHeartbeats 8000000 in
theorem torn_yes (n s : Nat) (hc : Dk.can n s = true) (l : List Ac) (v : Value) (a : Int) (t : ByteArray) (c : Int) (hw : (mk n s l 200).flush.canWrite a t = true) (w : World) (hl : Acts w v l) :
    Calls Try.prog 6 #[.agg #[.int .i64 (n : Int), .int .i64 (s : Int), v], .agg #[.int .i64 a, .string t, .int .i64 c]] w fun e w' => e = .returned (.bool true) ∧ Below w.heap.size w w' := by
  have HL := Lib.hid hl
  obtain ⟨la, lc, rfl⟩ := hl.form
  obtain ⟨X, zX⟩ := Bx.made w n s (.slice la l.length lc) a t c
  have HM := fun w' (h : Below w.heap.size w w') => made_any n s hc l _ w' (HL.out.below h)
  have HF := fixed_any
  have ZX := Lib.hid zX
  have hp0 := mk_pend n s l 200
  have hs0 := (mk_same n s l 200).1
  have HP := Lib.hid hp0
  have hcw := hw
  have hsz : (mk n s l 200).flush.size = s := hs0
  have hcc := hw
  simp only [Dk.canWrite, Bool.and_eq_true] at hcc
  have hth := hcc.1
  have htl : t.size ≤ s := by have := of_decide_eq_true hcc.2; omega
  have hso : (mk n s l 200).flush.safeOf a = (((mk n s l 200).flush.safeOf a).1, true) := by
    unfold Dk.safeOf
    rw [if_pos hth]
  have hold : ((mk n s l 200).flush.safeOf a).1.size = s := by
    have hok : (mk n s l 200).ok := (Dk.ok_new hc).acts _
    have h2 := Dk.there_iff.1 hth
    unfold Dk.safeOf
    rw [if_pos hth]
    rw [hok.flush.safeAt (by omega)]
    exact hsz
  have hrd := torn (mk n s l 200) a t c hw
  rw [hs0] at hrd
  have hrt : (((mk n s l 200).flush.write a t).crash [c]).read a = ((((mk n s l 200).flush.write a t).crash [c]).read a |>.1, true) := by
    have e1 : (((mk n s l 200).flush.write a t).crash [c]).there a = true := by
      have h2 := Dk.there_iff.1 hth
      have e := (Dk.same_write (mk n s l 200).flush a t).2
      rw [Dk.there_iff]
      show 0 ≤ a ∧ a < ((after _ _ ((mk n s l 200).flush.write a t).safe _).length : Int)
      rw [after_length, e]
      exact h2
    unfold Dk.read
    rw [if_pos e1]
  rw [hrd] at hrt
  have hs512 := of_decide_eq_true hc
  obtain ⟨cc, hcE⟩ : ∃ cc, Dk.keepOf [c] s 0 = cc := ⟨_, rfl⟩
  have hcm : max 0 (min c (s : Int)) = (cc : Int) := by
    rw [← hcE]
    show max 0 (min c (s : Int)) = ((if c < 0 then 0 else if (s : Int) < c then s else c.toNat : Nat) : Int)
    split
    · omega
    · split <;> omega
  have hcs : cc ≤ s := by rw [← hcE]; exact Dk.keepOf_le [c] s 0
  rw [hcE] at hrt
  have hpl : ((mk n s l 200).flush.write a t).pend.length ≤ 1 := Dk.pend_write _ _ _
  have hcp : (((mk n s l 200).flush.write a t).crash [c]).pend = [] := rfl
  have HZ := fun w => rZeros_any (s - t.size) (by omega) w
  have hcut : cut (pad t s) ((mk n s l 200).flush.safeOf a).1 cc = (t ++ zeros (s - t.size)).extract 0 cc ++ ((mk n s l 200).flush.safeOf a).1.extract cc ((mk n s l 200).flush.safeOf a).1.size := rfl
  rw [hcut] at hrt
  have z2 : t.size + (zeros (s - t.size)).size = s := by rw [zeros_size]; omega
  clear hc hl zX
  generalize mk n s l 200 = D at *
  generalize (D.flush.safeOf a).1 = old at *
  generalize zeros (s - t.size) = zs at *
  generalize hD3 : D.flush.write a t = D3 at *
  generalize hD4 : D3.crash [c] = D4 at *
  have HPL := Lib.hid (And.intro hpl (And.intro hD4 (And.intro hD3 hcp)))
  clear hw hp0 hs0 hcc hth hrd hsz hcE hcut hpl hcp hD4
  have XX := Lib.hid X
  have y0 : ((w.alloc (.cells #[.int .i64 (n : Int), .int .i64 (s : Int), .slice la l.length lc] 24)).alloc (.cells #[.int .i64 a, .string t, .int .i64 c] 49)).drew.cell? ⟨w.heap.size + 1, 0, none⟩ = some (.int .i64 a) := X.y.cell (j := 0) rfl
  have y1 : ((w.alloc (.cells #[.int .i64 (n : Int), .int .i64 (s : Int), .slice la l.length lc] 24)).alloc (.cells #[.int .i64 a, .string t, .int .i64 c] 49)).drew.cell? ⟨w.heap.size + 1, 1, none⟩ = some (.string t) := X.y.cell (j := 1) rfl
  have y2 : ((w.alloc (.cells #[.int .i64 (n : Int), .int .i64 (s : Int), .slice la l.length lc] 24)).alloc (.cells #[.int .i64 a, .string t, .int .i64 c] 49)).drew.cell? ⟨w.heap.size + 1, 2, none⟩ = some (.int .i64 c) := X.y.cell (j := 2) rfl
  have x0 : ((w.alloc (.cells #[.int .i64 (n : Int), .int .i64 (s : Int), .slice la l.length lc] 24)).alloc (.cells #[.int .i64 a, .string t, .int .i64 c] 49)).drew.cell? ⟨w.heap.size, 0, none⟩ = some (.int .i64 (n : Int)) := X.x.cell (j := 0) rfl
  have x1 : ((w.alloc (.cells #[.int .i64 (n : Int), .int .i64 (s : Int), .slice la l.length lc] 24)).alloc (.cells #[.int .i64 a, .string t, .int .i64 c] 49)).drew.cell? ⟨w.heap.size, 1, none⟩ = some (.int .i64 (s : Int)) := X.x.cell (j := 1) rfl
  have x2 : ((w.alloc (.cells #[.int .i64 (n : Int), .int .i64 (s : Int), .slice la l.length lc] 24)).alloc (.cells #[.int .i64 a, .string t, .int .i64 c] 49)).drew.cell? ⟨w.heap.size, 2, none⟩ = some (.slice la l.length lc) := X.x.cell (j := 2) rfl
  clear X
  go_enter Try.func6, Try.ntmps6
  go_wp2_with fail
  go_region
  go_wp2_with fail
  refine (HM _ XX.out.low.drew).mono ?_
  rintro e w1 ⟨p, K, rfl, h1, hK, b1⟩
  have zd : (((w.alloc (.cells #[.int .i64 (n : Int), .int .i64 (s : Int), .slice la l.length lc] 24)).alloc (.cells #[.int .i64 a, .string t, .int .i64 c] 49)) : World).drew.heap.size = w.heap.size + 2 := ZX.out
  have hK : ∀ i, K i → w.heap.size + 2 ≤ i := fun i hi => by have := hK i hi; rwa [zd] at this
  have z1 : w.heap.size + 2 ≤ w1.heap.size := by have := b1.size; rwa [zd] at this
  have X1 : Bx w n s (.slice la l.length lc) a t c w1 := Bx.lower (W := (((w.alloc (.cells #[.int .i64 (n : Int), .int .i64 (s : Int), .slice la l.length lc] 24)).alloc (.cells #[.int .i64 a, .string t, .int .i64 c] 49))).drew) ⟨XX.out.x.drew, XX.out.y.drew, XX.out.low.drew⟩ (b1.mono (by rw [zd]; exact Nat.le_refl _))
  have O1 : One (w.heap.size + 2) w1 w1 p K D := ⟨h1, hK, Below.refl _ _, z1⟩
  have X1 := Lib.hid X1
  clear x0 x1 x2 y0 y1 y2 b1 HM XX ZX zd hK h1 z1
  go_wp2_with fail
  refine (HF _).mono ?_
  rintro e w2 ⟨rfl, b2⟩
  have O2 := O1.below b2
  clear b2 O1 HF
  have H := flush_any O2.d (by have := HP.out; omega)
  go_wp2_with fail
  refine H.mono ?_
  rintro e w3 ⟨rfl, h3, hb3⟩
  have O3 := O2.same hb3 h3
  clear O2 h3 hb3 H
  have H := safe_any O3.d a
  rw [hso] at H
  go_wp2_with fail
  refine H.mono ?_
  rintro e w4 ⟨rfl, b4⟩
  have O4 := O3.below b4
  clear O3 b4 H
  have H := write_any O4.d (by show 0 < 1000; decide) a t
  rw [hcw, HPL.out.2.2.1] at H
  go_wp2_with fail
  refine H.mono ?_
  rintro e w5 ⟨rfl, K5, h5, st⟩
  have O5 := O4.turn st h5
  clear O4 st h5 H
  have x1 : w5.cell? ⟨w.heap.size, 1, none⟩ = some (.int .i64 (s : Int)) := (X1.out.lower O5.low).x.cell (j := 1) rfl
  have bl := below_lit w5 (.cells #[.int .i64 c] 3)
  have O6 := O5.below bl
  have hr : RdK K5 (w5.alloc (.cells #[.int .i64 c] 3)) (.slice (some ⟨w5.heap.size, 0, none⟩) 1 1) (ints [c]) := by
    refine ⟨_, 1, rfl, .inr ⟨_, rfl, fun hk => Nat.lt_irrefl _ (O5.d.lt _ hk), fun j u hj => ?_⟩⟩
    match j, hj with
    | 0, hj =>
      cases hj
      exact (Box.new w5 #[.int .i64 c] 3).cell (j := 0) rfl
    | j + 1, hj => cases hj
  have H := crash_any O6.d (by have := HPL.out.1; omega) hr
  rw [HPL.out.2.1] at H
  have g0 : (t.size : Int) ≤ (s : Int) := by omega
  clear O5 bl hr
  go_wp2_with fail
  refine H.mono ?_
  rintro e w7 ⟨rfl, h7, hb7⟩
  have O7 := O6.same hb7 h7
  clear O6 h7 hb7 H x1
  have H := read_any O7.d (by rw [HPL.out.2.2.2]; decide) a
  rw [hrt] at H
  go_wp2_with fail
  refine H.mono ?_
  rintro e w8 ⟨rfl, b8⟩
  have O8 := O7.below b8
  clear O7 b8 H
  have X8 := X1.out.lower O8.low
  have x1 : w8.cell? ⟨w.heap.size, 1, none⟩ = some (.int .i64 (s : Int)) := X8.x.cell (j := 1) rfl
  have x1d : w8.drew.cell? ⟨w.heap.size, 1, none⟩ = some (.int .i64 (s : Int)) := x1
  have e2 : IntKind.i64.wrap ((s : Int) - (t.size : Int)) = ((s - t.size : Nat) : Int) := by rw [IntKind.wrap_i64]; omega
  have z3 : (9223372036854775807 < t.size + zs.size) = False := eq_false (by omega)
  have z4 : (9223372036854775807 < old.size) = False := eq_false (by omega)
  have z5 : cc ≤ t.size + zs.size := by omega
  have z6 : cc ≤ old.size := by omega
  have z7 : (cc : Int) ≤ (t.size : Int) + (zs.size : Int) := by omega
  have L8 := Lib.hid X8.low
  clear X8 O8 hold hcs hs512 htl hso hrt hcw z2
  go_wp2
  go_region_law (go_simp; go_at_call 24; refine (HZ _).mono ?_; rintro e w9 ⟨rfl, b9⟩; have L9 := L8.out.drew.trans (b9.mono L8.out.drew.size); go_wp2_with fail)
  all_goals go_wp2
  all_goals go_ret
  all_goals exact ⟨rfl, L9⟩

theorem torn_any (n s : Int) (l : List Ac) (v : Value) (a : Int) (t : ByteArray) (c : Int) (w : World) (hl : Acts w v l) :
    Calls Try.prog 6 #[.agg #[.int .i64 n, .int .i64 s, v], .agg #[.int .i64 a, .string t, .int .i64 c]] w fun e w' => e = .returned (.bool true) ∧ Below w.heap.size w w' := by
  by_cases hc : Dk.can n s = true
  · have h := of_decide_eq_true hc
    obtain ⟨n, rfl⟩ : ∃ k : Nat, n = (k : Int) := ⟨n.toNat, by omega⟩
    obtain ⟨s, rfl⟩ : ∃ k : Nat, s = (k : Int) := ⟨s.toNat, by omega⟩
    by_cases hw : (mk n s l 200).flush.canWrite a t = true
    · exact torn_yes n s hc l v a t c hw w hl
    · exact torn_no n s hc l v a t c hw w hl
  · exact torn_bad n s (by simpa using hc) l v a t c w hl
end Go.Proofs.Ytfhplbfiakejlaa.Torn8
