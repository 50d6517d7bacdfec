/-
  SealFresh: leaves that are locked have unlike nonces and sealed values: the walk.
-/
import Derived.Test.YtgdpamfphjehaaaSealD
namespace Go.Proofs.Ytgdpamfphjehaaa.Fresh5
open Go.RowKit Go.ChangeShapes Go.WideShapes Go.ChangeAt
open Ideal Ida Sea

set_option maxRecDepth 100000 in
set_option maxHeartbeats 8000000 in
theorem fresh_any (l : List Nat) (hl : l.length * 8 ≤ 140737488355328) (hx : ∀ x ∈ l, x < 18446744073709551616) (k v s r e : Nat) (hk : k < 18446744073709551616) (hv : v < 18446744073709551616) (hs : s < 18446744073709551616) (hr : r < 18446744073709551616) (he : e < 18446744073709551616) (p : ByteArray) (hp : p.size ≤ maxLen) (t : ByteArray) (ht : t.size ≤ maxLen) (dv : Value) (w : World) (rv : Kit.Sl w dv (nums l)) :
    Calls Try.prog 7 #[.agg #[dv, .int .u64 (k : Int), .int .u64 (v : Int), .int .u64 (s : Int), .int .u64 (r : Int), .int .u64 (e : Int), .string p], .string t] w fun e W' => e = .returned (.bool true) ∧ Below w.heap.size w W' := by
  have X := Box.new w #[dv, .int .u64 (k : Int), .int .u64 (v : Int), .int .u64 (s : Int), .int .u64 (r : Int), .int .u64 (e : Int), .string p] 32
  have c := below_lit w (.cells #[dv, .int .u64 (k : Int), .int .u64 (v : Int), .int .u64 (s : Int), .int .u64 (r : Int), .int .u64 (e : Int), .string p] 32)
  have HK := locked_any l hl hx k v s r e hk hv hs hr he p hp dv _ (rv.below c)
  have hi : ((Or.new l).draw q0).Inv := Or.inv_draw (Or.inv_new l) q0
  have n1 : (((Or.new l).draw q0).lockO k v s r e p).rows.length ≤ 3 := by
    have := Or.lock_len (O := ((Or.new l).draw q0)) k v s r e p
    rw [Or.len_draw] at this
    exact this
  have n2 := Or.lock_len (O := ((Or.new l).draw q0).lockO k v s r e p) k v s r e t
  have HL := fun w' M (h : Orc w' M (((Or.new l).draw q0).lockO k v s r e p)) => lock_any h (by omega) k v s r e hk hv hs hr he t ht
  have HM := fun w' M (h : Orc w' M ((((Or.new l).draw q0).lockO k v s r e p).lockO k v s r e t)) => lock_any h (by omega) k v s r e hk hv hs hr he p hp
  have HB := fun w' M (h : Orc w' M (((((Or.new l).draw q0).lockO k v s r e p).lockO k v s r e t).lockO k v s r e p)) => o_bad h
  have hall := fresh_all hi k v s r e p t
  simp only at hall
  generalize ((((Or.new l).draw q0).lockO k v s r e p).lockO k v s r e t).lockL k v s r e p = mc at *
  generalize ((((Or.new l).draw q0).lockO k v s r e p).lockO k v s r e t).lockO k v s r e p = O3 at *
  generalize (((Or.new l).draw q0).lockO k v s r e p).lockL k v s r e t = mb at *
  generalize (((Or.new l).draw q0).lockO k v s r e p).lockO k v s r e t = O2 at *
  generalize ((Or.new l).draw q0).lockL k v s r e p = ma at *
  generalize ((Or.new l).draw q0).lockO k v s r e p = O1 at *
  have HF := fixed_any
  clear hl hx hk hv hs hr he hp rv hi n1 n2 ht
  go_enter Try.func7, Try.ntmps7
  have Xc0 := X.cell (j := 0) rfl
  have Xc1 := X.cell (j := 1) rfl
  have Xc2 := X.cell (j := 2) rfl
  have Xc3 := X.cell (j := 3) rfl
  have Xc4 := X.cell (j := 4) rfl
  have Xc5 := X.cell (j := 5) rfl
  have Xc6 := X.cell (j := 6) rfl
  go_wp2_with fail
  refine HK.mono ?_
  rintro x w1 ⟨M, rfl, h, hin, b⟩
  clear Xc0 Xc1 Xc2 Xc3 Xc4 Xc5 Xc6
  have Xo : ¬ M.own w.heap.size := fun ho => by have := (hin.own _ ho).1; simp at this; omega
  have hw : ∀ i, M.own i → w.heap.size ≤ i := fun i hi => by have := (hin.own i hi).1; simp at this; omega
  have Ao : ¬ M.own w1.heap.size := fun ho => Nat.lt_irrefl _ (h.lt ho)
  replace X := X.below b
  replace c := c.trans (b.mono c.size)
  clear b
  have A := Box.new w1 #[.int .u64 (ma.v : Int), .int .u64 (ma.e : Int), .int .u64 (ma.n : Int), .int .u64 (ma.c : Int)] 24
  have b := below_lit w1 (.cells #[.int .u64 (ma.v : Int), .int .u64 (ma.e : Int), .int .u64 (ma.n : Int), .int .u64 (ma.c : Int)] 24)
  replace X := X.below b
  replace h := Orc.below h b
  replace c := c.trans (b.mono c.size)
  clear b
  clear hin HK
  have Xc0 := X.cell (j := 0) rfl
  have Xc1 := X.cell (j := 1) rfl
  have Xc2 := X.cell (j := 2) rfl
  have Xc3 := X.cell (j := 3) rfl
  have Xc4 := X.cell (j := 4) rfl
  have Xc5 := X.cell (j := 5) rfl
  have Xc6 := X.cell (j := 6) rfl
  go_wp2_with fail
  refine (HL _ _ h).mono ?_
  clear h
  rintro x w2 ⟨rfl, h, b⟩
  clear Xc0 Xc1 Xc2 Xc3 Xc4 Xc5 Xc6
  replace X := X.but b Xo
  replace A := A.but b Ao
  replace c := c.trans (b.below c.size hw)
  clear b
  have Bo : ¬ M.own w2.heap.size := fun ho => Nat.lt_irrefl _ (h.lt ho)
  have B := Box.new w2 #[.int .u64 (mb.v : Int), .int .u64 (mb.e : Int), .int .u64 (mb.n : Int), .int .u64 (mb.c : Int)] 24
  have b := below_lit w2 (.cells #[.int .u64 (mb.v : Int), .int .u64 (mb.e : Int), .int .u64 (mb.n : Int), .int .u64 (mb.c : Int)] 24)
  replace X := X.below b
  replace A := A.below b
  replace h := Orc.below h b
  replace c := c.trans (b.mono c.size)
  clear b
  have Xc0 := X.cell (j := 0) rfl
  have Xc1 := X.cell (j := 1) rfl
  have Xc2 := X.cell (j := 2) rfl
  have Xc3 := X.cell (j := 3) rfl
  have Xc4 := X.cell (j := 4) rfl
  have Xc5 := X.cell (j := 5) rfl
  have Xc6 := X.cell (j := 6) rfl
  go_wp2_with fail
  refine (HM _ _ h).mono ?_
  clear h
  rintro x w3 ⟨rfl, h, b⟩
  clear Xc0 Xc1 Xc2 Xc3 Xc4 Xc5 Xc6
  replace X := X.but b Xo
  replace A := A.but b Ao
  replace B := B.but b Bo
  replace c := c.trans (b.below c.size hw)
  clear b
  clear HL
  have Co : ¬ M.own w3.heap.size := fun ho => Nat.lt_irrefl _ (h.lt ho)
  have C := Box.new w3 #[.int .u64 (mc.v : Int), .int .u64 (mc.e : Int), .int .u64 (mc.n : Int), .int .u64 (mc.c : Int)] 24
  have b := below_lit w3 (.cells #[.int .u64 (mc.v : Int), .int .u64 (mc.e : Int), .int .u64 (mc.n : Int), .int .u64 (mc.c : Int)] 24)
  replace X := X.below b
  replace A := A.below b
  replace B := B.below b
  replace h := Orc.below h b
  replace c := c.trans (b.mono c.size)
  clear b
  clear HM
  go_wp2_with fail
  refine (HF _).mono ?_
  rintro x w4 ⟨rfl, b⟩
  replace X := X.below b
  replace A := A.below b
  replace B := B.below b
  replace C := C.below b
  replace h := Orc.below h b
  replace c := c.trans (b.mono c.size)
  clear b
  by_cases hz : O3.bads = 0
  · rw [show decide (0 < O3.bads) = false by rw [hz]; rfl] at HB
    obtain ⟨h1, h2, h3, h4, h5, h6⟩ := hall hz
    clear hall
    go_wp2_with fail
    refine (HB _ _ h).mono ?_
    rintro x w5 ⟨rfl, b⟩
    replace X := X.below b
    replace A := A.below b
    replace B := B.below b
    replace C := C.below b
    replace h := Orc.below h b
    replace c := c.trans (b.mono c.size)
    clear b
    have e1i : (((ma.n : Nat) : Int) != ((mb.n : Nat) : Int)) = true := by rw [bne_iff_ne]; omega
    have e1n : (ma.n != mb.n) = true := by rw [bne_iff_ne]; omega
    have e2i : (((ma.c : Nat) : Int) != ((mb.c : Nat) : Int)) = true := by rw [bne_iff_ne]; omega
    have e2n : (ma.c != mb.c) = true := by rw [bne_iff_ne]; omega
    have e3i : (((ma.n : Nat) : Int) != ((mc.n : Nat) : Int)) = true := by rw [bne_iff_ne]; omega
    have e3n : (ma.n != mc.n) = true := by rw [bne_iff_ne]; omega
    have e4i : (((ma.c : Nat) : Int) != ((mc.c : Nat) : Int)) = true := by rw [bne_iff_ne]; omega
    have e4n : (ma.c != mc.c) = true := by rw [bne_iff_ne]; omega
    have e5i : (((ma.n : Nat) : Int) != ((ma.c : Nat) : Int)) = true := by rw [bne_iff_ne]; omega
    have e5n : (ma.n != ma.c) = true := by rw [bne_iff_ne]; omega
    have e6i : (((mb.c : Nat) : Int) != ((mc.c : Nat) : Int)) = true := by rw [bne_iff_ne]; omega
    have e6n : (mb.c != mc.c) = true := by rw [bne_iff_ne]; omega
    clear h1 h2 h3 h4 h5 h6
    have Ac0 := A.cell (j := 0) rfl
    have Ac1 := A.cell (j := 1) rfl
    have Ac2 := A.cell (j := 2) rfl
    have Ac3 := A.cell (j := 3) rfl
    have Bc0 := B.cell (j := 0) rfl
    have Bc1 := B.cell (j := 1) rfl
    have Bc2 := B.cell (j := 2) rfl
    have Bc3 := B.cell (j := 3) rfl
    have Cc0 := C.cell (j := 0) rfl
    have Cc1 := C.cell (j := 1) rfl
    have Cc2 := C.cell (j := 2) rfl
    have Cc3 := C.cell (j := 3) rfl
    go_wp2
    go_ret
    exact ⟨rfl, c⟩
  · rw [show decide (0 < O3.bads) = true by rw [decide_eq_true_eq]; omega] at HB
    clear hall
    go_wp2_with fail
    refine (HB _ _ h).mono ?_
    rintro x w6 ⟨rfl, b⟩
    replace X := X.below b
    replace A := A.below b
    replace B := B.below b
    replace C := C.below b
    replace h := Orc.below h b
    replace c := c.trans (b.mono c.size)
    clear b
    go_wp2_with fail
    refine (HF _).mono ?_
    rintro x w7 ⟨rfl, b⟩
    replace X := X.below b
    replace A := A.below b
    replace B := B.below b
    replace C := C.below b
    replace h := Orc.below h b
    replace c := c.trans (b.mono c.size)
    clear b
    go_wp2
    go_ret
    exact ⟨rfl, c⟩
end Go.Proofs.Ytgdpamfphjehaaa.Fresh5
