/-
  SealBinds: a leaf of which any field is another one than was locked is not unlocked: the walk.
-/
import Derived.Test.YtgdpamfphjehaaaSealD
namespace Go.Proofs.Ytgdpamfphjehaaa.Binds5
open Go.RowKit Go.ChangeShapes Go.WideShapes Go.ChangeAt
open Ideal Ida Sea

set_option maxRecDepth 100000 in
set_option maxHeartbeats 8000000 in
theorem binds_any (l : List Nat) (hl : l.length * 8 ≤ 140737488355328) (hx : ∀ x ∈ l, x < 18446744073709551616) (k v s r e : Nat) (hk : k < 18446744073709551616) (hv : v < 18446744073709551616) (hs : s < 18446744073709551616) (hr : r < 18446744073709551616) (he : e < 18446744073709551616) (p : ByteArray) (hp : p.size ≤ maxLen) (g : Leaf) (hg : fine g) (dv : Value) (w : World) (rv : Kit.Sl w dv (nums l)) :
    Calls Try.prog 6 #[.agg #[dv, .int .u64 (k : Int), .int .u64 (v : Int), .int .u64 (s : Int), .int .u64 (r : Int), .int .u64 (e : Int), .string p], .agg #[.int .u64 (g.v : Int), .int .u64 (g.e : Int), .int .u64 (g.n : Int), .int .u64 (g.c : Int)]] w fun e W' => e = .returned (.bool true) ∧ Below w.heap.size w W' := by
  have X := (Box.new w #[dv, .int .u64 (k : Int), .int .u64 (v : Int), .int .u64 (s : Int), .int .u64 (r : Int), .int .u64 (e : Int), .string p] 32).alloc (.cells #[.int .u64 (g.v : Int), .int .u64 (g.e : Int), .int .u64 (g.n : Int), .int .u64 (g.c : Int)] 24)
  have B := Box.new (w.alloc (.cells #[dv, .int .u64 (k : Int), .int .u64 (v : Int), .int .u64 (s : Int), .int .u64 (r : Int), .int .u64 (e : Int), .string p] 32)) #[.int .u64 (g.v : Int), .int .u64 (g.e : Int), .int .u64 (g.n : Int), .int .u64 (g.c : Int)] 24
  have c0 := below_lit w (.cells #[dv, .int .u64 (k : Int), .int .u64 (v : Int), .int .u64 (s : Int), .int .u64 (r : Int), .int .u64 (e : Int), .string p] 32)
  have c := c0.trans ((below_lit (w.alloc (.cells #[dv, .int .u64 (k : Int), .int .u64 (v : Int), .int .u64 (s : Int), .int .u64 (r : Int), .int .u64 (e : Int), .string p] 32)) (.cells #[.int .u64 (g.v : Int), .int .u64 (g.e : Int), .int .u64 (g.n : Int), .int .u64 (g.c : Int)] 24)).mono c0.size)
  rw [World.size_alloc] at B
  have HK := locked_any l hl hx k v s r e hk hv hs hr he p hp dv _ (rv.below c)
  have HU := fun w' M (h : Orc w' M (((Or.new l).draw q0).lockO k v s r e p)) => unlock_any h k v s hk hv hs g hg
  have hy := binds_all l k v s r e p hv hs hr he g hg
  have HB := fun w' M (h : Orc w' M (((Or.new l).draw q0).lockO k v s r e p)) => o_bad h
  generalize ((Or.new l).draw q0).lockL k v s r e p = m at *
  generalize ((Or.new l).draw q0).lockO k v s r e p = O2 at *
  have HQ := fun w => leaf_eql g.v g.e g.n g.c m.v m.e m.n m.c w
  have hq : (((g.v : Int) == (m.v : Int)) && ((g.e : Int) == (m.e : Int)) && ((g.n : Int) == (m.n : Int)) && ((g.c : Int) == (m.c : Int))) = (O2.openL k v s g).isSome := by
    rw [hy, Bool.eq_iff_iff]
    simp [and_assoc, Int.natCast_inj]
  rw [hq] at HQ
  generalize (O2.openL k v s g).isSome = y at *
  generalize (O2.openL k v s g).getD .empty = tx at *
  generalize O2.openO k v s g = O3 at *
  have HF := fixed_any
  clear hl hx hk hv hs hr he hp hg rv c0 hy hq
  go_enter Try.func6, Try.ntmps6
  have Xc0 := X.cell (j := 0) rfl
  have Xc1 := X.cell (j := 1) rfl
  have Xc2 := X.cell (j := 2) rfl
  have Xc3 := X.cell (j := 3) rfl
  have Xc4 := X.cell (j := 4) rfl
  have Xc5 := X.cell (j := 5) rfl
  have Xc6 := X.cell (j := 6) rfl
  have Bc0 := B.cell (j := 0) rfl
  have Bc1 := B.cell (j := 1) rfl
  have Bc2 := B.cell (j := 2) rfl
  have Bc3 := B.cell (j := 3) rfl
  go_wp2_with fail
  refine HK.mono ?_
  rintro x w1 ⟨M, rfl, h, hin, b⟩
  clear Xc0 Xc1 Xc2 Xc3 Xc4 Xc5 Xc6 Bc0 Bc1 Bc2 Bc3
  have Xo : ¬ M.own w.heap.size := fun ho => by have := (hin.own _ ho).1; simp at this; omega
  have Bo : ¬ M.own (w.heap.size + 1) := fun ho => by have := (hin.own _ ho).1; simp at this; omega
  have hw : ∀ i, M.own i → w.heap.size ≤ i := fun i hi => by have := (hin.own i hi).1; simp at this; omega
  have Mo : ¬ M.own w1.heap.size := fun ho => Nat.lt_irrefl _ (h.lt ho)
  replace X := X.below b
  replace B := B.below b
  replace c := c.trans (b.mono c.size)
  clear b
  have MM := Box.new w1 #[.int .u64 (m.v : Int), .int .u64 (m.e : Int), .int .u64 (m.n : Int), .int .u64 (m.c : Int)] 24
  have b := below_lit w1 (.cells #[.int .u64 (m.v : Int), .int .u64 (m.e : Int), .int .u64 (m.n : Int), .int .u64 (m.c : Int)] 24)
  replace X := X.below b
  replace B := B.below b
  replace h := Orc.below h b
  replace c := c.trans (b.mono c.size)
  clear b
  have MMo := Mo
  clear hin HK Mo
  have Xc0 := X.cell (j := 0) rfl
  have Xc1 := X.cell (j := 1) rfl
  have Xc2 := X.cell (j := 2) rfl
  have Xc3 := X.cell (j := 3) rfl
  have Xc4 := X.cell (j := 4) rfl
  have Xc5 := X.cell (j := 5) rfl
  have Xc6 := X.cell (j := 6) rfl
  have Bc0 := B.cell (j := 0) rfl
  have Bc1 := B.cell (j := 1) rfl
  have Bc2 := B.cell (j := 2) rfl
  have Bc3 := B.cell (j := 3) rfl
  have MMc0 := MM.cell (j := 0) rfl
  have MMc1 := MM.cell (j := 1) rfl
  have MMc2 := MM.cell (j := 2) rfl
  have MMc3 := MM.cell (j := 3) rfl
  go_wp2_with fail
  refine (HF _).mono ?_
  rintro x w2 ⟨rfl, b⟩
  clear Xc0 Xc1 Xc2 Xc3 Xc4 Xc5 Xc6 Bc0 Bc1 Bc2 Bc3 MMc0 MMc1 MMc2 MMc3
  replace X := X.below b
  replace B := B.below b
  replace MM := MM.below b
  replace h := Orc.below h b
  replace c := c.trans (b.mono c.size)
  clear b
  by_cases hz : O2.bads = 0
  · rw [show decide (0 < O2.bads) = false by rw [hz]; rfl] at HB
    have Xc0 := X.cell (j := 0) rfl
    have Xc1 := X.cell (j := 1) rfl
    have Xc2 := X.cell (j := 2) rfl
    have Xc3 := X.cell (j := 3) rfl
    have Xc4 := X.cell (j := 4) rfl
    have Xc5 := X.cell (j := 5) rfl
    have Xc6 := X.cell (j := 6) rfl
    have Bc0 := B.cell (j := 0) rfl
    have Bc1 := B.cell (j := 1) rfl
    have Bc2 := B.cell (j := 2) rfl
    have Bc3 := B.cell (j := 3) rfl
    have MMc0 := MM.cell (j := 0) rfl
    have MMc1 := MM.cell (j := 1) rfl
    have MMc2 := MM.cell (j := 2) rfl
    have MMc3 := MM.cell (j := 3) rfl
    go_wp2_with fail
    refine (HB _ _ h).mono ?_
    rintro x w3 ⟨rfl, b⟩
    clear Xc0 Xc1 Xc2 Xc3 Xc4 Xc5 Xc6 Bc0 Bc1 Bc2 Bc3 MMc0 MMc1 MMc2 MMc3
    replace X := X.below b
    replace B := B.below b
    replace MM := MM.below b
    replace h := Orc.below h b
    replace c := c.trans (b.mono c.size)
    clear b
    have Xc0 := X.cell (j := 0) rfl
    have Xc1 := X.cell (j := 1) rfl
    have Xc2 := X.cell (j := 2) rfl
    have Xc3 := X.cell (j := 3) rfl
    have Xc4 := X.cell (j := 4) rfl
    have Xc5 := X.cell (j := 5) rfl
    have Xc6 := X.cell (j := 6) rfl
    have Bc0 := B.cell (j := 0) rfl
    have Bc1 := B.cell (j := 1) rfl
    have Bc2 := B.cell (j := 2) rfl
    have Bc3 := B.cell (j := 3) rfl
    have MMc0 := MM.cell (j := 0) rfl
    have MMc1 := MM.cell (j := 1) rfl
    have MMc2 := MM.cell (j := 2) rfl
    have MMc3 := MM.cell (j := 3) rfl
    go_wp2_with fail
    refine (HU _ _ h).mono ?_
    clear h
    rintro x w4 ⟨rfl, h, b⟩
    clear Xc0 Xc1 Xc2 Xc3 Xc4 Xc5 Xc6 Bc0 Bc1 Bc2 Bc3 MMc0 MMc1 MMc2 MMc3
    replace X := X.but b Xo
    replace B := B.but b Bo
    replace MM := MM.but b MMo
    replace c := c.trans (b.below c.size hw)
    clear b
    have Xc0 := X.cell (j := 0) rfl
    have Xc1 := X.cell (j := 1) rfl
    have Xc2 := X.cell (j := 2) rfl
    have Xc3 := X.cell (j := 3) rfl
    have Xc4 := X.cell (j := 4) rfl
    have Xc5 := X.cell (j := 5) rfl
    have Xc6 := X.cell (j := 6) rfl
    have Bc0 := B.cell (j := 0) rfl
    have Bc1 := B.cell (j := 1) rfl
    have Bc2 := B.cell (j := 2) rfl
    have Bc3 := B.cell (j := 3) rfl
    have MMc0 := MM.cell (j := 0) rfl
    have MMc1 := MM.cell (j := 1) rfl
    have MMc2 := MM.cell (j := 2) rfl
    have MMc3 := MM.cell (j := 3) rfl
    go_wp2
    go_ret
    exact ⟨rfl, c⟩
  · rw [show decide (0 < O2.bads) = true by rw [decide_eq_true_eq]; omega] at HB
    have Xc0 := X.cell (j := 0) rfl
    have Xc1 := X.cell (j := 1) rfl
    have Xc2 := X.cell (j := 2) rfl
    have Xc3 := X.cell (j := 3) rfl
    have Xc4 := X.cell (j := 4) rfl
    have Xc5 := X.cell (j := 5) rfl
    have Xc6 := X.cell (j := 6) rfl
    have Bc0 := B.cell (j := 0) rfl
    have Bc1 := B.cell (j := 1) rfl
    have Bc2 := B.cell (j := 2) rfl
    have Bc3 := B.cell (j := 3) rfl
    have MMc0 := MM.cell (j := 0) rfl
    have MMc1 := MM.cell (j := 1) rfl
    have MMc2 := MM.cell (j := 2) rfl
    have MMc3 := MM.cell (j := 3) rfl
    go_wp2_with fail
    refine (HB _ _ h).mono ?_
    rintro x w5 ⟨rfl, b⟩
    clear Xc0 Xc1 Xc2 Xc3 Xc4 Xc5 Xc6 Bc0 Bc1 Bc2 Bc3 MMc0 MMc1 MMc2 MMc3
    replace X := X.below b
    replace B := B.below b
    replace MM := MM.below b
    replace h := Orc.below h b
    replace c := c.trans (b.mono c.size)
    clear b
    have Xc0 := X.cell (j := 0) rfl
    have Xc1 := X.cell (j := 1) rfl
    have Xc2 := X.cell (j := 2) rfl
    have Xc3 := X.cell (j := 3) rfl
    have Xc4 := X.cell (j := 4) rfl
    have Xc5 := X.cell (j := 5) rfl
    have Xc6 := X.cell (j := 6) rfl
    have Bc0 := B.cell (j := 0) rfl
    have Bc1 := B.cell (j := 1) rfl
    have Bc2 := B.cell (j := 2) rfl
    have Bc3 := B.cell (j := 3) rfl
    have MMc0 := MM.cell (j := 0) rfl
    have MMc1 := MM.cell (j := 1) rfl
    have MMc2 := MM.cell (j := 2) rfl
    have MMc3 := MM.cell (j := 3) rfl
    go_wp2_with fail
    refine (HF _).mono ?_
    rintro x w6 ⟨rfl, b⟩
    clear Xc0 Xc1 Xc2 Xc3 Xc4 Xc5 Xc6 Bc0 Bc1 Bc2 Bc3 MMc0 MMc1 MMc2 MMc3
    replace X := X.below b
    replace B := B.below b
    replace MM := MM.below b
    replace h := Orc.below h b
    replace c := c.trans (b.mono c.size)
    clear b
    have Xc0 := X.cell (j := 0) rfl
    have Xc1 := X.cell (j := 1) rfl
    have Xc2 := X.cell (j := 2) rfl
    have Xc3 := X.cell (j := 3) rfl
    have Xc4 := X.cell (j := 4) rfl
    have Xc5 := X.cell (j := 5) rfl
    have Xc6 := X.cell (j := 6) rfl
    have Bc0 := B.cell (j := 0) rfl
    have Bc1 := B.cell (j := 1) rfl
    have Bc2 := B.cell (j := 2) rfl
    have Bc3 := B.cell (j := 3) rfl
    have MMc0 := MM.cell (j := 0) rfl
    have MMc1 := MM.cell (j := 1) rfl
    have MMc2 := MM.cell (j := 2) rfl
    have MMc3 := MM.cell (j := 3) rfl
    go_wp2
    go_ret
    exact ⟨rfl, c⟩
end Go.Proofs.Ytgdpamfphjehaaa.Binds5
