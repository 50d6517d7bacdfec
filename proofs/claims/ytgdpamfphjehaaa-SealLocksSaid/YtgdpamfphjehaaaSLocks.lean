/-
  SealLocks: what is locked and unlocked, and what is drawn for it, is as the document says: the walk.
-/
import Derived.Test.YtgdpamfphjehaaaSealD
import Derived.Test.YtgdpamfphjehaaaSealS
namespace Go.Proofs.Ytgdpamfphjehaaa.Locks5
open Go.RowKit Go.ChangeShapes Go.WideShapes Go.ChangeAt
open Ideal Ida Sea Ref3

theorem few_new (l : List Nat) : Few (Or.new l) := ⟨by show (0 : Nat) < _; decide, by show (0 : Nat) < _; decide, by show (0 : Nat) < _; decide⟩
theorem few_one (l : List Nat) : ((Or.new l).draw q0).rows.length ≤ 1 ∧ ((Or.new l).draw q0).met.length = 0 ∧ ((Or.new l).draw q0).bads ≤ 1 := by
  refine ⟨by rw [Or.len_draw]; show 0 + 1 ≤ 1; decide, rfl, ?_⟩
  unfold Or.draw
  simp only
  show 0 + _ ≤ 1
  split <;> omega
theorem few_two (l : List Nat) (k v s r e : Nat) (p : ByteArray) : Few (((Or.new l).draw q0).lockO k v s r e p) := by
  have h := few_one l
  have h2 := few_lock ((Or.new l).draw q0) k v s r e p
  exact ⟨by omega, by rw [h2.2.1]; omega, by omega⟩
/-- A state of memory in which both oracles, the case and both leaves lie. -/
theorem keepS (w : World) {bA bB q : Nat} {M : Lay} {K : Nat → Prop} {O3 : Or} {dv : Value} {k v s r e : Nat} {p : ByteArray} {m : Leaf} {w1 w2 : World}
    (h : w1.cell? ⟨w.heap.size, 1, none⟩ = some (.int .u64 (k : Int)) ∧ w1.cell? ⟨w.heap.size, 2, none⟩ = some (.int .u64 (v : Int)) ∧ w1.cell? ⟨w.heap.size, 3, none⟩ = some (.int .u64 (s : Int)) ∧ w1.cell? ⟨w.heap.size, 5, none⟩ = some (.int .u64 (e : Int)) ∧ w1.cell? ⟨bA, 0, none⟩ = some (.int .u64 (m.v : Int)) ∧ w1.cell? ⟨bA, 1, none⟩ = some (.int .u64 (m.e : Int)) ∧ w1.cell? ⟨bA, 2, none⟩ = some (.int .u64 (m.n : Int)) ∧ w1.cell? ⟨bA, 3, none⟩ = some (.int .u64 (m.c : Int)) ∧ w1.cell? ⟨bB, 0, none⟩ = some (.int .u64 (m.v : Int)) ∧ w1.cell? ⟨bB, 1, none⟩ = some (.int .u64 (m.e : Int)) ∧ w1.cell? ⟨bB, 2, none⟩ = some (.int .u64 (m.n : Int)) ∧ w1.cell? ⟨bB, 3, none⟩ = some (.int .u64 (m.c : Int)) ∧ Box w.heap.size w1 #[dv, .int .u64 (k : Int), .int .u64 (v : Int), .int .u64 (s : Int), .int .u64 (r : Int), .int .u64 (e : Int), .string p] 32 ∧ Box bA w1 #[.int .u64 (m.v : Int), .int .u64 (m.e : Int), .int .u64 (m.n : Int), .int .u64 (m.c : Int)] 24 ∧ Box bB w1 #[.int .u64 (m.v : Int), .int .u64 (m.e : Int), .int .u64 (m.n : Int), .int .u64 (m.c : Int)] 24 ∧ Orc w1 M O3 ∧ Ref K w1 q O3 ∧ Below w.heap.size w w1) (b : Below w1.heap.size w1 w2) : w2.cell? ⟨w.heap.size, 1, none⟩ = some (.int .u64 (k : Int)) ∧ w2.cell? ⟨w.heap.size, 2, none⟩ = some (.int .u64 (v : Int)) ∧ w2.cell? ⟨w.heap.size, 3, none⟩ = some (.int .u64 (s : Int)) ∧ w2.cell? ⟨w.heap.size, 5, none⟩ = some (.int .u64 (e : Int)) ∧ w2.cell? ⟨bA, 0, none⟩ = some (.int .u64 (m.v : Int)) ∧ w2.cell? ⟨bA, 1, none⟩ = some (.int .u64 (m.e : Int)) ∧ w2.cell? ⟨bA, 2, none⟩ = some (.int .u64 (m.n : Int)) ∧ w2.cell? ⟨bA, 3, none⟩ = some (.int .u64 (m.c : Int)) ∧ w2.cell? ⟨bB, 0, none⟩ = some (.int .u64 (m.v : Int)) ∧ w2.cell? ⟨bB, 1, none⟩ = some (.int .u64 (m.e : Int)) ∧ w2.cell? ⟨bB, 2, none⟩ = some (.int .u64 (m.n : Int)) ∧ w2.cell? ⟨bB, 3, none⟩ = some (.int .u64 (m.c : Int)) ∧ Box w.heap.size w2 #[dv, .int .u64 (k : Int), .int .u64 (v : Int), .int .u64 (s : Int), .int .u64 (r : Int), .int .u64 (e : Int), .string p] 32 ∧ Box bA w2 #[.int .u64 (m.v : Int), .int .u64 (m.e : Int), .int .u64 (m.n : Int), .int .u64 (m.c : Int)] 24 ∧ Box bB w2 #[.int .u64 (m.v : Int), .int .u64 (m.e : Int), .int .u64 (m.n : Int), .int .u64 (m.c : Int)] 24 ∧ Orc w2 M O3 ∧ Ref K w2 q O3 ∧ Below w.heap.size w w2 := by
  obtain ⟨-, -, -, -, -, -, -, -, -, -, -, -, X, A, B, h, R, c⟩ := h
  replace X := X.below b
  replace A := A.below b
  replace B := B.below b
  exact ⟨X.cell rfl, X.cell rfl, X.cell rfl, X.cell rfl, A.cell rfl, A.cell rfl, A.cell rfl, A.cell rfl, B.cell rfl, B.cell rfl, B.cell rfl, B.cell rfl, X, A, B, h.below b, R.below b, c.trans (b.mono c.size)⟩

theorem orcS (w : World) {bA bB q : Nat} {M : Lay} {K : Nat → Prop} {O3 : Or} {dv : Value} {k v s r e : Nat} {p : ByteArray} {m : Leaf} {w1 : World}
    (h : w1.cell? ⟨w.heap.size, 1, none⟩ = some (.int .u64 (k : Int)) ∧ w1.cell? ⟨w.heap.size, 2, none⟩ = some (.int .u64 (v : Int)) ∧ w1.cell? ⟨w.heap.size, 3, none⟩ = some (.int .u64 (s : Int)) ∧ w1.cell? ⟨w.heap.size, 5, none⟩ = some (.int .u64 (e : Int)) ∧ w1.cell? ⟨bA, 0, none⟩ = some (.int .u64 (m.v : Int)) ∧ w1.cell? ⟨bA, 1, none⟩ = some (.int .u64 (m.e : Int)) ∧ w1.cell? ⟨bA, 2, none⟩ = some (.int .u64 (m.n : Int)) ∧ w1.cell? ⟨bA, 3, none⟩ = some (.int .u64 (m.c : Int)) ∧ w1.cell? ⟨bB, 0, none⟩ = some (.int .u64 (m.v : Int)) ∧ w1.cell? ⟨bB, 1, none⟩ = some (.int .u64 (m.e : Int)) ∧ w1.cell? ⟨bB, 2, none⟩ = some (.int .u64 (m.n : Int)) ∧ w1.cell? ⟨bB, 3, none⟩ = some (.int .u64 (m.c : Int)) ∧ Box w.heap.size w1 #[dv, .int .u64 (k : Int), .int .u64 (v : Int), .int .u64 (s : Int), .int .u64 (r : Int), .int .u64 (e : Int), .string p] 32 ∧ Box bA w1 #[.int .u64 (m.v : Int), .int .u64 (m.e : Int), .int .u64 (m.n : Int), .int .u64 (m.c : Int)] 24 ∧ Box bB w1 #[.int .u64 (m.v : Int), .int .u64 (m.e : Int), .int .u64 (m.n : Int), .int .u64 (m.c : Int)] 24 ∧ Orc w1 M O3 ∧ Ref K w1 q O3 ∧ Below w.heap.size w w1) : Orc w1 M O3 ∧ Ref K w1 q O3 ∧ Below w.heap.size w w1 := h.2.2.2.2.2.2.2.2.2.2.2.2.2.2.2

set_option maxRecDepth 100000 in
set_option maxHeartbeats 16000000 in
theorem locks_any (l : List Nat) (hl : l.length * 8 ≤ 140737488355328) (hx : ∀ x ∈ l, x < 18446744073709551616) (k v s r e : Nat) (hk : k < 18446744073709551616) (hv : v < 18446744073709551616) (hs : s < 18446744073709551616) (hr : r < 18446744073709551616) (he : e < 18446744073709551616) (p : ByteArray) (hp : p.size ≤ maxLen) (g : Leaf) (hg : fine g) (dv : Value) (w : World) (rv : Kit.Sl w dv (nums l)) :
    Calls Try.prog 4 #[.agg #[dv, .int .u64 (k : Int), .int .u64 (v : Int), .int .u64 (s : Int), .int .u64 (r : Int), .int .u64 (e : Int), .string p], .agg #[.int .u64 (g.v : Int), .int .u64 (g.e : Int), .int .u64 (g.n : Int), .int .u64 (g.c : Int)]] w fun e W' => e = .returned (.bool true) ∧ Below w.heap.size w W' := by
  have X := (Box.new w #[dv, .int .u64 (k : Int), .int .u64 (v : Int), .int .u64 (s : Int), .int .u64 (r : Int), .int .u64 (e : Int), .string p] 32).alloc (.cells #[.int .u64 (g.v : Int), .int .u64 (g.e : Int), .int .u64 (g.n : Int), .int .u64 (g.c : Int)] 24)
  have G := Box.new (w.alloc (.cells #[dv, .int .u64 (k : Int), .int .u64 (v : Int), .int .u64 (s : Int), .int .u64 (r : Int), .int .u64 (e : Int), .string p] 32)) #[.int .u64 (g.v : Int), .int .u64 (g.e : Int), .int .u64 (g.n : Int), .int .u64 (g.c : Int)] 24
  have c0 := below_lit w (.cells #[dv, .int .u64 (k : Int), .int .u64 (v : Int), .int .u64 (s : Int), .int .u64 (r : Int), .int .u64 (e : Int), .string p] 32)
  have c := c0.trans ((below_lit (w.alloc (.cells #[dv, .int .u64 (k : Int), .int .u64 (v : Int), .int .u64 (s : Int), .int .u64 (r : Int), .int .u64 (e : Int), .string p] 32)) (.cells #[.int .u64 (g.v : Int), .int .u64 (g.e : Int), .int .u64 (g.n : Int), .int .u64 (g.c : Int)] 24)).mono c0.size)
  rw [World.size_alloc] at G
  have HK := locked_any l hl hx k v s r e hk hv hs hr he p hp dv _ (rv.below c)
  have HN := fun w' (hw : Below w.heap.size w w') => Ref3.new_any l hl hx dv w' (rv.below hw)
  have HFr := fun K q w' (h : Ref K w' q (Or.new l)) hB => Ref3.fresh_any h hB (few_new l)
  have hf1 := few_one l
  have HRL := fun K q w' (h : Ref K w' q ((Or.new l).draw q0)) hB => rlock_any h hB (by omega) (by omega) (by omega) k v s r e hv hs hr he p
  have HU := fun w' M (h : Orc w' M (((Or.new l).draw q0).lockO k v s r e p)) => unlock_any h k v s hk hv hs g hg
  have HRU := fun K q w' (h : Ref K w' q (((Or.new l).draw q0).lockO k v s r e p)) hB => runlock_any h hB (few_two l k v s r e p) k v s hv hs g hg
  have HAd := fun w => ad_any k v s e hk hv hs he w
  have HRAd := fun w => rad_any k v s e hk hv hs he w
  have HF := fixed_any
  generalize four k v s e = ta at *
  generalize ((Or.new l).draw q0).lockL k v s r e p = m at *
  generalize ((Or.new l).draw q0).lockO k v s r e p = O2 at *
  generalize ((Or.new l).draw q0) = O1 at *
  generalize Or.new l = Oz at *
  generalize (O2.openL k v s g).isSome = y at *
  generalize (O2.openL k v s g).getD .empty = tx at *
  generalize O2.openO k v s g = O3 at *
  have HQ : ∀ w, (binOp .eql 24 (.agg #[.int .u64 (m.v : Int), .int .u64 (m.e : Int), .int .u64 (m.n : Int), .int .u64 (m.c : Int)]) (.agg #[.int .u64 (m.v : Int), .int .u64 (m.e : Int), .int .u64 (m.n : Int), .int .u64 (m.c : Int)])).run Try.prog w = .ok (.bool true) w := by
    intro w
    have := leaf_eql m.v m.e m.n m.c m.v m.e m.n m.c w
    simpa using this
  clear hl hx hk hv hs hr he hp hg rv c0 hf1
  go_enter Try.func4, Try.ntmps4
  have Xc0 := X.cell (j := 0) rfl
  have Xc1 := X.cell (j := 1) rfl
  have Xc2 := X.cell (j := 2) rfl
  have Xc3 := X.cell (j := 3) rfl
  have Xc4 := X.cell (j := 4) rfl
  have Xc5 := X.cell (j := 5) rfl
  have Xc6 := X.cell (j := 6) rfl
  have Gc0 := G.cell (j := 0) rfl
  have Gc1 := G.cell (j := 1) rfl
  have Gc2 := G.cell (j := 2) rfl
  have Gc3 := G.cell (j := 3) rfl
  go_wp2_with fail
  refine HK.mono ?_
  rintro x w1 ⟨M, rfl, h, hin, b⟩
  clear Xc0 Xc1 Xc2 Xc3 Xc4 Xc5 Xc6 Gc0 Gc1 Gc2 Gc3
  have Xo : ¬ M.own w.heap.size := fun ho => by have := (hin.own _ ho).1; simp at this; omega
  have Go : ¬ M.own (w.heap.size + 1) := fun ho => by have := (hin.own _ ho).1; simp at this; omega
  have hw : ∀ i, M.own i → w.heap.size ≤ i := fun i hi => by have := (hin.own i hi).1; simp at this; omega
  have hMw : ∀ i, M.own i → i < w1.heap.size + 1 := fun i hi => Nat.lt_succ_of_lt (hin.own i hi).2
  have hin : M.within w.heap.size w1.heap.size := hin.wider (by simp; omega) (Nat.le_refl _)
  have Ao : ¬ M.own w1.heap.size := fun ho => Nat.lt_irrefl _ (h.lt ho)
  replace X := X.below b
  replace G := G.below b
  replace c := c.trans (b.mono c.size)
  clear b
  have XK : w.heap.size < w1.heap.size + 1 := Nat.lt_succ_of_lt X.lt
  have GK : w.heap.size + 1 < w1.heap.size + 1 := Nat.lt_succ_of_lt G.lt
  have AK : w1.heap.size < w1.heap.size + 1 := Nat.lt_succ_self _
  have A := Box.new w1 #[.int .u64 (m.v : Int), .int .u64 (m.e : Int), .int .u64 (m.n : Int), .int .u64 (m.c : Int)] 24
  have b := below_lit w1 (.cells #[.int .u64 (m.v : Int), .int .u64 (m.e : Int), .int .u64 (m.n : Int), .int .u64 (m.c : Int)] 24)
  replace X := X.below b
  replace G := G.below b
  replace h := Orc.below h b
  replace c := c.trans (b.mono c.size)
  clear b
  have HNN := HN _ c
  rw [World.size_alloc] at HNN
  clear HN HK
  have Xc0 := X.cell (j := 0) rfl
  have Xc1 := X.cell (j := 1) rfl
  have Xc2 := X.cell (j := 2) rfl
  have Xc3 := X.cell (j := 3) rfl
  have Xc4 := X.cell (j := 4) rfl
  have Xc5 := X.cell (j := 5) rfl
  have Xc6 := X.cell (j := 6) rfl
  go_wp2_with fail
  refine HNN.mono ?_
  rintro x w2 ⟨q, rfl, R, b⟩
  clear Xc0 Xc1 Xc2 Xc3 Xc4 Xc5 Xc6
  rw [← World.size_alloc w1 (.cells #[.int .u64 (m.v : Int), .int .u64 (m.e : Int), .int .u64 (m.n : Int), .int .u64 (m.c : Int)] 24)] at b
  replace X := X.below b
  replace G := G.below b
  replace A := A.below b
  replace h := Orc.below h b
  replace c := c.trans (b.mono c.size)
  clear b
  have hz : w1.heap.size + 1 ≤ w2.heap.size := A.lt
  clear HNN
  have HH := HFr _ _ _ R (fun i hi => Nat.lt_of_lt_of_le hi hz)
  clear R HFr
  go_wp2_with fail
  refine HH.mono ?_
  rintro x w3 ⟨rfl, R, f⟩
  have b := fr_below f hz
  replace X := X.low b XK
  replace G := G.low b GK
  replace A := A.low b AK
  replace h := h.under hin (b.mono (Nat.le_succ _))
  replace c := c.trans (b.mono (Nat.le_of_lt XK))
  replace hz := Nat.le_trans hz f.size
  clear b f HH
  have HH := HRL _ _ _ R (fun i hi => Nat.lt_of_lt_of_le hi hz)
  have Xc0 := X.cell (j := 0) rfl
  have Xc1 := X.cell (j := 1) rfl
  have Xc2 := X.cell (j := 2) rfl
  have Xc3 := X.cell (j := 3) rfl
  have Xc4 := X.cell (j := 4) rfl
  have Xc5 := X.cell (j := 5) rfl
  have Xc6 := X.cell (j := 6) rfl
  clear R HRL
  go_wp2_with fail
  refine HH.mono ?_
  rintro x w4 ⟨rfl, R, f⟩
  clear Xc0 Xc1 Xc2 Xc3 Xc4 Xc5 Xc6
  have b := fr_below f hz
  replace X := X.low b XK
  replace G := G.low b GK
  replace A := A.low b AK
  replace h := h.under hin (b.mono (Nat.le_succ _))
  replace c := c.trans (b.mono (Nat.le_of_lt XK))
  replace hz := Nat.le_trans hz f.size
  clear b f HH
  have Bo : ¬ M.own w4.heap.size := fun ho => Nat.lt_irrefl _ (h.lt ho)
  have hMB : ∀ i, M.own i → i < w1.heap.size + 1 ∨ i = w4.heap.size := fun i hi => .inl (hMw i hi)
  replace R := R.widen (K' := fun i => i < w1.heap.size + 1 ∨ i = w4.heap.size) (fun i hi hlt => hi.resolve_right (fun e => by omega))
  have hK : On (fun i => i < w1.heap.size + 1 ∨ i = w4.heap.size) (w4.alloc (.cells #[.int .u64 (m.v : Int), .int .u64 (m.e : Int), .int .u64 (m.n : Int), .int .u64 (m.c : Int)] 24)) := by
    intro i hi
    rw [World.size_alloc]
    rcases hi with hi | hi <;> omega
  have B := Box.new w4 #[.int .u64 (m.v : Int), .int .u64 (m.e : Int), .int .u64 (m.n : Int), .int .u64 (m.c : Int)] 24
  have b := below_lit w4 (.cells #[.int .u64 (m.v : Int), .int .u64 (m.e : Int), .int .u64 (m.n : Int), .int .u64 (m.c : Int)] 24)
  replace hz := Nat.le_trans hz b.size
  replace R := R.below b
  replace X := X.below b
  replace G := G.below b
  replace A := A.below b
  replace h := Orc.below h b
  replace c := c.trans (b.mono c.size)
  clear b
  clear hMw
  have HH := HU _ _ h
  have Xc0 := X.cell (j := 0) rfl
  have Xc1 := X.cell (j := 1) rfl
  have Xc2 := X.cell (j := 2) rfl
  have Xc3 := X.cell (j := 3) rfl
  have Xc4 := X.cell (j := 4) rfl
  have Xc5 := X.cell (j := 5) rfl
  have Xc6 := X.cell (j := 6) rfl
  have Gc0 := G.cell (j := 0) rfl
  have Gc1 := G.cell (j := 1) rfl
  have Gc2 := G.cell (j := 2) rfl
  have Gc3 := G.cell (j := 3) rfl
  clear h HU
  go_wp2_with fail
  refine HH.mono ?_
  rintro x w5 ⟨rfl, h, b⟩
  clear Xc0 Xc1 Xc2 Xc3 Xc4 Xc5 Xc6 Gc0 Gc1 Gc2 Gc3
  replace R := R.kept (fun i hi hl => b.block i hl (fun ho => hi (hMB i ho)))
  replace hK := on_of hK b.size
  replace hz := Nat.le_trans hz b.size
  replace X := X.but b Xo
  replace G := G.but b Go
  replace A := A.but b Ao
  replace B := B.but b Bo
  replace c := c.trans (b.below c.size hw)
  clear b
  clear HH hMB
  have HH := HRU _ _ _ R hK
  have Xc0 := X.cell (j := 0) rfl
  have Xc1 := X.cell (j := 1) rfl
  have Xc2 := X.cell (j := 2) rfl
  have Xc3 := X.cell (j := 3) rfl
  have Xc4 := X.cell (j := 4) rfl
  have Xc5 := X.cell (j := 5) rfl
  have Xc6 := X.cell (j := 6) rfl
  have Gc0 := G.cell (j := 0) rfl
  have Gc1 := G.cell (j := 1) rfl
  have Gc2 := G.cell (j := 2) rfl
  have Gc3 := G.cell (j := 3) rfl
  clear R HRU
  go_wp2_with fail
  refine HH.mono ?_
  rintro x w6 ⟨rfl, R, f⟩
  clear Xc0 Xc1 Xc2 Xc3 Xc4 Xc5 Xc6 Gc0 Gc1 Gc2 Gc3
  replace B := B.but_or f
  have b := fr_below (f.wider (S' := fun i => ¬ (i < w1.heap.size + 1)) (fun i _ hk hK => hk (.inl hK))) hz
  replace X := X.low b XK
  replace G := G.low b GK
  replace A := A.low b AK
  replace h := h.under hin (b.mono (Nat.le_succ _))
  replace c := c.trans (b.mono (Nat.le_of_lt XK))
  clear b f HH hz hK XK GK AK G Go
  have HBo := fun w' (h : Orc w' M O3) => o_bad h
  have HDo := fun w' (h : Orc w' M O3) => o_drawn h
  have HBr := fun K w' (h : Ref K w' q O3) => Ref3.bad_any h
  have HDr := fun K w' (h : Ref K w' q O3) => Ref3.drawn_any h
  generalize decide (0 < O3.bads) = bd at *
  generalize O3.rows.length = dn at *
  generalize w4.heap.size = bB at *
  generalize w1.heap.size = bA at *
  generalize (fun i => i < bA + 1 ∨ i = bB) = K at *
  replace h := h.drew
  replace R := R.below (Below.refl _ w6).drew
  replace X := X.drew
  replace A := A.drew
  replace B := B.drew
  replace c := c.drew
  go_wp2
  go_region_held3 (fun w' => w'.cell? ⟨w.heap.size, 1, none⟩ = some (.int .u64 (k : Int)) ∧ w'.cell? ⟨w.heap.size, 2, none⟩ = some (.int .u64 (v : Int)) ∧ w'.cell? ⟨w.heap.size, 3, none⟩ = some (.int .u64 (s : Int)) ∧ w'.cell? ⟨w.heap.size, 5, none⟩ = some (.int .u64 (e : Int)) ∧ w'.cell? ⟨bA, 0, none⟩ = some (.int .u64 (m.v : Int)) ∧ w'.cell? ⟨bA, 1, none⟩ = some (.int .u64 (m.e : Int)) ∧ w'.cell? ⟨bA, 2, none⟩ = some (.int .u64 (m.n : Int)) ∧ w'.cell? ⟨bA, 3, none⟩ = some (.int .u64 (m.c : Int)) ∧ w'.cell? ⟨bB, 0, none⟩ = some (.int .u64 (m.v : Int)) ∧ w'.cell? ⟨bB, 1, none⟩ = some (.int .u64 (m.e : Int)) ∧ w'.cell? ⟨bB, 2, none⟩ = some (.int .u64 (m.n : Int)) ∧ w'.cell? ⟨bB, 3, none⟩ = some (.int .u64 (m.c : Int)) ∧ Box w.heap.size w' #[dv, .int .u64 (k : Int), .int .u64 (v : Int), .int .u64 (s : Int), .int .u64 (r : Int), .int .u64 (e : Int), .string p] 32 ∧ Box bA w' #[.int .u64 (m.v : Int), .int .u64 (m.e : Int), .int .u64 (m.n : Int), .int .u64 (m.c : Int)] 24 ∧ Box bB w' #[.int .u64 (m.v : Int), .int .u64 (m.e : Int), .int .u64 (m.n : Int), .int .u64 (m.c : Int)] 24 ∧ Orc w' M O3 ∧ Ref K w' q O3 ∧ Below w.heap.size w w')
    (first | exact ⟨X.cell rfl, X.cell rfl, X.cell rfl, X.cell rfl, A.cell rfl, A.cell rfl, A.cell rfl, A.cell rfl, B.cell rfl, B.cell rfl, B.cell rfl, B.cell rfl, X, A, B, h, R, c⟩ | exact keepS w (by assumption) hb)
    (first
      | (go_at_call 25; refine (HRAd _).mono ?_; rintro x wx ⟨rfl, hb⟩)
      | (go_at_call 24; refine (HAd _).mono ?_; rintro x wx ⟨rfl, hb⟩)
      | (go_at_call 23; refine (HBr _ _ (orcS w (by assumption)).2.1).mono ?_; rintro x wx ⟨rfl, hb⟩)
      | (go_at_call 22; refine (HBo _ (orcS w (by assumption)).1).mono ?_; rintro x wx ⟨rfl, hb⟩)
      | (go_at_call 21; refine (HDr _ _ (orcS w (by assumption)).2.1).mono ?_; rintro x wx ⟨rfl, hb⟩)
      | (go_at_call 20; refine (HDo _ (orcS w (by assumption)).1).mono ?_; rintro x wx ⟨rfl, hb⟩)
      | (go_at_call 12; refine (HF _).mono ?_; rintro x wx ⟨rfl, hb⟩))
  all_goals go_wp2
  all_goals go_ret
  all_goals exact ⟨rfl, (orcS w (by assumption)).2.2⟩
end Go.Proofs.Ytgdpamfphjehaaa.Locks5
