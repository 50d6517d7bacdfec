/-
  The document's own oracle: Do.
-/
import Derived.Test.YtkadkakkaodeeaaIRefF
namespace Go.Proofs.Ytkadkakkaodeeaa.Ref3
open Go.RowKit
open Ideal Ida

set_option maxHeartbeats 2000000 in
theorem do_0 {K : Nat → Prop} {q : Nat} {O : Or} {w : World} (h : Ref K w q O) (hB : On K w) (hf : Few O) (key nonce hh : Nat) (a b : ByteArray) :
    Calls Try.prog 12 #[rptr q, .agg (callCells ⟨0, key, nonce, hh, a, b⟩)] w fun e w' => e = .returned (.tuple #[.int .u64 ((O.tell ⟨0, key, nonce, hh, a, b⟩).1 : Int), .string (O.tell ⟨0, key, nonce, hh, a, b⟩).2.1, .bool (O.tell ⟨0, key, nonce, hh, a, b⟩).2.2]) ∧ Ref K w' q (O.step ⟨0, key, nonce, hh, a, b⟩) ∧ Fr K w w' := by
  have cx : Below w.heap.size w (w.alloc (.cells #[.int .i64 0, .int .u64 (key : Int), .int .u64 (nonce : Int), .int .u64 (hh : Int), .string a, .string b] 36)) := (Below.refl w.heap.size w).alloc (Nat.le_refl _) _
  have h0 := h.below cx
  have hB1 := on_of hB cx.size
  have c0 := fr_of (K := K) cx
  have H := fresh_any h0 hB1 hf
  rw [show O.tell ⟨0, key, nonce, hh, a, b⟩ = (O.next, .empty, true) from rfl, show O.step ⟨0, key, nonce, hh, a, b⟩ = O.draw q0 from rfl]
  unfold callCells
  simp only
  generalize O.next = v at *
  clear h h0 cx hf hB1
  go_enter Try.func12, Try.ntmps12
  go_wp2_with fail
  refine H.mono ?_
  rintro e w1 ⟨rfl, h1, b1⟩
  have b2 := c0.trans b1
  go_wp2
  go_ret3
  exact ⟨rfl, h1, b2⟩
set_option maxHeartbeats 2000000 in
theorem do_1 {K : Nat → Prop} {q : Nat} {O : Or} {w : World} (h : Ref K w q O) (hB : On K w) (hf : Few O) (key nonce hh : Nat) (a b : ByteArray) :
    Calls Try.prog 12 #[rptr q, .agg (callCells ⟨1, key, nonce, hh, a, b⟩)] w fun e w' => e = .returned (.tuple #[.int .u64 ((O.tell ⟨1, key, nonce, hh, a, b⟩).1 : Int), .string (O.tell ⟨1, key, nonce, hh, a, b⟩).2.1, .bool (O.tell ⟨1, key, nonce, hh, a, b⟩).2.2]) ∧ Ref K w' q (O.step ⟨1, key, nonce, hh, a, b⟩) ∧ Fr K w w' := by
  have cx : Below w.heap.size w (w.alloc (.cells #[.int .i64 1, .int .u64 (key : Int), .int .u64 (nonce : Int), .int .u64 (hh : Int), .string a, .string b] 36)) := (Below.refl w.heap.size w).alloc (Nat.le_refl _) _
  have h0 := h.below cx
  have hB1 := on_of hB cx.size
  have c0 := fr_of (K := K) cx
  have H := hash_any h0 hB1 hf a
  rw [show O.tell ⟨1, key, nonce, hh, a, b⟩ = (O.val (qh a), .empty, true) from rfl, show O.step ⟨1, key, nonce, hh, a, b⟩ = O.ask (qh a) from rfl]
  unfold callCells
  simp only
  generalize O.val (qh a) = v at *
  clear h h0 cx hf hB1
  go_enter Try.func12, Try.ntmps12
  go_wp2_with fail
  refine H.mono ?_
  rintro e w1 ⟨rfl, h1, b1⟩
  have b2 := c0.trans b1
  go_wp2
  go_ret3
  exact ⟨rfl, h1, b2⟩
set_option maxHeartbeats 2000000 in
theorem do_2 {K : Nat → Prop} {q : Nat} {O : Or} {w : World} (h : Ref K w q O) (hB : On K w) (hf : Few O) (key nonce hh : Nat) (a b : ByteArray) :
    Calls Try.prog 12 #[rptr q, .agg (callCells ⟨2, key, nonce, hh, a, b⟩)] w fun e w' => e = .returned (.tuple #[.int .u64 ((O.tell ⟨2, key, nonce, hh, a, b⟩).1 : Int), .string (O.tell ⟨2, key, nonce, hh, a, b⟩).2.1, .bool (O.tell ⟨2, key, nonce, hh, a, b⟩).2.2]) ∧ Ref K w' q (O.step ⟨2, key, nonce, hh, a, b⟩) ∧ Fr K w w' := by
  have cx : Below w.heap.size w (w.alloc (.cells #[.int .i64 2, .int .u64 (key : Int), .int .u64 (nonce : Int), .int .u64 (hh : Int), .string a, .string b] 36)) := (Below.refl w.heap.size w).alloc (Nat.le_refl _) _
  have h0 := h.below cx
  have hB1 := on_of hB cx.size
  have c0 := fr_of (K := K) cx
  have H := mac_any h0 hB1 hf key a
  rw [show O.tell ⟨2, key, nonce, hh, a, b⟩ = (O.val (qm key a), .empty, true) from rfl, show O.step ⟨2, key, nonce, hh, a, b⟩ = O.ask (qm key a) from rfl]
  unfold callCells
  simp only
  generalize O.val (qm key a) = v at *
  clear h h0 cx hf hB1
  go_enter Try.func12, Try.ntmps12
  go_wp2_with fail
  refine H.mono ?_
  rintro e w1 ⟨rfl, h1, b1⟩
  have b2 := c0.trans b1
  go_wp2
  go_ret3
  exact ⟨rfl, h1, b2⟩
set_option maxHeartbeats 2000000 in
theorem do_3 {K : Nat → Prop} {q : Nat} {O : Or} {w : World} (h : Ref K w q O) (hB : On K w) (hf : Few O) (key nonce hh : Nat) (a b : ByteArray) :
    Calls Try.prog 12 #[rptr q, .agg (callCells ⟨3, key, nonce, hh, a, b⟩)] w fun e w' => e = .returned (.tuple #[.int .u64 ((O.tell ⟨3, key, nonce, hh, a, b⟩).1 : Int), .string (O.tell ⟨3, key, nonce, hh, a, b⟩).2.1, .bool (O.tell ⟨3, key, nonce, hh, a, b⟩).2.2]) ∧ Ref K w' q (O.step ⟨3, key, nonce, hh, a, b⟩) ∧ Fr K w w' := by
  have cx : Below w.heap.size w (w.alloc (.cells #[.int .i64 3, .int .u64 (key : Int), .int .u64 (nonce : Int), .int .u64 (hh : Int), .string a, .string b] 36)) := (Below.refl w.heap.size w).alloc (Nat.le_refl _) _
  have h0 := h.below cx
  have hB1 := on_of hB cx.size
  have c0 := fr_of (K := K) cx
  have H := verify_any h0 hB1 hf key a hh
  rw [show O.tell ⟨3, key, nonce, hh, a, b⟩ = (0, .empty, O.isTag key a hh) from rfl, show O.step ⟨3, key, nonce, hh, a, b⟩ = O.verify key a hh from rfl]
  unfold callCells
  simp only
  generalize O.isTag key a hh = v at *
  clear h h0 cx hf hB1
  go_enter Try.func12, Try.ntmps12
  go_wp2_with fail
  refine H.mono ?_
  rintro e w1 ⟨rfl, h1, b1⟩
  have b2 := c0.trans b1
  go_wp2
  go_ret3
  exact ⟨rfl, h1, b2⟩
set_option maxHeartbeats 2000000 in
theorem do_4 {K : Nat → Prop} {q : Nat} {O : Or} {w : World} (h : Ref K w q O) (hB : On K w) (hf : Few O) (key nonce hh : Nat) (a b : ByteArray) :
    Calls Try.prog 12 #[rptr q, .agg (callCells ⟨4, key, nonce, hh, a, b⟩)] w fun e w' => e = .returned (.tuple #[.int .u64 ((O.tell ⟨4, key, nonce, hh, a, b⟩).1 : Int), .string (O.tell ⟨4, key, nonce, hh, a, b⟩).2.1, .bool (O.tell ⟨4, key, nonce, hh, a, b⟩).2.2]) ∧ Ref K w' q (O.step ⟨4, key, nonce, hh, a, b⟩) ∧ Fr K w w' := by
  have cx : Below w.heap.size w (w.alloc (.cells #[.int .i64 4, .int .u64 (key : Int), .int .u64 (nonce : Int), .int .u64 (hh : Int), .string a, .string b] 36)) := (Below.refl w.heap.size w).alloc (Nat.le_refl _) _
  have h0 := h.below cx
  have hB1 := on_of hB cx.size
  have c0 := fr_of (K := K) cx
  have H := seal_any h0 hB1 hf key nonce a b
  rw [show O.tell ⟨4, key, nonce, hh, a, b⟩ = (O.val (qs key nonce a b), .empty, true) from rfl, show O.step ⟨4, key, nonce, hh, a, b⟩ = O.ask (qs key nonce a b) from rfl]
  unfold callCells
  simp only
  generalize O.val (qs key nonce a b) = v at *
  clear h h0 cx hf hB1
  go_enter Try.func12, Try.ntmps12
  go_wp2_with fail
  refine H.mono ?_
  rintro e w1 ⟨rfl, h1, b1⟩
  have b2 := c0.trans b1
  go_wp2
  go_ret3
  exact ⟨rfl, h1, b2⟩
set_option maxHeartbeats 2000000 in
theorem do_5 {K : Nat → Prop} {q : Nat} {O : Or} {w : World} (h : Ref K w q O) (hB : On K w) (hf : Few O) (key nonce hh : Nat) (a b : ByteArray) :
    Calls Try.prog 12 #[rptr q, .agg (callCells ⟨5, key, nonce, hh, a, b⟩)] w fun e w' => e = .returned (.tuple #[.int .u64 ((O.tell ⟨5, key, nonce, hh, a, b⟩).1 : Int), .string (O.tell ⟨5, key, nonce, hh, a, b⟩).2.1, .bool (O.tell ⟨5, key, nonce, hh, a, b⟩).2.2]) ∧ Ref K w' q (O.step ⟨5, key, nonce, hh, a, b⟩) ∧ Fr K w w' := by
  have cx : Below w.heap.size w (w.alloc (.cells #[.int .i64 5, .int .u64 (key : Int), .int .u64 (nonce : Int), .int .u64 (hh : Int), .string a, .string b] 36)) := (Below.refl w.heap.size w).alloc (Nat.le_refl _) _
  have h0 := h.below cx
  have hB1 := on_of hB cx.size
  have c0 := fr_of (K := K) cx
  have H := open_any h0 hB1 hf key nonce a hh
  rw [show O.tell ⟨5, key, nonce, hh, a, b⟩ = (0, (O.plain key nonce a hh).getD .empty, (O.plain key nonce a hh).isSome) from rfl, show O.step ⟨5, key, nonce, hh, a, b⟩ = O.reopen key nonce a hh from rfl]
  unfold callCells
  simp only
  generalize (O.plain key nonce a hh).getD .empty = v at *
  generalize (O.plain key nonce a hh).isSome = y at *
  clear h h0 cx hf hB1
  go_enter Try.func12, Try.ntmps12
  go_wp2_with fail
  refine H.mono ?_
  rintro e w1 ⟨rfl, h1, b1⟩
  have b2 := c0.trans b1
  go_wp2
  go_ret3
  exact ⟨rfl, h1, b2⟩
set_option maxHeartbeats 2000000 in
theorem do_6 {K : Nat → Prop} {q : Nat} {O : Or} {w : World} (h : Ref K w q O) (hB : On K w) (hf : Few O) (key nonce hh : Nat) (a b : ByteArray) :
    Calls Try.prog 12 #[rptr q, .agg (callCells ⟨6, key, nonce, hh, a, b⟩)] w fun e w' => e = .returned (.tuple #[.int .u64 ((O.tell ⟨6, key, nonce, hh, a, b⟩).1 : Int), .string (O.tell ⟨6, key, nonce, hh, a, b⟩).2.1, .bool (O.tell ⟨6, key, nonce, hh, a, b⟩).2.2]) ∧ Ref K w' q (O.step ⟨6, key, nonce, hh, a, b⟩) ∧ Fr K w w' := by
  have cx : Below w.heap.size w (w.alloc (.cells #[.int .i64 6, .int .u64 (key : Int), .int .u64 (nonce : Int), .int .u64 (hh : Int), .string a, .string b] 36)) := (Below.refl w.heap.size w).alloc (Nat.le_refl _) _
  have h0 := h.below cx
  have hB1 := on_of hB cx.size
  have c0 := fr_of (K := K) cx
  have H := meet_any h0 hB1 hf.rows hf.met hh
  rw [show O.tell ⟨6, key, nonce, hh, a, b⟩ = (0, .empty, false) from rfl, show O.step ⟨6, key, nonce, hh, a, b⟩ = O.meet hh from rfl]
  unfold callCells
  simp only
  clear h h0 cx hf hB1
  go_enter Try.func12, Try.ntmps12
  go_wp2_with fail
  refine H.mono ?_
  rintro e w1 ⟨rfl, h1, b1⟩
  have b2 := c0.trans b1
  go_wp2
  go_ret3
  exact ⟨rfl, h1, b2⟩
set_option maxHeartbeats 2000000 in
theorem do_off {K : Nat → Prop} {q : Nat} {O : Or} {w : World} (h : Ref K w q O) (_hB : On K w) (d : Int) (hd : ¬ d = 0 ∧ ¬ d = 1 ∧ ¬ d = 2 ∧ ¬ d = 3 ∧ ¬ d = 4 ∧ ¬ d = 5 ∧ ¬ d = 6) (key nonce hh : Nat) (a b : ByteArray) :
    Calls Try.prog 12 #[rptr q, .agg (callCells ⟨d, key, nonce, hh, a, b⟩)] w fun e w' => e = .returned (.tuple #[.int .u64 ((O.tell ⟨d, key, nonce, hh, a, b⟩).1 : Int), .string (O.tell ⟨d, key, nonce, hh, a, b⟩).2.1, .bool (O.tell ⟨d, key, nonce, hh, a, b⟩).2.2]) ∧ Ref K w' q (O.step ⟨d, key, nonce, hh, a, b⟩) ∧ Fr K w w' := by
  have cx : Below w.heap.size w (w.alloc (.cells #[.int .i64 d, .int .u64 (key : Int), .int .u64 (nonce : Int), .int .u64 (hh : Int), .string a, .string b] 36)) := (Below.refl w.heap.size w).alloc (Nat.le_refl _) _
  have h0 := h.below cx
  have c0 := fr_of (K := K) cx
  obtain ⟨d0, d1, d2, d3, d4, d5, d6⟩ := hd
  rw [show O.tell ⟨d, key, nonce, hh, a, b⟩ = (0, .empty, false) by simp only [Or.tell, d0, d1, d2, d3, d4, d5, if_false], show O.step ⟨d, key, nonce, hh, a, b⟩ = O by simp only [Or.step, d0, d1, d2, d3, d4, d5, d6, if_false]]
  have g0 : (d == (0 : Int)) = false := by rw [beq_eq_false_iff_ne]; exact d0
  have g1 : (d == (1 : Int)) = false := by rw [beq_eq_false_iff_ne]; exact d1
  have g2 : (d == (2 : Int)) = false := by rw [beq_eq_false_iff_ne]; exact d2
  have g3 : (d == (3 : Int)) = false := by rw [beq_eq_false_iff_ne]; exact d3
  have g4 : (d == (4 : Int)) = false := by rw [beq_eq_false_iff_ne]; exact d4
  have g5 : (d == (5 : Int)) = false := by rw [beq_eq_false_iff_ne]; exact d5
  have g6 : (d == (6 : Int)) = false := by rw [beq_eq_false_iff_ne]; exact d6
  unfold callCells
  simp only
  clear h cx d0 d1 d2 d3 d4 d5 d6
  go_enter Try.func12, Try.ntmps12
  go_wp2
  go_ret3
  exact ⟨rfl, h0, c0⟩
theorem do_any {K : Nat → Prop} {q : Nat} {O : Or} {w : World} (h : Ref K w q O) (hB : On K w) (hf : Few O) (c : Cl) :
    Calls Try.prog 12 #[rptr q, .agg (callCells c)] w fun e w' => e = .returned (.tuple #[.int .u64 ((O.tell c).1 : Int), .string (O.tell c).2.1, .bool (O.tell c).2.2]) ∧ Ref K w' q (O.step c) ∧ Fr K w w' := by
  obtain ⟨d, key, nonce, hh, a, b⟩ := c
  by_cases d0 : d = 0
  · subst d0
    exact do_0 h hB hf key nonce hh a b
  by_cases d1 : d = 1
  · subst d1
    exact do_1 h hB hf key nonce hh a b
  by_cases d2 : d = 2
  · subst d2
    exact do_2 h hB hf key nonce hh a b
  by_cases d3 : d = 3
  · subst d3
    exact do_3 h hB hf key nonce hh a b
  by_cases d4 : d = 4
  · subst d4
    exact do_4 h hB hf key nonce hh a b
  by_cases d5 : d = 5
  · subst d5
    exact do_5 h hB hf key nonce hh a b
  by_cases d6 : d = 6
  · subst d6
    exact do_6 h hB hf key nonce hh a b
  exact do_off h hB d ⟨d0, d1, d2, d3, d4, d5, d6⟩ key nonce hh a b
end Go.Proofs.Ytkadkakkaodeeaa.Ref3
