/-
  Package ideal: the calls, told by the plain oracle; Do.
-/
import Derived.Test.YtkadkakkaodeeaaIdC
namespace Go.Proofs.Ytkadkakkaodeeaa
open Go.RowKit Go.Maps
open Ideal

namespace Ida
/-- An oracle in memory, told plainly. -/
def Orc (w : World) (L : Lay) (O : Or) : Prop := Has w L O.tabs ∧ O.fine
section
variable {L : Lay} {O : Or} {w w' : World}
theorem Orc.below (h : Orc w L O) (hb : Below w.heap.size w w') : Orc w' L O := ⟨h.1.below hb, h.2⟩
theorem Orc.alloc (h : Orc w L O) (o : Obj) : Orc (w.alloc o) L O := ⟨h.1.alloc o, h.2⟩
theorem Orc.but {T : Nat → Prop} (h : Orc w L O) (hb : Kit.But T w w') (ho : ∀ i, L.own i → ¬ T i) (hd : ∀ k, L.dv.ownBlock = some k → ¬ T k) : Orc w' L O := ⟨h.1.but hb ho hd, h.2⟩
theorem Orc.lt (h : Orc w L O) {i : Nat} (hi : L.own i) : i < w.heap.size := h.1.lt hi
theorem o_drawn (h : Orc w L O) : Calls Try.prog 16 #[ptr L] w fun e w' => e = .returned (.int .i64 (O.rows.length : Int)) ∧ Below w.heap.size w w' := drawn_any h.1
theorem o_bad (h : Orc w L O) : Calls Try.prog 18 #[ptr L] w fun e w' => e = .returned (.bool (decide (0 < O.bads))) ∧ Below w.heap.size w w' := bad_any h.1
theorem o_fresh (h : Orc w L O) (hn : O.rows.length < 1152921504606846976) :
    Calls Try.prog 36 #[ptr L] w fun e w' => e = .returned (.int .u64 (O.next : Int)) ∧ Orc w' L (O.draw q0) ∧ Kit.But L.own w w' :=
  (fresh_any h.1 hn).mono fun _ _ ⟨e, h1, h2⟩ => ⟨e, ⟨by rw [Or.tabs_fresh]; exact h1, Or.fine_draw h.2 hn _⟩, h2⟩
theorem o_hash (h : Orc w L O) (hn : O.rows.length < 1152921504606846976) (s : ByteArray) (hs : s.size ≤ maxLen) :
    Calls Try.prog 37 #[ptr L, .string s] w fun e w' => e = .returned (.int .u64 (O.val (qh s) : Int)) ∧ Orc w' L (O.ask (qh s)) ∧ Kit.But L.own w w' :=
  (hash_any h.1 hn s hs).mono fun _ _ ⟨e, h1, h2⟩ => ⟨e, ⟨by rw [Or.tabs_hash]; exact h1, Or.fine_ask h.2 hn _⟩, h2⟩
theorem o_mac (h : Orc w L O) (hn : O.rows.length < 1152921504606846976) (k : Nat) (hk : k < 18446744073709551616) (s : ByteArray) (hs : s.size ≤ maxLen) :
    Calls Try.prog 33 #[ptr L, .int .u64 (k : Int), .string s] w fun e w' => e = .returned (.int .u64 (O.val (qm k s) : Int)) ∧ Orc w' L (O.ask (qm k s)) ∧ Kit.But L.own w w' :=
  (mac_any h.1 hn k hk s hs).mono fun _ _ ⟨e, h1, h2⟩ => ⟨e, ⟨by rw [Or.tabs_mac (k, s)]; exact h1, Or.fine_ask h.2 hn _⟩, h2⟩
theorem o_seal (h : Orc w L O) (hn : O.rows.length < 1152921504606846976) (k : Nat) (hk : k < 18446744073709551616) (n : Nat) (hn0 : n < 18446744073709551616) (a : ByteArray) (ha : a.size ≤ maxLen) (b : ByteArray) (hb : b.size ≤ maxLen) :
    Calls Try.prog 39 #[ptr L, .int .u64 (k : Int), .int .u64 (n : Int), .string a, .string b] w fun e w' => e = .returned (.int .u64 (O.val (qs k n a b) : Int)) ∧ Orc w' L (O.ask (qs k n a b)) ∧ Kit.But L.own w w' :=
  (seal_any h.1 hn (fun x v hv => Or.get_lt (x := qs x.1 x.2.1 x.2.2.1 x.2.2.2) h.2 hv) k hk n hn0 a ha b hb).mono fun _ _ ⟨e, h1, h2⟩ => ⟨e, ⟨by rw [Or.tabs_seal (k, n, a, b)]; exact h1, Or.fine_ask h.2 hn _⟩, h2⟩
theorem o_verify (h : Orc w L O) (k : Nat) (hk : k < 18446744073709551616) (s : ByteArray) (hs : s.size ≤ maxLen) (tag : Nat) (ht : tag < 18446744073709551616) :
    Calls Try.prog 38 #[ptr L, .int .u64 (k : Int), .string s, .int .u64 (tag : Int)] w fun e w' => e = .returned (.bool (O.isTag k s tag)) ∧ Orc w' L (O.verify k s tag) ∧ Kit.But L.own w w' :=
  (verify_any h.1 k hk s hs tag ht).mono fun _ _ ⟨e, h1, h2⟩ => ⟨e, ⟨by rw [Or.tabs_verify]; exact h1, Or.fine_verify h.2 _ _ _⟩, h2⟩
theorem o_open (h : Orc w L O) (k : Nat) (hk : k < 18446744073709551616) (n : Nat) (hn0 : n < 18446744073709551616) (a : ByteArray) (ha : a.size ≤ maxLen) (c : Nat) (hc : c < 18446744073709551616) :
    Calls Try.prog 40 #[ptr L, .int .u64 (k : Int), .int .u64 (n : Int), .string a, .int .u64 (c : Int)] w fun e w' => e = .returned (.tuple #[.string ((O.plain k n a c).getD .empty), .bool (O.plain k n a c).isSome]) ∧
      Orc w' L (O.reopen k n a c) ∧ Kit.But L.own w w' :=
  (open_any h.1 k hk n hn0 a ha c hc).mono fun _ _ ⟨e, h1, h2⟩ => ⟨e, ⟨by rw [Or.tabs_reopen]; exact h1, Or.fine_reopen h.2 _ _ _ _⟩, h2⟩
theorem o_meet (h : Orc w L O) (v : Nat) (hv : v < 18446744073709551616) :
    Calls Try.prog 24 #[ptr L, .int .u64 (v : Int)] w fun e w' => e = .returned (.tuple #[]) ∧ Orc w' L (O.meet v) ∧ Kit.But L.own w w' :=
  (meet_any h.1 v hv).mono fun _ _ ⟨e, h1, h2⟩ => ⟨e, ⟨by rw [Or.tabs_meet]; exact h1, Or.fine_meet h.2 _⟩, h2⟩
end

/-- A call as a value, and what may stand in it. -/
def callCells (c : Cl) : Array Value := #[.int .i64 c.d, .int .u64 (c.key : Int), .int .u64 (c.nonce : Int), .int .u64 (c.h : Int), .string c.a, .string c.b]
structure CallFine (c : Cl) : Prop where
  key : c.key < 18446744073709551616
  nonce : c.nonce < 18446744073709551616
  h : c.h < 18446744073709551616
  a : c.a.size ≤ maxLen
  b : c.b.size ≤ maxLen

set_option maxHeartbeats 2000000 in
theorem do_0 {L : Lay} {O : Or} {w : World} (h : Orc w L O) (hn : O.rows.length < 1152921504606846976) (key nonce hh : Nat) (a b : ByteArray) (_hf : CallFine ⟨0, key, nonce, hh, a, b⟩) :
    Calls Try.prog 25 #[ptr L, .agg (callCells ⟨0, key, nonce, hh, a, b⟩)] w fun e w' => e = .returned (.tuple #[.int .u64 ((O.tell ⟨0, key, nonce, hh, a, b⟩).1 : Int), .string (O.tell ⟨0, key, nonce, hh, a, b⟩).2.1, .bool (O.tell ⟨0, key, nonce, hh, a, b⟩).2.2]) ∧ Orc w' L (O.step ⟨0, key, nonce, hh, a, b⟩) ∧ Kit.But L.own w w' := by
  have h0 := h.alloc (.cells #[.int .i64 0, .int .u64 (key : Int), .int .u64 (nonce : Int), .int .u64 (hh : Int), .string a, .string b] 36)
  have c0 : Kit.But L.own w (w.alloc (.cells #[.int .i64 0, .int .u64 (key : Int), .int .u64 (nonce : Int), .int .u64 (hh : Int), .string a, .string b] 36)) := (Kit.But.refl _ w).alloc _
  have H := o_fresh h0 hn
  rw [show O.tell ⟨0, key, nonce, hh, a, b⟩ = (O.next, .empty, true) from rfl, show O.step ⟨0, key, nonce, hh, a, b⟩ = O.draw q0 from rfl]
  unfold callCells
  simp only
  generalize O.next = v at *
  clear h h0
  go_enter Try.func25, Try.ntmps25
  go_wp2_with fail
  refine H.mono ?_
  rintro e w1 ⟨rfl, h1, b1⟩
  have b2 := c0.trans b1
  go_wp2
  go_ret3
  exact ⟨rfl, h1, b2⟩
set_option maxHeartbeats 2000000 in
theorem do_1 {L : Lay} {O : Or} {w : World} (h : Orc w L O) (hn : O.rows.length < 1152921504606846976) (key nonce hh : Nat) (a b : ByteArray) (hf : CallFine ⟨1, key, nonce, hh, a, b⟩) :
    Calls Try.prog 25 #[ptr L, .agg (callCells ⟨1, key, nonce, hh, a, b⟩)] w fun e w' => e = .returned (.tuple #[.int .u64 ((O.tell ⟨1, key, nonce, hh, a, b⟩).1 : Int), .string (O.tell ⟨1, key, nonce, hh, a, b⟩).2.1, .bool (O.tell ⟨1, key, nonce, hh, a, b⟩).2.2]) ∧ Orc w' L (O.step ⟨1, key, nonce, hh, a, b⟩) ∧ Kit.But L.own w w' := by
  have h0 := h.alloc (.cells #[.int .i64 1, .int .u64 (key : Int), .int .u64 (nonce : Int), .int .u64 (hh : Int), .string a, .string b] 36)
  have c0 : Kit.But L.own w (w.alloc (.cells #[.int .i64 1, .int .u64 (key : Int), .int .u64 (nonce : Int), .int .u64 (hh : Int), .string a, .string b] 36)) := (Kit.But.refl _ w).alloc _
  have H := o_hash h0 hn a hf.a
  rw [show O.tell ⟨1, key, nonce, hh, a, b⟩ = (O.val (qh a), .empty, true) from rfl, show O.step ⟨1, key, nonce, hh, a, b⟩ = O.ask (qh a) from rfl]
  unfold callCells
  simp only
  generalize O.val (qh a) = v at *
  clear h h0
  go_enter Try.func25, Try.ntmps25
  go_wp2_with fail
  refine H.mono ?_
  rintro e w1 ⟨rfl, h1, b1⟩
  have b2 := c0.trans b1
  go_wp2
  go_ret3
  exact ⟨rfl, h1, b2⟩
set_option maxHeartbeats 2000000 in
theorem do_2 {L : Lay} {O : Or} {w : World} (h : Orc w L O) (hn : O.rows.length < 1152921504606846976) (key nonce hh : Nat) (a b : ByteArray) (hf : CallFine ⟨2, key, nonce, hh, a, b⟩) :
    Calls Try.prog 25 #[ptr L, .agg (callCells ⟨2, key, nonce, hh, a, b⟩)] w fun e w' => e = .returned (.tuple #[.int .u64 ((O.tell ⟨2, key, nonce, hh, a, b⟩).1 : Int), .string (O.tell ⟨2, key, nonce, hh, a, b⟩).2.1, .bool (O.tell ⟨2, key, nonce, hh, a, b⟩).2.2]) ∧ Orc w' L (O.step ⟨2, key, nonce, hh, a, b⟩) ∧ Kit.But L.own w w' := by
  have h0 := h.alloc (.cells #[.int .i64 2, .int .u64 (key : Int), .int .u64 (nonce : Int), .int .u64 (hh : Int), .string a, .string b] 36)
  have c0 : Kit.But L.own w (w.alloc (.cells #[.int .i64 2, .int .u64 (key : Int), .int .u64 (nonce : Int), .int .u64 (hh : Int), .string a, .string b] 36)) := (Kit.But.refl _ w).alloc _
  have H := o_mac h0 hn key hf.key a hf.a
  rw [show O.tell ⟨2, key, nonce, hh, a, b⟩ = (O.val (qm key a), .empty, true) from rfl, show O.step ⟨2, key, nonce, hh, a, b⟩ = O.ask (qm key a) from rfl]
  unfold callCells
  simp only
  generalize O.val (qm key a) = v at *
  clear h h0
  go_enter Try.func25, Try.ntmps25
  go_wp2_with fail
  refine H.mono ?_
  rintro e w1 ⟨rfl, h1, b1⟩
  have b2 := c0.trans b1
  go_wp2
  go_ret3
  exact ⟨rfl, h1, b2⟩
set_option maxHeartbeats 2000000 in
theorem do_3 {L : Lay} {O : Or} {w : World} (h : Orc w L O) (_hn : O.rows.length < 1152921504606846976) (key nonce hh : Nat) (a b : ByteArray) (hf : CallFine ⟨3, key, nonce, hh, a, b⟩) :
    Calls Try.prog 25 #[ptr L, .agg (callCells ⟨3, key, nonce, hh, a, b⟩)] w fun e w' => e = .returned (.tuple #[.int .u64 ((O.tell ⟨3, key, nonce, hh, a, b⟩).1 : Int), .string (O.tell ⟨3, key, nonce, hh, a, b⟩).2.1, .bool (O.tell ⟨3, key, nonce, hh, a, b⟩).2.2]) ∧ Orc w' L (O.step ⟨3, key, nonce, hh, a, b⟩) ∧ Kit.But L.own w w' := by
  have h0 := h.alloc (.cells #[.int .i64 3, .int .u64 (key : Int), .int .u64 (nonce : Int), .int .u64 (hh : Int), .string a, .string b] 36)
  have c0 : Kit.But L.own w (w.alloc (.cells #[.int .i64 3, .int .u64 (key : Int), .int .u64 (nonce : Int), .int .u64 (hh : Int), .string a, .string b] 36)) := (Kit.But.refl _ w).alloc _
  have H := o_verify h0 key hf.key a hf.a hh hf.h
  rw [show O.tell ⟨3, key, nonce, hh, a, b⟩ = (0, .empty, O.isTag key a hh) from rfl, show O.step ⟨3, key, nonce, hh, a, b⟩ = O.verify key a hh from rfl]
  unfold callCells
  simp only
  generalize O.isTag key a hh = v at *
  clear h h0
  go_enter Try.func25, Try.ntmps25
  go_wp2_with fail
  refine H.mono ?_
  rintro e w1 ⟨rfl, h1, b1⟩
  have b2 := c0.trans b1
  go_wp2
  go_ret3
  exact ⟨rfl, h1, b2⟩
set_option maxHeartbeats 2000000 in
theorem do_4 {L : Lay} {O : Or} {w : World} (h : Orc w L O) (hn : O.rows.length < 1152921504606846976) (key nonce hh : Nat) (a b : ByteArray) (hf : CallFine ⟨4, key, nonce, hh, a, b⟩) :
    Calls Try.prog 25 #[ptr L, .agg (callCells ⟨4, key, nonce, hh, a, b⟩)] w fun e w' => e = .returned (.tuple #[.int .u64 ((O.tell ⟨4, key, nonce, hh, a, b⟩).1 : Int), .string (O.tell ⟨4, key, nonce, hh, a, b⟩).2.1, .bool (O.tell ⟨4, key, nonce, hh, a, b⟩).2.2]) ∧ Orc w' L (O.step ⟨4, key, nonce, hh, a, b⟩) ∧ Kit.But L.own w w' := by
  have h0 := h.alloc (.cells #[.int .i64 4, .int .u64 (key : Int), .int .u64 (nonce : Int), .int .u64 (hh : Int), .string a, .string b] 36)
  have c0 : Kit.But L.own w (w.alloc (.cells #[.int .i64 4, .int .u64 (key : Int), .int .u64 (nonce : Int), .int .u64 (hh : Int), .string a, .string b] 36)) := (Kit.But.refl _ w).alloc _
  have H := o_seal h0 hn key hf.key nonce hf.nonce a hf.a b hf.b
  rw [show O.tell ⟨4, key, nonce, hh, a, b⟩ = (O.val (qs key nonce a b), .empty, true) from rfl, show O.step ⟨4, key, nonce, hh, a, b⟩ = O.ask (qs key nonce a b) from rfl]
  unfold callCells
  simp only
  generalize O.val (qs key nonce a b) = v at *
  clear h h0
  go_enter Try.func25, Try.ntmps25
  go_wp2_with fail
  refine H.mono ?_
  rintro e w1 ⟨rfl, h1, b1⟩
  have b2 := c0.trans b1
  go_wp2
  go_ret3
  exact ⟨rfl, h1, b2⟩
set_option maxHeartbeats 2000000 in
theorem do_5 {L : Lay} {O : Or} {w : World} (h : Orc w L O) (_hn : O.rows.length < 1152921504606846976) (key nonce hh : Nat) (a b : ByteArray) (hf : CallFine ⟨5, key, nonce, hh, a, b⟩) :
    Calls Try.prog 25 #[ptr L, .agg (callCells ⟨5, key, nonce, hh, a, b⟩)] w fun e w' => e = .returned (.tuple #[.int .u64 ((O.tell ⟨5, key, nonce, hh, a, b⟩).1 : Int), .string (O.tell ⟨5, key, nonce, hh, a, b⟩).2.1, .bool (O.tell ⟨5, key, nonce, hh, a, b⟩).2.2]) ∧ Orc w' L (O.step ⟨5, key, nonce, hh, a, b⟩) ∧ Kit.But L.own w w' := by
  have h0 := h.alloc (.cells #[.int .i64 5, .int .u64 (key : Int), .int .u64 (nonce : Int), .int .u64 (hh : Int), .string a, .string b] 36)
  have c0 : Kit.But L.own w (w.alloc (.cells #[.int .i64 5, .int .u64 (key : Int), .int .u64 (nonce : Int), .int .u64 (hh : Int), .string a, .string b] 36)) := (Kit.But.refl _ w).alloc _
  have H := o_open h0 key hf.key nonce hf.nonce a hf.a hh hf.h
  rw [show O.tell ⟨5, key, nonce, hh, a, b⟩ = (0, (O.plain key nonce a hh).getD .empty, (O.plain key nonce a hh).isSome) from rfl, show O.step ⟨5, key, nonce, hh, a, b⟩ = O.reopen key nonce a hh from rfl]
  unfold callCells
  simp only
  generalize (O.plain key nonce a hh).getD .empty = v at *
  generalize (O.plain key nonce a hh).isSome = y at *
  clear h h0
  go_enter Try.func25, Try.ntmps25
  go_wp2_with fail
  refine H.mono ?_
  rintro e w1 ⟨rfl, h1, b1⟩
  have b2 := c0.trans b1
  go_wp2
  go_ret3
  exact ⟨rfl, h1, b2⟩
set_option maxHeartbeats 2000000 in
theorem do_6 {L : Lay} {O : Or} {w : World} (h : Orc w L O) (_hn : O.rows.length < 1152921504606846976) (key nonce hh : Nat) (a b : ByteArray) (hf : CallFine ⟨6, key, nonce, hh, a, b⟩) :
    Calls Try.prog 25 #[ptr L, .agg (callCells ⟨6, key, nonce, hh, a, b⟩)] w fun e w' => e = .returned (.tuple #[.int .u64 ((O.tell ⟨6, key, nonce, hh, a, b⟩).1 : Int), .string (O.tell ⟨6, key, nonce, hh, a, b⟩).2.1, .bool (O.tell ⟨6, key, nonce, hh, a, b⟩).2.2]) ∧ Orc w' L (O.step ⟨6, key, nonce, hh, a, b⟩) ∧ Kit.But L.own w w' := by
  have h0 := h.alloc (.cells #[.int .i64 6, .int .u64 (key : Int), .int .u64 (nonce : Int), .int .u64 (hh : Int), .string a, .string b] 36)
  have c0 : Kit.But L.own w (w.alloc (.cells #[.int .i64 6, .int .u64 (key : Int), .int .u64 (nonce : Int), .int .u64 (hh : Int), .string a, .string b] 36)) := (Kit.But.refl _ w).alloc _
  have H := o_meet h0 hh hf.h
  rw [show O.tell ⟨6, key, nonce, hh, a, b⟩ = (0, .empty, false) from rfl, show O.step ⟨6, key, nonce, hh, a, b⟩ = O.meet hh from rfl]
  unfold callCells
  simp only
  clear h h0
  go_enter Try.func25, Try.ntmps25
  go_wp2_with fail
  refine H.mono ?_
  rintro e w1 ⟨rfl, h1, b1⟩
  have b2 := c0.trans b1
  go_wp2
  go_ret3
  exact ⟨rfl, h1, b2⟩
set_option maxHeartbeats 2000000 in
theorem do_off {L : Lay} {O : Or} {w : World} (h : Orc w L O) (d : Int) (hd : ¬ d = 0 ∧ ¬ d = 1 ∧ ¬ d = 2 ∧ ¬ d = 3 ∧ ¬ d = 4 ∧ ¬ d = 5 ∧ ¬ d = 6) (key nonce hh : Nat) (a b : ByteArray) :
    Calls Try.prog 25 #[ptr L, .agg (callCells ⟨d, key, nonce, hh, a, b⟩)] w fun e w' => e = .returned (.tuple #[.int .u64 ((O.tell ⟨d, key, nonce, hh, a, b⟩).1 : Int), .string (O.tell ⟨d, key, nonce, hh, a, b⟩).2.1, .bool (O.tell ⟨d, key, nonce, hh, a, b⟩).2.2]) ∧ Orc w' L (O.step ⟨d, key, nonce, hh, a, b⟩) ∧ Kit.But L.own w w' := by
  have h0 := h.alloc (.cells #[.int .i64 d, .int .u64 (key : Int), .int .u64 (nonce : Int), .int .u64 (hh : Int), .string a, .string b] 36)
  have c0 : Kit.But L.own w (w.alloc (.cells #[.int .i64 d, .int .u64 (key : Int), .int .u64 (nonce : Int), .int .u64 (hh : Int), .string a, .string b] 36)) := (Kit.But.refl _ w).alloc _
  obtain ⟨d0, d1, d2, d3, d4, d5, d6⟩ := hd
  rw [show O.tell ⟨d, key, nonce, hh, a, b⟩ = (0, .empty, false) by simp only [Or.tell, d0, d1, d2, d3, d4, d5, if_false], show O.step ⟨d, key, nonce, hh, a, b⟩ = O by simp only [Or.step, d0, d1, d2, d3, d4, d5, d6, if_false]]
  have g0 : (d == (0 : Int)) = false := by rw [beq_eq_false_iff_ne]; exact d0
  have g1 : (d == (1 : Int)) = false := by rw [beq_eq_false_iff_ne]; exact d1
  have g2 : (d == (2 : Int)) = false := by rw [beq_eq_false_iff_ne]; exact d2
  have g3 : (d == (3 : Int)) = false := by rw [beq_eq_false_iff_ne]; exact d3
  have g4 : (d == (4 : Int)) = false := by rw [beq_eq_false_iff_ne]; exact d4
  have g5 : (d == (5 : Int)) = false := by rw [beq_eq_false_iff_ne]; exact d5
  have g6 : (d == (6 : Int)) = false := by rw [beq_eq_false_iff_ne]; exact d6
  unfold callCells
  simp only
  clear h d0 d1 d2 d3 d4 d5 d6
  go_enter Try.func25, Try.ntmps25
  go_wp2
  go_ret3
  exact ⟨rfl, h0, c0⟩
theorem do_any {L : Lay} {O : Or} {w : World} (h : Orc w L O) (hn : O.rows.length < 1152921504606846976) (c : Cl) (hf : CallFine c) :
    Calls Try.prog 25 #[ptr L, .agg (callCells c)] w fun e w' => e = .returned (.tuple #[.int .u64 ((O.tell c).1 : Int), .string (O.tell c).2.1, .bool (O.tell c).2.2]) ∧ Orc w' L (O.step c) ∧ Kit.But L.own w w' := by
  obtain ⟨d, key, nonce, hh, a, b⟩ := c
  by_cases d0 : d = 0
  · subst d0
    exact do_0 h hn key nonce hh a b hf
  by_cases d1 : d = 1
  · subst d1
    exact do_1 h hn key nonce hh a b hf
  by_cases d2 : d = 2
  · subst d2
    exact do_2 h hn key nonce hh a b hf
  by_cases d3 : d = 3
  · subst d3
    exact do_3 h hn key nonce hh a b hf
  by_cases d4 : d = 4
  · subst d4
    exact do_4 h hn key nonce hh a b hf
  by_cases d5 : d = 5
  · subst d5
    exact do_5 h hn key nonce hh a b hf
  by_cases d6 : d = 6
  · subst d6
    exact do_6 h hn key nonce hh a b hf
  exact do_off h d ⟨d0, d1, d2, d3, d4, d5, d6⟩ key nonce hh a b
end Ida
end Go.Proofs.Ytkadkakkaodeeaa
