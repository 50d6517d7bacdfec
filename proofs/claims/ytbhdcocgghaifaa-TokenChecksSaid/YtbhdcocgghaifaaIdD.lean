/-
  Package ideal: the calls, told by the plain oracle; Do.
-/
import Derived.Test.YtbhdcocgghaifaaIdC
namespace Go.Proofs.Ytbhdcocgghaifaa
open Go.RowKit Go.Maps
open Ideal

namespace Ida
/-- An oracle in memory, told plainly. -/
def Orc (w : World) (L : Lay) (O : Or) : Prop := Has w L O.tabs ∧ O.fine
section
variable {L : Lay} {O : Or} {w w' : World}
theorem Orc.below (h : Orc w L O) (hb : Below w.heap.size w w') : Orc w' L O := ⟨h.1.below hb, h.2⟩
theorem Orc.alloc (h : Orc w L O) (o : Obj) : Orc (w.alloc o) L O := ⟨h.1.alloc o, h.2⟩
theorem Orc.but {T : Nat → Prop} (h : Orc w L O) (hb : Kit.But T w w') (ho : ∀ i, L.own i → ¬ T i) (hd : ∀ k, L.dv.ownBlock = some k → ¬ T k) : Orc w' L O := ⟨h.1.but hb ho hd, h.2⟩
theorem Orc.lt (h : Orc w L O) {i : Nat} (hi : L.own i) : i < w.heap.size := h.1.lt hi
theorem o_drawn (h : Orc w L O) : Calls Try.prog 20 #[ptr L] w fun e w' => e = .returned (.int .i64 (O.rows.length : Int)) ∧ Below w.heap.size w w' := drawn_any h.1
theorem o_bad (h : Orc w L O) : Calls Try.prog 22 #[ptr L] w fun e w' => e = .returned (.bool (decide (0 < O.bads))) ∧ Below w.heap.size w w' := bad_any h.1
theorem o_fresh (h : Orc w L O) (hn : O.rows.length < 1152921504606846976) :
    Calls Try.prog 44 #[ptr L] w fun e w' => e = .returned (.int .u64 (O.next : Int)) ∧ Orc w' L (O.draw q0) ∧ Kit.But L.own w w' :=
  (fresh_any h.1 hn).mono fun _ _ ⟨e, h1, h2⟩ => ⟨e, ⟨by rw [Or.tabs_fresh]; exact h1, Or.fine_draw h.2 hn _⟩, h2⟩
theorem o_mac (h : Orc w L O) (hn : O.rows.length < 1152921504606846976) (k : Nat) (hk : k < 18446744073709551616) (s : ByteArray) (hs : s.size ≤ maxLen) :
    Calls Try.prog 35 #[ptr L, .int .u64 (k : Int), .string s] w fun e w' => e = .returned (.int .u64 (O.val (qm k s) : Int)) ∧ Orc w' L (O.ask (qm k s)) ∧ Kit.But L.own w w' :=
  (mac_any h.1 hn k hk s hs).mono fun _ _ ⟨e, h1, h2⟩ => ⟨e, ⟨by rw [Or.tabs_mac (k, s)]; exact h1, Or.fine_ask h.2 hn _⟩, h2⟩
theorem o_verify (h : Orc w L O) (k : Nat) (hk : k < 18446744073709551616) (s : ByteArray) (hs : s.size ≤ maxLen) (tag : Nat) (ht : tag < 18446744073709551616) :
    Calls Try.prog 31 #[ptr L, .int .u64 (k : Int), .string s, .int .u64 (tag : Int)] w fun e w' => e = .returned (.bool (O.isTag k s tag)) ∧ Orc w' L (O.verify k s tag) ∧ Kit.But L.own w w' :=
  (verify_any h.1 k hk s hs tag ht).mono fun _ _ ⟨e, h1, h2⟩ => ⟨e, ⟨by rw [Or.tabs_verify]; exact h1, Or.fine_verify h.2 _ _ _⟩, h2⟩
theorem o_meet (h : Orc w L O) (v : Nat) (hv : v < 18446744073709551616) :
    Calls Try.prog 37 #[ptr L, .int .u64 (v : Int)] w fun e w' => e = .returned (.tuple #[]) ∧ Orc w' L (O.meet v) ∧ Kit.But L.own w w' :=
  (meet_any h.1 v hv).mono fun _ _ ⟨e, h1, h2⟩ => ⟨e, ⟨by rw [Or.tabs_meet]; exact h1, Or.fine_meet h.2 _⟩, h2⟩
end

/-- A call as a value, and what may stand in it. -/
def callCells (c : Cl) : Array Value := #[.int .i64 c.d, .int .u64 (c.key : Int), .int .u64 (c.nonce : Int), .int .u64 (c.h : Int), .string c.a, .string c.b]
structure CallFine (c : Cl) : Prop where
  key : c.key < 18446744073709551616
  nonce : c.nonce < 18446744073709551616
  h : c.h < 18446744073709551616
  a : c.a.size ≤ maxLen
  b : c.b.size ≤ maxLen

end Ida
end Go.Proofs.Ytbhdcocgghaifaa
