/-
  Package seal: Lock, Unlock.
-/
import Derived.Test.YtgdpamfphjehaaaSealB
import Derived.Deep.RegionHeld3
import Derived.Deep.DeepCutAuto
namespace Go.Proofs.Ytgdpamfphjehaaa
open Go.RowKit
open Ideal Ida

namespace Ideal.Or
theorem draws_ask (O : Or) (x : Row) : (O.ask x).draws = O.draws := by
  unfold ask
  split <;> rfl
end Ideal.Or

namespace Ida
/-- An oracle stays where nothing turned but what came since. -/
theorem Orc.kept_new {w0 w1 w' : World} {L : Lay} {O0 O1 : Or} (h : Orc w1 L O1) (h0 : Orc w0 L O0) (hd : O1.draws = O0.draws) (hk : ∀ i, i < w0.heap.size → w'.heap[i]? = w1.heap[i]?) : Orc w' L O1 := by
  refine ⟨h.1.kept (fun i hi => hk i (h0.lt hi)) ?_, h.2⟩
  have r1 : Kit.Rd w1 L.dv (nums O1.draws) := h.1.dr
  have r0 : Kit.Rd w0 L.dv (nums O0.draws) := h0.1.dr
  show Kit.Rd w' L.dv (nums O1.draws)
  rw [← hd] at r0
  obtain ⟨a, cap, e1, h1⟩ := r1
  obtain ⟨a', cap', e2, h2⟩ := r0
  refine ⟨a, cap, e1, ?_⟩
  rcases h1 with h1 | ⟨ad, rfl, hc⟩
  · exact .inl h1
  · refine .inr ⟨ad, rfl, fun j x hx => ?_⟩
    rw [e1] at e2
    simp only [Value.slice.injEq] at e2
    obtain ⟨rfl, -, rfl⟩ := e2
    rcases h2 with h2 | ⟨ad', e3, hc'⟩
    · rw [h2] at hx
      cases hx
    · obtain rfl := Option.some.inj e3
      rw [World.cell?_of_block (w := w1) (hk _ (World.block_lt_of_cell? _ _ (hc' j x hx)))]
      exact hc j x hx
end Ida

theorem put4_off {w : World} {b i : Nat} (h : i ≠ b) (y0 y1 y2 y3 : Value) : ((((w.setCell ⟨b, 0, none⟩ y0).setCell ⟨b, 1, none⟩ y1).setCell ⟨b, 2, none⟩ y2).setCell ⟨b, 3, none⟩ y3).heap[i]? = w.heap[i]? := by
  rw [heap_setCell_other _ ⟨b, 3, none⟩ i _ h, heap_setCell_other _ ⟨b, 2, none⟩ i _ h, heap_setCell_other _ ⟨b, 1, none⟩ i _ h, heap_setCell_other _ ⟨b, 0, none⟩ i _ h]
theorem but_put4 {S : Nat → Prop} {b : Nat} {w w' : World} (h : Kit.But S w w') (hb : b < w.heap.size → S b) (y0 y1 y2 y3 : Value) : Kit.But S w ((((w'.setCell ⟨b, 0, none⟩ y0).setCell ⟨b, 1, none⟩ y1).setCell ⟨b, 2, none⟩ y2).setCell ⟨b, 3, none⟩ y3) :=
  (((h.setCell (p := ⟨b, 0, none⟩) hb y0).setCell (p := ⟨b, 1, none⟩) hb y1).setCell (p := ⟨b, 2, none⟩) hb y2).setCell (p := ⟨b, 3, none⟩) hb y3
theorem but_alloc (w : World) (S : Nat → Prop) (o : Obj) : Kit.But S w (w.alloc o) := (Kit.But.refl S w).alloc o

namespace Sea
theorem four_max {a b c d : Nat} (ha : a < 18446744073709551616) (hb : b < 18446744073709551616) (hc : c < 18446744073709551616) (hd : d < 18446744073709551616) : (four a b c d).size ≤ maxLen := by
  have := four_size ha hb hc hd
  unfold maxLen
  omega

set_option maxRecDepth 100000 in
set_option maxHeartbeats 2000000 in
theorem lock_any {L : Lay} {O : Or} {w : World} (h : Orc w L O) (hn : O.rows.length + 2 < 1152921504606846976) (k v s r e : Nat) (hk : k < 18446744073709551616) (hv : v < 18446744073709551616) (hs : s < 18446744073709551616) (hr : r < 18446744073709551616) (he : e < 18446744073709551616) (p : ByteArray) (hp : p.size ≤ maxLen) :
    Calls Try.prog 26 #[ptr L, .int .u64 (k : Int), .int .u64 (v : Int), .int .u64 (s : Int), .int .u64 (r : Int), .int .u64 (e : Int), .string p] w fun x w' => x = .returned (.agg #[.int .u64 ((O.lockL k v s r e p).v : Int), .int .u64 ((O.lockL k v s r e p).e : Int), .int .u64 ((O.lockL k v s r e p).n : Int), .int .u64 ((O.lockL k v s r e p).c : Int)]) ∧ Orc w' L (O.lockO k v s r e p) ∧ Kit.But L.own w w' := by
  have h0 := h.alloc (.cells #[.int .u64 0, .int .u64 0, .int .u64 0, .int .u64 0] 24)
  have B0 := Box.new w #[.int .u64 0, .int .u64 0, .int .u64 0, .int .u64 0] 24
  have c0 := but_alloc w L.own (.cells #[.int .u64 0, .int .u64 0, .int .u64 0, .int .u64 0] 24)
  have hoff : ¬ L.own w.heap.size := fun ho => Nat.lt_irrefl _ (h.lt ho)
  have n1 := Or.next_lt h.2 (by omega)
  have l1 : (O.draw q0).rows.length < 1152921504606846976 := by rw [Or.len_draw]; omega
  have H1 := o_fresh h0 (by omega)
  have HA := fun w => ad_any v s r e hv hs hr he w
  have H2 := fun w' (h : Orc w' L (O.draw q0)) => o_seal h l1 k hk O.next n1 (four v s r e) (four_max hv hs hr he) p hp
  have hdr : (O.lockO k v s r e p).draws = O.draws := Or.draws_ask _ _
  have hkn := fun w1 (h1 : Orc w1 L (O.lockO k v s r e p)) w' => Orc.kept_new (w' := w') h1 h hdr
  show Calls Try.prog 26 #[ptr L, .int .u64 (k : Int), .int .u64 (v : Int), .int .u64 (s : Int), .int .u64 (r : Int), .int .u64 (e : Int), .string p] w fun x w' => x = .returned (.agg #[.int .u64 (r : Int), .int .u64 (e : Int), .int .u64 (O.next : Int), .int .u64 ((O.draw q0).val (qs k O.next (four v s r e) p) : Int)]) ∧ Orc w' L ((O.draw q0).ask (qs k O.next (four v s r e) p)) ∧ Kit.But L.own w w'
  unfold Or.lockO Or.lockQ at hkn
  clear hdr
  generalize (O.draw q0).val (qs k O.next (four v s r e) p) = c at *
  generalize (O.draw q0).ask (qs k O.next (four v s r e) p) = O2 at *
  generalize O.draw q0 = O1 at *
  generalize O.next = n at *
  generalize four v s r e = t at *
  clear h h0 hn n1 l1 hk hv hs hr he hp
  go_enter Try.func26, Try.ntmps26
  go_wp2_with fail
  refine H1.mono ?_
  rintro x w1 ⟨rfl, h1, b1⟩
  have B1 := B0.but b1 hoff
  have c1 := c0.trans b1
  clear B0 c0 b1 H1
  go_wp2_with fail
  refine (HA _).mono ?_
  rintro x w2 ⟨rfl, b2⟩
  have h2 := h1.below b2
  have B2 := B1.below b2
  have c2 := c1.trans (Kit.But.of_below b2 (Nat.le_refl _) _)
  clear B1 c1 b2 h1 HA
  go_wp2_with fail
  refine (H2 _ h2).mono ?_
  rintro x w3 ⟨rfl, h3, b3⟩
  have B3 := B2.but b3 hoff
  have c3 := c2.trans b3
  clear B2 c2 b3 h2 H2
  have q0 := B3.cell (j := 0) rfl
  have q1 := B3.cell (j := 1) rfl
  have q2 := B3.cell (j := 2) rfl
  have q3 := B3.cell (j := 3) rfl
  have f0 := B3.frozen 0
  have f1 := B3.frozen 1
  have f2 := B3.frozen 2
  have f3 := B3.frozen 3
  have h4 := hkn w3 h3 _ (fun i hi => put4_off (w := w3) (b := w.heap.size) (i := i) (Nat.ne_of_lt hi) (.int .u64 (r : Int)) (.int .u64 (e : Int)) (.int .u64 (n : Int)) (.int .u64 (c : Int)))
  clear h3 hkn
  go_wp2
  refine bodyPost_ret (results_leaf1 rfl rfl (B3.put4 (.int .u64 (r : Int)) (.int .u64 (e : Int)) (.int .u64 (n : Int)) (.int .u64 (c : Int)))) rfl ?_
  exact ⟨rfl, h4, but_put4 c3 (fun e => absurd e (Nat.lt_irrefl _)) _ _ _ _⟩

set_option maxRecDepth 100000 in
set_option maxHeartbeats 4000000 in
theorem unlock_any {L : Lay} {O : Or} {w : World} (h : Orc w L O) (k v s : Nat) (hk : k < 18446744073709551616) (hv : v < 18446744073709551616) (hs : s < 18446744073709551616) (l : Leaf) (hl : fine l) :
    Calls Try.prog 18 #[ptr L, .int .u64 (k : Int), .int .u64 (v : Int), .int .u64 (s : Int), .agg #[.int .u64 (l.v : Int), .int .u64 (l.e : Int), .int .u64 (l.n : Int), .int .u64 (l.c : Int)]] w fun x w' => x = .returned (.tuple #[.string ((O.openL k v s l).getD .empty), .bool (O.openL k v s l).isSome]) ∧ Orc w' L (O.openO k v s l) ∧ Kit.But L.own w w' := by
  have h0 := (h.alloc (.cells #[.int .u64 (l.v : Int), .int .u64 (l.e : Int), .int .u64 (l.n : Int), .int .u64 (l.c : Int)] 24)).drew
  have B0 := (Box.new w #[.int .u64 (l.v : Int), .int .u64 (l.e : Int), .int .u64 (l.n : Int), .int .u64 (l.c : Int)] 24).drew
  have c0 := (but_alloc w L.own (.cells #[.int .u64 (l.v : Int), .int .u64 (l.e : Int), .int .u64 (l.n : Int), .int .u64 (l.c : Int)] 24)).drew
  have hoff : ¬ L.own w.heap.size := fun ho => Nat.lt_irrefl _ (h.lt ho)
  have HA := fun w => ad_any v s l.v l.e hv hs hl.1 hl.2.1 w
  have H2 := fun w' (h : Orc w' L O) => o_open h k hk l.n hl.2.2.1 (four v s l.v l.e) (four_max hv hs hl.1 hl.2.1) l.c hl.2.2.2
  unfold Or.openL Or.openO
  generalize (O.plain k l.n (four v s l.v l.e) l.c).getD .empty = a at *
  generalize (O.plain k l.n (four v s l.v l.e) l.c).isSome = y at *
  generalize O.reopen k l.n (four v s l.v l.e) l.c = O2 at *
  generalize four v s l.v l.e = t at *
  generalize l.v = lv at *
  generalize l.e = le at *
  generalize l.n = ln at *
  generalize l.c = lc at *
  clear h hk hv hs hl
  go_enter Try.func18, Try.ntmps18
  go_upto_region 1 with (fail)
  go_region_held3 (fun w' => w'.cell? ⟨w.heap.size, 0, none⟩ = some (.int .u64 (lv : Int)) ∧ w'.cell? ⟨w.heap.size, 1, none⟩ = some (.int .u64 (le : Int)) ∧ w'.cell? ⟨w.heap.size, 2, none⟩ = some (.int .u64 (ln : Int)) ∧ w'.cell? ⟨w.heap.size, 3, none⟩ = some (.int .u64 (lc : Int)))
    (first | exact ⟨B0.cell rfl, B0.cell rfl, B0.cell rfl, B0.cell rfl⟩ | exact ⟨B2.cell rfl, B2.cell rfl, B2.cell rfl, B2.cell rfl⟩ | exact ⟨B3.cell rfl, B3.cell rfl, B3.cell rfl, B3.cell rfl⟩)
    (first
      | (go_at_call 34; refine (H2 _ h2).mono ?_; rintro x w3 ⟨rfl, h3, b3⟩; have B3 := B2.but b3 hoff; have c3 := c2.trans b3)
      | (go_at_call 24; refine (HA _).mono ?_; rintro x w2 ⟨rfl, b2⟩; have h2 := h0.below b2; have B2 := B0.below b2; have c2 := c0.trans (Kit.But.of_below b2 (Nat.le_refl _) _)))
  go_wp2
  go_ret2
  exact ⟨rfl, h3, c3⟩
end Sea
end Go.Proofs.Ytgdpamfphjehaaa
