/-
  The document's own Lock and Unlock.
-/
import Derived.Test.YtgdpamfphjehaaaSealR
import Derived.Test.YtgdpamfphjehaaaSealC
import Derived.Test.YtgdpamfphjehaaaFew
namespace Go.Proofs.Ytgdpamfphjehaaa.Sea
open Go.RowKit
open Ideal Ida Ref3

theorem _root_.Go.Proofs.Ytgdpamfphjehaaa.Box.but_or {K : Nat → Prop} {b : Nat} {w w' : World} {cs : Array Value} {T : TypeId} (h : Box b w cs T) (f : Fr (fun i => K i ∨ i = b) w w') : Box b w' cs T := h.but f (fun hn => hn (.inr rfl))
theorem few_draw {O : Or} (h1 : O.rows.length + 2 < 4294967296) (h2 : O.met.length < 4294967296) (h3 : O.bads + 2 < 4294967296) : Few O ∧ Few (O.draw q0) := by
  have hb : (O.draw q0).bads ≤ O.bads + 1 := by unfold Or.draw; simp only; split <;> omega
  exact ⟨⟨by omega, h2, by omega⟩, ⟨by rw [Or.len_draw]; omega, h2, by omega⟩⟩
theorem few_lock (O : Or) (k v s r e : Nat) (p : ByteArray) : (O.lockO k v s r e p).rows.length ≤ O.rows.length + 2 ∧ (O.lockO k v s r e p).met = O.met ∧ (O.lockO k v s r e p).bads ≤ O.bads + 2 := by
  have hb : (O.draw q0).bads ≤ O.bads + 1 := by unfold Or.draw; simp only; split <;> omega
  have h := few_ask (O.draw q0) (O.lockQ k v s r e p)
  exact ⟨Or.lock_len k v s r e p, h.2.1, by have := h.2.2; show ((O.draw q0).ask _).bads ≤ _; omega⟩

set_option maxRecDepth 100000 in
set_option maxHeartbeats 2000000 in
theorem rlock_any {K : Nat → Prop} {q : Nat} {w : World} {O : Or} (h : Ref K w q O) (hB : On K w) (h1 : O.rows.length + 2 < 4294967296) (h2 : O.met.length < 4294967296) (h3 : O.bads + 2 < 4294967296) (k v s r e : Nat) (hv : v < 18446744073709551616) (hs : s < 18446744073709551616) (hr : r < 18446744073709551616) (he : e < 18446744073709551616) (p : ByteArray) :
    Calls Try.prog 17 #[rptr q, .int .u64 (k : Int), .int .u64 (v : Int), .int .u64 (s : Int), .int .u64 (r : Int), .int .u64 (e : Int), .string p] w fun x w' => x = .returned (.agg #[.int .u64 ((O.lockL k v s r e p).v : Int), .int .u64 ((O.lockL k v s r e p).e : Int), .int .u64 ((O.lockL k v s r e p).n : Int), .int .u64 ((O.lockL k v s r e p).c : Int)]) ∧ Ref K w' q (O.lockO k v s r e p) ∧ Fr K w w' := by
  obtain ⟨fw, fw1⟩ := few_draw h1 h2 h3
  have cx := below_lit w (.cells #[.int .u64 0, .int .u64 0, .int .u64 0, .int .u64 0] 24)
  have h0 : Ref (fun i => K i ∨ i = w.heap.size) (w.alloc (.cells #[.int .u64 0, .int .u64 0, .int .u64 0, .int .u64 0] 24)) q O := (h.widen (K' := fun i => K i ∨ i = w.heap.size) (fun i hi hlt => hi.resolve_right (fun e => by omega))).below cx
  have hB0 : On (fun i => K i ∨ i = w.heap.size) (w.alloc (.cells #[.int .u64 0, .int .u64 0, .int .u64 0, .int .u64 0] 24)) := by
    intro i hi
    rw [World.size_alloc]
    rcases hi with hi | hi
    · have := hB i hi; omega
    · omega
  have B0 := Box.new w #[.int .u64 0, .int .u64 0, .int .u64 0, .int .u64 0] 24
  have c0 := but_alloc w (fun i => ¬ K i) (.cells #[.int .u64 0, .int .u64 0, .int .u64 0, .int .u64 0] 24)
  have hnar : ∀ {w1 w2 : World}, Fr (fun i => K i ∨ i = w.heap.size) w1 w2 → Fr K w1 w2 := fun f => f.wider (fun i _ hk hK => hk (.inl hK))
  have H1 := Ref3.fresh_any h0 hB0 fw
  have HA := fun w => rad_any v s r e hv hs hr he w
  have H2 := fun w' (h : Ref (fun i => K i ∨ i = w.heap.size) w' q (O.draw q0)) hB => Ref3.seal_any h hB fw1 k O.next (four v s r e) p
  show Calls Try.prog 17 #[rptr q, .int .u64 (k : Int), .int .u64 (v : Int), .int .u64 (s : Int), .int .u64 (r : Int), .int .u64 (e : Int), .string p] w fun x w' => x = .returned (.agg #[.int .u64 (r : Int), .int .u64 (e : Int), .int .u64 (O.next : Int), .int .u64 ((O.draw q0).val (qs k O.next (four v s r e) p) : Int)]) ∧ Ref K w' q ((O.draw q0).ask (qs k O.next (four v s r e) p)) ∧ Fr K w w'
  generalize (O.draw q0).val (qs k O.next (four v s r e) p) = c at *
  generalize (O.draw q0).ask (qs k O.next (four v s r e) p) = O2 at *
  generalize O.draw q0 = O1 at *
  generalize O.next = n at *
  generalize four v s r e = t at *
  clear h h0 h1 h2 h3 fw fw1 hB cx hv hs hr he
  have HB := Lib.hid hB0
  clear hB0
  go_enter Try.func17, Try.ntmps17
  go_wp2_with fail
  refine H1.mono ?_
  rintro x w1 ⟨rfl, h1, b1⟩
  have B1 := B0.but_or b1
  have c1 := c0.trans (hnar b1)
  have z1 := b1.size
  clear B0 c0 b1 H1
  go_wp2_with fail
  refine (HA _).mono ?_
  rintro x w2 ⟨rfl, b2⟩
  have h2 := h1.below b2
  have B2 := B1.below b2
  have c2 := c1.trans (Kit.But.of_below b2 (Nat.le_refl _) _)
  have z2 := Nat.le_trans z1 b2.size
  clear B1 c1 b2 h1 HA z1
  go_wp2_with fail
  refine (H2 _ h2 (on_of HB.out z2)).mono ?_
  rintro x w3 ⟨rfl, h3, b3⟩
  have B3 := B2.but_or b3
  have c3 := c2.trans (hnar b3)
  clear B2 c2 b3 h2 H2 z2
  have q0 := B3.cell (j := 0) rfl
  have q1 := B3.cell (j := 1) rfl
  have q2 := B3.cell (j := 2) rfl
  have q3 := B3.cell (j := 3) rfl
  have f0 := B3.frozen 0
  have f1 := B3.frozen 1
  have f2 := B3.frozen 2
  have f3 := B3.frozen 3
  have h4 := (h3.kept (fun i hi _ => put4_off (w := w3) (b := w.heap.size) (i := i) (fun e => hi (.inr e)) (.int .u64 (r : Int)) (.int .u64 (e : Int)) (.int .u64 (n : Int)) (.int .u64 (c : Int)))).widen (K' := K) (fun i hi _ => .inl hi)
  clear h3 hnar
  go_wp2
  refine bodyPost_ret (results_leaf1 rfl rfl (B3.put4 (.int .u64 (r : Int)) (.int .u64 (e : Int)) (.int .u64 (n : Int)) (.int .u64 (c : Int)))) rfl ?_
  exact ⟨rfl, h4, but_put4 c3 (fun e => absurd e (Nat.lt_irrefl _)) _ _ _ _⟩

set_option maxRecDepth 100000 in
set_option maxHeartbeats 4000000 in
theorem runlock_any {K : Nat → Prop} {q : Nat} {w : World} {O : Or} (h : Ref K w q O) (hB : On K w) (hf : Few O) (k v s : Nat) (hv : v < 18446744073709551616) (hs : s < 18446744073709551616) (l : Leaf) (hl : fine l) :
    Calls Try.prog 19 #[rptr q, .int .u64 (k : Int), .int .u64 (v : Int), .int .u64 (s : Int), .agg #[.int .u64 (l.v : Int), .int .u64 (l.e : Int), .int .u64 (l.n : Int), .int .u64 (l.c : Int)]] w fun x w' => x = .returned (.tuple #[.string ((O.openL k v s l).getD .empty), .bool (O.openL k v s l).isSome]) ∧ Ref K w' q (O.openO k v s l) ∧ Fr K w w' := by
  have cx := below_lit w (.cells #[.int .u64 (l.v : Int), .int .u64 (l.e : Int), .int .u64 (l.n : Int), .int .u64 (l.c : Int)] 24)
  have cd := cx.drew
  have h0 : Ref (fun i => K i ∨ i = w.heap.size) (w.alloc (.cells #[.int .u64 (l.v : Int), .int .u64 (l.e : Int), .int .u64 (l.n : Int), .int .u64 (l.c : Int)] 24)).drew q O := (h.widen (K' := fun i => K i ∨ i = w.heap.size) (fun i hi hlt => hi.resolve_right (fun e => by omega))).below cd
  have hB0 : On (fun i => K i ∨ i = w.heap.size) (w.alloc (.cells #[.int .u64 (l.v : Int), .int .u64 (l.e : Int), .int .u64 (l.n : Int), .int .u64 (l.c : Int)] 24)).drew := by
    intro i hi
    show i < (w.alloc (.cells #[.int .u64 (l.v : Int), .int .u64 (l.e : Int), .int .u64 (l.n : Int), .int .u64 (l.c : Int)] 24)).heap.size
    rw [World.size_alloc]
    rcases hi with hi | hi
    · have := hB i hi; omega
    · omega
  have B0 := (Box.new w #[.int .u64 (l.v : Int), .int .u64 (l.e : Int), .int .u64 (l.n : Int), .int .u64 (l.c : Int)] 24).drew
  have c0 := (but_alloc w (fun i => ¬ K i) (.cells #[.int .u64 (l.v : Int), .int .u64 (l.e : Int), .int .u64 (l.n : Int), .int .u64 (l.c : Int)] 24)).drew
  have hnar : ∀ {w1 w2 : World}, Fr (fun i => K i ∨ i = w.heap.size) w1 w2 → Fr K w1 w2 := fun f => f.wider (fun i _ hk hK => hk (.inl hK))
  have HA := fun w => rad_any v s l.v l.e hv hs hl.1 hl.2.1 w
  have H2 := fun w' (h : Ref (fun i => K i ∨ i = w.heap.size) w' q O) hB => Ref3.open_any h hB hf k l.n (four v s l.v l.e) l.c
  unfold Or.openL Or.openO
  generalize (O.plain k l.n (four v s l.v l.e) l.c).getD .empty = a at *
  generalize (O.plain k l.n (four v s l.v l.e) l.c).isSome = y at *
  generalize O.reopen k l.n (four v s l.v l.e) l.c = O2 at *
  generalize four v s l.v l.e = t at *
  generalize l.v = lv at *
  generalize l.e = le at *
  generalize l.n = ln at *
  generalize l.c = lc at *
  clear h hv hs hl hf hB cx cd
  have HB := Lib.hid hB0
  clear hB0
  go_enter Try.func19, Try.ntmps19
  go_upto_region 1 with (fail)
  go_region_held3 (fun w' => w'.cell? ⟨w.heap.size, 0, none⟩ = some (.int .u64 (lv : Int)) ∧ w'.cell? ⟨w.heap.size, 1, none⟩ = some (.int .u64 (le : Int)) ∧ w'.cell? ⟨w.heap.size, 2, none⟩ = some (.int .u64 (ln : Int)) ∧ w'.cell? ⟨w.heap.size, 3, none⟩ = some (.int .u64 (lc : Int)))
    (first | exact ⟨B0.cell rfl, B0.cell rfl, B0.cell rfl, B0.cell rfl⟩ | exact ⟨B2.cell rfl, B2.cell rfl, B2.cell rfl, B2.cell rfl⟩ | exact ⟨B3.cell rfl, B3.cell rfl, B3.cell rfl, B3.cell rfl⟩)
    (first
      | (go_at_call 35; refine (H2 _ h2 (on_of HB.out z2)).mono ?_; rintro x w3 ⟨rfl, h3, b3⟩; have B3 := B2.but_or b3; have c3 := c2.trans (hnar b3))
      | (go_at_call 25; refine (HA _).mono ?_; rintro x w2 ⟨rfl, b2⟩; have h2 := h0.below b2; have B2 := B0.below b2; have c2 := c0.trans (Kit.But.of_below b2 (Nat.le_refl _) _); have z2 := b2.size))
  have h4 := h3.widen (K' := K) (fun i hi _ => .inl hi)
  go_wp2
  go_ret2
  exact ⟨rfl, h4, c3⟩
end Go.Proofs.Ytgdpamfphjehaaa.Sea
