/-
  Package disk: Flush, Crash.
-/
import Derived.Test.YtolanlnabdbolaaDskD
namespace Go.Proofs.Ytolanlnabdbolaa
open Go.RowKit
namespace Dsk

set_option maxHeartbeats 1000000 in
theorem flush_any {w : World} {p : Nat} {K : Nat → Prop} {D : Dk} (h : Mem w p K D) (hl : D.pend.length < 2000) :
    Calls Try.prog 41 #[.pointer (some ⟨p, 0, none⟩)] w fun e w' => e = .returned (.tuple #[]) ∧ Mem w' p K D.flush ∧ Kit.But K w w' := by
  have c0 := below_lit w (.cells #[.pointer (some ⟨p, 0, none⟩)] 36)
  have X := Box.new w #[.pointer (some ⟨p, 0, none⟩)] 36
  have nb : ¬ K w.heap.size := fun hk => Nat.lt_irrefl _ (h.lt _ hk)
  have H := settle_whole (h.below c0) hl X nb
  have q0 := X.cell (j := 0) rfl
  have hmf : ∀ (fn : Fn) (first cap : Array Value) (w : World), (Instr.makeFunc fn first cap).run Try.prog w = .ok (.func fn first cap) w := fun _ _ _ _ => rfl
  go_enter Try.func41, Try.ntmps41
  go_wp2_with fail
  refine H.mono ?_
  rintro e w1 ⟨rfl, h1, hb⟩
  go_wp2
  go_end0
  exact ⟨rfl, h1, (Kit.But.of_below c0 (Nat.le_refl _) K).trans hb⟩

set_option maxHeartbeats 1000000 in
theorem crash_any {w : World} {p : Nat} {K : Nat → Prop} {D : Dk} (h : Mem w p K D) (hl : D.pend.length < 2000) {keep : List Int} {v : Value} (hv : RdK K w v (ints keep)) :
    Calls Try.prog 25 #[.pointer (some ⟨p, 0, none⟩), v] w fun e w' => e = .returned (.tuple #[]) ∧ Mem w' p K (D.crash keep) ∧ Kit.But K w w' := by
  obtain ⟨a, cap, rfl⟩ := hv.form
  have c0 := below_lit w (.cells #[.pointer (some ⟨p, 0, none⟩)] 36)
  have c1 := below_lit (w.alloc (.cells #[.pointer (some ⟨p, 0, none⟩)] 36)) (.cells #[.slice a (ints keep).length cap] 42)
  have X := (Box.new w #[.pointer (some ⟨p, 0, none⟩)] 36).below c1
  have Y := Box.new (w.alloc (.cells #[.pointer (some ⟨p, 0, none⟩)] 36)) #[.slice a (ints keep).length cap] 42
  rw [World.size_alloc] at Y
  have cc := c0.trans (c1.mono (by simp))
  have nb : ¬ K w.heap.size := fun hk => Nat.lt_irrefl _ (h.lt _ hk)
  have nc : ¬ K (w.heap.size + 1) := fun hk => by have := h.lt _ hk; omega
  have H := settle_part (h.below cc) hl X nb Y nc (hv.below cc)
  have q0 := X.cell (j := 0) rfl
  have hmf : ∀ (fn : Fn) (first cap : Array Value) (w : World), (Instr.makeFunc fn first cap).run Try.prog w = .ok (.func fn first cap) w := fun _ _ _ _ => rfl
  go_enter Try.func25, Try.ntmps25
  go_wp2_with fail
  refine H.mono ?_
  rintro e w1 ⟨rfl, h1, hb⟩
  go_wp2
  go_end0
  exact ⟨rfl, h1, (Kit.But.of_below cc (Nat.le_refl _) K).trans hb⟩
end Dsk
end Go.Proofs.Ytolanlnabdbolaa
