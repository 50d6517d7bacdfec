/-
  Package ideal: the three tables that are asked; Hash, Mac.
-/
import Derived.Test.YtbhdcocgghaifaaIdA
namespace Go.Proofs.Ytbhdcocgghaifaa
open Go.RowKit Go.Maps
open Ideal

namespace Ida
set_option maxHeartbeats 2000000 in
theorem askMac {L : Lay} {S : St} {w : World} (h : Has w L S) (hn : S.drawn < 1152921504606846976) (k : Nat) (hk0 : k < 18446744073709551616) (s : ByteArray) (hs : s.size ≤ maxLen) :
    Calls Try.prog 41 #[ptr L, .map (some L.ms), .agg #[.int .u64 (k : Int), .string s]] w fun e w' => e = .returned (.int .u64 (((S.macs (k, s)).getD S.next : Nat) : Int)) ∧ Has w' L (S.mac (k, s)) ∧ Kit.But L.own w w' := by
  obtain ⟨kl, hkl⟩ := at_mac hk0 hs
  have h0 := h.alloc (.cells #[.int .u64 (k : Int), .string s] 77)
  have c0 : Kit.But L.own w (w.alloc (.cells #[.int .u64 (k : Int), .string s] 77)) := (Kit.But.refl _ w).alloc _
  have bx0 : (w.alloc (.cells #[.int .u64 (k : Int), .string s] 77)).heap[w.heap.size]? = some (.cells #[.int .u64 (k : Int), .string s] 77 (0, 0)) := (MapKept.heap_alloc w _).1
  have hown : ¬ L.own w.heap.size := fun ho => Nat.lt_irrefl _ (h.lt ho)
  have hk := h0.ms
  cases hg : S.macs (k, s) with
  | some v =>
    have HS := Lib.hid (show S.mac (k, s) = S by unfold St.mac; rw [hg])
    have l1 : ((S.macs (k, s)).map num).getD (.int .u64 0) = .int .u64 (v : Int) := by rw [hg]; rfl
    have l2 : (S.macs (k, s)).isSome = true := by rw [hg]; rfl
    clear hg bx0 hown
    go_enter Try.func41, Try.ntmps41
    go_wp2_with (at_lookup; refine Kit.wpList_tab_look _ rfl _ _ 65 rfl 77 22 keyMac Try.underlying65 (zeroNum _) rfl macKey_inj hk (k, s) hkl rfl l1 l2 ?_)
    go_wp2
    go_ret
    refine ⟨rfl, ?_, c0⟩
    rw [HS.out]
    exact h0
  | none =>
    have HS := Lib.hid (show S.mac (k, s) = { S.fresh with macs := upd S.macs (k, s) S.next } by unfold St.mac; rw [hg])
    have l1 : ((S.macs (k, s)).map num).getD (.int .u64 0) = .int .u64 0 := by rw [hg]; rfl
    have l2 : (S.macs (k, s)).isSome = false := by rw [hg]; rfl
    have H := fresh_any h0 hn
    have Bx := Lib.hid bx0
    clear hg bx0
    generalize hv : S.next = v at *
    clear hv
    go_enter Try.func41, Try.ntmps41
    go_wp2_with (at_lookup; refine Kit.wpList_tab_look _ rfl _ _ 65 rfl 77 22 keyMac Try.underlying65 (zeroNum _) rfl macKey_inj hk (k, s) hkl rfl l1 l2 ?_)
    clear l1 l2
    go_wp2_with fail
    refine H.mono ?_
    rintro e w1 ⟨rfl, h1, c1⟩
    have k1 := h1.ms
    have bx1 : w1.heap[w.heap.size]? = some (.cells #[.int .u64 (k : Int), .string s] 77 (0, 0)) := (c1.block _ (by simp) hown).trans Bx.out
    have c2 := c0.trans c1
    have p0 : w1.cell? ⟨w.heap.size, 0, none⟩ = some (.int .u64 (k : Int)) := by rw [Lib.cell_of_heap bx1]; rfl
    have p1 : w1.cell? ⟨w.heap.size, 1, none⟩ = some (.string s) := by rw [Lib.cell_of_heap bx1]; rfl
    clear H bx1 c1 h0 h
    go_wp2_with (at_mapUpdate; refine Kit.wpList_tab_store _ rfl _ _ _ 65 rfl 77 22 keyMac Try.underlying65 rfl macKey_inj k1 (k, s) hkl rfl v rfl (upd S.macs (k, s) v) (upd_at _ _ _) (upd_off _ _ _) ?_)
    intro w2 ht hg _
    have h2 := h1.macs_ ht hg
    have c3 := c2.trans (Kit.But.of_grown (S := L.own) hg (fun k hk _ => (fun e => .inr (.inr (.inr (.inl e)))) (Option.some.inj hk).symm))
    go_wp2
    go_ret
    refine ⟨rfl, ?_, c3⟩
    rw [HS.out]
    exact h2
set_option maxHeartbeats 1000000 in
theorem mac_any {L : Lay} {S : St} {w : World} (h : Has w L S) (hn : S.drawn < 1152921504606846976) (k : Nat) (hk0 : k < 18446744073709551616) (s : ByteArray) (hs : s.size ≤ maxLen) :
    Calls Try.prog 35 #[ptr L, .int .u64 (k : Int), .string s] w fun e w' => e = .returned (.int .u64 (((S.macs (k, s)).getD S.next : Nat) : Int)) ∧ Has w' L (S.mac (k, s)) ∧ Kit.But L.own w w' := by
  have H := askMac h hn k hk0 s hs
  obtain ⟨⟨c0, c1, c2, c3, c4, c5, c6, c7⟩, f1, f3⟩ := h.parts
  generalize (S.macs (k, s)).getD S.next = v at *
  go_enter Try.func35, Try.ntmps35
  go_wp2_with fail
  refine H.mono ?_
  rintro e w1 ⟨rfl, h1, b1⟩
  go_wp2
  go_ret
  exact ⟨rfl, h1, b1⟩
end Ida
end Go.Proofs.Ytbhdcocgghaifaa
