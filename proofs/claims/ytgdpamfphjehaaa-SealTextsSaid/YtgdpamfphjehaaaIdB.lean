/-
  Package ideal: the three tables that are asked; Hash, Mac.
-/
import Derived.Test.YtgdpamfphjehaaaIdA
namespace Go.Proofs.Ytgdpamfphjehaaa
open Go.RowKit Go.Maps
open Ideal

namespace Ida
set_option maxHeartbeats 2000000 in
theorem askSeal {L : Lay} {S : St} {w : World} (h : Has w L S) (hn : S.drawn < 1152921504606846976) (k : Nat) (hk0 : k < 18446744073709551616) (n : Nat) (hn0 : n < 18446744073709551616) (a : ByteArray) (ha : a.size ≤ maxLen) (b : ByteArray) (hb : b.size ≤ maxLen) :
    Calls Try.prog 46 #[ptr L, .map (some L.ss), .agg #[.int .u64 (k : Int), .int .u64 (n : Int), .string a, .string b]] w fun e w' => e = .returned (.int .u64 (((S.seals (k, n, a, b)).getD S.next : Nat) : Int)) ∧ Has w' L (S.seal1 (k, n, a, b)) ∧ Kit.But L.own w w' := by
  obtain ⟨kl, hkl⟩ := at_seal hk0 hn0 ha hb
  have h0 := h.alloc (.cells #[.int .u64 (k : Int), .int .u64 (n : Int), .string a, .string b] 84)
  have c0 : Kit.But L.own w (w.alloc (.cells #[.int .u64 (k : Int), .int .u64 (n : Int), .string a, .string b] 84)) := (Kit.But.refl _ w).alloc _
  have bx0 : (w.alloc (.cells #[.int .u64 (k : Int), .int .u64 (n : Int), .string a, .string b] 84)).heap[w.heap.size]? = some (.cells #[.int .u64 (k : Int), .int .u64 (n : Int), .string a, .string b] 84 (0, 0)) := (MapKept.heap_alloc w _).1
  have hown : ¬ L.own w.heap.size := fun ho => Nat.lt_irrefl _ (h.lt ho)
  have hk := h0.ss
  cases hg : S.seals (k, n, a, b) with
  | some v =>
    have HS := Lib.hid (show S.seal1 (k, n, a, b) = S by unfold St.seal1; rw [hg])
    have l1 : ((S.seals (k, n, a, b)).map num).getD (.int .u64 0) = .int .u64 (v : Int) := by rw [hg]; rfl
    have l2 : (S.seals (k, n, a, b)).isSome = true := by rw [hg]; rfl
    clear hg bx0 hown
    go_enter Try.func46, Try.ntmps46
    go_wp2_with (at_lookup; refine Kit.wpList_tab_look _ rfl _ _ 69 rfl 84 22 keySeal Try.underlying69 (zeroNum _) rfl sealKey_inj hk (k, n, a, b) hkl rfl l1 l2 ?_)
    go_wp2
    go_ret
    refine ⟨rfl, ?_, c0⟩
    rw [HS.out]
    exact h0
  | none =>
    have HS := Lib.hid (show S.seal1 (k, n, a, b) = { S.fresh with seals := upd S.seals (k, n, a, b) S.next } by unfold St.seal1; rw [hg])
    have l1 : ((S.seals (k, n, a, b)).map num).getD (.int .u64 0) = .int .u64 0 := by rw [hg]; rfl
    have l2 : (S.seals (k, n, a, b)).isSome = false := by rw [hg]; rfl
    have H := fresh_any h0 hn
    have Bx := Lib.hid bx0
    clear hg bx0
    generalize hv : S.next = v at *
    clear hv
    go_enter Try.func46, Try.ntmps46
    go_wp2_with (at_lookup; refine Kit.wpList_tab_look _ rfl _ _ 69 rfl 84 22 keySeal Try.underlying69 (zeroNum _) rfl sealKey_inj hk (k, n, a, b) hkl rfl l1 l2 ?_)
    clear l1 l2
    go_wp2_with fail
    refine H.mono ?_
    rintro e w1 ⟨rfl, h1, c1⟩
    have k1 := h1.ss
    have bx1 : w1.heap[w.heap.size]? = some (.cells #[.int .u64 (k : Int), .int .u64 (n : Int), .string a, .string b] 84 (0, 0)) := (c1.block _ (by simp) hown).trans Bx.out
    have c2 := c0.trans c1
    have p0 : w1.cell? ⟨w.heap.size, 0, none⟩ = some (.int .u64 (k : Int)) := by rw [Lib.cell_of_heap bx1]; rfl
    have p1 : w1.cell? ⟨w.heap.size, 1, none⟩ = some (.int .u64 (n : Int)) := by rw [Lib.cell_of_heap bx1]; rfl
    have p2 : w1.cell? ⟨w.heap.size, 2, none⟩ = some (.string a) := by rw [Lib.cell_of_heap bx1]; rfl
    have p3 : w1.cell? ⟨w.heap.size, 3, none⟩ = some (.string b) := by rw [Lib.cell_of_heap bx1]; rfl
    clear H bx1 c1 h0 h
    go_wp2_with (at_mapUpdate; refine Kit.wpList_tab_store _ rfl _ _ _ 69 rfl 84 22 keySeal Try.underlying69 rfl sealKey_inj k1 (k, n, a, b) hkl rfl v rfl (upd S.seals (k, n, a, b) v) (upd_at _ _ _) (upd_off _ _ _) ?_)
    intro w2 ht hg _
    have h2 := h1.seals_ ht hg
    have c3 := c2.trans (Kit.But.of_grown (S := L.own) hg (fun k hk _ => (fun e => .inr (.inr (.inr (.inr (.inl e))))) (Option.some.inj hk).symm))
    go_wp2
    go_ret
    refine ⟨rfl, ?_, c3⟩
    rw [HS.out]
    exact h2

end Ida
end Go.Proofs.Ytgdpamfphjehaaa
