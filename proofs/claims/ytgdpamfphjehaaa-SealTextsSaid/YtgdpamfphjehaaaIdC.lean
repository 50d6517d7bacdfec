/-
  Package ideal: Seal, Verify, Open.
-/
import Derived.Test.YtgdpamfphjehaaaIdB
import Derived.StillTailTactics
namespace Go.Proofs.Ytgdpamfphjehaaa
open Go.RowKit Go.Maps
open Ideal

namespace Ida
theorem Has.put {w : World} {L : Lay} {S : St} (h : Has w L S) {a : Addr} (ha : ¬ L.own a.block) (hd : ∀ k, L.dv.ownBlock = some k → k ≠ a.block) (u : Value) : Has (w.setCell a u) L S :=
  h.but (but_set w a u) (fun _ hi e => ha (e ▸ hi)) hd
theorem Has.drewN {w : World} {L : Lay} {S : St} (h : Has w L S) (n : Nat) : Has (w.drewN n) L S := h.below (below_drewN (Below.refl _ _) n)

theorem seal1_lt {w : World} {L : Lay} {S : St} (h : Has w L S) (hn : S.drawn < 1152921504606846976) (hw : ∀ x v, S.seals x = some v → v < 18446744073709551616) (x : Nat × Nat × ByteArray × ByteArray) : (S.seals x).getD S.next < 18446744073709551616 := by
  cases hg : S.seals x with
  | none => exact next_lt h hn
  | some v => exact hw x v hg

set_option maxHeartbeats 4000000 in
theorem seal_any {L : Lay} {S : St} {w : World} (h : Has w L S) (hn : S.drawn < 1152921504606846976) (hw : ∀ x v, S.seals x = some v → v < 18446744073709551616) (k : Nat) (hk0 : k < 18446744073709551616) (n : Nat) (hn0 : n < 18446744073709551616) (a : ByteArray) (ha : a.size ≤ maxLen) (b : ByteArray) (hb : b.size ≤ maxLen) :
    Calls Try.prog 37 #[ptr L, .int .u64 (k : Int), .int .u64 (n : Int), .string a, .string b] w fun e w' => e = .returned (.int .u64 (((S.seals (k, n, a, b)).getD S.next : Nat) : Int)) ∧
      Has w' L ((S.seal1 (k, n, a, b)).keep (k, n, a, (S.seals (k, n, a, b)).getD S.next) b) ∧ Kit.But L.own w w' := by
  have H := askSeal h hn k hk0 n hn0 a ha b hb
  obtain ⟨⟨c0, c1, c2, c3, c4, c5, c6, c7⟩, f1, f3⟩ := h.parts
  have hc := seal1_lt h hn hw (k, n, a, b)
  clear hw
  obtain ⟨kl, hkl⟩ := at_open hk0 hn0 ha hc
  generalize (S.seals (k, n, a, b)).getD S.next = c at *
  generalize S.seal1 (k, n, a, b) = S1 at *
  go_enter Try.func37, Try.ntmps37
  go_wp2_with fail
  refine H.mono ?_
  rintro e w1 ⟨rfl, h1, b1⟩
  have h2 := h1.alloc (.cells #[.int .u64 (k : Int), .int .u64 (n : Int), .string a, .int .u64 (c : Int)] 79)
  have b2 := b1.alloc (.cells #[.int .u64 (k : Int), .int .u64 (n : Int), .string a, .int .u64 (c : Int)] 79)
  have bx : (w1.alloc (.cells #[.int .u64 (k : Int), .int .u64 (n : Int), .string a, .int .u64 (c : Int)] 79)).heap[w1.heap.size]? = some (.cells #[.int .u64 (k : Int), .int .u64 (n : Int), .string a, .int .u64 (c : Int)] 79 (0, 0)) := (MapKept.heap_alloc w1 _).1
  obtain ⟨⟨-, -, -, -, -, -, -, c7⟩, -, -⟩ := h2.parts
  have p0 : (w1.alloc (.cells #[.int .u64 (k : Int), .int .u64 (n : Int), .string a, .int .u64 (c : Int)] 79)).cell? ⟨w1.heap.size, 0, none⟩ = some (.int .u64 (k : Int)) := by rw [Lib.cell_of_heap bx]; rfl
  have p1 : (w1.alloc (.cells #[.int .u64 (k : Int), .int .u64 (n : Int), .string a, .int .u64 (c : Int)] 79)).cell? ⟨w1.heap.size, 1, none⟩ = some (.int .u64 (n : Int)) := by rw [Lib.cell_of_heap bx]; rfl
  have p2 : (w1.alloc (.cells #[.int .u64 (k : Int), .int .u64 (n : Int), .string a, .int .u64 (c : Int)] 79)).cell? ⟨w1.heap.size, 2, none⟩ = some (.string a) := by rw [Lib.cell_of_heap bx]; rfl
  have p3 : (w1.alloc (.cells #[.int .u64 (k : Int), .int .u64 (n : Int), .string a, .int .u64 (c : Int)] 79)).cell? ⟨w1.heap.size, 3, none⟩ = some (.int .u64 (c : Int)) := by rw [Lib.cell_of_heap bx]; rfl
  clear bx h1 b1 H h c0 c1 c2 c3 c4 c5 c6 f1 f3
  go_wp2
  generalize w1.alloc (.cells #[.int .u64 (k : Int), .int .u64 (n : Int), .string a, .int .u64 (c : Int)] 79) = w2 at *
  have hrun : ∀ m, (Instr.lookup 70 (.map (some L.ps)) (.agg #[.int .u64 (k : Int), .int .u64 (n : Int), .string a, .int .u64 (c : Int)]) true).run Try.prog (w2.drewN m) = .ok (.tuple #[((S1.plains (k, n, a, c)).map Value.string).getD (.string ⟨#[]⟩), .bool (S1.plains (k, n, a, c)).isSome]) (w2.drewN m) :=
    fun m => (h2.drewN m).ps.look openKey_inj keyOpen Try.underlying70 (zeroStr _) (x := (k, n, a, c)) hkl
  cases hg : S1.plains (k, n, a, c) with
  | some u =>
    have HS := Lib.hid (show S1.keep (k, n, a, c) b = S1 by unfold St.keep; rw [hg])
    simp only [hg, Option.map_some, Option.getD_some, Option.isSome_some] at hrun
    clear hg
    go_quiet (fail)
    have h3 := h2.drewN nq
    go_wp2
    go_ret
    refine ⟨rfl, ?_, b2.trans (Kit.But.of_below (below_drewN (Below.refl _ _) nq) (Nat.le_refl _) _)⟩
    rw [HS.out]
    exact h3
  | none =>
    have HS := Lib.hid (show S1.keep (k, n, a, c) b = { S1 with plains := upd S1.plains (k, n, a, c) b } by unfold St.keep; rw [hg])
    simp only [hg, Option.map_none, Option.getD_none, Option.isSome_none] at hrun
    clear hg
    go_quiet (fail)
    clear hrun
    have h3 := h2.drewN nq
    have b3 := b2.trans (Kit.But.of_below (S := L.own) (below_drewN (Below.refl _ w2) nq) (Nat.le_refl _))
    have q7 : (w2.drewN nq).cell? ⟨L.p, 7, none⟩ = some (.map (some L.ps)) := c7
    have r0 : (w2.drewN nq).cell? ⟨w1.heap.size, 0, none⟩ = some (.int .u64 (k : Int)) := p0
    have r1 : (w2.drewN nq).cell? ⟨w1.heap.size, 1, none⟩ = some (.int .u64 (n : Int)) := p1
    have r2 : (w2.drewN nq).cell? ⟨w1.heap.size, 2, none⟩ = some (.string a) := p2
    have r3 : (w2.drewN nq).cell? ⟨w1.heap.size, 3, none⟩ = some (.int .u64 (c : Int)) := p3
    clear h2 b2 c7 p0 p1 p2 p3
    go_wp2
    generalize w2.drewN nq = w3 at *
    go_still_tail 6, (by kernel_rfl)
    have h4 := h3.drew
    have b4 : Kit.But L.own w w3.drew := b3.drew
    change wpList _ _ _ _ _ w3.drew
    refine Kit.wpList_tab_store _ rfl _ _ _ 70 rfl 79 9 keyOpen Try.underlying70 rfl openKey_inj h4.ps (k, n, a, c) hkl rfl b rfl (upd S1.plains (k, n, a, c) b) (upd_at _ _ _) (upd_off _ _ _) ?_
    intro w4 ht hg _
    have h5 := h4.plains_ ht hg
    have b5 := b4.trans (Kit.But.of_grown (S := L.own) hg (fun k hk _ => .inr (.inr (.inr (.inr (.inr (Option.some.inj hk).symm))))))
    go_wp2
    go_ret
    refine ⟨rfl, ?_, b5⟩
    rw [HS.out]
    exact h5

set_option maxHeartbeats 2000000 in
theorem open_any {L : Lay} {S : St} {w : World} (hO : Has w L S) (k : Nat) (hk0 : k < 18446744073709551616) (n : Nat) (hn0 : n < 18446744073709551616) (a : ByteArray) (ha : a.size ≤ maxLen) (c : Nat) (hc : c < 18446744073709551616) :
    Calls Try.prog 34 #[ptr L, .int .u64 (k : Int), .int .u64 (n : Int), .string a, .int .u64 (c : Int)] w fun e w' => e = .returned (.tuple #[.string ((S.plains (k, n, a, c)).getD .empty), .bool (S.plains (k, n, a, c)).isSome]) ∧
      Has w' L (if (S.plains (k, n, a, c)).isSome then S else S.meet c) ∧ Kit.But L.own w w' := by
  have H := meet_any hO c hc
  obtain ⟨⟨-, -, -, -, -, -, -, c7⟩, -, -⟩ := hO.parts
  obtain ⟨kl, hkl⟩ := at_open hk0 hn0 ha hc
  have hm := hO.ps
  cases hg : S.plains (k, n, a, c) with
  | none =>
    have l1 : ((S.plains (k, n, a, c)).map Value.string).getD (.string ⟨#[]⟩) = .string ⟨#[]⟩ := by rw [hg]; rfl
    have l2 : (S.plains (k, n, a, c)).isSome = false := by rw [hg]; rfl
    clear hg
    go_enter Try.func34, Try.ntmps34
    go_wp2_with (at_lookup; refine Kit.wpList_tab_look _ rfl _ _ 70 rfl 79 9 keyOpen Try.underlying70 (zeroStr _) rfl openKey_inj hm (k, n, a, c) hkl rfl l1 l2 ?_)
    clear l1 l2
    go_wp2_with fail
    refine H.mono ?_
    rintro e w1 ⟨rfl, h1, b1⟩
    go_wp2
    go_ret2
    exact ⟨rfl, h1, b1⟩
  | some v =>
    have l1 : ((S.plains (k, n, a, c)).map Value.string).getD (.string ⟨#[]⟩) = .string v := by rw [hg]; rfl
    have l2 : (S.plains (k, n, a, c)).isSome = true := by rw [hg]; rfl
    clear hg
    go_enter Try.func34, Try.ntmps34
    go_wp2_with (at_lookup; refine Kit.wpList_tab_look _ rfl _ _ 70 rfl 79 9 keyOpen Try.underlying70 (zeroStr _) rfl openKey_inj hm (k, n, a, c) hkl rfl l1 l2 ?_)
    go_wp2
    go_ret2
    exact ⟨rfl, hO, Kit.But.refl _ _⟩
end Ida
end Go.Proofs.Ytgdpamfphjehaaa
