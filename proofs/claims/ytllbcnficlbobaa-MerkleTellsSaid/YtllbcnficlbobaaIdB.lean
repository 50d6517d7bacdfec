/-
  Package ideal: the three tables that are asked; Hash, Mac.
-/
import Derived.Test.YtllbcnficlbobaaIdA
namespace Go.Proofs.Ytllbcnficlbobaa
open Go.RowKit Go.Maps
open Ideal

namespace Ida
set_option maxHeartbeats 2000000 in
theorem askStr {L : Lay} {S : St} {w : World} (h : Has w L S) (hn : S.drawn < 1152921504606846976) (s : ByteArray) (hs : s.size ≤ maxLen) :
    Calls Try.prog 47 #[ptr L, .map (some L.hs), .string s] w fun e w' => e = .returned (.int .u64 (((S.hashes s).getD S.next : Nat) : Int)) ∧ Has w' L (S.hash s) ∧ Kit.But L.own w w' := by
  obtain ⟨kl, hkl⟩ := at_str hs
  have hk := h.hs
  cases hg : S.hashes s with
  | some v =>
    have HS := Lib.hid (show S.hash s = S by unfold St.hash; rw [hg])
    have l1 : ((S.hashes s).map num).getD (.int .u64 0) = .int .u64 (v : Int) := by rw [hg]; rfl
    have l2 : (S.hashes s).isSome = true := by rw [hg]; rfl
    clear hg
    go_enter Try.func47, Try.ntmps47
    go_wp2_with (at_lookup; refine Kit.wpList_tab_look _ rfl _ _ 64 rfl 9 42 keyStr Try.underlying64 (zeroNum _) rfl str_inj hk s hkl rfl l1 l2 ?_)
    go_wp2
    go_ret
    refine ⟨rfl, ?_, Kit.But.refl _ _⟩
    rw [HS.out]
    exact h
  | none =>
    have HS := Lib.hid (show S.hash s = { S.fresh with hashes := upd S.hashes s S.next } by unfold St.hash; rw [hg])
    have l1 : ((S.hashes s).map num).getD (.int .u64 0) = .int .u64 0 := by rw [hg]; rfl
    have l2 : (S.hashes s).isSome = false := by rw [hg]; rfl
    have H := fresh_any h hn
    clear hg
    generalize hv : S.next = v at *
    clear hv
    go_enter Try.func47, Try.ntmps47
    go_wp2_with (at_lookup; refine Kit.wpList_tab_look _ rfl _ _ 64 rfl 9 42 keyStr Try.underlying64 (zeroNum _) rfl str_inj hk s hkl rfl l1 l2 ?_)
    clear l1 l2
    go_wp2_with fail
    refine H.mono ?_
    rintro e w1 ⟨rfl, h1, c1⟩
    have k1 := h1.hs
    clear H
    go_wp2_with (at_mapUpdate; refine Kit.wpList_tab_store _ rfl _ _ _ 64 rfl 9 42 keyStr Try.underlying64 rfl str_inj k1 s hkl rfl v rfl (upd S.hashes s v) (upd_at _ _ _) (upd_off _ _ _) ?_)
    intro w2 ht hg _
    have h2 := h1.hashes_ ht hg
    have c2 := c1.trans (Kit.But.of_grown (S := L.own) hg (fun k hk _ => (fun e => .inr (.inr (.inl e))) (Option.some.inj hk).symm))
    go_wp2
    go_ret
    refine ⟨rfl, ?_, c2⟩
    rw [HS.out]
    exact h2
set_option maxHeartbeats 1000000 in
theorem hash_any {L : Lay} {S : St} {w : World} (h : Has w L S) (hn : S.drawn < 1152921504606846976) (s : ByteArray) (hs : s.size ≤ maxLen) :
    Calls Try.prog 42 #[ptr L, .string s] w fun e w' => e = .returned (.int .u64 (((S.hashes s).getD S.next : Nat) : Int)) ∧ Has w' L (S.hash s) ∧ Kit.But L.own w w' := by
  have H := askStr h hn s hs
  obtain ⟨⟨c0, c1, c2, c3, c4, c5, c6, c7⟩, f1, f3⟩ := h.parts
  generalize (S.hashes s).getD S.next = v at *
  go_enter Try.func42, Try.ntmps42
  go_wp2_with fail
  refine H.mono ?_
  rintro e w1 ⟨rfl, h1, b1⟩
  go_wp2
  go_ret
  exact ⟨rfl, h1, b1⟩
end Ida
end Go.Proofs.Ytllbcnficlbobaa
