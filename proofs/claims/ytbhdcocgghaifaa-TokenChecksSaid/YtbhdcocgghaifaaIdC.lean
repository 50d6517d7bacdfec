/-
  Package ideal: Seal, Verify, Open.
-/
import Derived.Test.YtbhdcocgghaifaaIdB
import Derived.StillTailTactics
namespace Go.Proofs.Ytbhdcocgghaifaa
open Go.RowKit Go.Maps
open Ideal

namespace Ida
theorem Has.put {w : World} {L : Lay} {S : St} (h : Has w L S) {a : Addr} (ha : ¬ L.own a.block) (hd : ∀ k, L.dv.ownBlock = some k → k ≠ a.block) (u : Value) : Has (w.setCell a u) L S :=
  h.but (but_set w a u) (fun _ hi e => ha (e ▸ hi)) hd
theorem Has.drewN {w : World} {L : Lay} {S : St} (h : Has w L S) (n : Nat) : Has (w.drewN n) L S := h.below (below_drewN (Below.refl _ _) n)

theorem seal1_lt {w : World} {L : Lay} {S : St} (h : Has w L S) (hn : S.drawn < 1152921504606846976) (hw : ∀ x v, S.seals x = some v → v < 18446744073709551616) (x : Nat × Nat × ByteArray × ByteArray) : (S.seals x).getD S.next < 18446744073709551616 := by
  cases hg : S.seals x with
  | none => exact next_lt h hn
  | some v => exact hw x v hg

set_option maxHeartbeats 2000000 in
theorem verify_any {L : Lay} {S : St} {w : World} (hO : Has w L S) (k : Nat) (hk0 : k < 18446744073709551616) (s : ByteArray) (hs : s.size ≤ maxLen) (tag : Nat) (ht0 : tag < 18446744073709551616) :
    Calls Try.prog 31 #[ptr L, .int .u64 (k : Int), .string s, .int .u64 (tag : Int)] w fun e w' => e = .returned (.bool (S.macs (k, s) == some tag)) ∧
      Has w' L (if S.macs (k, s) == some tag then S else S.meet tag) ∧ Kit.But L.own w w' := by
  have H := meet_any hO tag ht0
  obtain ⟨⟨-, -, -, -, -, c5, -, -⟩, -, -⟩ := hO.parts
  obtain ⟨kl, hkl⟩ := at_mac hk0 hs
  have hm := hO.ms
  cases hg : S.macs (k, s) with
  | none =>
    have l1 : ((S.macs (k, s)).map num).getD (.int .u64 0) = .int .u64 0 := by rw [hg]; rfl
    have l2 : (S.macs (k, s)).isSome = false := by rw [hg]; rfl
    clear hg
    go_enter Try.func31, Try.ntmps31
    go_wp2_with (at_lookup; refine Kit.wpList_tab_look _ rfl _ _ 65 rfl 77 22 keyMac Try.underlying65 (zeroNum _) rfl macKey_inj hm (k, s) hkl rfl l1 l2 ?_)
    clear l1 l2
    go_wp2_with fail
    refine H.mono ?_
    rintro e w1 ⟨rfl, h1, b1⟩
    go_wp2
    go_ret
    exact ⟨rfl, h1, b1⟩
  | some v =>
    have l1 : ((S.macs (k, s)).map num).getD (.int .u64 0) = .int .u64 (v : Int) := by rw [hg]; rfl
    have l2 : (S.macs (k, s)).isSome = true := by rw [hg]; rfl
    clear hg
    by_cases hv : v = tag
    · have hv1 : ((v : Int) == (tag : Int)) = true := by rw [beq_iff_eq]; omega
      have hv2 : (some v == some tag) = true := by simpa using hv
      rw [hv2]
      clear hv hv2
      go_enter Try.func31, Try.ntmps31
      go_wp2_with (at_lookup; refine Kit.wpList_tab_look _ rfl _ _ 65 rfl 77 22 keyMac Try.underlying65 (zeroNum _) rfl macKey_inj hm (k, s) hkl rfl l1 l2 ?_)
      go_wp2
      go_ret
      exact ⟨rfl, hO, Kit.But.refl _ _⟩
    · have hv1 : ((v : Int) == (tag : Int)) = false := by rw [beq_eq_false_iff_ne]; omega
      have hv2 : (some v == some tag) = false := by simpa using hv
      rw [hv2]
      clear hv hv2
      go_enter Try.func31, Try.ntmps31
      go_wp2_with (at_lookup; refine Kit.wpList_tab_look _ rfl _ _ 65 rfl 77 22 keyMac Try.underlying65 (zeroNum _) rfl macKey_inj hm (k, s) hkl rfl l1 l2 ?_)
      clear l1 l2
      go_wp2_with fail
      refine H.mono ?_
      rintro e w1 ⟨rfl, h1, b1⟩
      go_wp2
      go_ret
      exact ⟨rfl, h1, b1⟩

end Ida
end Go.Proofs.Ytbhdcocgghaifaa
