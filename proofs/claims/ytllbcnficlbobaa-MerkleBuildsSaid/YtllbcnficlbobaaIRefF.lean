/-
  The document's own oracle: Open, New.
-/
import Derived.Test.YtllbcnficlbobaaIRefE
import Derived.Laws.AppendOwnNone
namespace Go.Proofs.Ytllbcnficlbobaa.Ref3
open Go.RowKit
open Ideal Ida

theorem new_at (w : World) (B : Nat) (l : List Nat) (hx : ∀ x ∈ l, x < 18446744073709551616) (v : Value) (hB : B ≤ w.heap.size) (hv : w.ownsRow B 42 1 v l.length (nums l)) :
    Ref (fun k => k < B) (w.alloc (.cells #[v, .slice none 0 0, .slice none 0 0, .int .i64 0] 72)) w.heap.size (Or.new l) := by
  have h0 : w.ownsRow 0 42 1 v l.length (nums l) := ⟨hv.1, hv.2.imp id (fun ⟨g, cap, cur, e, _, r⟩ => ⟨g, cap, cur, e, Nat.zero_le _, r⟩)⟩
  refine ⟨v, _, _, (MapKept.heap_alloc w _).1, Nat.not_lt.2 hB, h0.alloc _, World.ownsRow_nil _ _ _ _, World.ownsRow_nil _ _ _ _, ?_, Or.fine_new hx, fun g hg => Nat.not_lt.2 (hv.lt g hg).1, ?_, ?_⟩
  · intro g _
    simp [Value.ownBlock]
  · intro g hg
    simp [Value.ownBlock] at hg
  · intro g hg
    simp [Value.ownBlock] at hg
set_option maxHeartbeats 2000000 in
theorem new_any (l : List Nat) (hl : l.length * 8 ≤ 140737488355328) (hx : ∀ x ∈ l, x < 18446744073709551616) (v : Value) (w : World) (hv : Kit.Sl w v (nums l)) :
    Calls Try.prog 10 #[v] w fun e w' => ∃ q, e = .returned (rptr q) ∧ Ref (fun k => k < w.heap.size) w' q (Or.new l) ∧ Below w.heap.size w w' := by
  have hll : (nums l).length = l.length := by simp [nums]
  obtain ⟨i0, hi, hz0, hz1, hz2⟩ := info_parts infoU64
  have hrow : (w.alloc (.cells #[] 42)).ownsRow w.heap.size 42 1 (.slice (some ⟨w.heap.size, 0, none⟩) 0 0) 0 [] := World.ownsRow_made w #[] 0 (Nat.le_refl _) (by unfold maxLen; omega) rfl
  rcases hv with ⟨rfl, hnil⟩ | ⟨ad, cap, rfl, hcell⟩
  · obtain rfl : l = [] := List.eq_nil_of_length_eq_zero (by rw [← hll, hnil]; rfl)
    have hfin := new_at (w.alloc (.cells #[] 42)) w.heap.size [] hx _ (by simp) hrow
    rw [World.size_alloc] at hfin
    have b : Below w.heap.size w ((w.alloc (.cells #[] 42)).alloc (.cells #[.slice (some ⟨w.heap.size, 0, none⟩) 0 0, .slice none 0 0, .slice none 0 0, .int .i64 0] 72)) := ((Below.refl w.heap.size w).alloc (Nat.le_refl _) _).alloc (by simp) _
    have HH := Lib.hid (And.intro hfin b)
    clear hfin b hnil hll
    go_enter Try.func10, Try.ntmps10
    go_wp2_with (at_builtin; refine wpList_append_own_none rfl _ _ 22 rfl w.heap.size 42 i0 1 Try.underlying22 hi _ _ _ rfl hrow rfl ?_)
    go_wp2
    go_ret
    obtain ⟨h1, h2⟩ := HH.out
    exact ⟨_, rfl, h1, h2⟩
  · rw [hll]
    have hc' : ∀ j u, (nums l)[j]? = some u → (w.alloc (.cells #[] 42)).cell? (ad.add j) = some u := fun j u hu => by
      have h1 := hcell j u hu
      rw [(((Below.refl w.heap.size w).alloc (Nat.le_refl _) _).cell (World.block_lt_of_cell? _ _ h1))]
      exact h1
    clear hcell
    go_enter Try.func10, Try.ntmps10
    go_wp2_with (at_builtin; refine wpList_append_own _ rfl _ _ 22 rfl w.heap.size 42 i0 (.int .u64 0) 1 8 Try.underlying22 hi hz0 hz1 hz2 rfl (by decide) _ _ _ rfl hrow ad l.length cap (nums l) rfl (by rw [hll]; omega) hc' (nums_one l) ?c3 ?c4 ?c5 ?_)
    case c3 => unfold maxLen; omega
    case c4 => omega
    case c5 => simp
    intro v' w1 hown hg _
    have hb : Below w.heap.size w w1 := ((Below.refl w.heap.size w).alloc (Nat.le_refl _) (.cells #[] 42)).grown hg (by simp) (fun k hk => by simp [Value.ownBlock] at hk; omega)
    have hown : w1.ownsRow w.heap.size 42 1 v' l.length (nums l) := by simpa using hown
    obtain ⟨av, nv, rfl⟩ := own_form hown
    have hfin := new_at w1 w.heap.size l hx _ hb.size hown
    have b := hb.alloc hb.size (.cells #[.slice av l.length nv, .slice none 0 0, .slice none 0 0, .int .i64 0] 72)
    have HH := Lib.hid (And.intro hfin b)
    clear hfin b hown hg hrow hc'
    go_wp2
    go_ret
    obtain ⟨h1, h2⟩ := HH.out
    exact ⟨_, rfl, h1, h2⟩
end Go.Proofs.Ytllbcnficlbobaa.Ref3
