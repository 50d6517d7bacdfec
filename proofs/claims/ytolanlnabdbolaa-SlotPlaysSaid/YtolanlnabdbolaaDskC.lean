/-
  Package disk: the closures of Flush and Crash.
-/
import Derived.Test.YtolanlnabdbolaaDskB
namespace Go.Proofs.Ytolanlnabdbolaa
open Go.RowKit
namespace Dsk

def ints (l : List Int) : List Value := l.map fun n => Value.int .i64 n
theorem ints_len (l : List Int) : (ints l).length = l.length := by simp [ints]
theorem ints_at {l : List Int} {k : Nat} {c : Int} (h : l[k]? = some c) : (ints l)[k]? = some (.int .i64 c) := by simp [ints, h]

set_option maxHeartbeats 1000000 in
theorem whole_any (w : World) (p b k size : Nat) (hb : w.cell? ⟨b, 0, none⟩ = some (.pointer (some ⟨p, 0, none⟩))) (hp : w.cell? ⟨p, 0, none⟩ = some (.int .i64 (size : Int))) :
    Calls Try.prog 54 #[.int .i64 (k : Int), .pointer (some ⟨b, 0, none⟩)] w fun e w' => e = .returned (.int .i64 (size : Int)) ∧ Below w.heap.size w w' := by
  go_enter Try.func54, Try.ntmps54
  go_wp2
  go_ret
  exact ⟨rfl, Below.refl _ _⟩

set_option maxHeartbeats 1000000 in
theorem part_any (w : World) (p b c k size : Nat) (keep : List Int) (v : Value) (hv : Kit.Rd w v (ints keep)) (hc : w.cell? ⟨c, 0, none⟩ = some v) (hb : w.cell? ⟨b, 0, none⟩ = some (.pointer (some ⟨p, 0, none⟩))) (hp : w.cell? ⟨p, 0, none⟩ = some (.int .i64 (size : Int))) :
    Calls Try.prog 44 #[.int .i64 (k : Int), .pointer (some ⟨c, 0, none⟩), .pointer (some ⟨b, 0, none⟩)] w fun e w' => e = .returned (.int .i64 (Dk.keepOf keep size k : Int)) ∧ Below w.heap.size w w' := by
  obtain ⟨a, cap, rfl⟩ := hv.form
  rw [ints_len] at hv hc
  by_cases hlt : k < keep.length
  · obtain ⟨x, hx⟩ : ∃ x, keep[k]? = some x := ⟨_, List.getElem?_eq_getElem hlt⟩
    obtain ⟨ad, rfl, hat⟩ := hv.at_ (ints_at hx)
    have e : (Dk.keepOf keep size k : Int) = min (max x 0) (size : Int) := by
      unfold Dk.keepOf
      rw [hx]
      dsimp only
      split
      · omega
      · split <;> omega
    rw [e]
    have g1 : decide ((k : Int) ≥ (keep.length : Int)) = false := by rw [decide_eq_false_iff_not]; omega
    have g2 : decide (keep.length ≤ k) = false := by rw [decide_eq_false_iff_not]; omega
    have g3 : (k : Int) < (keep.length : Int) := by omega
    have hc' : w.drew.cell? ⟨c, 0, none⟩ = some (.slice (some ad) keep.length cap) := hc
    have hb' : w.drew.cell? ⟨b, 0, none⟩ = some (.pointer (some ⟨p, 0, none⟩)) := hb
    have hp' : w.drew.cell? ⟨p, 0, none⟩ = some (.int .i64 (size : Int)) := hp
    have hat' : w.drew.cell? (ad.add k) = some (.int .i64 x) := hat
    clear hv e hx
    go_enter Try.func44, Try.ntmps44
    go_wp2
    go_region
    all_goals go_wp2
    all_goals go_ret
    all_goals exact ⟨rfl, (Below.refl _ _).drew⟩
  · have e : (Dk.keepOf keep size k : Int) = 0 := by
      unfold Dk.keepOf
      rw [List.getElem?_eq_none (by omega)]
      rfl
    rw [e]
    have g1 : decide ((k : Int) ≥ (keep.length : Int)) = true := by rw [decide_eq_true_iff]; omega
    have g2 : decide (keep.length ≤ k) = true := by rw [decide_eq_true_iff]; omega
    clear hv e
    go_enter Try.func44, Try.ntmps44
    go_wp2
    go_ret
    exact ⟨rfl, Below.refl _ _⟩
end Dsk
end Go.Proofs.Ytolanlnabdbolaa
