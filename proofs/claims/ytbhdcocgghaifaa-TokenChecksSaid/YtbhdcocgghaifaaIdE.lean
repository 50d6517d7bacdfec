/-
  Package ideal: New; the library's Clone.
-/
import Derived.Test.YtbhdcocgghaifaaIdD
import Derived.Laws.AppendOwnNone
import Derived.Lib.SliceRun
namespace Go.Proofs.Ytbhdcocgghaifaa
open Go.RowKit Go.Maps
open Ideal

/-- A slice as it came in, or was made: nil, or with an address. -/
def Kit.Sl (w : World) (v : Value) (xs : List Value) : Prop :=
  (v = .slice none 0 0 ∧ xs = []) ∨ ∃ ad cap, v = .slice (some ad) xs.length cap ∧ ∀ j u, xs[j]? = some u → w.cell? (ad.add j) = some u
theorem Kit.Sl.rd {w : World} {v : Value} {xs : List Value} (h : Kit.Sl w v xs) : Kit.Rd w v xs := by
  rcases h with ⟨rfl, rfl⟩ | ⟨ad, cap, rfl, h⟩
  · exact Kit.Rd.nil_ w
  · exact ⟨some ad, cap, rfl, .inr ⟨ad, rfl, h⟩⟩
theorem Kit.Sl.below {w w' : World} {v : Value} {xs : List Value} (h : Kit.Sl w v xs) (hb : Below w.heap.size w w') : Kit.Sl w' v xs := by
  rcases h with h | ⟨ad, cap, rfl, h⟩
  · exact .inl h
  · exact .inr ⟨ad, cap, rfl, fun j u hu => by
      have h1 := h j u hu
      rw [hb.cell (World.block_lt_of_cell? _ _ h1)]
      exact h1⟩
theorem Kit.Sl.of_own {w : World} {B : Nat} {e : TypeId} {v : Value} {n : Nat} {xs : List Value} (h : w.ownsRow B e 1 v n xs) : Kit.Sl w v xs := by
  have hl : xs.length = n := by simpa using h.1
  rcases h.2 with ⟨rfl, rfl⟩ | ⟨g, cap, cur, rfl, _⟩
  · exact .inl ⟨rfl, List.eq_nil_of_length_eq_zero hl⟩
  · exact .inr ⟨_, cap, by rw [hl], h.cells (g := g) rfl⟩

theorem nums_one (l : List Nat) : ∀ u ∈ nums l, u.oneCell' = true := by
  intro u hu
  simp only [nums, List.mem_map] at hu
  obtain ⟨n, _, rfl⟩ := hu
  rfl

set_option maxHeartbeats 2000000 in
theorem clone_any (l : List Nat) (hl : l.length * 8 ≤ 140737488355328) (v : Value) (w : World) (hv : Kit.Sl w v (nums l)) :
    Calls Try.prog 34 #[v] w fun e w' => ∃ v', e = .returned v' ∧ w'.ownsRow w.heap.size 22 1 v' l.length (nums l) ∧ Below w.heap.size w w' := by
  have hll : (nums l).length = l.length := by simp [nums]
  obtain ⟨i0, hi, hz0, hz1, hz2⟩ := info_parts infoU64
  rcases hv with ⟨rfl, hn⟩ | ⟨ad, cap, rfl, hc⟩
  · have hl0 : l.length = 0 := by rw [← hll, hn]; rfl
    rw [hn, hl0]
    clear hll hn hl hi
    have hne := fun w => Lib.run_eql_slice_nil (P := Try.prog) w 30 22 none 0 0 0 0 Try.underlying30
    simp only [Option.isNone_none] at hne
    go_enter Try.func34, Try.ntmps34
    go_wp2
    go_ret
    exact ⟨_, rfl, World.ownsRow_nil _ _ _ _, Below.refl _ _⟩
  · rw [hll]
    have hrow : (w.alloc (.cells #[] 22)).ownsRow w.heap.size 22 1 (.slice (some ⟨w.heap.size, 0, none⟩) 0 0) 0 [] := World.ownsRow_made w #[] 0 (Nat.le_refl _) (by unfold maxLen; omega) rfl
    have hc' : ∀ j u, (nums l)[j]? = some u → (w.alloc (.cells #[] 22)).cell? (ad.add j) = some u := fun j u hu => by
      have h1 := hc j u hu
      rw [(((Below.refl w.heap.size w).alloc (Nat.le_refl _) _).cell (World.block_lt_of_cell? _ _ h1))]
      exact h1
    clear hc
    have hne := fun w => Lib.run_eql_slice_nil (P := Try.prog) w 30 22 (some ad) l.length cap 0 0 Try.underlying30
    simp only [Option.isNone_some] at hne
    go_enter Try.func34, Try.ntmps34
    go_wp2_with (at_builtin; refine wpList_append_own _ rfl _ _ 30 rfl w.heap.size 22 i0 (.int .u64 0) 1 8 Try.underlying30 hi hz0 hz1 hz2 rfl (by decide) _ _ _ rfl hrow ad l.length cap (nums l) rfl (by rw [hll]; omega) hc' (nums_one l) ?c3 ?c4 ?c5 ?_)
    case c3 => unfold maxLen; omega
    case c4 => omega
    case c5 => simp
    intro v' w1 hown hg _
    have hb : Below w.heap.size w w1 := ((Below.refl w.heap.size w).alloc (Nat.le_refl _) (.cells #[] 22)).grown hg (by simp) (fun k hk => by simp [Value.ownBlock] at hk; omega)
    obtain ⟨av, nv, cv, rfl⟩ : ∃ a n c, v' = .slice a n c := by
      rcases hown.2 with ⟨h, _⟩ | ⟨g, cap, cur, h, _⟩
      · exact ⟨_, _, _, h⟩
      · exact ⟨_, _, _, h⟩
    go_wp2
    go_ret
    exact ⟨_, rfl, hown, hb⟩

namespace Ida
/-- An oracle's place that lies between two blocks' numbers. -/
structure Lay.within (L : Lay) (A B : Nat) : Prop where
  own : ∀ i, L.own i → A ≤ i ∧ i < B
  dv : ∀ k, L.dv.ownBlock = some k → A ≤ k ∧ k < B
theorem Lay.within.wider {L : Lay} {A B A' B' : Nat} (h : L.within A B) (hA : A' ≤ A) (hB : B ≤ B') : L.within A' B' :=
  ⟨fun i hi => by have := h.own i hi; omega, fun k hk => by have := h.dv k hk; omega⟩

/-- The five maps and the struct, laid behind a slice of draws. -/
theorem made (w : World) (B : Nat) (l : List Nat) (hx : ∀ x ∈ l, x < 18446744073709551616) (v : Value) (hB : B ≤ w.heap.size) (hv : w.ownsRow B 22 1 v l.length (nums l)) :
    Orc ((((((w.alloc (.map #[] 0)).alloc (.map #[] 0)).alloc (.map #[] 0)).alloc (.map #[] 0)).alloc (.map #[] 0)).alloc (.cells #[v, .int .i64 0, .map (some w.heap.size), .bool false, .map (some (w.heap.size + 1)), .map (some (w.heap.size + 2)), .map (some (w.heap.size + 3)), .map (some (w.heap.size + 4))] 69))
      ⟨w.heap.size + 5, w.heap.size, w.heap.size + 1, w.heap.size + 2, w.heap.size + 3, w.heap.size + 4, v⟩ (Or.new l) ∧
    (⟨w.heap.size + 5, w.heap.size, w.heap.size + 1, w.heap.size + 2, w.heap.size + 3, w.heap.size + 4, v⟩ : Lay).within B (w.heap.size + 6) := by
  have hvlt : ∀ k, v.ownBlock = some k → B ≤ k ∧ k < w.heap.size := hv.lt
  have hw : (⟨w.heap.size + 5, w.heap.size, w.heap.size + 1, w.heap.size + 2, w.heap.size + 3, w.heap.size + 4, v⟩ : Lay).within B (w.heap.size + 6) := by
    refine ⟨fun i hi => ?_, fun k hk => ?_⟩
    · simp only [Lay.own] at hi
      omega
    · have := hvlt k hk
      omega
  refine ⟨⟨?_, Or.fine_new hx⟩, hw⟩
  rw [Or.tabs_new]
  have step : ∀ (w : World) (o : Obj), Below w.heap.size w (w.alloc o) := fun w o => (Below.refl _ w).alloc (Nat.le_refl _) o
  have sz : ∀ (w : World) (o : Obj), (w.alloc o).heap.size = w.heap.size + 1 := fun w o => by simp
  let w1 := w.alloc (.map #[] 0)
  let w2 := w1.alloc (.map #[] 0)
  let w3 := w2.alloc (.map #[] 0)
  let w4 := w3.alloc (.map #[] 0)
  let w5 := w4.alloc (.map #[] 0)
  have s1 : w1.heap.size = w.heap.size + 1 := sz _ _
  have s2 : w2.heap.size = w.heap.size + 2 := (sz _ _).trans (by rw [s1])
  have s3 : w3.heap.size = w.heap.size + 3 := (sz _ _).trans (by rw [s2])
  have s4 : w4.heap.size = w.heap.size + 4 := (sz _ _).trans (by rw [s3])
  have s5 : w5.heap.size = w.heap.size + 5 := (sz _ _).trans (by rw [s4])
  let o : Obj := .cells #[v, .int .i64 0, .map (some w.heap.size), .bool false, .map (some (w.heap.size + 1)), .map (some (w.heap.size + 2)), .map (some (w.heap.size + 3)), .map (some (w.heap.size + 4))] 69
  have b5 : Below w5.heap.size w5 (w5.alloc o) := step _ _
  have b4 : Below w4.heap.size w4 (w5.alloc o) := (step w4 _).trans (b5.mono (by omega))
  have b3 : Below w3.heap.size w3 (w5.alloc o) := (step w3 _).trans (b4.mono (by omega))
  have b2 : Below w2.heap.size w2 (w5.alloc o) := (step w2 _).trans (b3.mono (by omega))
  have b1 : Below w1.heap.size w1 (w5.alloc o) := (step w1 _).trans (b2.mono (by omega))
  have b0 : Below w.heap.size w (w5.alloc o) := (step w _).trans (b1.mono (by omega))
  have t0 := Kit.Tab.made w Try.prog 22 num unit
  have t1 := Kit.Tab.made w1 Try.prog 9 Value.string num
  have t2 := Kit.Tab.made w2 Try.prog 77 macKey num
  have t3 := Kit.Tab.made w3 Try.prog 102 sealKey num
  have t4 := Kit.Tab.made w4 Try.prog 104 openKey Value.string
  rw [s1] at t1
  rw [s2] at t2
  rw [s3] at t3
  rw [s4] at t4
  have hbox : (w5.alloc o).heap[w.heap.size + 5]? = some o := by
    have := (MapKept.heap_alloc w5 o).1
    rw [s5] at this
    exact this
  have k0 := Kit.Tab.below t0 b1 (by omega)
  have k1 := Kit.Tab.below t1 b2 (by omega)
  have k2 := Kit.Tab.below t2 b3 (by omega)
  have k3 := Kit.Tab.below t3 b4 (by omega)
  have k4 := Kit.Tab.below t4 b5 (by omega)
  refine ⟨hbox, (Kit.Rd.of_own hv).below b0, fun k hk hk' => ?_, ?_, k1, k2, k3, k4, ?_, hx⟩
  · have := hvlt k hk
    simp only [Lay.own] at hk'
    omega
  · have : (fun h => if (St.new l).known h = true then some () else none) = fun _ => (none : Option Unit) := by funext h; rfl
    rw [this]
    exact k0
  · simp

set_option maxHeartbeats 2000000 in
theorem new_any (l : List Nat) (hl : l.length * 8 ≤ 140737488355328) (hx : ∀ x ∈ l, x < 18446744073709551616) (v : Value) (w : World) (hv : Kit.Sl w v (nums l)) :
    Calls Try.prog 27 #[v] w fun e w' => ∃ L, e = .returned (ptr L) ∧ Orc w' L (Or.new l) ∧ L.within w.heap.size w'.heap.size ∧ Below w.heap.size w w' := by
  have H := clone_any l hl v w hv
  have hmm := @run_makeMap Try.prog
  go_enter Try.func27, Try.ntmps27
  go_wp2_with fail
  refine H.mono ?_
  rintro e w1 ⟨v', rfl, hown, hb⟩
  obtain ⟨h1, h2⟩ := made w1 w.heap.size l hx v' hb.size hown
  have b2 : Below w.heap.size w ((((((w1.alloc (.map #[] 0)).alloc (.map #[] 0)).alloc (.map #[] 0)).alloc (.map #[] 0)).alloc (.map #[] 0)).alloc (.cells #[v', .int .i64 0, .map (some w1.heap.size), .bool false, .map (some (w1.heap.size + 1)), .map (some (w1.heap.size + 2)), .map (some (w1.heap.size + 3)), .map (some (w1.heap.size + 4))] 69)) := by
    have := hb.size
    exact (((((hb.alloc (by omega) _).alloc (by simp; omega) _).alloc (by simp; omega) _).alloc (by simp; omega) _).alloc (by simp; omega) _).alloc (by simp; omega) _
  obtain ⟨av, nv, cv, rfl⟩ : ∃ a n c, v' = .slice a n c := by
    rcases hown.2 with ⟨h, _⟩ | ⟨g, cap, cur, h, _⟩
    · exact ⟨_, _, _, h⟩
    · exact ⟨_, _, _, h⟩
  have hsz : ((((((w1.alloc (.map #[] 0)).alloc (.map #[] 0)).alloc (.map #[] 0)).alloc (.map #[] 0)).alloc (.map #[] 0)).alloc (.cells #[.slice av nv cv, .int .i64 0, .map (some w1.heap.size), .bool false, .map (some (w1.heap.size + 1)), .map (some (w1.heap.size + 2)), .map (some (w1.heap.size + 3)), .map (some (w1.heap.size + 4))] 69)).heap.size = w1.heap.size + 6 := by simp
  have HH := Lib.hid (And.intro h1 (And.intro h2 (And.intro b2 hsz)))
  clear h1 h2 b2 hsz H hown hb hv
  go_wp2
  go_ret
  obtain ⟨h1, h2, b2, hsz⟩ := HH.out
  exact ⟨_, rfl, h1, by rw [hsz]; exact h2, b2⟩
end Ida
end Go.Proofs.Ytbhdcocgghaifaa
