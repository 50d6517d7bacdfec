/-
  Tables in memory: slices of rows of three cells; cells of one block stored in a row.
-/
import Derived.Test.YtjjpmmokgcfkdaaSesB
import Derived.Test.YtjjpmmokgcfkdaaOff
import Derived.Test.YtjjpmmokgcfkdaaDskM
import Derived.Test.YtjjpmmokgcfkdaaWalksE
import Derived.Deep.AppendLies
import Derived.Deep.Slices
namespace Go.Proofs.Ytjjpmmokgcfkdaa
open Go.RowKit
namespace Ses

def rowC (r : Row) : List Value := [.int .u64 (r.id : Int), .int .u64 (r.num : Int), .string r.ans]
def flat (l : List Row) : List Value := l.flatMap rowC
theorem rowC_len (r : Row) : (rowC r).length = 3 := rfl
theorem flat_len (l : List Row) : (flat l).length = l.length * 3 := Dsk.flat_len rowC_len l
theorem flat_at {l : List Row} {i j : Nat} {r : Row} (h : l[i]? = some r) (hj : j < 3) : (flat l)[i * 3 + j]? = (rowC r)[j]? := Dsk.flat_at rowC_len l i j r h hj
theorem flat_append (a b : List Row) : flat (a ++ b) = flat a ++ flat b := List.flatMap_append
theorem flat_one (r : Row) : flat [r] = rowC r := by simp [flat]
theorem flat_cons (r : Row) (l : List Row) : flat (r :: l) = rowC r ++ flat l := List.flatMap_cons
theorem flat_snoc (l : List Row) (r : Row) : flat (l ++ [r]) = flat l ++ rowC r := by rw [flat_append, flat_one]
theorem row_one (r : Row) : ∀ u ∈ rowC r, u.oneCell' = true := by
  intro u hu
  simp only [rowC, List.mem_cons, List.not_mem_nil, or_false] at hu
  rcases hu with rfl | rfl | rfl <;> rfl
theorem one_flat (l : List Row) : ∀ u ∈ flat l, u.oneCell' = true := by
  intro u hu
  simp only [flat, List.mem_flatMap] at hu
  obtain ⟨r, _, hr⟩ := hu
  exact row_one r u hr
theorem flat_take : ∀ (l : List Row) (k : Nat), (flat l).take (k * 3) = flat (l.take k)
  | [], k => by simp [flat]
  | r :: l, 0 => by simp [flat]
  | r :: l, k + 1 => by
    rw [flat_cons, List.take_succ_cons, flat_cons, List.take_append, List.take_of_length_le (by rw [rowC_len]; omega), rowC_len, show (k + 1) * 3 - 3 = k * 3 by omega, flat_take l k]
theorem flat_drop : ∀ (l : List Row) (k : Nat), (flat l).drop (k * 3) = flat (l.drop k)
  | [], k => by simp [flat]
  | r :: l, 0 => by simp [flat]
  | r :: l, k + 1 => by
    rw [flat_cons, List.drop_succ_cons, List.drop_append, List.drop_of_length_le (by rw [rowC_len]; omega), rowC_len, show (k + 1) * 3 - 3 = k * 3 by omega, flat_drop l k, List.nil_append]
theorem flat_set : ∀ (l : List Row) (k : Nat) (r : Row), k < l.length → (((flat l).set (k * 3) (.int .u64 (r.id : Int))).set (k * 3 + 1) (.int .u64 (r.num : Int))).set (k * 3 + 2) (.string r.ans) = flat (l.set k r)
  | [], k, r, h => by simp at h
  | x :: l, 0, r, _ => by simp [flat, rowC]
  | x :: l, k + 1, r, h => by
    have ih := flat_set l k r (by simpa using h)
    rw [flat_cons, List.set_cons_succ, flat_cons, ← ih]
    have e : ∀ (m : List Value) (i : Nat) (u : Value), (rowC x ++ m).set ((k + 1) * 3 + i) u = rowC x ++ m.set (k * 3 + i) u := fun m i u => by
      rw [List.set_append_right _ _ (by rw [rowC_len]; omega), rowC_len]
      congr 2
      omega
    have e0 := e (flat l) 0 (.int .u64 (r.id : Int))
    simp only [Nat.add_zero] at e0
    rw [e0, e, e]

/-- A slice value that reads as this table. -/
def Tb (w : World) (v : Value) (l : List Row) : Prop :=
  (v = .slice none 0 0 ∧ l = []) ∨ ∃ ad cap, v = .slice (some ad) l.length cap ∧ ∀ j u, (flat l)[j]? = some u → w.cell? (ad.add j) = some u
section
variable {w w' : World} {v : Value} {l : List Row}
theorem Tb.nil_ (w : World) : Tb w (.slice none 0 0) [] := .inl ⟨rfl, rfl⟩
theorem Tb.below (h : Tb w v l) (hb : Below w.heap.size w w') : Tb w' v l := by
  rcases h with h | ⟨ad, cap, rfl, hc⟩
  · exact .inl h
  · exact .inr ⟨ad, cap, rfl, fun j u hu => by
      have h1 := hc j u hu
      rw [hb.cell (World.block_lt_of_cell? _ _ h1)]
      exact h1⟩
theorem Tb.of_own {B : Nat} {e : TypeId} (h : w.ownsRow B e 3 v l.length (flat l)) : Tb w v l := by
  rcases h.2 with ⟨rfl, h0⟩ | ⟨g, cap, cur, rfl, _⟩
  · exact .inl ⟨rfl, List.eq_nil_of_length_eq_zero h0⟩
  · exact .inr ⟨_, cap, rfl, h.cells (g := g) rfl⟩
theorem Tb.form (h : Tb w v l) : ∃ a cap, v = .slice a l.length cap := by
  rcases h with ⟨rfl, rfl⟩ | ⟨ad, cap, rfl, _⟩
  · exact ⟨none, 0, rfl⟩
  · exact ⟨some ad, cap, rfl⟩
/-- A row's cells as a walk meets them. -/
theorem Tb.at_ {a : Option Addr} {n cap i : Nat} (h : Tb w (.slice a n cap) l) {r : Row} (hi : l[i]? = some r) : ∃ ad : Addr, a = some ad ∧
    w.cell? (ad.add (i * 3)) = some (.int .u64 (r.id : Int)) ∧ w.cell? ⟨(ad.add (i * 3)).block, (ad.add (i * 3)).off + 1, none⟩ = some (.int .u64 (r.num : Int)) ∧ w.cell? ⟨(ad.add (i * 3)).block, (ad.add (i * 3)).off + 2, none⟩ = some (.string r.ans) := by
  rcases h with ⟨he, rfl⟩ | ⟨ad, cap', he, hc⟩
  · cases hi
  · injection he with h1 h2 h3
    subst h1
    have step : ∀ j, j < 3 → w.cell? ((ad.add (i * 3)).add j) = (rowC r)[j]? := by
      intro j hj
      have hf := flat_at hi hj
      have hu : (rowC r)[j]? = some (rowC r)[j] := List.getElem?_eq_getElem (by rw [rowC_len]; exact hj)
      rw [hu] at hf ⊢
      have := hc (i * 3 + j) _ hf
      rw [← Go.Deep.add_add] at this
      exact this
    refine ⟨ad, rfl, ?_, ?_, ?_⟩
    · have := hc (i * 3 + 0) _ (flat_at hi (by decide)); exact this
    · exact step 1 (by decide)
    · exact step 2 (by decide)
end

theorem infoSes : ∃ i z, Try.prog.info? 25 = some i ∧ i.zero = some z ∧ i.size = 3 ∧ i.bytes = 32 ∧ z.cells.size = 3 := by
  have h : (Try.prog.info? 25).map (fun i => (i.size, i.bytes, i.zero.map (·.cells.size))) = some (3, 32, some 3) := by kernel_rfl
  cases hi : Try.prog.info? 25 with
  | none => rw [hi] at h; cases h
  | some i =>
    rw [hi] at h
    simp only [Option.map_some, Option.some.injEq, Prod.mk.injEq] at h
    obtain ⟨h1, h2, h3⟩ := h
    cases hz : i.zero with
    | none => rw [hz] at h3; cases h3
    | some z =>
      rw [hz] at h3
      exact ⟨i, z, rfl, hz, h1, h2, by simpa using h3⟩
theorem own_base {w : World} {B B' : Nat} {e : TypeId} {z : Nat} {v : Value} {n : Nat} {xs : List Value} (h : w.ownsRow B e z v n xs) (hB : B' ≤ B) : w.ownsRow B' e z v n xs := by
  refine ⟨h.1, ?_⟩
  rcases h.2 with hn | ⟨g, cap, cur, e1, h2, h3⟩
  · exact .inl hn
  · exact .inr ⟨g, cap, cur, e1, Nat.le_trans hB h2, h3⟩
end Ses

namespace Kit
/-! ### Cells of one block stored in a row -/
theorem heap_setCells {g : Nat} {e : TypeId} : ∀ (vs : List Value) (o : Nat) (w : World) (cur : Array Value), w.heap[g]? = some (.cells cur e (0, 0)) → o + vs.length ≤ cur.size →
    (w.setCells g o vs).heap[g]? = some (.cells (cur.toList.take o ++ (vs ++ cur.toList.drop (o + vs.length))).toArray e (0, 0))
  | [], o, w, cur, h, _ => by
    rw [World.setCells, h]
    simp
  | v :: vs, o, w, cur, h, hl => by
    have h1 := heap_setCell_same w g o cur e v h
    simp only [List.length_cons] at hl
    have h2 := heap_setCells vs (o + 1) _ _ h1 (by rw [Array.size_setIfInBounds]; omega)
    rw [World.setCells, h2]
    congr 3
    have ho : o < cur.toList.length := by rw [Array.length_toList]; omega
    rw [Array.toList_setIfInBounds, List.set_eq_take_append_cons_drop, if_pos ho]
    have e1 : (cur.toList.take o ++ v :: cur.toList.drop (o + 1)).take (o + 1) = cur.toList.take o ++ [v] := by
      rw [List.take_append, List.take_of_length_le (by rw [List.length_take]; omega), List.length_take, Nat.min_eq_left (Nat.le_of_lt ho), Nat.add_sub_cancel_left]
      rfl
    have e2 : (cur.toList.take o ++ v :: cur.toList.drop (o + 1)).drop (o + 1 + vs.length) = cur.toList.drop (o + (v :: vs).length) := by
      rw [List.drop_append, List.drop_of_length_le (by rw [List.length_take]; omega), List.length_take, Nat.min_eq_left (Nat.le_of_lt ho), List.nil_append, show o + 1 + vs.length - o = vs.length + 1 by omega, List.drop_succ_cons, List.drop_drop, List.length_cons]
      congr 1
      omega
    rw [e1, e2]
    simp
theorem but_setCells (g : Nat) : ∀ (vs : List Value) (o : Nat) (w : World), But (fun i => i = g) w (w.setCells g o vs)
  | [], _, w => But.refl _ w
  | v :: vs, o, w => by
    have h := but_setCells g vs (o + 1) (w.setCell ⟨g, o, none⟩ v)
    exact ((But.refl (fun i => i = g) w).setCell (p := ⟨g, o, none⟩) (fun _ => rfl) v).trans h
/-- Cells behind the i-th element are written over: the first ones stand. -/
theorem cleared {w : World} {B g n cap i z : Nat} {e : TypeId} {xs zs : List Value} (h : w.ownsRow B e z (.slice (some ⟨g, 0, none⟩) n cap) n xs) (hi : i ≤ n) (hz : zs.length = (n - i) * z) :
    (w.setCells g (i * z) zs).ownsRow B e z (.slice (some ⟨g, 0, none⟩) i cap) i (xs.take (i * z)) := by
  have m1 : i * z ≤ n * z := Nat.mul_le_mul_right z hi
  have m2 : (n - i) * z = n * z - i * z := Nat.sub_mul n i z
  have hxl := h.1
  rcases h.2 with ⟨h', _⟩ | ⟨g', cap', cur, h', hb, hg, hnc, hcm, hcs, htake⟩
  · simp at h'
  · simp only [Value.slice.injEq, Option.some.injEq, Addr.mk.injEq, and_true, true_and] at h'
    obtain ⟨rfl, rfl⟩ := h'
    have m4 : n * z ≤ cap * z := Nat.mul_le_mul_right z hnc
    have hcl : cur.toList.length = cap * z := by rw [Array.length_toList, hcs]
    have ht : xs.take (i * z) = cur.toList.take (i * z) := by rw [← htake, List.take_take, Nat.min_eq_left (by omega)]
    have k1 := heap_setCells zs (i * z) w cur hg (by omega)
    refine ⟨by rw [List.length_take]; omega, .inr ⟨g, cap, _, rfl, hb, k1, by omega, hcm, ?_, ?_⟩⟩
    · rw [List.size_toArray, List.length_append, List.length_append, List.length_take, List.length_drop]
      omega
    · rw [List.toList_toArray, List.take_append_of_le_length (by rw [List.length_take]; omega), List.take_take, Nat.min_self, ht]
end Kit
end Go.Proofs.Ytjjpmmokgcfkdaa
