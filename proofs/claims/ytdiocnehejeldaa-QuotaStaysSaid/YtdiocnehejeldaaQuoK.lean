/-
  Tables in memory: slices of rows of three numbers.
-/
import Derived.Test.YtdiocnehejeldaaQuo
import Derived.Test.YtdiocnehejeldaaOff
import Derived.Test.YtdiocnehejeldaaDskM
import Derived.Test.YtdiocnehejeldaaWalksE
import Derived.Deep.AppendLies
import Derived.Deep.Slices
namespace Go.Proofs.Ytdiocnehejeldaa
open Go.RowKit
namespace Quo

def rowC (r : Row) : List Value := [.int .u64 (r.ten : Int), .int .u64 (r.used : Int), .int .u64 (r.lim : Int)]
def flat (l : List Row) : List Value := l.flatMap rowC
theorem rowC_len (r : Row) : (rowC r).length = 3 := rfl
theorem flat_len (l : List Row) : (flat l).length = l.length * 3 := Dsk.flat_len rowC_len l
theorem flat_at {l : List Row} {i j : Nat} {r : Row} (h : l[i]? = some r) (hj : j < 3) : (flat l)[i * 3 + j]? = (rowC r)[j]? := Dsk.flat_at rowC_len l i j r h hj
theorem flat_append (a b : List Row) : flat (a ++ b) = flat a ++ flat b := List.flatMap_append
theorem flat_one (r : Row) : flat [r] = rowC r := by simp [flat]
theorem flat_cons (r : Row) (l : List Row) : flat (r :: l) = rowC r ++ flat l := List.flatMap_cons
theorem flat_snoc (l : List Row) (r : Row) : flat (l ++ [r]) = flat l ++ rowC r := by rw [flat_append, flat_one]
theorem row_one (r : Row) : ∀ u ∈ rowC r, u.oneCell' = true := by
  intro u hu
  simp only [rowC, List.mem_cons, List.not_mem_nil, or_false] at hu
  rcases hu with rfl | rfl | rfl <;> rfl
theorem one_flat (l : List Row) : ∀ u ∈ flat l, u.oneCell' = true := by
  intro u hu
  simp only [flat, List.mem_flatMap] at hu
  obtain ⟨r, _, hr⟩ := hu
  exact row_one r u hr
theorem flat_take : ∀ (l : List Row) (k : Nat), (flat l).take (k * 3) = flat (l.take k)
  | [], k => by simp [flat]
  | r :: l, 0 => by simp [flat]
  | r :: l, k + 1 => by
    rw [flat_cons, List.take_succ_cons, flat_cons, List.take_append, List.take_of_length_le (by rw [rowC_len]; omega), rowC_len, show (k + 1) * 3 - 3 = k * 3 by omega, flat_take l k]
theorem flat_drop : ∀ (l : List Row) (k : Nat), (flat l).drop (k * 3) = flat (l.drop k)
  | [], k => by simp [flat]
  | r :: l, 0 => by simp [flat]
  | r :: l, k + 1 => by
    rw [flat_cons, List.drop_succ_cons, List.drop_append, List.drop_of_length_le (by rw [rowC_len]; omega), rowC_len, show (k + 1) * 3 - 3 = k * 3 by omega, flat_drop l k, List.nil_append]
theorem flat_set1 : ∀ (l : List Row) (k : Nat) (r : Row) (u : Nat), l[k]? = some r → (flat l).set (k * 3 + 1) (.int .u64 (u : Int)) = flat (l.set k (putU u r))
  | [], k, r, u, h => by simp at h
  | x :: l, 0, r, u, h => by
    simp only [List.getElem?_cons_zero, Option.some.injEq] at h
    subst h
    simp [flat, rowC, putU]
  | x :: l, k + 1, r, u, h => by
    have ih := flat_set1 l k r u (by simpa using h)
    rw [flat_cons, List.set_cons_succ, flat_cons, ← ih, List.set_append_right _ _ (by rw [rowC_len]; omega), rowC_len]
    congr 2
    omega
theorem flat_set2 : ∀ (l : List Row) (k : Nat) (r : Row) (u : Nat), l[k]? = some r → (flat l).set (k * 3 + 2) (.int .u64 (u : Int)) = flat (l.set k (putL u r))
  | [], k, r, u, h => by simp at h
  | x :: l, 0, r, u, h => by
    simp only [List.getElem?_cons_zero, Option.some.injEq] at h
    subst h
    simp [flat, rowC, putL]
  | x :: l, k + 1, r, u, h => by
    have ih := flat_set2 l k r u (by simpa using h)
    rw [flat_cons, List.set_cons_succ, flat_cons, ← ih, List.set_append_right _ _ (by rw [rowC_len]; omega), rowC_len]
    congr 2
    omega

/-- A slice value that reads as this table. -/
def Tb (w : World) (v : Value) (l : List Row) : Prop :=
  (v = .slice none 0 0 ∧ l = []) ∨ ∃ ad cap, v = .slice (some ad) l.length cap ∧ ∀ j u, (flat l)[j]? = some u → w.cell? (ad.add j) = some u
section
variable {w w' : World} {v : Value} {l : List Row}
theorem Tb.nil_ (w : World) : Tb w (.slice none 0 0) [] := .inl ⟨rfl, rfl⟩
theorem Tb.below (h : Tb w v l) (hb : Below w.heap.size w w') : Tb w' v l := by
  rcases h with h | ⟨ad, cap, rfl, hc⟩
  · exact .inl h
  · exact .inr ⟨ad, cap, rfl, fun j u hu => by
      have h1 := hc j u hu
      rw [hb.cell (World.block_lt_of_cell? _ _ h1)]
      exact h1⟩
theorem Tb.of_own {B : Nat} {e : TypeId} (h : w.ownsRow B e 3 v l.length (flat l)) : Tb w v l := by
  rcases h.2 with ⟨rfl, h0⟩ | ⟨g, cap, cur, rfl, _⟩
  · exact .inl ⟨rfl, List.eq_nil_of_length_eq_zero h0⟩
  · exact .inr ⟨_, cap, rfl, h.cells (g := g) rfl⟩
theorem Tb.form (h : Tb w v l) : ∃ a cap, v = .slice a l.length cap := by
  rcases h with ⟨rfl, rfl⟩ | ⟨ad, cap, rfl, _⟩
  · exact ⟨none, 0, rfl⟩
  · exact ⟨some ad, cap, rfl⟩
/-- A row's cells as a walk meets them. -/
theorem Tb.at_ {a : Option Addr} {n cap i : Nat} (h : Tb w (.slice a n cap) l) {r : Row} (hi : l[i]? = some r) : ∃ ad : Addr, a = some ad ∧
    w.cell? (ad.add (i * 3)) = some (.int .u64 (r.ten : Int)) ∧ w.cell? ⟨(ad.add (i * 3)).block, (ad.add (i * 3)).off + 1, none⟩ = some (.int .u64 (r.used : Int)) ∧ w.cell? ⟨(ad.add (i * 3)).block, (ad.add (i * 3)).off + 2, none⟩ = some (.int .u64 (r.lim : Int)) := by
  rcases h with ⟨he, rfl⟩ | ⟨ad, cap', he, hc⟩
  · cases hi
  · injection he with h1 h2 h3
    subst h1
    have step : ∀ j, j < 3 → w.cell? ((ad.add (i * 3)).add j) = (rowC r)[j]? := by
      intro j hj
      have hf := flat_at hi hj
      have hu : (rowC r)[j]? = some (rowC r)[j] := List.getElem?_eq_getElem (by rw [rowC_len]; exact hj)
      rw [hu] at hf ⊢
      have := hc (i * 3 + j) _ hf
      rw [← Go.Deep.add_add] at this
      exact this
    refine ⟨ad, rfl, ?_, ?_, ?_⟩
    · have := hc (i * 3 + 0) _ (flat_at hi (by decide)); exact this
    · exact step 1 (by decide)
    · exact step 2 (by decide)
end

section
variable {w : World} {B g n cap : Nat} {l : List Row}
/-- A row's cells in a table of one's own. -/
theorem own_at (h : w.ownsRow B 39 3 (.slice (some ⟨g, 0, none⟩) n cap) n (flat l)) {i : Nat} {r : Row} (hi : l[i]? = some r) (hn : i < n) :
    w.cell? ⟨g, i * 3, none⟩ = some (.int .u64 (r.ten : Int)) ∧ w.cell? ⟨g, i * 3 + 1, none⟩ = some (.int .u64 (r.used : Int)) ∧ w.cell? ⟨g, i * 3 + 2, none⟩ = some (.int .u64 (r.lim : Int)) := by
  have e : ∀ j, j < 3 → w.cell? ⟨g, i * 3 + j, none⟩ = (rowC r)[j]? := fun j hj => by rw [h.cellAt (i * 3 + j) (by omega), flat_at hi hj]
  exact ⟨e 0 (by decide), e 1 (by decide), e 2 (by decide)⟩
theorem own_used (h : w.ownsRow B 39 3 (.slice (some ⟨g, 0, none⟩) n cap) n (flat l)) {i : Nat} {r : Row} (hi : l[i]? = some r) (u : Nat) :
    (w.setCell ⟨g, i * 3 + 1, none⟩ (.int .u64 (u : Int))).ownsRow B 39 3 (.slice (some ⟨g, 0, none⟩) n cap) n (flat (l.set i (putU u r))) := by
  have h1 := (h.stored (i * 3 + 1) (.int .u64 (u : Int))).1
  rw [flat_set1 l i r u hi] at h1
  exact h1
theorem own_lim (h : w.ownsRow B 39 3 (.slice (some ⟨g, 0, none⟩) n cap) n (flat l)) {i : Nat} {r : Row} (hi : l[i]? = some r) (u : Nat) :
    (w.setCell ⟨g, i * 3 + 2, none⟩ (.int .u64 (u : Int))).ownsRow B 39 3 (.slice (some ⟨g, 0, none⟩) n cap) n (flat (l.set i (putL u r))) := by
  have h1 := (h.stored (i * 3 + 2) (.int .u64 (u : Int))).1
  rw [flat_set2 l i r u hi] at h1
  exact h1
end

theorem infoQuo : ∃ i z, Try.prog.info? 39 = some i ∧ i.zero = some z ∧ i.size = 3 ∧ i.bytes = 24 ∧ z.cells.size = 3 := by
  have h : (Try.prog.info? 39).map (fun i => (i.size, i.bytes, i.zero.map (·.cells.size))) = some (3, 24, some 3) := by kernel_rfl
  cases hi : Try.prog.info? 39 with
  | none => rw [hi] at h; cases h
  | some i =>
    rw [hi] at h
    simp only [Option.map_some, Option.some.injEq, Prod.mk.injEq] at h
    obtain ⟨h1, h2, h3⟩ := h
    cases hz : i.zero with
    | none => rw [hz] at h3; cases h3
    | some z =>
      rw [hz] at h3
      exact ⟨i, z, rfl, hz, h1, h2, by simpa using h3⟩
theorem own_base {w : World} {B B' : Nat} {e : TypeId} {z : Nat} {v : Value} {n : Nat} {xs : List Value} (h : w.ownsRow B e z v n xs) (hB : B' ≤ B) : w.ownsRow B' e z v n xs := by
  refine ⟨h.1, ?_⟩
  rcases h.2 with hn | ⟨g, cap, cur, e1, h2, h3⟩
  · exact .inl hn
  · exact .inr ⟨g, cap, cur, e1, Nat.le_trans hB h2, h3⟩
end Quo

end Go.Proofs.Ytdiocnehejeldaa
