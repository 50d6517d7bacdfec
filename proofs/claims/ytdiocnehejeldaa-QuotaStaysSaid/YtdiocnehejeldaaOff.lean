/-
  Generic: slices off some blocks; one value appended.
-/
import Derived.Test.YtdiocnehejeldaaApp
import Derived.Test.YtdiocnehejeldaaBoxG
namespace Go.Proofs.Ytdiocnehejeldaa
open Go.RowKit

namespace Kit
/-- A slice that reads as a list, in none of the blocks of S. -/
def Off (S : Nat → Prop) (w : World) (v : Value) (xs : List Value) : Prop :=
  ∃ a cap, v = .slice a xs.length cap ∧ (xs.length ≤ cap ∧ cap ≤ maxLen) ∧ (xs = [] ∨ ∃ ad : Addr, a = some ad ∧ ¬ S ad.block ∧ ∀ j u, xs[j]? = some u → w.cell? (ad.add j) = some u)
section
variable {S S' : Nat → Prop} {w w' : World} {v : Value} {xs : List Value}
theorem Off.rd (h : Off S w v xs) : Rd w v xs := by
  obtain ⟨a, cap, rfl, -, h⟩ := h
  refine ⟨a, cap, rfl, h.imp id ?_⟩
  rintro ⟨ad, rfl, -, hc⟩
  exact ⟨ad, rfl, hc⟩
theorem Off.nil_ (S : Nat → Prop) (w : World) : Off S w (.slice none 0 0) [] := ⟨none, 0, rfl, ⟨Nat.le_refl _, Nat.zero_le _⟩, .inl rfl⟩
theorem Off.kept (h : Off S w v xs) (hb : ∀ i, i < w.heap.size → ¬ S i → w'.heap[i]? = w.heap[i]?) : Off S w' v xs := by
  obtain ⟨a, cap, rfl, hz, h⟩ := h
  refine ⟨a, cap, rfl, hz, h.imp id ?_⟩
  rintro ⟨ad, rfl, hs, hc⟩
  refine ⟨ad, rfl, hs, fun j u hu => ?_⟩
  have h1 := hc j u hu
  have h2 := World.block_lt_of_cell? _ _ h1
  rw [World.cell?_of_block (w := w) (hb _ h2 (by rw [add_block]; exact hs))]
  exact h1
theorem Off.but (h : Off S w v xs) (hb : But S w w') : Off S w' v xs := h.kept fun i hi hs => hb.block i hi hs
theorem Off.below (h : Off S w v xs) (hb : Below w.heap.size w w') : Off S w' v xs := h.kept fun i hi _ => hb.block i hi
theorem Off.low {B : Nat} (h : Off S w v xs) (hb : Below B w w') (hs : ∀ i, i < w.heap.size → ¬ S i → i < B) : Off S w' v xs := h.kept fun i hi hi2 => hb.block i (hs i hi hi2)
theorem Off.weak (h : Off S w v xs) (hs : ∀ i, i < w.heap.size → S' i → S i) : Off S' w v xs := by
  obtain ⟨a, cap, rfl, hz, h⟩ := h
  refine ⟨a, cap, rfl, hz, ?_⟩
  cases xs with
  | nil => exact .inl rfl
  | cons x xs =>
    obtain ⟨ad, rfl, hn, hc⟩ := h.resolve_left (by simp)
    have h1 := World.block_lt_of_cell? _ _ (hc 0 x rfl)
    rw [add_block] at h1
    exact .inr ⟨ad, rfl, fun hs' => hn (hs _ h1 hs'), hc⟩
theorem Off.of_own {B : Nat} {e : TypeId} {n : Nat} (h : w.ownsRow B e 1 v n xs) (hs : ∀ i, S i → i < B) : Off S w v xs := by
  have hl : xs.length = n := by simpa using h.1
  subst hl
  rcases h.2 with ⟨rfl, h0⟩ | ⟨g, cap, cur, rfl, hB, -, hz1, hz2, -⟩
  · obtain rfl := List.eq_nil_of_length_eq_zero h0
    exact Off.nil_ S w
  · exact ⟨_, cap, rfl, ⟨hz1, hz2⟩, .inr ⟨_, rfl, fun hS => by have := hs g hS; omega, h.cells (g := g) rfl⟩⟩
theorem Off.form (h : Off S w v xs) : ∃ a cap, v = .slice a xs.length cap ∧ xs.length ≤ cap ∧ cap ≤ maxLen := by
  obtain ⟨a, cap, rfl, hz, _⟩ := h
  exact ⟨a, cap, rfl, hz.1, hz.2⟩
theorem Off.at_ {a : Option Addr} {n cap k : Nat} {u : Value} (h : Off S w (.slice a n cap) xs) (hu : xs[k]? = some u) : ∃ ad, a = some ad ∧ w.cell? (ad.add k) = some u := h.rd.at_ hu
/-- Part of a slice. -/
theorem Off.base {a : Option Addr} {n cap : Nat} (h : Off S w (.slice a n cap) xs) (hx : xs ≠ []) : ∃ ad : Addr, a = some ad ∧ ¬ S ad.block ∧ ∀ j u, xs[j]? = some u → w.cell? (ad.add j) = some u := by
  obtain ⟨a', cap', e, _, h⟩ := h
  injection e with e1 e2 e3
  subst e1
  exact h.resolve_left hx
theorem But.low {S : Nat → Prop} {w w' w'' : World} (h : But S w w') (b : Below w.heap.size w' w'') : But S w w'' :=
  ⟨b.os.trans h.os, b.tape.trans h.tape, b.output.trans h.output, Nat.le_trans h.size b.size, fun i hi hn => (b.block i hi).trans (h.block i hi hn)⟩
theorem own_but {B : Nat} {e : TypeId} {z : Nat} {n : Nat} (h : w.ownsRow B e z v n xs) (b : But S w w') (hs : ∀ i, S i → i < B) : w'.ownsRow B e z v n xs := by
  refine ⟨h.1, ?_⟩
  rcases h.2 with h1 | ⟨g, cap, cur, e1, h2, h3, h4⟩
  · exact .inl h1
  · refine .inr ⟨g, cap, cur, e1, h2, ?_, h4⟩
    rw [b.block g (Array.getElem?_eq_some_iff.1 h3).1 (fun hS => by have := hs g hS; omega)]
    exact h3
theorem own_below {B : Nat} {e : TypeId} {z : Nat} {n : Nat} (h : w.ownsRow B e z v n xs) (b : Below w.heap.size w w') : w'.ownsRow B e z v n xs := by
  refine ⟨h.1, ?_⟩
  rcases h.2 with h1 | ⟨g, cap, cur, e1, h2, h3, h4⟩
  · exact .inl h1
  · refine .inr ⟨g, cap, cur, e1, h2, ?_, h4⟩
    rw [b.block g (Array.getElem?_eq_some_iff.1 h3).1]
    exact h3
theorem own_form {B : Nat} {e : TypeId} {z : Nat} {n : Nat} (h : w.ownsRow B e z v n xs) : ∃ a cap, v = .slice a n cap := by
  rcases h.2 with ⟨rfl, h0⟩ | ⟨g, cap, cur, rfl, _⟩
  · subst h0
    exact ⟨_, _, rfl⟩
  · exact ⟨_, _, rfl⟩
end

theorem lit1 (w : World) (u : Value) (T : TypeId) : Sl (w.alloc (.cells #[u] T)) (.slice (some ⟨w.heap.size, 0, none⟩) 1 1) [u] := by
  refine .inr ⟨_, 1, rfl, fun j x hj => ?_⟩
  match j, hj with
  | 0, hj =>
    simp at hj
    subst hj
    simp [Addr.add]
  | j + 1, hj => simp at hj
section
variable {P : Program} {W : World} {ops : Array Oper} {rest : List Oper} {o : Oper} {a : Act} {Q : Exit → Act → World → Prop} {K : Act → World → Prop} {E : Prop}
theorem wp_append_one (s x : Operand) (t : TypeId) (ho : o.op = .call { callee := .builtin .append, args := #[s, x], argTypes := #[t, t] })
    (base : Nat) (e : TypeId) (i : TypeInfo) (z : Value) (bytes : Nat) (ht : P.underlying t = some (.slice e)) (hi : P.info? e = some i) (hz : i.zero = some z) (hsize : i.size = 1) (hby : i.bytes = bytes) (hzs : z.cells.size = 1)
    (v : Value) (n : Nat) (xs : List Value) (hs : a.eval s = v) (hown : W.ownsRow base e 1 v n xs) (u : Value) (T : TypeId) (hx : a.eval x = .slice (some ⟨W.heap.size, 0, none⟩) 1 1) (h1 : u.oneCell' = true)
    (h63 : n + 1 ≤ maxLen) (hbytes : (n + 1) * bytes ≤ 140737488355328) (hbase : base ≤ W.heap.size)
    (h : ∀ v' w', w'.ownsRow base e 1 v' (n + 1) (xs ++ [u]) → Below base W w' → (W.alloc (.cells #[u] T)).grownBy w' v.ownBlock → K (a.put o.dst v') w') : Oper.wp P o a (W.alloc (.cells #[u] T)) K Q :=
  wp_append_sl s x t ho base e i z bytes ht hi hz hsize hby hzs v n xs hs (hown.alloc _) _ [u] hx (lit1 W u T) (by simpa using h1) h63 hbytes (by simp; omega) fun v' w' h2 h3 =>
    h v' w' h2 (((Below.refl base W).alloc hbase _).grown h3 (by simp; omega) (fun k hk => (hown.lt k hk).1)) h3
theorem wpList_append_one (hgd : o.guard = none) (s x : Operand) (t : TypeId) (ho : o.op = .call { callee := .builtin .append, args := #[s, x], argTypes := #[t, t] })
    (base : Nat) (e : TypeId) (i : TypeInfo) (z : Value) (bytes : Nat) (ht : P.underlying t = some (.slice e)) (hi : P.info? e = some i) (hz : i.zero = some z) (hsize : i.size = 1) (hby : i.bytes = bytes) (hzs : z.cells.size = 1)
    (v : Value) (n : Nat) (xs : List Value) (hs : a.eval s = v) (hown : W.ownsRow base e 1 v n xs) (u : Value) (T : TypeId) (hx : a.eval x = .slice (some ⟨W.heap.size, 0, none⟩) 1 1) (h1 : u.oneCell' = true)
    (h63 : n + 1 ≤ maxLen) (hbytes : (n + 1) * bytes ≤ 140737488355328) (hbase : base ≤ W.heap.size)
    (h : ∀ v' w', w'.ownsRow base e 1 v' (n + 1) (xs ++ [u]) → Below base W w' → (W.alloc (.cells #[u] T)).grownBy w' v.ownBlock → wpList P ops Q rest (a.put o.dst v') w') : wpList P ops Q (o :: rest) a (W.alloc (.cells #[u] T)) :=
  wpList_plain hgd fun _ hK => wp_append_one s x t ho base e i z bytes ht hi hz hsize hby hzs v n xs hs hown u T hx h1 h63 hbytes hbase fun v' w' h2 h3 h4 => hK _ _ (h v' w' h2 h3 h4)
theorem step_append_one (hgd : o.guard = none) (s x : Operand) (t : TypeId) (ho : o.op = .call { callee := .builtin .append, args := #[s, x], argTypes := #[t, t] })
    (base : Nat) (e : TypeId) (i : TypeInfo) (z : Value) (bytes : Nat) (ht : P.underlying t = some (.slice e)) (hi : P.info? e = some i) (hz : i.zero = some z) (hsize : i.size = 1) (hby : i.bytes = bytes) (hzs : z.cells.size = 1)
    (v : Value) (n : Nat) (xs : List Value) (hs : a.eval s = v) (hown : W.ownsRow base e 1 v n xs) (u : Value) (T : TypeId) (hx : a.eval x = .slice (some ⟨W.heap.size, 0, none⟩) 1 1) (h1 : u.oneCell' = true)
    (h63 : n + 1 ≤ maxLen) (hbytes : (n + 1) * bytes ≤ 140737488355328) (hbase : base ≤ W.heap.size)
    (h : ∀ v' w', w'.ownsRow base e 1 v' (n + 1) (xs ++ [u]) → Below base W w' → (W.alloc (.cells #[u] T)).grownBy w' v.ownBlock → K (a.put o.dst v') w') : if Region.wanted o (yielded ops a.tmps) = true then Oper.wp P o a (W.alloc (.cells #[u] T)) K Q else E := by
  have hw : Region.wanted o (yielded ops a.tmps) = true := by simp [Region.wanted, hgd]
  rw [if_pos hw]
  exact wp_append_one s x t ho base e i z bytes ht hi hz hsize hby hzs v n xs hs hown u T hx h1 h63 hbytes hbase h
end
/-- A literal. -/
theorem Off.lit {S : Nat → Prop} (w : World) (xs : List Value) (T : TypeId) (hs : ¬ S w.heap.size) (hl : xs.length ≤ maxLen) : Off S (w.alloc (.cells xs.toArray T)) (.slice (some ⟨w.heap.size, 0, none⟩) xs.length xs.length) xs := by
  refine ⟨_, _, rfl, ⟨Nat.le_refl _, hl⟩, .inr ⟨_, rfl, hs, fun j u hu => ?_⟩⟩
  have h : (w.alloc (.cells xs.toArray T)).heap[w.heap.size]? = some (.cells xs.toArray T (0, 0)) := (MapKept.heap_alloc w _).1
  rw [show (⟨w.heap.size, 0, none⟩ : Addr).add j = ⟨w.heap.size, j, none⟩ by (unfold Addr.add; split <;> simp_all), Lib.cell_of_heap h]
  simpa using hu
end Kit
end Go.Proofs.Ytdiocnehejeldaa
