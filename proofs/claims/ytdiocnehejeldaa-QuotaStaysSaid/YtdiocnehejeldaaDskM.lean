/-
  A disk in memory: a block of three cells (the size, a slice of texts, a slice of pending writes), in blocks of its own.
-/
import Derived.Test.YtdiocnehejeldaaDsk
import Derived.Test.YtdiocnehejeldaaOff
import Derived.Deep.AppendLies
namespace Go.Proofs.Ytdiocnehejeldaa
open Go.RowKit
namespace Dsk

def strs (l : List ByteArray) : List Value := l.map Value.string
theorem strs_len (l : List ByteArray) : (strs l).length = l.length := by simp [strs]
theorem strs_at {l : List ByteArray} {k : Nat} (h : k < l.length) : (strs l)[k]? = some (.string (l.getD k ⟨#[]⟩)) := by
  simp [strs, h]
theorem strs_set (l : List ByteArray) (k : Nat) (s : ByteArray) : strs (l.set k s) = (strs l).set k (.string s) := by simp [strs, List.map_set]
theorem strs_one (l : List ByteArray) : ∀ u ∈ strs l, u.oneCell' = true := by
  intro u hu
  simp only [strs, List.mem_map] at hu
  obtain ⟨n, _, rfl⟩ := hu
  rfl

/-! ### Rows of records -/
section
variable {α : Type} {f : α → List Value} {z : Nat}
theorem flat_len (hf : ∀ x, (f x).length = z) : ∀ l : List α, (l.flatMap f).length = l.length * z
  | [] => by simp
  | x :: l => by
    rw [List.flatMap_cons, List.length_append, hf, flat_len hf l, List.length_cons, Nat.add_mul]
    omega
theorem flat_at (hf : ∀ x, (f x).length = z) : ∀ (l : List α) (i j : Nat) (x : α), l[i]? = some x → j < z → (l.flatMap f)[i * z + j]? = (f x)[j]?
  | [], i, j, r, h, _ => by simp at h
  | y :: l, 0, j, r, h, hj => by
    simp only [List.getElem?_cons_zero, Option.some.injEq] at h
    subst h
    rw [List.flatMap_cons, Nat.zero_mul, Nat.zero_add, List.getElem?_append_left (by rw [hf]; exact hj)]
  | y :: l, i + 1, j, r, h, hj => by
    have ih := flat_at hf l i j r (by simpa using h) hj
    have e : (i + 1) * z + j - (f y).length = i * z + j := by rw [hf, Nat.add_mul]; omega
    rw [List.flatMap_cons, List.getElem?_append_right (by rw [hf, Nat.add_mul]; omega), e]
    exact ih
end

section
variable {w w' : World} {B : Nat} {e : TypeId} {z : Nat} {v : Value} {n : Nat} {xs : List Value}
theorem row_kept (h : w.ownsRow B e z v n xs) (hb : ∀ k, v.ownBlock = some k → k < w.heap.size → w'.heap[k]? = w.heap[k]?) : w'.ownsRow B e z v n xs := by
  refine ⟨h.1, ?_⟩
  rcases h.2 with hn | ⟨g, cap, cur, rfl, hB, hg, rest⟩
  · exact .inl hn
  · exact .inr ⟨g, cap, cur, rfl, hB, (hb g rfl (Array.getElem?_eq_some_iff.1 hg).1).trans hg, rest⟩
theorem row_lt (h : w.ownsRow B e z v n xs) {k : Nat} (hk : v.ownBlock = some k) : k < w.heap.size := by
  rcases h.2 with ⟨rfl, _⟩ | ⟨g, cap, cur, rfl, hB, hg, rest⟩
  · cases hk
  · cases hk
    exact (Array.getElem?_eq_some_iff.1 hg).1
theorem row_ne_box {b : Nat} {cs : Array Value} {T : TypeId} (h : w.ownsRow B e z v n xs) (hb : Box b w cs T) (hT : T ≠ e) {k : Nat} (hk : v.ownBlock = some k) : b ≠ k := by
  rcases h.2 with ⟨rfl, _⟩ | ⟨g, cap, cur, rfl, hB, hg, rest⟩
  · cases hk
  · cases hk
    rintro rfl
    have hb := hb.heap
    rw [hg] at hb
    injection hb with hb
    injection hb with _ h2
    exact hT h2.symm
theorem row_ne_row {B' : Nat} {e' : TypeId} {z' : Nat} {v' : Value} {n' : Nat} {xs' : List Value} (h : w.ownsRow B e z v n xs) (h' : w.ownsRow B' e' z' v' n' xs') (hT : e ≠ e') {k : Nat} (hk : v.ownBlock = some k) : v'.ownBlock ≠ some k := by
  intro hk'
  rcases h'.2 with ⟨rfl, _⟩ | ⟨g, cap, cur, rfl, hB, hg, rest⟩
  · cases hk'
  · cases hk'
    exact row_ne_box h (b := g) hg hT.symm hk rfl
theorem row_form (h : w.ownsRow B e z v n xs) : ∃ a cap, v = .slice a n cap ∧ n ≤ cap ∧ cap ≤ maxLen := by
  rcases h.2 with ⟨rfl, rfl⟩ | ⟨g, cap, cur, rfl, _, _, h1, h2, _⟩
  · exact ⟨none, 0, rfl, Nat.le_refl _, Nat.zero_le _⟩
  · exact ⟨_, cap, rfl, h1, h2⟩
end

/-- A slice that reads as a list, in none of the blocks of K. -/
def RdK (K : Nat → Prop) (w : World) (v : Value) (xs : List Value) : Prop :=
  ∃ a cap, v = .slice a xs.length cap ∧ (xs = [] ∨ ∃ ad : Addr, a = some ad ∧ ¬ K ad.block ∧ ∀ j u, xs[j]? = some u → w.cell? (ad.add j) = some u)
section
variable {K K' : Nat → Prop} {w w' : World} {v : Value} {xs : List Value}
theorem RdK.rd (h : RdK K w v xs) : Kit.Rd w v xs := by
  obtain ⟨a, cap, rfl, h⟩ := h
  refine ⟨a, cap, rfl, h.imp id ?_⟩
  rintro ⟨ad, rfl, -, hc⟩
  exact ⟨ad, rfl, hc⟩
theorem RdK.kept (h : RdK K w v xs) (hb : ∀ i, i < w.heap.size → ¬ K i → w'.heap[i]? = w.heap[i]?) : RdK K w' v xs := by
  obtain ⟨a, cap, rfl, h⟩ := h
  refine ⟨a, cap, rfl, h.imp id ?_⟩
  rintro ⟨ad, rfl, hs, hc⟩
  refine ⟨ad, rfl, hs, fun j u hu => ?_⟩
  have h1 := hc j u hu
  have h2 := World.block_lt_of_cell? _ _ h1
  rw [World.cell?_of_block (w := w) (hb _ h2 (by rw [Kit.add_block]; exact hs))]
  exact h1
theorem RdK.but (h : RdK K w v xs) (hb : Kit.But K w w') : RdK K w' v xs := h.kept fun i hi hs => hb.block i hi hs
theorem RdK.below (h : RdK K w v xs) (hb : Below w.heap.size w w') : RdK K w' v xs := h.kept fun i hi _ => hb.block i hi
theorem RdK.of_rd (h : Kit.Rd w v xs) (hK : ∀ i, K i → w.heap.size ≤ i) : RdK K w v xs := by
  obtain ⟨a, cap, rfl, h⟩ := h
  refine ⟨a, cap, rfl, ?_⟩
  cases xs with
  | nil => exact .inl rfl
  | cons x xs =>
    obtain ⟨ad, rfl, hc⟩ := h.resolve_left (by simp)
    have h1 := World.block_lt_of_cell? _ _ (hc 0 x rfl)
    rw [Kit.add_block] at h1
    exact .inr ⟨ad, rfl, fun hk => by have := hK _ hk; omega, hc⟩
theorem RdK.nil_ (K : Nat → Prop) (w : World) : RdK K w (.slice none 0 0) [] := ⟨none, 0, rfl, .inl rfl⟩
theorem RdK.form (h : RdK K w v xs) : ∃ a cap, v = .slice a xs.length cap := by
  obtain ⟨a, cap, rfl, _⟩ := h
  exact ⟨a, cap, rfl⟩
theorem RdK.of_own {B : Nat} {e : TypeId} {n : Nat} (h : w.ownsRow B e 1 v n xs) (hv : ∀ k, v.ownBlock = some k → ¬ K k) : RdK K w v xs := by
  have hl : xs.length = n := by simpa using h.1
  subst hl
  rcases h.2 with ⟨rfl, h0⟩ | ⟨g, cap, cur, rfl, hB, _⟩
  · rw [List.eq_nil_of_length_eq_zero h0]
    exact RdK.nil_ K w
  · exact ⟨_, cap, rfl, .inr ⟨_, rfl, hv g rfl, h.cells (g := g) rfl⟩⟩
end

/-- What a call leaves: old blocks that are none of K as they were; what the thing has then are blocks of K, and new ones. -/
def Step (K : Nat → Prop) (w : World) (K' : Nat → Prop) (w' : World) : Prop := Kit.But K w w' ∧ ∀ i, K' i → K i ∨ w.heap.size ≤ i
section
variable {K K' K'' : Nat → Prop} {w w' w'' : World}
theorem Step.refl (K : Nat → Prop) (w : World) : Step K w K w := ⟨Kit.But.refl K w, fun _ h => .inl h⟩
theorem Step.trans (h : Step K w K' w') (k : Step K' w' K'' w'') : Step K w K'' w'' :=
  ⟨h.1.then_ k.1 (fun i hi hk => (h.2 i hk).resolve_right (by omega)), fun i hi => by
    rcases k.2 i hi with h1 | h1
    · exact h.2 i h1
    · exact .inr (Nat.le_trans h.1.size h1)⟩
theorem Step.below (h : Below w.heap.size w w') (K : Nat → Prop) : Step K w K w' := ⟨Kit.But.of_below h (Nat.le_refl _) K, fun _ h => .inl h⟩
theorem Step.size (h : Step K w K' w') : w.heap.size ≤ w'.heap.size := h.1.size
/-- Where the thing's blocks lie from B on. -/
theorem Step.low {B : Nat} (h : Step K w K' w') (hB : B ≤ w.heap.size) (hs : ∀ i, K i → B ≤ i) : Below B w w' := h.1.below hB hs
theorem Step.from_ {B : Nat} (h : Step K w K' w') (hB : B ≤ w.heap.size) (hs : ∀ i, K i → B ≤ i) : ∀ i, K' i → B ≤ i := fun i hi => by
  rcases h.2 i hi with h1 | h1
  · exact hs i h1
  · omega
/-- What another thing has, it has still. -/
theorem Step.off {M : Nat → Prop} (h : Step K w K' w') (hM : ∀ i, M i → i < w.heap.size) (hd : ∀ i, K i → ¬ M i) : ∀ i, K' i → ¬ M i := fun i hi hm => by
  rcases h.2 i hi with h1 | h1
  · exact hd i h1 hm
  · have := hM i hm; omega
end

/-- A disk in memory: its struct's type T, a write's type TW of z cells. -/
structure At (T TW : TypeId) (z : Nat) (f : Wr → List Value) (w : World) (p : Nat) (K : Nat → Prop) (D : Dk) (g sc : Nat) (pv : Value) : Prop where
  box : Box p w #[.int .i64 (D.size : Int), .slice (some ⟨g, 0, none⟩) D.safe.length sc, pv] T
  safe : w.ownsRow 0 9 1 (.slice (some ⟨g, 0, none⟩) D.safe.length sc) D.safe.length (strs D.safe)
  pend : w.ownsRow 0 TW z pv D.pend.length (D.pend.flatMap f)
  kp : K p
  kg : K g
  kv : ∀ k, pv.ownBlock = some k → K k
  lt : ∀ i, K i → i < w.heap.size
  ok : D.ok
def Has (T TW : TypeId) (z : Nat) (f : Wr → List Value) (w : World) (p : Nat) (K : Nat → Prop) (D : Dk) : Prop := ∃ g sc pv, At T TW z f w p K D g sc pv
section
variable {T TW : TypeId} {z : Nat} {f : Wr → List Value} {w w' : World} {p : Nat} {K : Nat → Prop} {D : Dk} {g sc : Nat} {pv : Value}
theorem At.kept (h : At T TW z f w p K D g sc pv) (hb : ∀ i, K i → w'.heap[i]? = w.heap[i]?) (hs : w.heap.size ≤ w'.heap.size) : At T TW z f w' p K D g sc pv :=
  ⟨h.box.kept (hb p h.kp), row_kept h.safe (fun k hk _ => by cases hk; exact hb g h.kg), row_kept h.pend (fun k hk _ => hb k (h.kv k hk)), h.kp, h.kg, h.kv, fun i hi => Nat.lt_of_lt_of_le (h.lt i hi) hs, h.ok⟩
theorem At.below (h : At T TW z f w p K D g sc pv) (hb : Below w.heap.size w w') : At T TW z f w' p K D g sc pv := h.kept (fun i hi => hb.block i (h.lt i hi)) hb.size
theorem At.but {S : Nat → Prop} (h : At T TW z f w p K D g sc pv) (hb : Kit.But S w w') (hd : ∀ i, S i → ¬ K i) : At T TW z f w' p K D g sc pv := h.kept (fun i hi => hb.block i (h.lt i hi) (fun hs => hd i hs hi)) hb.size
theorem At.low {B : Nat} (h : At T TW z f w p K D g sc pv) (hb : Below B w w') (hd : ∀ i, K i → i < B) : At T TW z f w' p K D g sc pv := h.kept (fun i hi => hb.block i (hd i hi)) hb.size
theorem At.drew (h : At T TW z f w p K D g sc pv) : At T TW z f w.drew p K D g sc pv := h.kept (fun _ _ => rfl) (Nat.le_refl _)
theorem At.alloc (h : At T TW z f w p K D g sc pv) (o : Obj) : At T TW z f (w.alloc o) p K D g sc pv := h.below (below_lit w o)
theorem Has.below (h : Has T TW z f w p K D) (hb : Below w.heap.size w w') : Has T TW z f w' p K D := by obtain ⟨g, sc, pv, h⟩ := h; exact ⟨g, sc, pv, h.below hb⟩
theorem Has.but {S : Nat → Prop} (h : Has T TW z f w p K D) (hb : Kit.But S w w') (hd : ∀ i, S i → ¬ K i) : Has T TW z f w' p K D := by obtain ⟨g, sc, pv, h⟩ := h; exact ⟨g, sc, pv, h.but hb hd⟩
theorem Has.low {B : Nat} (h : Has T TW z f w p K D) (hb : Below B w w') (hd : ∀ i, K i → i < B) : Has T TW z f w' p K D := by obtain ⟨g, sc, pv, h⟩ := h; exact ⟨g, sc, pv, h.low hb hd⟩
theorem Has.drew (h : Has T TW z f w p K D) : Has T TW z f w.drew p K D := by obtain ⟨g, sc, pv, h⟩ := h; exact ⟨g, sc, pv, h.drew⟩
theorem Has.ok (h : Has T TW z f w p K D) : D.ok := by obtain ⟨g, sc, pv, h⟩ := h; exact h.ok
theorem Has.lt (h : Has T TW z f w p K D) : ∀ i, K i → i < w.heap.size := by obtain ⟨g, sc, pv, h⟩ := h; exact h.lt
theorem Has.kp (h : Has T TW z f w p K D) : K p := by obtain ⟨g, sc, pv, h⟩ := h; exact h.kp

theorem At.caps (h : At T TW z f w p K D g sc pv) : D.safe.length ≤ sc ∧ sc ≤ maxLen := by
  obtain ⟨a, cap, e, h1, h2⟩ := row_form h.safe
  cases e
  exact ⟨h1, h2⟩
theorem At.form (h : At T TW z f w p K D g sc pv) : ∃ a cap, pv = .slice a D.pend.length cap ∧ D.pend.length ≤ cap ∧ cap ≤ maxLen := row_form h.pend
theorem At.c0 (h : At T TW z f w p K D g sc pv) : w.cell? ⟨p, 0, none⟩ = some (.int .i64 (D.size : Int)) := h.box.cell rfl
theorem At.c1 (h : At T TW z f w p K D g sc pv) : w.cell? ⟨p, 1, none⟩ = some (.slice (some ⟨g, 0, none⟩) D.safe.length sc) := h.box.cell rfl
theorem At.c2 (h : At T TW z f w p K D g sc pv) : w.cell? ⟨p, 2, none⟩ = some pv := h.box.cell rfl
theorem At.safeAt (h : At T TW z f w p K D g sc pv) {k : Nat} (hk : k < D.safe.length) : w.cell? ⟨g, k, none⟩ = some (.string (D.safe.getD k ⟨#[]⟩)) := by
  rw [h.safe.cellAt k (by omega), strs_at hk]
theorem At.safeFree (h : At T TW z f w p K D g sc pv) (k : Nat) : w.frozen? ⟨g, k, none⟩ = false := h.safe.frozenAt k
/-- The cells of the k-th pending write. -/
theorem At.pendAt (h : At T TW z f w p K D g sc pv) (hf : ∀ x, (f x).length = z) {a : Option Addr} {n cap : Nat} (hv : pv = .slice a n cap) {k : Nat} {x : Wr} (hk : D.pend[k]? = some x) : ∃ q, a = some ⟨q, 0, none⟩ ∧ K q ∧ ∀ j, j < z → w.cell? ⟨q, k * z + j, none⟩ = (f x)[j]? := by
  have hlt : k < D.pend.length := (List.getElem?_eq_some_iff.1 hk).1
  rcases h.pend.2 with ⟨_, h0⟩ | ⟨q, cap', cur, e, hB, hg, h1, h2, h3, h4⟩
  · omega
  · subst hv
    injection e with e1 e2 e3
    subst e1
    refine ⟨q, rfl, h.kv q rfl, fun j hj => ?_⟩
    have hr : w.ownsRow 0 TW z (.slice (some ⟨q, 0, none⟩) D.pend.length cap') D.pend.length (D.pend.flatMap f) := ⟨h.pend.1, .inr ⟨q, cap', cur, rfl, hB, hg, h1, h2, h3, h4⟩⟩
    have hlt2 : k * z + j < D.pend.length * z := by
      have : (k + 1) * z ≤ D.pend.length * z := Nat.mul_le_mul_right z hlt
      rw [Nat.add_mul] at this
      omega
    rw [hr.cellAt (k * z + j) hlt2, flat_at hf _ _ _ _ hk hj]

/-! ### Stores -/
/-- A text stored. -/
theorem At.store (h : At T TW z f w p K D g sc pv) (hT : T ≠ 9) (hW : TW ≠ 9) {k : Nat} {t : ByteArray} (ht : t.size = D.size) : At T TW z f (w.setCell ⟨g, k, none⟩ (.string t)) p K ⟨D.size, D.safe.set k t, D.pend⟩ g sc pv := by
  have hpg : p ≠ g := row_ne_box h.safe h.box hT rfl
  have hsz : (w.setCell ⟨g, k, none⟩ (.string t)).heap.size = w.heap.size := by simp [World.setCell]
  refine ⟨?_, ?_, ?_, h.kp, h.kg, h.kv, ?_, h.ok.set ht⟩
  · have := h.box.set_off (p := ⟨g, k, none⟩) hpg (.string t)
    rw [show (D.safe.set k t).length = D.safe.length from List.length_set]
    exact this
  · have := (h.safe.stored k (.string t)).1
    rw [show (D.safe.set k t).length = D.safe.length from List.length_set, strs_set]
    exact this
  · refine row_kept h.pend fun i hi _ => ?_
    refine heap_setCell_other w ⟨g, k, none⟩ i _ ?_
    rintro rfl
    exact row_ne_row h.pend h.safe hW hi rfl
  · intro i hi
    rw [hsz]
    exact h.lt i hi
theorem At.dropped (h : At T TW z f w p K D g sc pv) (hT : T ≠ 9) : At T TW z f (w.setCell ⟨p, 2, none⟩ (.slice none 0 0)) p K ⟨D.size, D.safe, []⟩ g sc (.slice none 0 0) := by
  have hpg : p ≠ g := row_ne_box h.safe h.box hT rfl
  refine ⟨h.box.set 2 _, row_kept h.safe fun i hi _ => ?_, ⟨by simp, .inl ⟨rfl, rfl⟩⟩, h.kp, h.kg, (fun k hk => by cases hk), ?_, ⟨h.ok.n1, h.ok.n2, h.ok.z1, h.ok.z2, h.ok.safe, fun x hx => by cases hx⟩⟩
  · cases hi
    exact heap_setCell_other w ⟨p, 2, none⟩ g _ (fun e => hpg e.symm)
  · intro i hi
    have := h.lt i hi
    simpa [World.setCell] using this
/-- A write behind the pending ones. -/
theorem At.pushed {w2 : World} (h : At T TW z f w p K D g sc pv) (hT : T ≠ 9) (hTW : T ≠ TW) (hW : TW ≠ 9) {a : Nat} {t : ByteArray} (ha : a < D.safe.length) (ht : t.size = D.size) {q cap : Nat}
    (hown : w2.ownsRow 0 TW z (.slice (some ⟨q, 0, none⟩) (D.pend.length + 1) cap) (D.pend.length + 1) (D.pend.flatMap f ++ f ⟨a, t⟩)) (hg : w.grownBy w2 pv.ownBlock) :
    At T TW z f (w2.setCell ⟨p, 2, none⟩ (.slice (some ⟨q, 0, none⟩) (D.pend.length + 1) cap)) p (fun i => K i ∨ i = q) (D.push a t) g sc (.slice (some ⟨q, 0, none⟩) (D.pend.length + 1) cap) := by
  have hpg : p ≠ g := row_ne_box h.safe h.box hT rfl
  have hb2 : Box p w2 #[.int .i64 (D.size : Int), .slice (some ⟨g, 0, none⟩) D.safe.length sc, pv] T := h.box.grown hg (fun k hk => row_ne_box h.pend h.box hTW hk)
  have hpq : p ≠ q := row_ne_box hown hb2 hTW rfl
  have hsafe2 : w2.ownsRow 0 9 1 (.slice (some ⟨g, 0, none⟩) D.safe.length sc) D.safe.length (strs D.safe) := row_kept h.safe fun i hi hlt => hg.block i hlt (fun e => row_ne_row h.pend h.safe hW e.symm hi)
  have hsz : (w2.setCell ⟨p, 2, none⟩ (.slice (some ⟨q, 0, none⟩) (D.pend.length + 1) cap)).heap.size = w2.heap.size := by simp [World.setCell]
  refine ⟨hb2.set 2 _, row_kept hsafe2 fun i hi _ => ?_, ?_, .inl h.kp, .inl h.kg, ?_, ?_, h.ok.push ha ht⟩
  · cases hi
    exact heap_setCell_other w2 ⟨p, 2, none⟩ g _ (fun e => hpg e.symm)
  · have e1 : (D.push a t).pend.length = D.pend.length + 1 := by simp [Dk.push]
    have e2 : (D.push a t).pend.flatMap f = D.pend.flatMap f ++ f ⟨a, t⟩ := by simp [Dk.push]
    rw [e1, e2]
    refine row_kept hown fun i hi _ => ?_
    cases hi
    exact heap_setCell_other w2 ⟨p, 2, none⟩ q _ (fun e => hpq e.symm)
  · intro k hk
    cases hk
    exact .inr rfl
  · intro i hi
    rw [hsz]
    rcases hi with hi | rfl
    · exact Nat.lt_of_lt_of_le (h.lt i hi) hg.size
    · exact row_lt hown rfl
end
end Dsk
end Go.Proofs.Ytdiocnehejeldaa
