/-
  Small words of our own, over any program: a map of the heap told by a function on its keys; a world that has turned in some blocks alone.
-/
import Derived.Test.YtdiocnehejeldaaKit
import Derived.Maps.OwnSet
import Derived.DeepKeys4
namespace Go.Proofs.Ytdiocnehejeldaa.Kit
open Go.RowKit Go.ChangeMaps Go.MapKept Go.WideShapes
open Go.Maps (Keyed)

/-! ### A world that has turned in some blocks alone -/
/-- Of the blocks that there were, those outside S are as they were; the streams too. -/
structure But (S : Nat → Prop) (w w' : World) : Prop where
  os : w'.os = w.os
  tape : w'.tape = w.tape
  output : w'.output = w.output
  size : w.heap.size ≤ w'.heap.size
  block : ∀ k, k < w.heap.size → ¬ S k → w'.heap[k]? = w.heap[k]?

section
variable {S S' : Nat → Prop} {w w' w'' : World}
theorem But.refl (S : Nat → Prop) (w : World) : But S w w := ⟨rfl, rfl, rfl, Nat.le_refl _, fun _ _ _ => rfl⟩
theorem But.trans (h : But S w w') (k : But S w' w'') : But S w w'' :=
  ⟨k.os.trans h.os, k.tape.trans h.tape, k.output.trans h.output, Nat.le_trans h.size k.size, fun i hi hs => (k.block i (Nat.lt_of_lt_of_le hi h.size) hs).trans (h.block i hi hs)⟩
theorem But.wider (h : But S w w') (hs : ∀ k, k < w.heap.size → S k → S' k) : But S' w w' := ⟨h.os, h.tape, h.output, h.size, fun k hk hk' => h.block k hk (fun x => hk' (hs k hk x))⟩
/-- What is wider on the old blocks, and whatever on the new ones. -/
theorem But.then_ (h : But S w w') (k : But S' w' w'') (hs : ∀ i, i < w.heap.size → S' i → S i) : But S w w'' :=
  ⟨k.os.trans h.os, k.tape.trans h.tape, k.output.trans h.output, Nat.le_trans h.size k.size, fun i hi hn => (k.block i (Nat.lt_of_lt_of_le hi h.size) (fun x => hn (hs i hi x))).trans (h.block i hi hn)⟩
theorem But.of_below {B : Nat} (h : Below B w w') (hB : w.heap.size ≤ B) (S : Nat → Prop) : But S w w' := ⟨h.os, h.tape, h.output, h.size, fun k hk _ => h.block k (by omega)⟩
theorem But.below {B : Nat} (h : But S w w') (hB : B ≤ w.heap.size) (hs : ∀ k, S k → B ≤ k) : Below B w w' :=
  ⟨h.os, h.tape, h.output, h.size, fun k hk => h.block k (by omega) (fun x => by have := hs k x; omega)⟩
theorem But.of_grown {row : Option Nat} (h : w.grownBy w' row) (hs : ∀ k, row = some k → k < w.heap.size → S k) : But S w w' :=
  ⟨h.os, h.tape, h.output, h.size, fun k hk hn => h.block k hk (fun e => hn (hs k e.symm hk))⟩
theorem But.alloc (h : But S w w') (o : Obj) : But S w (w'.alloc o) :=
  h.trans ⟨rfl, rfl, rfl, by simp, fun k hk _ => Below.heap_alloc _ _ _ hk⟩
theorem But.drew (h : But S w w') : But S w w'.drew := ⟨h.os, h.tape, h.output, h.size, h.block⟩
theorem But.setCell (h : But S w w') {p : Addr} (hp : p.block < w.heap.size → S p.block) (u : Value) : But S w (w'.setCell p u) :=
  ⟨h.os, h.tape, h.output, by simp only [World.setCell, Array.size_modify]; exact h.size, fun k hk hn => (Below.heap_setCell _ _ _ _ (by rintro rfl; exact hn (hp hk))).trans (h.block k hk hn)⟩
theorem But.cell (h : But S w w') {p : Addr} (hp : p.block < w.heap.size) (hn : ¬ S p.block) : w'.cell? p = w.cell? p := World.cell?_of_block (w := w) (h.block p.block hp hn)
/-- A slice whose block is not among those that have turned. -/
theorem Rd.but {v : Value} {xs : List Value} (h : Rd w v xs) (hb : But S w w') (hv : ∀ k, v.ownBlock = some k → ¬ S k) : Rd w' v xs := by
  obtain ⟨a, cap, rfl, h⟩ := h
  refine ⟨a, cap, rfl, ?_⟩
  rcases h with h | ⟨ad, rfl, hc⟩
  · exact .inl h
  · exact .inr ⟨ad, rfl, fun j u hu => by
      have h1 := hc j u hu
      rw [hb.cell (World.block_lt_of_cell? _ _ h1) (by rw [add_block]; exact hv _ rfl)]
      exact h1⟩
end

/-! ### A map of the heap, told by a function on its keys -/
section
variable {P : Program} {κ ε : Type} {ke : κ → Value} {ve : ε → Value} {k e t : TypeId} {w w' : World} {b : Nat} {f : κ → Option ε}

/-- Block b is a map that has, at the key 've x', what f tells of x. -/
def Tab (P : Program) (k : TypeId) (ke : κ → Value) (ve : ε → Value) (w : World) (b : Nat) (f : κ → Option ε) : Prop :=
  ∃ es clock, w.heap[b]? = some (.map es clock) ∧
    (∀ (i : Nat) (e : MapEntry), es[i]? = some e → ∃ x y, e.key = ke x ∧ e.val = ve y ∧ f x = some y ∧ ∃ l, keyOf P k (ke x) = some l) ∧
    (∀ x y, f x = some y → ∃ (i : Nat) (e : MapEntry), es[i]? = some e ∧ e.key = ke x) ∧
    (∀ (i j : Nat) (a c : MapEntry), es[i]? = some a → es[j]? = some c → a.key = c.key → i = j)

theorem Tab.lt (h : Tab P k ke ve w b f) : b < w.heap.size := by
  obtain ⟨es, clock, hb, _⟩ := h
  exact (Array.getElem?_eq_some_iff.1 hb).1
theorem Tab.kept (h : Tab P k ke ve w b f) (hb : w'.heap[b]? = w.heap[b]?) : Tab P k ke ve w' b f := by
  obtain ⟨es, clock, h1, h2⟩ := h
  exact ⟨es, clock, hb.trans h1, h2⟩
theorem Tab.but {S : Nat → Prop} (h : Tab P k ke ve w b f) (hb : But S w w') (hs : ¬ S b) : Tab P k ke ve w' b f := h.kept (hb.block b h.lt hs)
theorem Tab.below {B : Nat} (h : Tab P k ke ve w b f) (hb : Below B w w') (hB : b < B) : Tab P k ke ve w' b f := h.kept (hb.block b hB)
theorem Tab.made (w : World) (P : Program) (k : TypeId) (ke : κ → Value) (ve : ε → Value) : Tab P k ke ve (w.alloc (.map #[] 0)) w.heap.size (fun _ => none) :=
  ⟨#[], 0, (MapKept.heap_alloc w _).1, by simp, by simp, by simp⟩
/-- A map is no block of cells. -/
theorem Tab.ne_cells (h : Tab P k ke ve w b f) {c : Nat} {cs : Array Value} {T : TypeId} {r : Nat × Nat} (hc : w.heap[c]? = some (.cells cs T r)) : b ≠ c := by
  obtain ⟨es, clock, hb, _⟩ := h
  rintro rfl
  rw [hb] at hc
  cases hc

/-- 'v, ok := m[k]'. -/
theorem Tab.look (h : Tab P k ke ve w b f) (hinj : ∀ x y, ke x = ke y → x = y) (K : Keyed P k) (ht : P.underlying t = some (.map k e)) {z : Value} (hz : (zeroValue e).run P w = .ok z w) {x : κ} {kl : Lit} (hkey : keyOf P k (ke x) = some kl) :
    (Instr.lookup t (.map (some b)) (ke x) true).run P w = .ok (.tuple #[((f x).map ve).getD z, .bool (f x).isSome]) w := by
  obtain ⟨es, clock, hb, h1, h2, h3⟩ := h
  rcases K.find w hkey es.toList (fun e0 he0 => by
    obtain ⟨i, hi⟩ := List.mem_iff_getElem?.1 he0
    obtain ⟨x', y', e1, _, _, l, hl⟩ := h1 i e0 (by simpa using hi)
    exact ⟨l, by rw [e1]; exact hl⟩) with ⟨g1, g2⟩ | ⟨j, e0, g1, g2, g3⟩
  · have hn : f x = none := by
      cases hf : f x with
      | none => rfl
      | some y =>
        obtain ⟨i, e1, hi, hk⟩ := h2 x y hf
        exact absurd hk (g2 e1 (List.mem_iff_getElem?.2 ⟨i, by simpa using hi⟩))
    simp [Instr.lookup, run_underlying ht, MapKept.run_getObj_map hb, K.check w _ hkey, g1, hz, Result.andThen, hn]
  · obtain ⟨x', y', e1, e2, e3, _⟩ := h1 j e0 (by simpa using g2)
    obtain rfl := hinj x' x (e1.symm.trans g3)
    simp [Instr.lookup, run_underlying ht, MapKept.run_getObj_map hb, K.check w _ hkey, g1, Result.andThen, e3, e2]

/-- 'm[k] = v'. -/
theorem Tab.store (h : Tab P k ke ve w b f) (hinj : ∀ x y, ke x = ke y → x = y) (K : Keyed P k) (ht : P.underlying t = some (.map k e)) {x : κ} {kl : Lit} (hkey : keyOf P k (ke x) = some kl) (y : ε) {f' : κ → Option ε} (hf : f' x = some y) (hf' : ∀ z, z ≠ x → f' z = f z) :
    ∃ w', (Instr.mapUpdate t (.map (some b)) (ke x) (ve y)).run P w = .ok () w' ∧ Tab P k ke ve w' b f' ∧ w.grownBy w' (some b) ∧ w'.heap.size = w.heap.size := by
  obtain ⟨es, clock, hb, h1, h2, h3⟩ := h
  have grown : ∀ es' clock', w.grownBy (setBlock w b (.map es' clock')) (some b) := fun es' clock' => ⟨rfl, rfl, rfl, by simp [setBlock], fun i _ hi => heap_setBlock_other hb _ (fun e => hi (by rw [e]))⟩
  have hsz : ∀ es' clock', (setBlock w b (.map es' clock')).heap.size = w.heap.size := fun es' clock' => by simp [setBlock]
  rcases K.find w hkey es.toList (fun e0 he0 => by
    obtain ⟨i, hi⟩ := List.mem_iff_getElem?.1 he0
    obtain ⟨x', y', e1, _, _, l, hl⟩ := h1 i e0 (by simpa using hi)
    exact ⟨l, by rw [e1]; exact hl⟩) with ⟨g1, g2⟩ | ⟨j, e0, g1, g2, g3⟩
  · refine ⟨setBlock w b (.map (es.push ⟨ke x, ve y, clock⟩) (clock + 1)), ?_, ⟨_, _, heap_setBlock_same hb _, ?_, ?_, ?_⟩, grown _ _, hsz _ _⟩
    · simp [Instr.mapUpdate, run_underlying ht, MapKept.run_getObj_map hb, K.check w false hkey, g1, MapKept.run_setObj_map _ hb, Result.andThen, setBlock]
    · intro i a ha
      rw [Array.getElem?_push] at ha
      split at ha
      · cases ha
        exact ⟨x, y, rfl, rfl, hf, kl, hkey⟩
      · obtain ⟨x', y', e1, e2, e3, e4⟩ := h1 i a ha
        refine ⟨x', y', e1, e2, ?_, e4⟩
        rw [hf' x' ?_]
        · exact e3
        · rintro rfl
          exact g2 a (List.mem_iff_getElem?.2 ⟨i, by simpa using ha⟩) e1
    · intro z u hz
      by_cases hzx : z = x
      · subst hzx
        exact ⟨es.size, ⟨ke z, ve y, clock⟩, by simp, rfl⟩
      · rw [hf' z hzx] at hz
        obtain ⟨i, a, ha, hk⟩ := h2 z u hz
        have hlt : i < es.size := (Array.getElem?_eq_some_iff.1 ha).1
        exact ⟨i, a, by rw [Array.getElem?_push, if_neg (by omega)]; exact ha, hk⟩
    · intro i j a c ha hc hac
      rw [Array.getElem?_push] at ha hc
      split at ha <;> split at hc
      · omega
      · cases ha
        exact absurd hac.symm (g2 c (List.mem_iff_getElem?.2 ⟨j, by simpa using hc⟩))
      · cases hc
        exact absurd hac (g2 a (List.mem_iff_getElem?.2 ⟨i, by simpa using ha⟩))
      · exact h3 i j a c ha hc hac
  · have hj : es[j]? = some e0 := by simpa using g2
    have hat : ∀ i a, (es.modify j (fun e' => { e' with key := ke x, val := ve y }))[i]? = some a → (i = j ∧ a.key = ke x ∧ a.val = ve y) ∨ (i ≠ j ∧ es[i]? = some a) := by
      intro i a ha
      rw [Array.getElem?_modify] at ha
      split at ha
      · rename_i hji
        subst hji
        rw [hj] at ha
        cases ha
        exact .inl ⟨rfl, rfl, rfl⟩
      · rename_i hji
        exact .inr ⟨fun e => hji e.symm, ha⟩
    refine ⟨setBlock w b (.map (es.modify j (fun e' => { e' with key := ke x, val := ve y })) clock), ?_, ⟨_, _, heap_setBlock_same hb _, ?_, ?_, ?_⟩, grown _ _, hsz _ _⟩
    · simp [Instr.mapUpdate, run_underlying ht, MapKept.run_getObj_map hb, K.check w false hkey, g1, hj, g3, K.stays w hkey, MapKept.run_setObj_map _ hb, Result.andThen, setBlock]
    · intro i a ha
      rcases hat i a ha with ⟨rfl, e1, e2⟩ | ⟨hij, ha'⟩
      · exact ⟨x, y, e1, e2, hf, kl, hkey⟩
      · obtain ⟨x', y', e1, e2, e3, e4⟩ := h1 i a ha'
        refine ⟨x', y', e1, e2, ?_, e4⟩
        rw [hf' x' ?_]
        · exact e3
        · rintro rfl
          exact hij (h3 i j a e0 ha' hj (e1.trans g3.symm))
    · intro z u hz
      by_cases hzx : z = x
      · subst hzx
        exact ⟨j, { e0 with key := ke z, val := ve y }, by rw [Array.getElem?_modify, if_pos rfl, hj]; rfl, rfl⟩
      · rw [hf' z hzx] at hz
        obtain ⟨i, a, ha, hk⟩ := h2 z u hz
        have hij : ¬ j = i := by
          rintro rfl
          rw [hj] at ha
          cases ha
          exact hzx (hinj z x (hk.symm.trans g3))
        exact ⟨i, a, by rw [Array.getElem?_modify, if_neg hij]; exact ha, hk⟩
    · intro i i' a c ha hc hac
      rcases hat i a ha with ⟨rfl, e1, _⟩ | ⟨hij, ha'⟩ <;> rcases hat i' c hc with ⟨rfl, e2, _⟩ | ⟨hij', hc'⟩
      · rfl
      · exact absurd (h3 i' i c e0 hc' hj (hac.symm.trans (e1.trans g3.symm))) hij'
      · exact absurd (h3 i i' a e0 ha' hj (hac.trans (e2.trans g3.symm))) hij
      · exact h3 i i' a c ha' hc' hac
end

/-! ### at the operation, for a walk -/
section
variable {P : Program} {κ ε : Type} {ke : κ → Value} {ve : ε → Value} {b : Nat} {f : κ → Option ε} (w : World) {ops : Array Oper} {rest : List Oper} {o : Oper} {a : Act} {Q : Exit → Act → World → Prop}
theorem wpList_tab_look (hg : o.guard = none) (m y : Operand) (t : TypeId) (hop : o.op = Op.lookup t m y true) (k e : TypeId) (K : Keyed P k) (ht : P.underlying t = some (.map k e)) {z : Value} (hz : (zeroValue e).run P w = .ok z w)
    (hm : a.eval m = .map (some b)) (hinj : ∀ x y, ke x = ke y → x = y) (h : Tab P k ke ve w b f) (x : κ) {kl : Lit} (hkey : keyOf P k (ke x) = some kl) (hx : a.eval y = ke x) {u : Value} {c : Bool} (hu : ((f x).map ve).getD z = u) (hc : (f x).isSome = c)
    (hK : wpList P ops Q rest (a.put o.dst (.tuple #[u, .bool c])) w) : wpList P ops Q (o :: rest) a w := by
  refine wpList_plain hg fun K' hK' => ?_
  have hrun := h.look hinj K ht hz hkey
  rw [hu, hc] at hrun
  unfold Oper.wp
  simp [execOp, hop, hm, hx, hrun, Result.andThen]
  exact hK' _ _ hK
theorem wpList_tab_store (hg : o.guard = none) (m y v : Operand) (t : TypeId) (hop : o.op = Op.mapUpdate t m y v) (k e : TypeId) (K : Keyed P k) (ht : P.underlying t = some (.map k e))
    (hm : a.eval m = .map (some b)) (hinj : ∀ x y, ke x = ke y → x = y) (h : Tab P k ke ve w b f) (x : κ) {kl : Lit} (hkey : keyOf P k (ke x) = some kl) (hx : a.eval y = ke x) (u : ε) (hv : a.eval v = ve u) (f' : κ → Option ε) (hf : f' x = some u) (hf' : ∀ z, z ≠ x → f' z = f z)
    (hK : ∀ w', Tab P k ke ve w' b f' → w.grownBy w' (some b) → w'.heap.size = w.heap.size → wpList P ops Q rest (a.put o.dst undef) w') : wpList P ops Q (o :: rest) a w := by
  refine wpList_plain hg fun K' hK' => ?_
  obtain ⟨w', hrun, r1, r2, r3⟩ := h.store hinj K ht hkey u hf hf'
  unfold Oper.wp
  simp [execOp, hop, hm, hx, hv, hrun, Result.andThen]
  exact hK' _ _ (hK w' r1 r2 r3)
end
end Go.Proofs.Ytdiocnehejeldaa.Kit
