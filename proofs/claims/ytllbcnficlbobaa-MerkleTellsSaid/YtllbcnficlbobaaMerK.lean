/-
  Generic: slices off some blocks; trees (slices of slices); one value appended; an oracle where new blocks alone turn.
-/
import Derived.Test.YtllbcnficlbobaaApp
import Derived.Test.YtllbcnficlbobaaBox
import Derived.Test.YtllbcnficlbobaaMer
namespace Go.Proofs.Ytllbcnficlbobaa
open Go.RowKit
open Ideal Ida

namespace Kit
/-- A slice that reads as a list, in none of the blocks of S. -/
def Off (S : Nat → Prop) (w : World) (v : Value) (xs : List Value) : Prop :=
  ∃ a cap, v = .slice a xs.length cap ∧ (xs.length ≤ cap ∧ cap ≤ maxLen) ∧ (xs = [] ∨ ∃ ad : Addr, a = some ad ∧ ¬ S ad.block ∧ ∀ j u, xs[j]? = some u → w.cell? (ad.add j) = some u)
section
variable {S S' : Nat → Prop} {w w' : World} {v : Value} {xs : List Value}
theorem Off.rd (h : Off S w v xs) : Rd w v xs := by
  obtain ⟨a, cap, rfl, -, h⟩ := h
  refine ⟨a, cap, rfl, h.imp id ?_⟩
  rintro ⟨ad, rfl, -, hc⟩
  exact ⟨ad, rfl, hc⟩
theorem Off.nil_ (S : Nat → Prop) (w : World) : Off S w (.slice none 0 0) [] := ⟨none, 0, rfl, ⟨Nat.le_refl _, Nat.zero_le _⟩, .inl rfl⟩
theorem Off.kept (h : Off S w v xs) (hb : ∀ i, i < w.heap.size → ¬ S i → w'.heap[i]? = w.heap[i]?) : Off S w' v xs := by
  obtain ⟨a, cap, rfl, hz, h⟩ := h
  refine ⟨a, cap, rfl, hz, h.imp id ?_⟩
  rintro ⟨ad, rfl, hs, hc⟩
  refine ⟨ad, rfl, hs, fun j u hu => ?_⟩
  have h1 := hc j u hu
  have h2 := World.block_lt_of_cell? _ _ h1
  rw [World.cell?_of_block (w := w) (hb _ h2 (by rw [add_block]; exact hs))]
  exact h1
theorem Off.but (h : Off S w v xs) (hb : But S w w') : Off S w' v xs := h.kept fun i hi hs => hb.block i hi hs
theorem Off.below (h : Off S w v xs) (hb : Below w.heap.size w w') : Off S w' v xs := h.kept fun i hi _ => hb.block i hi
theorem Off.low {B : Nat} (h : Off S w v xs) (hb : Below B w w') (hs : ∀ i, i < w.heap.size → ¬ S i → i < B) : Off S w' v xs := h.kept fun i hi hi2 => hb.block i (hs i hi hi2)
theorem Off.weak (h : Off S w v xs) (hs : ∀ i, i < w.heap.size → S' i → S i) : Off S' w v xs := by
  obtain ⟨a, cap, rfl, hz, h⟩ := h
  refine ⟨a, cap, rfl, hz, ?_⟩
  cases xs with
  | nil => exact .inl rfl
  | cons x xs =>
    obtain ⟨ad, rfl, hn, hc⟩ := h.resolve_left (by simp)
    have h1 := World.block_lt_of_cell? _ _ (hc 0 x rfl)
    rw [add_block] at h1
    exact .inr ⟨ad, rfl, fun hs' => hn (hs _ h1 hs'), hc⟩
theorem Off.of_own {B : Nat} {e : TypeId} {n : Nat} (h : w.ownsRow B e 1 v n xs) (hs : ∀ i, S i → i < B) : Off S w v xs := by
  have hl : xs.length = n := by simpa using h.1
  subst hl
  rcases h.2 with ⟨rfl, h0⟩ | ⟨g, cap, cur, rfl, hB, -, hz1, hz2, -⟩
  · obtain rfl := List.eq_nil_of_length_eq_zero h0
    exact Off.nil_ S w
  · exact ⟨_, cap, rfl, ⟨hz1, hz2⟩, .inr ⟨_, rfl, fun hS => by have := hs g hS; omega, h.cells (g := g) rfl⟩⟩
theorem Off.form (h : Off S w v xs) : ∃ a cap, v = .slice a xs.length cap ∧ xs.length ≤ cap ∧ cap ≤ maxLen := by
  obtain ⟨a, cap, rfl, hz, _⟩ := h
  exact ⟨a, cap, rfl, hz.1, hz.2⟩
theorem Off.at_ {a : Option Addr} {n cap k : Nat} {u : Value} (h : Off S w (.slice a n cap) xs) (hu : xs[k]? = some u) : ∃ ad, a = some ad ∧ w.cell? (ad.add k) = some u := h.rd.at_ hu
/-- Part of a slice. -/
theorem Off.base {a : Option Addr} {n cap : Nat} (h : Off S w (.slice a n cap) xs) (hx : xs ≠ []) : ∃ ad : Addr, a = some ad ∧ ¬ S ad.block ∧ ∀ j u, xs[j]? = some u → w.cell? (ad.add j) = some u := by
  obtain ⟨a', cap', e, _, h⟩ := h
  injection e with e1 e2 e3
  subst e1
  exact h.resolve_left hx
theorem But.low {S : Nat → Prop} {w w' w'' : World} (h : But S w w') (b : Below w.heap.size w' w'') : But S w w'' :=
  ⟨b.os.trans h.os, b.tape.trans h.tape, b.output.trans h.output, Nat.le_trans h.size b.size, fun i hi hn => (b.block i hi).trans (h.block i hi hn)⟩
theorem own_but {B : Nat} {e : TypeId} {z : Nat} {n : Nat} (h : w.ownsRow B e z v n xs) (b : But S w w') (hs : ∀ i, S i → i < B) : w'.ownsRow B e z v n xs := by
  refine ⟨h.1, ?_⟩
  rcases h.2 with h1 | ⟨g, cap, cur, e1, h2, h3, h4⟩
  · exact .inl h1
  · refine .inr ⟨g, cap, cur, e1, h2, ?_, h4⟩
    rw [b.block g (Array.getElem?_eq_some_iff.1 h3).1 (fun hS => by have := hs g hS; omega)]
    exact h3
theorem own_below {B : Nat} {e : TypeId} {z : Nat} {n : Nat} (h : w.ownsRow B e z v n xs) (b : Below w.heap.size w w') : w'.ownsRow B e z v n xs := by
  refine ⟨h.1, ?_⟩
  rcases h.2 with h1 | ⟨g, cap, cur, e1, h2, h3, h4⟩
  · exact .inl h1
  · refine .inr ⟨g, cap, cur, e1, h2, ?_, h4⟩
    rw [b.block g (Array.getElem?_eq_some_iff.1 h3).1]
    exact h3
theorem own_form {B : Nat} {e : TypeId} {z : Nat} {n : Nat} (h : w.ownsRow B e z v n xs) : ∃ a cap, v = .slice a n cap := by
  rcases h.2 with ⟨rfl, h0⟩ | ⟨g, cap, cur, rfl, _⟩
  · subst h0
    exact ⟨_, _, rfl⟩
  · exact ⟨_, _, rfl⟩
end

/-- A slice of slices of numbers. -/
def Tr (S : Nat → Prop) (w : World) (v : Value) (t : List (List Nat)) : Prop :=
  ∃ vs : List Value, Off S w v vs ∧ vs.length = t.length ∧ ∀ (k : Nat) (x : Value) (l : List Nat), vs[k]? = some x → t[k]? = some l → Off S w x (nums l)
section
variable {S S' : Nat → Prop} {w w' : World} {v : Value} {t : List (List Nat)}
theorem Tr.kept (h : Tr S w v t) (hb : ∀ i, i < w.heap.size → ¬ S i → w'.heap[i]? = w.heap[i]?) : Tr S w' v t := by
  obtain ⟨vs, h1, h2, h3⟩ := h
  exact ⟨vs, h1.kept hb, h2, fun k x l hx hl => (h3 k x l hx hl).kept hb⟩
theorem Tr.but (h : Tr S w v t) (hb : But S w w') : Tr S w' v t := h.kept fun i hi hs => hb.block i hi hs
theorem Tr.below (h : Tr S w v t) (hb : Below w.heap.size w w') : Tr S w' v t := h.kept fun i hi _ => hb.block i hi
theorem Tr.weak (h : Tr S w v t) (hs : ∀ i, i < w.heap.size → S' i → S i) : Tr S' w v t := by
  obtain ⟨vs, h1, h2, h3⟩ := h
  exact ⟨vs, h1.weak hs, h2, fun k x l hx hl => (h3 k x l hx hl).weak hs⟩
theorem Tr.any (h : Tr S w v t) : Tr (fun _ => False) w v t := h.weak fun _ _ hf => hf.elim
theorem Tr.nil_ (S : Nat → Prop) (w : World) : Tr S w (.slice none 0 0) [] := ⟨[], Off.nil_ S w, rfl, fun k x l h => by cases h⟩
theorem Tr.form (h : Tr S w v t) : ∃ a cap, v = .slice a t.length cap ∧ t.length ≤ cap ∧ cap ≤ maxLen := by
  obtain ⟨vs, h1, h2, h3⟩ := h
  rw [← h2]
  exact h1.form
theorem Tr.at_ {a : Option Addr} {n cap k : Nat} (h : Tr S w (.slice a n cap) t) (hk : k < t.length) : ∃ ad la lc, a = some ad ∧ w.cell? (ad.add k) = some (.slice la (t.getD k []).length lc) ∧ ((t.getD k []).length ≤ lc ∧ lc ≤ maxLen) ∧ Off S w (.slice la (t.getD k []).length lc) (nums (t.getD k [])) := by
  obtain ⟨vs, h1, h2, h3⟩ := h
  have hv : k < vs.length := by omega
  obtain ⟨ad, rfl, hc⟩ := h1.at_ (List.getElem?_eq_getElem hv)
  have hl : t[k]? = some (t.getD k []) := by rw [List.getElem?_eq_getElem hk, List.getD_eq_getElem?_getD, List.getElem?_eq_getElem hk]; rfl
  have ho := h3 k _ _ (List.getElem?_eq_getElem hv) hl
  obtain ⟨la, lc, e, hz⟩ := ho.form
  rw [show (nums (t.getD k [])).length = (t.getD k []).length by simp [nums]] at e hz
  rw [e] at hc ho
  exact ⟨ad, la, lc, rfl, hc, hz, ho⟩
end

theorem lit1 (w : World) (u : Value) (T : TypeId) : Sl (w.alloc (.cells #[u] T)) (.slice (some ⟨w.heap.size, 0, none⟩) 1 1) [u] := by
  refine .inr ⟨_, 1, rfl, fun j x hj => ?_⟩
  match j, hj with
  | 0, hj =>
    simp at hj
    subst hj
    simp [Addr.add]
  | j + 1, hj => simp at hj
section
variable {P : Program} {W : World} {ops : Array Oper} {rest : List Oper} {o : Oper} {a : Act} {Q : Exit → Act → World → Prop} {K : Act → World → Prop} {E : Prop}
theorem wp_append_one (s x : Operand) (t : TypeId) (ho : o.op = .call { callee := .builtin .append, args := #[s, x], argTypes := #[t, t] })
    (base : Nat) (e : TypeId) (i : TypeInfo) (z : Value) (bytes : Nat) (ht : P.underlying t = some (.slice e)) (hi : P.info? e = some i) (hz : i.zero = some z) (hsize : i.size = 1) (hby : i.bytes = bytes) (hzs : z.cells.size = 1)
    (v : Value) (n : Nat) (xs : List Value) (hs : a.eval s = v) (hown : W.ownsRow base e 1 v n xs) (u : Value) (T : TypeId) (hx : a.eval x = .slice (some ⟨W.heap.size, 0, none⟩) 1 1) (h1 : u.oneCell' = true)
    (h63 : n + 1 ≤ maxLen) (hbytes : (n + 1) * bytes ≤ 140737488355328) (hbase : base ≤ W.heap.size)
    (h : ∀ v' w', w'.ownsRow base e 1 v' (n + 1) (xs ++ [u]) → Below base W w' → (W.alloc (.cells #[u] T)).grownBy w' v.ownBlock → K (a.put o.dst v') w') : Oper.wp P o a (W.alloc (.cells #[u] T)) K Q :=
  wp_append_sl s x t ho base e i z bytes ht hi hz hsize hby hzs v n xs hs (hown.alloc _) _ [u] hx (lit1 W u T) (by simpa using h1) h63 hbytes (by simp; omega) fun v' w' h2 h3 =>
    h v' w' h2 (((Below.refl base W).alloc hbase _).grown h3 (by simp; omega) (fun k hk => (hown.lt k hk).1)) h3
theorem wpList_append_one (hgd : o.guard = none) (s x : Operand) (t : TypeId) (ho : o.op = .call { callee := .builtin .append, args := #[s, x], argTypes := #[t, t] })
    (base : Nat) (e : TypeId) (i : TypeInfo) (z : Value) (bytes : Nat) (ht : P.underlying t = some (.slice e)) (hi : P.info? e = some i) (hz : i.zero = some z) (hsize : i.size = 1) (hby : i.bytes = bytes) (hzs : z.cells.size = 1)
    (v : Value) (n : Nat) (xs : List Value) (hs : a.eval s = v) (hown : W.ownsRow base e 1 v n xs) (u : Value) (T : TypeId) (hx : a.eval x = .slice (some ⟨W.heap.size, 0, none⟩) 1 1) (h1 : u.oneCell' = true)
    (h63 : n + 1 ≤ maxLen) (hbytes : (n + 1) * bytes ≤ 140737488355328) (hbase : base ≤ W.heap.size)
    (h : ∀ v' w', w'.ownsRow base e 1 v' (n + 1) (xs ++ [u]) → Below base W w' → (W.alloc (.cells #[u] T)).grownBy w' v.ownBlock → wpList P ops Q rest (a.put o.dst v') w') : wpList P ops Q (o :: rest) a (W.alloc (.cells #[u] T)) :=
  wpList_plain hgd fun _ hK => wp_append_one s x t ho base e i z bytes ht hi hz hsize hby hzs v n xs hs hown u T hx h1 h63 hbytes hbase fun v' w' h2 h3 h4 => hK _ _ (h v' w' h2 h3 h4)
theorem step_append_one (hgd : o.guard = none) (s x : Operand) (t : TypeId) (ho : o.op = .call { callee := .builtin .append, args := #[s, x], argTypes := #[t, t] })
    (base : Nat) (e : TypeId) (i : TypeInfo) (z : Value) (bytes : Nat) (ht : P.underlying t = some (.slice e)) (hi : P.info? e = some i) (hz : i.zero = some z) (hsize : i.size = 1) (hby : i.bytes = bytes) (hzs : z.cells.size = 1)
    (v : Value) (n : Nat) (xs : List Value) (hs : a.eval s = v) (hown : W.ownsRow base e 1 v n xs) (u : Value) (T : TypeId) (hx : a.eval x = .slice (some ⟨W.heap.size, 0, none⟩) 1 1) (h1 : u.oneCell' = true)
    (h63 : n + 1 ≤ maxLen) (hbytes : (n + 1) * bytes ≤ 140737488355328) (hbase : base ≤ W.heap.size)
    (h : ∀ v' w', w'.ownsRow base e 1 v' (n + 1) (xs ++ [u]) → Below base W w' → (W.alloc (.cells #[u] T)).grownBy w' v.ownBlock → K (a.put o.dst v') w') : if Region.wanted o (yielded ops a.tmps) = true then Oper.wp P o a (W.alloc (.cells #[u] T)) K Q else E := by
  have hw : Region.wanted o (yielded ops a.tmps) = true := by simp [Region.wanted, hgd]
  rw [if_pos hw]
  exact wp_append_one s x t ho base e i z bytes ht hi hz hsize hby hzs v n xs hs hown u T hx h1 h63 hbytes hbase h
end
/-- A literal. -/
theorem Off.lit {S : Nat → Prop} (w : World) (xs : List Value) (T : TypeId) (hs : ¬ S w.heap.size) (hl : xs.length ≤ maxLen) : Off S (w.alloc (.cells xs.toArray T)) (.slice (some ⟨w.heap.size, 0, none⟩) xs.length xs.length) xs := by
  refine ⟨_, _, rfl, ⟨Nat.le_refl _, hl⟩, .inr ⟨_, rfl, hs, fun j u hu => ?_⟩⟩
  have h : (w.alloc (.cells xs.toArray T)).heap[w.heap.size]? = some (.cells xs.toArray T (0, 0)) := (MapKept.heap_alloc w _).1
  rw [show (⟨w.heap.size, 0, none⟩ : Addr).add j = ⟨w.heap.size, j, none⟩ by (unfold Addr.add; split <;> simp_all), Lib.cell_of_heap h]
  simpa using hu
end Kit

theorem nums_snoc1 (l : List Nat) (n : Nat) : nums (l ++ [n]) = nums l ++ [.int .u64 (n : Int)] := by simp [nums]
theorem nums_len (l : List Nat) : (nums l).length = l.length := by simp [nums]
theorem nums_at {l : List Nat} {k : Nat} (h : k < l.length) : (nums l)[k]? = some (.int .u64 (l.getD k 0 : Nat)) := by simp [nums, h]
theorem getD_at {l : List Nat} {k : Nat} (h : k < l.length) : l.getD k 0 = l[k] := by simp [h]
theorem infoNums : (Try.prog.info? 22).map (fun i => (i.zero, i.size, i.bytes)) = some (some (.slice none 0 0), 1, 24) := by kernel_rfl

namespace Ideal.Or
theorem draws_ask1 (O : Or) (x : Row) : (O.ask x).draws = O.draws := by
  unfold ask
  split <;> rfl
theorem draws_asks (a : List ByteArray) : ∀ O : Or, (O.asks a).draws = O.draws := by
  induction a with
  | nil => intro O; rfl
  | cons t a ih => intro O; exact (ih _).trans (draws_ask1 _ _)
theorem draws_climb (p : List Nat) : ∀ (O : Or) (h i : Nat), (O.climb h i p).2.draws = O.draws := by
  induction p with
  | nil => intro O h i; rfl
  | cons b p ih => intro O h i; exact (ih _ _ _).trans (draws_ask1 _ _)
theorem draws_lv (O : Or) (ls : List ByteArray) (d : Nat) : ∀ k, (O.lv ls d k).1.draws = O.draws
  | 0 => draws_asks _ O
  | k + 1 => (draws_asks _ _).trans (draws_lv O ls d k)
end Ideal.Or
namespace Ida
/-- An oracle stays where nothing turned but what came since. -/
theorem Orc.far {w0 w1 w' : World} {L : Lay} {O0 O1 : Or} (h : Orc w1 L O1) (h0 : Orc w0 L O0) (hd : O1.draws = O0.draws) (hb : Below w0.heap.size w1 w') : Orc w' L O1 := by
  refine ⟨h.1.kept (fun i hi => hb.block i (h0.lt hi)) ?_, h.2⟩
  have r1 : Kit.Rd w1 L.dv (nums O1.draws) := h.1.dr
  have r0 : Kit.Rd w0 L.dv (nums O0.draws) := h0.1.dr
  show Kit.Rd w' L.dv (nums O1.draws)
  rw [← hd] at r0
  obtain ⟨a, cap, e1, h1⟩ := r1
  obtain ⟨a', cap', e2, h2⟩ := r0
  refine ⟨a, cap, e1, ?_⟩
  rcases h1 with h1 | ⟨ad, rfl, hc⟩
  · exact .inl h1
  · refine .inr ⟨ad, rfl, fun j x hx => ?_⟩
    rw [e1] at e2
    simp only [Value.slice.injEq] at e2
    obtain ⟨rfl, -, rfl⟩ := e2
    rcases h2 with h2 | ⟨ad', e3, hc'⟩
    · rw [h2] at hx
      cases hx
    · obtain rfl := Option.some.inj e3
      rw [hb.cell (World.block_lt_of_cell? _ _ (hc' j x hx))]
      exact hc j x hx
end Ida
end Go.Proofs.Ytllbcnficlbobaa
