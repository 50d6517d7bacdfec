/-
  Package disk: the library's Backward over the pending writes, as an iterator.
-/
import Derived.Test.YtgjejofdmfpdjaaDskC
import Derived.Test.YtgjejofdmfpdjaaRng
namespace Go.Proofs.Ytgjejofdmfpdjaa
open Go.RowKit Go.Shelf

attribute [local go_sem] Oper.semAt_some

namespace Dsk
open Mera (Kp drewN_grown)

theorem row_cells {α : Type} {f : α → List Value} {w : World} {B : Nat} {e : TypeId} {z n cap : Nat} {a : Option Addr} {l : List α} (h : w.ownsRow B e z (.slice a n cap) n (l.flatMap f)) (hf : ∀ x, (f x).length = z) {k : Nat} {x : α} (hk : l[k]? = some x) (hn : l.length = n) :
    ∃ q, a = some ⟨q, 0, none⟩ ∧ ∀ j, j < z → w.cell? ⟨q, k * z + j, none⟩ = (f x)[j]? := by
  have hlt : k < n := by rw [← hn]; exact (List.getElem?_eq_some_iff.1 hk).1
  rcases h.2 with ⟨_, h0⟩ | ⟨q, cap', cur, e, hB, hg, h1, h2, h3, h4⟩
  · omega
  · injection e with e1 e2 e3
    subst e1
    subst e3
    refine ⟨q, rfl, fun j hj => ?_⟩
    have hlt2 : k * z + j < n * z := by
      have : (k + 1) * z ≤ n * z := Nat.mul_le_mul_right z hlt
      rw [Nat.add_mul] at this
      omega
    rw [h.cellAt (k * z + j) hlt2, flat_at hf _ _ _ _ hk hj]

set_option maxHeartbeats 1000000 in
theorem backward_any (a : Option Addr) (len cap : Nat) (w : World) :
    Calls Try.prog 63 #[.slice a len cap] w fun e w' => e = .returned (.func (.func 68) #[] #[.pointer (some ⟨w.heap.size, 0, none⟩)]) ∧ w' = w.alloc (.cells #[.slice a len cap] 60) := by
  go_enter Try.func63, Try.ntmps63
  go_wp2
  go_ret
  exact ⟨rfl, rfl⟩

/-- What comes: the places from the last one down. -/
def downs (m k : Nat) (h : k ≤ m) : List (Fin m) := (List.range k).attach.map fun x => ⟨m - 1 - x.1, by have := List.mem_range.1 x.2; omega⟩
theorem downs_length (m k : Nat) (h : k ≤ m) : (downs m k h).length = k := by simp [downs]
theorem downs_val (m k : Nat) (h : k ≤ m) : (downs m k h).map Fin.val = (List.range k).map fun j => m - 1 - j := by
  unfold downs
  rw [List.map_map]
  have : ((fun x : Fin m => x.val) ∘ fun x : { x // x ∈ List.range k } => (⟨m - 1 - x.1, by have := List.mem_range.1 x.2; omega⟩ : Fin m)) = fun x => m - 1 - x.1 := rfl
  show List.map ((fun x : Fin m => x.val) ∘ _) _ = _
  rw [this]
  have h2 : ∀ l : List Nat, l.attach.map (fun x => m - 1 - x.1) = l.map fun j => m - 1 - j := fun l => by
    rw [show (fun x : { x // x ∈ l } => m - 1 - x.val) = (fun j => m - 1 - j) ∘ Subtype.val from rfl, ← List.map_map, List.attach_map_subtype_val]
  exact h2 _
theorem fin_ext {m : Nat} {a b : List (Fin m)} (h : a.map Fin.val = b.map Fin.val) : a = b := by
  induction a generalizing b with
  | nil =>
    cases b with
    | nil => rfl
    | cons y b => simp at h
  | cons x a ih =>
    cases b with
    | nil => simp at h
    | cons y b =>
      simp only [List.map_cons, List.cons.injEq] at h
      rw [Fin.ext h.1, ih h.2]
theorem downs_succ (m k : Nat) (h : k + 1 ≤ m) : downs m (k + 1) h = downs m k (by omega) ++ [⟨m - 1 - k, by omega⟩] := by
  apply fin_ext
  rw [downs_val, List.map_append, downs_val]
  simp [List.range_succ]

set_option maxRecDepth 100000 in
set_option maxHeartbeats 4000000 in
theorem pends_in (n l b q : Nat) (a : Option Addr) (cap m : Nat) (p : List Wr) (hm : p.length = m) (hm2 : m < 4000) (hq : ∀ k, (Value.slice a m cap).ownBlock = some k → k = q) (J Jx : List (Fin m) → World → Prop) (hJn : ∀ pre W nq, J pre W → J pre (W.drewN nq))
    (hY : ∀ pre x W, J pre W → pre.length < m → YieldAt Fence.wide (n - 1) Try.prog l #[.int .i64 (x.val : Int), .agg (cellsP (p.getD x.val ⟨0, ⟨#[]⟩⟩)).toArray] W fun e W' =>
      (e = .returned (.bool true) ∧ J (pre ++ [x]) W' ∧ Kp b q W W') ∨ (e = .returned (.bool false) ∧ Jx (pre ++ [x]) W'))
    (W : World) (hb : W.heap[b]? = some (.cells #[.slice a m cap] 60 (0, 0))) (hrow : W.ownsRow 0 72 2 (.slice a m cap) m (p.flatMap cellsP)) (h0 : J [] W) :
    CallsIn Fence.wide n Try.prog 68 #[.func (.yield l) #[] #[], .pointer (some ⟨b, 0, none⟩)] W fun e W' => (∃ v, e = .returned v) ∧
      ((∃ ys, ys = downs m m (Nat.le_refl m) ∧ J ys W') ∨ (∃ pre, (∃ k, ∃ h : k ≤ m, pre = downs m k h) ∧ Jx pre W')) := by
  refine callsIn_of_wp Try.func68 rfl trivial ?_ rfl
  simp only [Try.ntmps68, List.size_toArray, List.length_cons, List.length_nil, Nat.reduceAdd, Nat.reduceSub, Array.replicate_succ, Array.replicate_zero, List.push_toArray, List.append_toArray, List.nil_append, List.cons_append]
  have cb : W.cell? ⟨b, 0, none⟩ = some (.slice a m cap) := by rw [Lib.cell_of_heap hb]; rfl
  have e0 : wrap64 ((m : Int) - 1) = (m : Int) - 1 := by unfold wrap64; omega
  gi_wp2
  gi_loopw [3] (fun i wr => ∃ k : Nat, ∃ h : k ≤ m, i = .int .i64 ((m : Int) - 1 - (k : Int)) ∧ J (downs m k h) wr ∧ Kp b q W wr) (fun i _ => (intOf i + 1).toNat)
  case atStart => exact ⟨0, Nat.zero_le _, by simp, h0, Kp.refl _ _ _⟩
  case round =>
    obtain ⟨k, hk, rfl, hJs, hnx⟩ := hrel
    have cb : wr.cell? ⟨b, 0, none⟩ = some (.slice a m cap) := by rw [Lib.cell_of_heap (hnx.1.trans hb)]; rfl
    by_cases hlt : k < m
    · obtain ⟨i, hi⟩ : ∃ i, i = m - 1 - k := ⟨_, rfl⟩
      have him : i < m := by omega
      rw [show ((m : Int) - 1 - (k : Int)) = (i : Int) by omega]
      obtain ⟨x, hx⟩ : ∃ x, p[i]? = some x := ⟨_, List.getElem?_eq_getElem (by omega)⟩
      have hrow1 : wr.ownsRow 0 72 2 (.slice a m cap) m (p.flatMap cellsP) := row_kept hrow fun j hj _ => by rw [hq j hj]; exact hnx.2
      obtain ⟨g, rfl, hat⟩ := row_cells hrow1 cellsP_len hx hm
      have p0 : wr.cell? ⟨g, i * 2, none⟩ = some (.int .i64 (x.at_ : Int)) := hat 0 (by decide)
      have p1 : wr.cell? ⟨g, i * 2 + 1, none⟩ = some (.string x.text) := hat 1 (by decide)
      have hY2 := hY _ ⟨i, him⟩ _ hJs (by rw [downs_length]; exact hlt)
      dsimp only at hY2
      rw [List.getD_eq_getElem?_getD, hx] at hY2
      simp only [Option.getD_some, cellsP] at hY2
      have e1 : wrap64 ((i : Int) - 1) = (i : Int) - 1 := by unfold wrap64; omega
      have l1 : (i : Int) < (m : Int) := by omega
      have Hn := Lib.hid (And.intro hnx hi)
      have hds := downs_succ m k hlt
      have hJs2 : ∀ W', J (downs m k hk ++ [⟨i, him⟩]) W' → J (downs m (k + 1) hlt) W' := fun W' h => by
        rw [hds]
        have e : (⟨m - 1 - k, by omega⟩ : Fin m) = ⟨i, him⟩ := Fin.ext hi.symm
        rw [e]
        exact h
      have hJx2 : ∀ W', Jx (downs m k hk ++ [⟨i, him⟩]) W' → Jx (downs m (k + 1) hlt) W' := fun W' h => by
        rw [hds]
        have e : (⟨m - 1 - k, by omega⟩ : Fin m) = ⟨i, him⟩ := Fin.ext hi.symm
        rw [e]
        exact h
      clear hi hnx hrow1 hat hx hrow hds
      obtain ⟨fn, tmps, assign, body, hy, hR⟩ := hY2
      gi_wp2
      refine ⟨fun h => (by cases h), ?_⟩
      refine hR.mono ?_
      rintro e W3 (⟨rfl, hJ3, hk3⟩ | ⟨rfl, hJx3⟩)
      · gi_wp2
        go_roundw
        case rel => exact ⟨k + 1, hlt, by have := Hn.out.2; congr 1; omega, hJs2 _ hJ3, Hn.out.1.trans hk3⟩
        case measure =>
          have l5 : (intOf (.int .i64 ((i : Int) - 1)) + 1).toNat = i := by show ((i : Int) - 1 + 1).toNat = i; omega
          have l6 : (intOf (.int .i64 (i : Int)) + 1).toNat = i + 1 := by show ((i : Int) + 1).toNat = i + 1; omega
          rw [l5, l6]
          exact Nat.lt_succ_self i
      · gi_wp2
        refine bodyPost_ret (results_none rfl _ _ _) rfl ?_
        exact ⟨⟨_, rfl⟩, .inr ⟨_, ⟨k + 1, hlt, rfl⟩, hJx2 _ hJx3⟩⟩
    · obtain rfl : k = m := by omega
      have l1 : ¬ ((k : Int) - 1 - (k : Int)) ≥ 0 := by omega
      gi_wp2
      go_end0
      exact ⟨⟨_, rfl⟩, .inl hJs⟩

theorem pends_stops (n b q : Nat) (a : Option Addr) (cap m : Nat) (p : List Wr) (hm : p.length = m) (hm2 : m < 4000) (hq : ∀ k, (Value.slice a m cap).ownBlock = some k → k = q) (w : World) (hqw : q < w.heap.size)
    (hb : w.heap[b]? = some (.cells #[.slice a m cap] 60 (0, 0))) (hrow : w.ownsRow 0 72 2 (.slice a m cap) m (p.flatMap cellsP)) :
    SeqStopsK Fence.wide n Try.prog 68 #[.pointer (some ⟨b, 0, none⟩)] (fun x : Fin m => #[.int .i64 (x.val : Int), .agg (cellsP (p.getD x.val ⟨0, ⟨#[]⟩⟩)).toArray]) (Kp b q)
      (fun ys => ys = downs m m (Nat.le_refl m)) (fun pre => ∃ k, ∃ h : k ≤ m, pre = downs m k h) m w := fun l J Jx W hW hJ _ hY h0 =>
  pends_in n l b q a cap m p hm hm2 hq J Jx (fun pre W nq h => hJ pre W _ none h (drewN_grown W nq) (fun r e => by cases e)) hY W
    ((hW.block b (Array.getElem?_eq_some_iff.1 hb).1).trans hb) (row_kept hrow fun k hk _ => by rw [hq k hk]; exact hW.block q hqw) h0
end Dsk
end Go.Proofs.Ytgjejofdmfpdjaa
