/-
  The library's Chunk (pairs of a list of numbers), as an iterator whose loop's body may turn whatever but its own two boxes; a region that draws, within a round.
-/
import Derived.Test.YtllbcnficlbobaaMerA
import Derived.RangeFuncNested
import Derived.RangeFuncBound
import Derived.RangeFuncCalls
import Derived.RangeFuncLeaves
import Derived.RangeFuncBox
import Derived.Shelf.Abstract
import Derived.Shelf.RegionOpen
import Derived.OwnWalkIn
import Derived.TacticsInMore
import Derived.LoopNIn
import Derived.LoopIn
import Derived.Deep.RegionHeld3
import Derived.OrdersHeld
namespace Go.Proofs.Ytllbcnficlbobaa
open Go.RowKit Go.Shelf
open Ideal Ida Mer

attribute [local go_sem] Oper.semAt_some

namespace Kit
/-- What a region asks of whatever order, it asks in a round too. -/
theorem rows_wide {n : Nat} {P : Program} {l : Nat} {row : String} {args : Array Value} {w : World} {R : Value → World → Prop} (h : Rows P row args w R) : RowsIn (Fence.wide.inRound l) n P row args w R := by
  intro c cs _
  obtain ⟨v, w', r, s⟩ := h c cs
  refine ⟨v, w', r, ?_⟩
  rw [fenced_inRound]
  exact stepsIn_wide.2 s
theorem oper_round {n : Nat} {P : Program} {l : Nat} {o : Oper} {a : Act} {w : World} {K : Act → World → Prop} {Q : Exit → Act → World → Prop} (hd : ∀ c, o.op ≠ .defer c) (h : o.wp P a w K Q) : o.wpIn (Fence.wide.inRound l) n P a w K Q := by
  refine ⟨fun _ _ => trivial, ?_⟩
  rw [Oper.semAt_eq _ _ _ hd]
  unfold Oper.wp at h
  generalize (execOp a.eval o).run P w = r at *
  have hdep : (Fence.wide.inRound l).depth.isSome = true → 1 ≤ n := fun h => by cases h
  cases r with
  | ok x w' =>
    cases x <;> simp only [Oper.upon, Oper.uponIn] at h ⊢ <;> first
      | exact h
      | exact ⟨hdep, CallsIn.inRound l (callsIn_wide.2 h)⟩
      | exact ⟨hdep, rows_wide h⟩
      | exact h.elim
  | halt x w' => cases x <;> simp only [Oper.upon, Oper.uponIn] at h ⊢ <;> first | exact h | exact h.elim
theorem any_round {n : Nat} {P : Program} {l : Nat} {md : Region.Mode} {ops : Array Oper} {Q : Exit → Act → World → Prop} (hd : ∀ (i : Nat) (o : Oper), ops[i]? = some o → ∀ c, o.op ≠ .defer c) (hl : ¬ LetsOut Q) : ∀ (fuel : Nat) (listed : Array Bool) (a : Act) (w : World),
    wpAny P md ops Q fuel listed a w → wpAnyIn (Fence.wide.inRound l) n P md ops Q fuel listed a w
  | 0, _, _, _, h => h
  | fuel + 1, listed, a, w, h => by
    refine ⟨h.1, fun i hi => ?_⟩
    have h2 := h.2 i hi
    unfold wpOp at h2
    unfold wpOpIn
    cases ho : ops[i]? with
    | none =>
      rw [ho] at h2
      exact any_round hd hl fuel _ a w h2
    | some o =>
      rw [ho] at h2
      simp only at h2 ⊢
      by_cases hw : Region.wanted o (yielded ops a.tmps) = true
      · rw [if_pos hw] at h2 ⊢
        rcases h2 with h2 | h2
        · exact Oper.wpIn_mono (fun a' w' h' => any_round hd hl fuel _ a' w' h') (oper_round (hd i o ho) h2)
        · exact absurd h2.2 hl
      · rw [if_neg hw] at h2 ⊢
        exact ⟨fun _ _ => trivial, any_round hd hl fuel _ _ w h2⟩
def isDefer : Op → Bool
  | .defer _ => true
  | _ => false
theorem no_defer {ops : Array Oper} (h : ops.all (fun o => !isDefer o.op) = true) (i : Nat) (o : Oper) (ho : ops[i]? = some o) (c : Call) : o.op ≠ .defer c := by
  intro e
  rw [Array.all_eq_true] at h
  obtain ⟨hi, rfl⟩ := Array.getElem?_eq_some_iff.1 ho
  have := h i hi
  rw [e] at this
  cases this
/-- The beginning, in a round. -/
theorem region_round {id n : Nat} {P : Program} {l : Nat} {ops : Array Oper} {Q : Exit → Act → World → Prop} {S : World → Prop} {a : Act} {w : World} (hd : ops.all (fun o => !isDefer o.op) = true) (hl : ¬ LetsOut Q) (hm : P.follows .mixedOrders = true) (hS : S w.drew)
    (h : S w.drew → wpAnyH P .any ops Q S ops.size (Array.replicate ops.size false) a w.drew) : (Code.region id ops true).wpIn (Fence.wide.inRound l) n P Q a w :=
  wpIn_region_any hm (any_round (no_defer hd) hl _ _ _ _ (wpAny_of_held _ _ _ _ (h hS)))
end Kit

namespace Mera
abbrev KC : Nat := 50
set_option maxHeartbeats 1000000 in
theorem chunk_any (a : Option Addr) (len cap : Nat) (w : World) :
    Calls Try.prog 46 #[.slice a len cap, .int .i64 2] w fun e w' => e = .returned (.func (.func 50) #[] #[.pointer (some ⟨w.heap.size, 0, none⟩), .pointer (some ⟨w.heap.size + 1, 0, none⟩)]) ∧ w' = (w.alloc (.cells #[.slice a len cap] 22)).alloc (.cells #[.int .i64 2] 3) := by
  go_enter Try.func46, Try.ntmps46
  go_wp2
  go_ret
  exact ⟨rfl, rfl⟩
/-- Two boxes that stay. -/
def Kp (b c : Nat) (W W' : World) : Prop := W'.heap[b]? = W.heap[b]? ∧ W'.heap[c]? = W.heap[c]?
theorem Kp.refl (b c : Nat) (W : World) : Kp b c W W := ⟨rfl, rfl⟩
theorem Kp.trans {b c : Nat} {A B C : World} (h : Kp b c A B) (k : Kp b c B C) : Kp b c A C := ⟨k.1.trans h.1, k.2.trans h.2⟩
theorem Kp.of_but {b c : Nat} {S : Nat → Prop} {W W' : World} (h : Kit.But S W W') (hb : b < W.heap.size) (hc : c < W.heap.size) (sb : ¬ S b) (sc : ¬ S c) : Kp b c W W' := ⟨h.block b hb sb, h.block c hc sc⟩
theorem Kp.putObj {b c : Nat} {n : Nat} (hb : b < n) (hc : c < n) (W : World) (l : Nat) (o o' : Obj) (hl : n ≤ l) (_ : W.heap[l]? = some o) (_ : o.isCells = false) (_ : o.isWalk = false) : Kp b c W (W.putObj l o') :=
  ⟨World.putObj_heap_other (by omega), World.putObj_heap_other (by omega)⟩

/-- What comes: the pairs of places 2 k, 2 k + 1, in their order. -/
def firsts (m k : Nat) (h : k ≤ m) : List (Fin m) := (List.range k).attach.map fun x => ⟨x.1, by have := List.mem_range.1 x.2; omega⟩
theorem firsts_length (m k : Nat) (h : k ≤ m) : (firsts m k h).length = k := by simp [firsts]
theorem firsts_val (m k : Nat) (h : k ≤ m) : (firsts m k h).map Fin.val = List.range k := by
  unfold firsts
  rw [List.map_map]
  have : ((fun x : Fin m => x.val) ∘ fun x : { x // x ∈ List.range k } => (⟨x.1, by have := List.mem_range.1 x.2; omega⟩ : Fin m)) = fun x => x.1 := rfl
  show List.map ((fun x : Fin m => x.val) ∘ _) _ = _
  rw [this]
  simp
theorem fin_list_ext {m : Nat} {a b : List (Fin m)} (h : a.map Fin.val = b.map Fin.val) : a = b := by
  induction a generalizing b with
  | nil =>
    cases b with
    | nil => rfl
    | cons y b => simp at h
  | cons x a ih =>
    cases b with
    | nil => simp at h
    | cons y b =>
      simp only [List.map_cons, List.cons.injEq] at h
      rw [Fin.ext h.1, ih h.2]
theorem firsts_succ (m k : Nat) (h : k + 1 ≤ m) : firsts m (k + 1) h = firsts m k (by omega) ++ [⟨k, by omega⟩] := by
  apply fin_list_ext
  rw [firsts_val, List.map_append, firsts_val]
  simp [List.range_succ]

set_option maxRecDepth 100000 in
set_option maxHeartbeats 4000000 in
theorem pairs_in (n l b c : Nat) (ad : Addr) (m cap : Nat) (hcap : 2 * m ≤ cap) (hmax : cap ≤ maxLen) (J Jx : List (Fin m) → World → Prop) (hJn : ∀ pre W nq, J pre W → J pre (W.drewN nq))
    (hY : ∀ pre x W, J pre W → pre.length < m → YieldAt Fence.wide (n - 1) Try.prog l #[.slice (some (ad.add (2 * x.val))) 2 2] W fun e W' =>
      (e = .returned (.bool true) ∧ J (pre ++ [x]) W' ∧ Kp b c W W') ∨ (e = .returned (.bool false) ∧ Jx (pre ++ [x]) W'))
    (W : World) (hb : W.heap[b]? = some (.cells #[.slice (some ad) (2 * m) cap] 22 (0, 0))) (hc : W.heap[c]? = some (.cells #[.int .i64 2] 3 (0, 0))) (h0 : J [] W) :
    CallsIn Fence.wide n Try.prog 50 #[.func (.yield l) #[] #[], .pointer (some ⟨b, 0, none⟩), .pointer (some ⟨c, 0, none⟩)] W fun e W' => (∃ v, e = .returned v) ∧
      ((∃ ys, ys = firsts m m (Nat.le_refl m) ∧ J ys W') ∨ (∃ pre, (∃ k, ∃ h : k ≤ m, pre = firsts m k h) ∧ Jx pre W')) := by
  refine callsIn_of_wp Try.func50 rfl trivial ?_ rfl
  simp only [Try.ntmps50, List.size_toArray, List.length_cons, List.length_nil, Nat.reduceAdd, Nat.reduceSub, Array.replicate_succ, Array.replicate_zero, List.push_toArray, List.append_toArray, List.nil_append, List.cons_append]
  gi_wp2
  gi_loopw [4] (fun i wr => ∃ k : Nat, ∃ h : k ≤ m, i = .int .i64 ((2 * k : Nat) : Int) ∧ J (firsts m k h) wr ∧ Kp b c W wr) (fun i _ => 2 * m - (intOf i).toNat)
  case atStart => exact ⟨0, Nat.zero_le _, rfl, h0, Kp.refl _ _ _⟩
  case round =>
    obtain ⟨k, hk, rfl, hJs, hnx⟩ := hrel
    have cb : wr.cell? ⟨b, 0, none⟩ = some (.slice (some ad) (2 * m) cap) := by rw [Lib.cell_of_heap (hnx.1.trans hb)]; rfl
    have cc : wr.cell? ⟨c, 0, none⟩ = some (.int .i64 2) := by rw [Lib.cell_of_heap (hnx.2.trans hc)]; rfl
    by_cases hlt : k < m
    · have hd : decide (((2 * k : Nat) : Int) < ((2 * m : Nat) : Int)) = true := by rw [decide_eq_true_iff]; omega
      have Hn := Lib.hid hnx
      obtain ⟨i, hi⟩ : ∃ i, i = 2 * k := ⟨_, rfl⟩
      obtain ⟨j, hj⟩ : ∃ j, j = i + 2 := ⟨_, rfl⟩
      obtain ⟨N, hN⟩ : ∃ N, N = 2 * m := ⟨_, rfl⟩
      have hY2 := fun nq => hY _ ⟨k, hlt⟩ _ (hJn _ wr nq hJs) (by rw [firsts_length]; exact hlt)
      dsimp only at hY2
      rw [← hi] at hY2
      rw [← hi] at hd ⊢
      rw [← hN] at hd cb ⊢
      have hm9 : maxLen = 9223372036854775807 := rfl
      have e1 : i ≤ N := by omega
      have e2 : min (2 : Int) ((N - i : Nat) : Int) = 2 := by omega
      have e3 : wrap64 ((i : Int) + 2) = (j : Int) := by unfold wrap64; omega
      have e4 : j ≤ cap := by omega
      have e5 : i ≤ j := by omega
      have e6 : j - i = 2 := by omega
      have e7 : (j = i) = False := by simp; omega
      have e8 : j ≤ N := by omega
      have Hj := Lib.hid (show j = 2 * (k + 1) by omega)
      have HN := Lib.hid hN
      clear hi hj hN hcap hmax hm9 hnx
      gi_wp2
      refine wpIn_wide.2 ?_
      go_quiet (fail)
      obtain ⟨fn, tmps, assign, body, hy, hR⟩ := hY2 nq
      gi_wp2
      refine ⟨fun h => (by cases h), ?_⟩
      refine hR.mono ?_
      rintro e W3 (⟨rfl, hJ3, hk3⟩ | ⟨rfl, hJx3⟩)
      · have cc3 : W3.cell? ⟨c, 0, none⟩ = some (.int .i64 2) := by rw [Lib.cell_of_heap (hk3.2.trans (Hn.out.2.trans hc))]; rfl
        gi_wp2
        go_roundw
        case rel => exact ⟨k + 1, hlt, by rw [e3, Hj.out], by rw [firsts_succ]; exact hJ3, Hn.out.trans hk3⟩
        case measure =>
          rw [e3]
          have l1 : (intOf (.int .i64 (j : Int))).toNat = j := rfl
          have l2 : (intOf (.int .i64 (i : Int))).toNat = i := rfl
          rw [l1, l2]
          clear e2 e3 e7
          omega
      · gi_wp2
        refine bodyPost_ret (results_none rfl _ _ _) rfl ?_
        exact ⟨⟨_, rfl⟩, .inr ⟨_, ⟨k + 1, hlt, (firsts_succ m k hlt).symm⟩, hJx3⟩⟩
    · obtain rfl : k = m := by omega
      have hd : decide (((2 * k : Nat) : Int) < ((2 * k : Nat) : Int)) = false := by rw [decide_eq_false_iff_not]; omega
      gi_wp2
      go_end0
      exact ⟨⟨_, rfl⟩, .inl ⟨_, rfl, hJs⟩⟩
end Mera
end Go.Proofs.Ytllbcnficlbobaa
