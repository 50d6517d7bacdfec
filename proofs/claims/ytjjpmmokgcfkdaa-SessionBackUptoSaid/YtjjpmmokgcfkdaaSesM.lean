/-
  The library: slices.DeleteFunc on a table of the call's own.
-/
import Derived.Test.YtjjpmmokgcfkdaaSesL
namespace Go.Proofs.Ytjjpmmokgcfkdaa
open Go.RowKit
namespace Ses

theorem others_all {l : List Row} {id : Nat} (h : ∀ (j : Nat) (x : Row), l[j]? = some x → x.id ≠ id) : others l id = l := by
  unfold others
  rw [List.filter_eq_self]
  intro x hx
  obtain ⟨j, hj⟩ := List.mem_iff_getElem?.1 hx
  simpa using h j x hj
theorem take_succ {l : List Row} {j : Nat} {x : Row} (h : l[j]? = some x) : l.take (j + 1) = l.take j ++ [x] := by
  obtain ⟨hlt, he⟩ := List.getElem?_eq_some_iff.1 h
  rw [List.take_succ_eq_append_getElem hlt, he]
theorem drop_succ {l m : List Row} {j : Nat} (h : m.drop j = l.drop j) : m.drop (j + 1) = l.drop (j + 1) := by
  rw [← List.drop_drop, ← List.drop_drop, h]
theorem of_drop {l m : List Row} {j : Nat} (h : m.drop j = l.drop j) : m[j]? = l[j]? := by
  have e : ∀ k : List Row, k[j]? = (k.drop j)[0]? := fun k => by rw [List.getElem?_drop]; rfl
  rw [e, e l, h]
/-- How far it has come. -/
def Sofar (l : List Row) (id : Nat) (i j : Nat) (m : List Row) : Prop := m.length = l.length ∧ m.take i = others (l.take j) id ∧ m.drop j = l.drop j ∧ i ≤ j
theorem Sofar.start {l : List Row} {id k : Nat} {r : Row} (hk : l[k]? = some r) (hr : r.id = id) (h : ∀ j, j < k → ∀ x : Row, l[j]? = some x → x.id ≠ id) : Sofar l id k (k + 1) l := by
  refine ⟨rfl, ?_, rfl, Nat.le_succ k⟩
  rw [take_succ hk, others_snoc_out hr, others_all]
  intro j x hx
  have hj : j < k := by
    have := (List.getElem?_eq_some_iff.1 hx).1
    rw [List.length_take] at this
    omega
  rw [List.getElem?_take_of_lt hj] at hx
  exact h j hj x hx
theorem Sofar.out {l m : List Row} {id i j : Nat} {x : Row} (h : Sofar l id i j m) (hx : l[j]? = some x) (he : x.id = id) : Sofar l id i (j + 1) m :=
  ⟨h.1, by rw [take_succ hx, others_snoc_out he]; exact h.2.1, drop_succ h.2.2.1, by have := h.2.2.2; omega⟩
theorem Sofar.in_ {l m : List Row} {id i j : Nat} {x : Row} (h : Sofar l id i j m) (hij : i < j) (hx : l[j]? = some x) (he : x.id ≠ id) : Sofar l id (i + 1) (j + 1) (m.set i x) := by
  have hj : j < l.length := (List.getElem?_eq_some_iff.1 hx).1
  obtain ⟨h1, h2, h3, h4⟩ := h
  refine ⟨by rw [List.length_set, h1], ?_, ?_, by omega⟩
  · rw [take_succ hx, others_snoc_in he, ← h2]
    have hi : i < (m.set i x).length := by rw [List.length_set]; omega
    rw [List.take_succ_eq_append_getElem hi, List.getElem_set_self, List.take_set_of_le (Nat.le_refl i)]
  · rw [List.drop_set_of_lt (by omega)]
    exact drop_succ h3
theorem Sofar.done {l m : List Row} {id i : Nat} (h : Sofar l id i l.length m) : m.take i = others l id ∧ i = (others l id).length := by
  obtain ⟨h1, h2, _, h4⟩ := h
  rw [List.take_length] at h2
  refine ⟨h2, ?_⟩
  rw [← h2, List.length_take]
  omega

theorem run_clear_rows (w : World) (ty : TypeId) (b o n c : Nat) (hn : 0 < n) (hc : ∀ j, j < n * 3 → (w.cell? ⟨b, o + j, none⟩).isSome = true) (hf : ∀ j, j < n * 3 → w.frozen? ⟨b, o + j, none⟩ = false) :
    ∃ zs : List Value, zs.length = n * 3 ∧ (Builtin.clear_ #[22] ty #[.slice (some ⟨b, o, none⟩) n c]).run Try.prog w = .ok (.tuple #[]) (w.setCells b o zs) := by
  have hl : (Builtin.zeroCells (Value.cells (.agg #[.int .u64 0, .int .u64 0, .string ⟨#[]⟩])) n).toList.length = n * 3 := by
    simp [Builtin.zeroCells, Value.cells]
  have h1 : ∀ u ∈ (Builtin.zeroCells (Value.cells (.agg #[.int .u64 0, .int .u64 0, .string ⟨#[]⟩])) n).toList, u.oneCell' = true := by
    intro u hu
    simp only [Builtin.zeroCells, Value.cells, Array.toList_map, List.mem_map] at hu
    obtain ⟨i, _, rfl⟩ := hu
    have : i % 3 = 0 ∨ i % 3 = 1 ∨ i % 3 = 2 := by omega
    rcases this with h | h | h
    · simp [h]; rfl
    · simp [h]; rfl
    · simp [h]; rfl
  refine ⟨_, hl, ?_⟩
  have hst := run_storeCells_cells (P := Try.prog) b o _ 0 w (by rw [hl]; simpa using hc) (by rw [hl]; simpa using hf) h1
  simp only [Nat.add_zero] at hst
  obtain ⟨m, rfl⟩ : ∃ m, n = m + 1 := ⟨n - 1, by omega⟩
  simp [Builtin.clear_, run_underlying Try.underlying22, hst]

section
variable {w : World} {B g n cap : Nat} {l : List Row}
/-- A row's cells in a table of one's own. -/
theorem own_at (h : w.ownsRow B 25 3 (.slice (some ⟨g, 0, none⟩) n cap) n (flat l)) {i : Nat} {r : Row} (hi : l[i]? = some r) (hn : i < n) :
    w.cell? ⟨g, i * 3, none⟩ = some (.int .u64 (r.id : Int)) ∧ w.cell? ⟨g, i * 3 + 1, none⟩ = some (.int .u64 (r.num : Int)) ∧ w.cell? ⟨g, i * 3 + 2, none⟩ = some (.string r.ans) := by
  have e : ∀ j, j < 3 → w.cell? ⟨g, i * 3 + j, none⟩ = (rowC r)[j]? := fun j hj => by rw [h.cellAt (i * 3 + j) (by omega), flat_at hi hj]
  exact ⟨e 0 (by decide), e 1 (by decide), e 2 (by decide)⟩
/-- A row stored. -/
theorem own_put (h : w.ownsRow B 25 3 (.slice (some ⟨g, 0, none⟩) n cap) n (flat l)) {i : Nat} (r : Row) (hi : i < l.length) :
    (((w.setCell ⟨g, i * 3, none⟩ (.int .u64 (r.id : Int))).setCell ⟨g, i * 3 + 1, none⟩ (.int .u64 (r.num : Int))).setCell ⟨g, i * 3 + 2, none⟩ (.string r.ans)).ownsRow B 25 3 (.slice (some ⟨g, 0, none⟩) n cap) n (flat (l.set i r)) := by
  have h1 := (h.stored (i * 3) (.int .u64 (r.id : Int))).1
  have h2 := (h1.stored (i * 3 + 1) (.int .u64 (r.num : Int))).1
  have h3 := (h2.stored (i * 3 + 2) (.string r.ans)).1
  rw [flat_set l i r hi] at h3
  exact h3
end

set_option maxRecDepth 100000 in
set_option maxHeartbeats 4000000 in
theorem delete_any (l : List Row) (B b id : Nat) (v : Value) (w : World) (h : w.ownsRow B 25 3 v l.length (flat l)) (hb : Box b w #[.int .u64 (id : Int)] 23) :
    Calls Try.prog 23 #[v, .func (.func 33) #[] #[.pointer (some ⟨b, 0, none⟩)]] w fun e w' => ∃ v', e = .returned v' ∧ w'.ownsRow B 25 3 v' (others l id).length (flat (others l id)) ∧ Kit.But (fun i => v.ownBlock = some i) w w' := by
  obtain ⟨a, cap, rfl, hnc, hcm⟩ := Dsk.row_form h
  have hcm' : cap ≤ 9223372036854775807 := hcm
  have HI := index_any l (by omega) b id _ w (Tb.of_own h) hb
  rcases idx_cases l id with ⟨e1, hno⟩ | ⟨k, r, e1, hk, hr, hno⟩
  · have ho := others_all hno
    rw [e1] at HI
    rw [ho]
    clear hno e1 ho hcm
    go_enter Try.func23, Try.ntmps23
    go_wp2_with fail
    refine HI.mono ?_
    rintro e w1 ⟨rfl, b1⟩
    have h1 := Dsk.row_kept h fun i hi hlt => b1.block i hlt
    go_wp2
    go_ret
    exact ⟨_, rfl, h1, Kit.But.of_below b1 (Nat.le_refl _) _⟩
  · have hkl : k < l.length := (List.getElem?_eq_some_iff.1 hk).1
    obtain ⟨g, cap', e2, hBg, hgl⟩ := h.form (by omega)
    injection e2 with e2 _ e3
    subst e2 e3
    have hgb : b ≠ g := Dsk.row_ne_box h hb (by decide) rfl
    have S0 := Lib.hid (Sofar.start hk hr hno)
    rw [e1] at HI
    have Hcm := Lib.hid hcm
    generalize hn : l.length = n at *
    have HN := Lib.hid hn
    have e4 : (-1 : Int) ≠ (k : Int) := by omega
    have e5 : ((k : Int) == -1) = false := by rw [beq_eq_false_iff_ne]; omega
    have e6 : wrap64 ((k : Int) + 1) = ((k + 1 : Nat) : Int) := by unfold wrap64; omega
    clear e1 hk hr hno hcm hn
    go_enter Try.func23, Try.ntmps23
    go_wp2_with fail
    refine HI.mono ?_
    rintro e w1 ⟨rfl, b1⟩
    have h1 := Dsk.row_kept h fun i hi hlt => b1.block i hlt
    have hB1 : Kit.But (fun i => i = g) w w1 := Kit.But.of_below b1 (Nat.le_refl _) _
    clear HI b1
    go_wp2
    go_loopw [5, 6] (fun vi vj wr => ∃ (i j : Nat) (m : List Row), i < j ∧ j ≤ n ∧ vi = .int .i64 (i : Int) ∧ vj = .int .i64 (j : Int) ∧ Hid (Sofar l id i j m) ∧ wr.ownsRow B 25 3 (.slice (some ⟨g, 0, none⟩) n cap) n (flat m) ∧ Kit.But (fun i => i = g) w wr)
      (fun _ vj _ => n - (intOf vj).toNat)
    case atStart => exact ⟨k, k + 1, l, Nat.lt_succ_self k, hkl, rfl, by go_num, S0, h1, hB1⟩
    case round =>
      obtain ⟨i, j, m, hij, hjn, rfl, rfl, HS, hM, hB⟩ := hrel
      clear h1 hB1 e4 e5 e6
      by_cases hlt : j < n
      · have g1 : (j : Int) < (n : Int) := by omega
        obtain ⟨x, hx⟩ : ∃ x, l[j]? = some x := ⟨_, List.getElem?_eq_getElem (by rw [HN.out]; exact hlt)⟩
        have hxm : m[j]? = some x := by rw [of_drop HS.out.2.2.1, hx]
        have hil : i < m.length := by rw [HS.out.1, HN.out]; omega
        obtain ⟨t0, t1, t2⟩ := own_at hM hxm hlt
        have bn := below_lit wr (.cells #[.int .u64 (x.id : Int), .int .u64 (x.num : Int), .string x.ans] 25)
        have bx := Box.new wr #[.int .u64 (x.id : Int), .int .u64 (x.num : Int), .string x.ans] 25
        have HC := of1_any x b id _ ((hb.but hB hgb).below bn)
        have hM2 := Dsk.row_kept hM fun i hi hlt => bn.block i hlt
        have hB2 := hB.trans (Kit.But.of_below bn (Nat.le_refl _) _)
        have HX := Lib.hid hx
        have HM := Lib.hid (And.intro hM hB)
        have g2 : (i : Int) < (n : Int) := by omega
        clear hx hxm hM hB bn
        by_cases he : x.id = id
        · rw [decide_eq_true he] at HC
          have HS2 := Lib.hid (HS.out.out HX.out he)
          clear he
          go_wp2_with fail
          refine HC.mono ?_
          rintro e w3 ⟨rfl, b3⟩
          have hM3 := Dsk.row_kept hM2 fun i hi hlt => b3.block i hlt
          have hB3 := hB2.trans (Kit.But.of_below b3 (Nat.le_refl _) _)
          clear HC b3 hM2 hB2 t0 t1 t2 bx
          go_wp2
          go_roundw
          case rel => exact ⟨i, j + 1, m, Nat.lt_succ_of_lt hij, hlt, rfl, by go_num, HS2, hM3, hB3⟩
          case measure =>
            have l8 : (intOf (.int .i64 (((j : Int) + 1)))).toNat = j + 1 := rfl
            have l6 : (intOf (.int .i64 (j : Int))).toNat = j := rfl
            rw [l8, l6]
            exact Nat.sub_lt_sub_left hlt (Nat.lt_succ_self j)
        · rw [decide_eq_false he] at HC
          have HS2 := Lib.hid (HS.out.in_ hij HX.out he)
          clear he
          go_wp2_with fail
          refine HC.mono ?_
          rintro e w3 ⟨rfl, b3⟩
          have hM3 := Dsk.row_kept hM2 fun i hi hlt => b3.block i hlt
          have hB3 := hB2.trans (Kit.But.of_below b3 (Nat.le_refl _) _)
          have bx3 := bx.below b3
          have y0 := bx3.cell (j := 0) rfl
          have y1 := bx3.cell (j := 1) rfl
          have y2 := bx3.cell (j := 2) rfl
          have f0 := hM3.frozenAt (i * 3)
          have f1 := hM3.frozenAt (i * 3 + 1)
          have f2 := hM3.frozenAt (i * 3 + 2)
          obtain ⟨z, hz⟩ : ∃ z, m[i]? = some z := ⟨_, List.getElem?_eq_getElem hil⟩
          obtain ⟨s0, s1, s2⟩ := own_at hM3 hz (Nat.lt_trans hij hlt)
          have hput := own_put hM3 x hil
          have hbut := ((hB3.setCell (p := ⟨g, i * 3, none⟩) (fun _ => rfl) (.int .u64 (x.id : Int))).setCell (p := ⟨g, i * 3 + 1, none⟩) (fun _ => rfl) (.int .u64 (x.num : Int))).setCell (p := ⟨g, i * 3 + 2, none⟩) (fun _ => rfl) (.string x.ans)
          have HF := Lib.hid (And.intro hput hbut)
          clear HC b3 hM2 hB2 t0 t1 t2 bx hput hbut hM3 hB3 hz bx3
          go_wp2
          go_roundw
          case rel => exact ⟨i + 1, j + 1, m.set i x, Nat.succ_lt_succ hij, hlt, by go_num, by go_num, HS2, HF.out.1, HF.out.2⟩
          case measure =>
            have l8 : (intOf (.int .i64 (((j : Int) + 1)))).toNat = j + 1 := rfl
            have l6 : (intOf (.int .i64 (j : Int))).toNat = j := rfl
            rw [l8, l6]
            exact Nat.sub_lt_sub_left hlt (Nat.lt_succ_self j)
      · obtain rfl : j = n := by omega
        have hd1 : ¬ (j : Int) < (j : Int) := by omega
        have hil : i ≤ j := Nat.le_of_lt hij
        have c1 : ∀ t, t < (j - i) * 3 → (wr.cell? ⟨g, i * 3 + t, none⟩).isSome = true := fun t ht => by
          have hl := hM.1
          rw [hM.cellAt _ (by omega), List.getElem?_eq_getElem (by omega)]
          rfl
        have c2 : ∀ t, t < (j - i) * 3 → wr.frozen? ⟨g, i * 3 + t, none⟩ = false := fun t _ => hM.frozenAt _
        obtain ⟨zs, hz, hcl⟩ : ∃ zs : List Value, zs.length = (j - i) * 3 ∧ ∀ ty, (Builtin.clear_ #[22] ty #[.slice (some ⟨g, i * 3, none⟩) (j - i) (cap - i)]).run Try.prog wr = .ok (.tuple #[]) (wr.setCells g (i * 3) zs) := by
          obtain ⟨zs, hz, hr⟩ := run_clear_rows wr 0 g (i * 3) (j - i) (cap - i) (by omega) c1 c2
          exact ⟨zs, hz, fun ty => hr⟩
        have fin := Kit.cleared hM hil hz
        rw [flat_take] at fin
        have FF := Lib.hid (And.intro fin (hB.trans (Kit.but_setCells g zs (i * 3) wr)))
        have hne : ¬ cap = i := by omega
        have hic : i ≤ cap := by omega
        clear c1 c2 hz fin hM hB hlt
        go_wp2
        go_ret
        obtain ⟨m1, m2⟩ := (show Sofar l id i l.length m by rw [HN.out]; exact HS.out).done
        refine ⟨_, rfl, ?_, FF.out.2.wider fun t _ ht => by subst ht; rfl⟩
        rw [← m2, ← m1]
        exact FF.out.1
end Ses
end Go.Proofs.Ytjjpmmokgcfkdaa
