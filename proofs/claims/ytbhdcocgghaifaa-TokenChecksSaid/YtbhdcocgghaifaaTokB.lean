/-
  Package token: Parse; a token in a variable as a result.
-/
import Derived.Test.YtbhdcocgghaifaaTokA
import Derived.Test.YtbhdcocgghaifaaGen
namespace Go.Proofs.Ytbhdcocgghaifaa
open Go.RowKit
open Leb (dec)

/-- What Parse tells. -/
def tokRes : Option Tok → Value
  | none => .tuple #[.agg #[.int .u64 0, .int .u64 0, .int .u64 0, .int .u64 0, .int .u64 0], .bool false]
  | some l => .tuple #[.agg #[.int .u64 (l.n : Int), .int .u64 (l.v : Int), .int .u64 (l.e : Int), .int .u64 (l.r : Int), .int .u64 (l.g : Int)], .bool true]

theorem load_tok {T : TypeId} {w : World} {b : Nat} {x y z u v : Value} (h : Box b w #[x, y, z, u, v] T) : (loadVar 24 ⟨b, 0, none⟩).run Try.prog w = .ok (.agg #[x, y, z, u, v]) w := by
  have hl : (loadCells ⟨b, 0, none⟩ 5).run Try.prog w = .ok #[x, y, z, u, v] w := run_loadCells_list (P := Try.prog) (w := w) ⟨b, 0, none⟩ [x, y, z, u, v] (fun j t hv => by
    match j, hv with
    | 0, hv => simp at hv; subst hv; exact h.cell rfl
    | 1, hv => simp at hv; subst hv; exact h.cell rfl
    | 2, hv => simp at hv; subst hv; exact h.cell rfl
    | 3, hv => simp at hv; subst hv; exact h.cell rfl
    | 4, hv => simp at hv; subst hv; exact h.cell rfl)
  simp only [loadVar, Sem.run_bind, Try.isAgg24 w, Result.andThen]
  simp [hl, Result.andThen]
/-- A function's two results, the first a token in a variable. -/
theorem results_tok2 {T : TypeId} {f : Func} {p u : Tmp} (h : f.results = #[.cell p 24, .tmp u]) {tmps : Array Value} {w : World} {b : Nat} {x0 x1 x2 x3 x4 v : Value} (hp : tmps.getD p undef = .pointer (some ⟨b, 0, none⟩)) (hu : tmps.getD u undef = v) (ht : Box b w #[x0, x1, x2, x3, x4] T) :
    (results f tmps).run Try.prog w = .ok (.tuple #[.agg #[x0, x1, x2, x3, x4], v]) w := by
  rw [results_cell_tmp h, hp]
  simp only [asAddr, Sem.run_pure, Result.andThen, load_tok ht, hu]
/-- One result, a token in a variable. -/
theorem results_tok1 {T : TypeId} {f : Func} {p : Tmp} (h : f.results = #[.cell p 24]) {tmps : Array Value} {w : World} {b : Nat} {x0 x1 x2 x3 x4 : Value} (hp : tmps.getD p undef = .pointer (some ⟨b, 0, none⟩)) (ht : Box b w #[x0, x1, x2, x3, x4] T) :
    (results f tmps).run Try.prog w = .ok (.agg #[x0, x1, x2, x3, x4]) w := by
  rw [results_one_cell h, hp]
  simp only [asAddr, Sem.run_pure, Result.andThen, load_tok ht]
/-- Five cells stored. -/
theorem Box.put5 {T : TypeId} {w : World} {b : Nat} {x0 x1 x2 x3 x4 : Value} (h : Box b w #[x0, x1, x2, x3, x4] T) (y0 y1 y2 y3 y4 : Value) : Box b (((((w.setCell ⟨b, 0, none⟩ y0).setCell ⟨b, 1, none⟩ y1).setCell ⟨b, 2, none⟩ y2).setCell ⟨b, 3, none⟩ y3).setCell ⟨b, 4, none⟩ y4) #[y0, y1, y2, y3, y4] T := ((((h.set 0 y0).set 1 y1).set 2 y2).set 3 y3).set 4 y4
theorem below_put5 {B b : Nat} {w w' : World} (h : Below B w w') (hb : B ≤ b) (y0 y1 y2 y3 y4 : Value) : Below B w (((((w'.setCell ⟨b, 0, none⟩ y0).setCell ⟨b, 1, none⟩ y1).setCell ⟨b, 2, none⟩ y2).setCell ⟨b, 3, none⟩ y3).setCell ⟨b, 4, none⟩ y4) :=
  ((((h.setCell (p := ⟨b, 0, none⟩) hb y0).setCell (p := ⟨b, 1, none⟩) hb y1).setCell (p := ⟨b, 2, none⟩) hb y2).setCell (p := ⟨b, 3, none⟩) hb y3).setCell (p := ⟨b, 4, none⟩) hb y4
theorem put5_off {w : World} {b i : Nat} (h : i ≠ b) (y0 y1 y2 y3 y4 : Value) : (((((w.setCell ⟨b, 0, none⟩ y0).setCell ⟨b, 1, none⟩ y1).setCell ⟨b, 2, none⟩ y2).setCell ⟨b, 3, none⟩ y3).setCell ⟨b, 4, none⟩ y4).heap[i]? = w.heap[i]? := by
  rw [heap_setCell_other _ ⟨b, 4, none⟩ i _ h, heap_setCell_other _ ⟨b, 3, none⟩ i _ h, heap_setCell_other _ ⟨b, 2, none⟩ i _ h, heap_setCell_other _ ⟨b, 1, none⟩ i _ h, heap_setCell_other _ ⟨b, 0, none⟩ i _ h]
theorem but_put5 {S : Nat → Prop} {b : Nat} {w w' : World} (h : Kit.But S w w') (hb : b < w.heap.size → S b) (y0 y1 y2 y3 y4 : Value) : Kit.But S w (((((w'.setCell ⟨b, 0, none⟩ y0).setCell ⟨b, 1, none⟩ y1).setCell ⟨b, 2, none⟩ y2).setCell ⟨b, 3, none⟩ y3).setCell ⟨b, 4, none⟩ y4) :=
  ((((h.setCell (p := ⟨b, 0, none⟩) hb y0).setCell (p := ⟨b, 1, none⟩) hb y1).setCell (p := ⟨b, 2, none⟩) hb y2).setCell (p := ⟨b, 3, none⟩) hb y3).setCell (p := ⟨b, 4, none⟩) hb y4

namespace Cap
/-- How far a text has been read. -/
def Sofar (s : List UInt8) (a b c d g : Nat) (r : List UInt8) : Nat → Prop
  | 0 => a = 0 ∧ b = 0 ∧ c = 0 ∧ d = 0 ∧ g = 0 ∧ parse s = parse r
  | 1 => b = 0 ∧ c = 0 ∧ d = 0 ∧ g = 0 ∧ parse s = p1 a r
  | 2 => c = 0 ∧ d = 0 ∧ g = 0 ∧ parse s = p2 a b r
  | 3 => d = 0 ∧ g = 0 ∧ parse s = p3 a b c r
  | 4 => g = 0 ∧ parse s = p4 a b c d r
  | _ => parse s = p5 a b c d g r

set_option maxRecDepth 100000 in
set_option maxHeartbeats 8000000 in
theorem parse_any (s : ByteArray) (hs : s.size ≤ 9223372036854775807) (w : World) :
    Calls Try.prog 8 #[.string s] w fun e w' => e = .returned (tokRes (parse s.data.toList)) ∧ Below w.heap.size w w' := by
  have B0 := (Box.new w #[.int .u64 0, .int .u64 0, .int .u64 0, .int .u64 0, .int .u64 0] 24).alloc (.cells #[.int .u64 0, .int .u64 0, .int .u64 0, .int .u64 0, .int .u64 0] 51)
  have A0 := Box.new (w.alloc (.cells #[.int .u64 0, .int .u64 0, .int .u64 0, .int .u64 0, .int .u64 0] 24)) #[.int .u64 0, .int .u64 0, .int .u64 0, .int .u64 0, .int .u64 0] 51
  rw [World.size_alloc] at A0
  have c0 := below_lit w (.cells #[.int .u64 0, .int .u64 0, .int .u64 0, .int .u64 0, .int .u64 0] 24)
  have c1 := c0.trans ((below_lit (w.alloc (.cells #[.int .u64 0, .int .u64 0, .int .u64 0, .int .u64 0, .int .u64 0] 24)) (.cells #[.int .u64 0, .int .u64 0, .int .u64 0, .int .u64 0, .int .u64 0] 51)).mono c0.size)
  clear c0
  go_enter Try.func8, Try.ntmps8
  go_wp2
  go_loopw [0, 9] (fun vs vi wr => ∃ (i a b c d g : Nat) (r : ByteArray), i ≤ 5 ∧ vi = .int .i64 (i : Int) ∧ vs = .string r ∧ r.size ≤ s.size ∧ Sofar s.data.toList a b c d g r.data.toList i ∧ Box w.heap.size wr #[.int .u64 0, .int .u64 0, .int .u64 0, .int .u64 0, .int .u64 0] 24 ∧ Box (w.heap.size + 1) wr #[.int .u64 (a : Int), .int .u64 (b : Int), .int .u64 (c : Int), .int .u64 (d : Int), .int .u64 (g : Int)] 51 ∧ Below w.heap.size w wr)
    (fun _ vi _ => 5 - (intOf vi).toNat)
  case atStart => exact ⟨0, 0, 0, 0, 0, 0, s, by omega, rfl, rfl, Nat.le_refl _, ⟨rfl, rfl, rfl, rfl, rfl, rfl⟩, B0, A0, c1⟩
  case round =>
    obtain ⟨i, a, b, c, d, g, r, hi, rfl, rfl, hr, hsf, hB, hA, hb⟩ := hrel
    clear B0 A0 c1
    have H := fun w => takeUint_any r (by omega) w
    have hi6 : i = 0 ∨ i = 1 ∨ i = 2 ∨ i = 3 ∨ i = 4 ∨ i = 5 := by omega
    rcases hi6 with rfl | rfl | rfl | rfl | rfl | rfl
    · obtain ⟨rfl, rfl, rfl, rfl, rfl, hp⟩ := hsf
      cases hd : dec r.data.toList with
      | none =>
        rw [hd] at H
        have hres : parse s.data.toList = none := by rw [hp]; unfold parse; rw [hd]
        have HR := Lib.hid hres
        clear hp hres hd
        go_wp2_with fail
        refine (H _).mono ?_
        rintro e w1 ⟨rfl, b1⟩
        simp only [uintRes]
        have hB1 := hB.below b1
        have hb1 := hb.trans (b1.mono hb.size)
        clear hB hA hb b1 H
        have q0 := hB1.cell (j := 0) rfl
        have q1 := hB1.cell (j := 1) rfl
        have q2 := hB1.cell (j := 2) rfl
        have q3 := hB1.cell (j := 3) rfl
        have q4 := hB1.cell (j := 4) rfl
        have f0 := hB1.frozen 0
        have f1 := hB1.frozen 1
        have f2 := hB1.frozen 2
        have f3 := hB1.frozen 3
        have f4 := hB1.frozen 4
        go_wp2
        refine bodyPost_ret (results_tok2 rfl rfl rfl (hB1.put5 (.int .u64 0) (.int .u64 0) (.int .u64 0) (.int .u64 0) (.int .u64 0))) rfl ?_
        exact ⟨by rw [HR.out]; rfl, below_put5 hb1 (Nat.le_refl _) _ _ _ _ _⟩
      | some y =>
        obtain ⟨n, q⟩ := y
        rw [hd] at H
        have hql := Leb.dec_lt hd
        have hqs : (⟨q.toArray⟩ : ByteArray).size = q.length := Kit.size_mk q
        rw [Kit.size_list] at hql
        have hres : parse s.data.toList = p1 n q := by rw [hp]; unfold parse; rw [hd]
        have HR := Lib.hid hres
        clear hp hres hd
        go_wp2_with fail
        refine (H _).mono ?_
        rintro e w1 ⟨rfl, b1⟩
        simp only [uintRes]
        have hB1 := hB.below b1
        have hA1 := hA.below b1
        have hb1 := hb.trans (b1.mono hb.size)
        clear hB hA hb b1 H
        have q0 := hA1.cell (j := 0) rfl
        have f0 := hA1.frozen 0
        have hB2 := hB1.set_off (p := ⟨w.heap.size + 1, 0, none⟩) (by simp) (.int .u64 (n : Int))
        have hA2 := hA1.set 0 (.int .u64 (n : Int))
        have hb2 := hb1.setCell (p := ⟨w.heap.size + 1, 0, none⟩) (by simp) (.int .u64 (n : Int))
        clear hB1 hA1 hb1
        go_wp2
        go_roundw
        case rel => exact ⟨1, n, 0, 0, 0, 0, ⟨q.toArray⟩, by omega, rfl, rfl, by omega, ⟨rfl, rfl, rfl, rfl, HR.out⟩, hB2, hA2, hb2⟩
        case measure => simp [intOf]
    · obtain ⟨rfl, rfl, rfl, rfl, hp⟩ := hsf
      cases hd : dec r.data.toList with
      | none =>
        rw [hd] at H
        have hres : parse s.data.toList = none := by rw [hp]; unfold p1; rw [hd]
        have HR := Lib.hid hres
        clear hp hres hd
        go_wp2_with fail
        refine (H _).mono ?_
        rintro e w1 ⟨rfl, b1⟩
        simp only [uintRes]
        have hB1 := hB.below b1
        have hb1 := hb.trans (b1.mono hb.size)
        clear hB hA hb b1 H
        have q0 := hB1.cell (j := 0) rfl
        have q1 := hB1.cell (j := 1) rfl
        have q2 := hB1.cell (j := 2) rfl
        have q3 := hB1.cell (j := 3) rfl
        have q4 := hB1.cell (j := 4) rfl
        have f0 := hB1.frozen 0
        have f1 := hB1.frozen 1
        have f2 := hB1.frozen 2
        have f3 := hB1.frozen 3
        have f4 := hB1.frozen 4
        go_wp2
        refine bodyPost_ret (results_tok2 rfl rfl rfl (hB1.put5 (.int .u64 0) (.int .u64 0) (.int .u64 0) (.int .u64 0) (.int .u64 0))) rfl ?_
        exact ⟨by rw [HR.out]; rfl, below_put5 hb1 (Nat.le_refl _) _ _ _ _ _⟩
      | some y =>
        obtain ⟨n, q⟩ := y
        rw [hd] at H
        have hql := Leb.dec_lt hd
        have hqs : (⟨q.toArray⟩ : ByteArray).size = q.length := Kit.size_mk q
        rw [Kit.size_list] at hql
        have hres : parse s.data.toList = p2 a n q := by rw [hp]; unfold p1; rw [hd]
        have HR := Lib.hid hres
        clear hp hres hd
        go_wp2_with fail
        refine (H _).mono ?_
        rintro e w1 ⟨rfl, b1⟩
        simp only [uintRes]
        have hB1 := hB.below b1
        have hA1 := hA.below b1
        have hb1 := hb.trans (b1.mono hb.size)
        clear hB hA hb b1 H
        have q0 := hA1.cell (j := 1) rfl
        have f0 := hA1.frozen 1
        have hB2 := hB1.set_off (p := ⟨w.heap.size + 1, 1, none⟩) (by simp) (.int .u64 (n : Int))
        have hA2 := hA1.set 1 (.int .u64 (n : Int))
        have hb2 := hb1.setCell (p := ⟨w.heap.size + 1, 1, none⟩) (by simp) (.int .u64 (n : Int))
        clear hB1 hA1 hb1
        go_wp2
        go_roundw
        case rel => exact ⟨2, a, n, 0, 0, 0, ⟨q.toArray⟩, by omega, rfl, rfl, by omega, ⟨rfl, rfl, rfl, HR.out⟩, hB2, hA2, hb2⟩
        case measure => simp [intOf]
    · obtain ⟨rfl, rfl, rfl, hp⟩ := hsf
      cases hd : dec r.data.toList with
      | none =>
        rw [hd] at H
        have hres : parse s.data.toList = none := by rw [hp]; unfold p2; rw [hd]
        have HR := Lib.hid hres
        clear hp hres hd
        go_wp2_with fail
        refine (H _).mono ?_
        rintro e w1 ⟨rfl, b1⟩
        simp only [uintRes]
        have hB1 := hB.below b1
        have hb1 := hb.trans (b1.mono hb.size)
        clear hB hA hb b1 H
        have q0 := hB1.cell (j := 0) rfl
        have q1 := hB1.cell (j := 1) rfl
        have q2 := hB1.cell (j := 2) rfl
        have q3 := hB1.cell (j := 3) rfl
        have q4 := hB1.cell (j := 4) rfl
        have f0 := hB1.frozen 0
        have f1 := hB1.frozen 1
        have f2 := hB1.frozen 2
        have f3 := hB1.frozen 3
        have f4 := hB1.frozen 4
        go_wp2
        refine bodyPost_ret (results_tok2 rfl rfl rfl (hB1.put5 (.int .u64 0) (.int .u64 0) (.int .u64 0) (.int .u64 0) (.int .u64 0))) rfl ?_
        exact ⟨by rw [HR.out]; rfl, below_put5 hb1 (Nat.le_refl _) _ _ _ _ _⟩
      | some y =>
        obtain ⟨n, q⟩ := y
        rw [hd] at H
        have hql := Leb.dec_lt hd
        have hqs : (⟨q.toArray⟩ : ByteArray).size = q.length := Kit.size_mk q
        rw [Kit.size_list] at hql
        have hres : parse s.data.toList = p3 a b n q := by rw [hp]; unfold p2; rw [hd]
        have HR := Lib.hid hres
        clear hp hres hd
        go_wp2_with fail
        refine (H _).mono ?_
        rintro e w1 ⟨rfl, b1⟩
        simp only [uintRes]
        have hB1 := hB.below b1
        have hA1 := hA.below b1
        have hb1 := hb.trans (b1.mono hb.size)
        clear hB hA hb b1 H
        have q0 := hA1.cell (j := 2) rfl
        have f0 := hA1.frozen 2
        have hB2 := hB1.set_off (p := ⟨w.heap.size + 1, 2, none⟩) (by simp) (.int .u64 (n : Int))
        have hA2 := hA1.set 2 (.int .u64 (n : Int))
        have hb2 := hb1.setCell (p := ⟨w.heap.size + 1, 2, none⟩) (by simp) (.int .u64 (n : Int))
        clear hB1 hA1 hb1
        go_wp2
        go_roundw
        case rel => exact ⟨3, a, b, n, 0, 0, ⟨q.toArray⟩, by omega, rfl, rfl, by omega, ⟨rfl, rfl, HR.out⟩, hB2, hA2, hb2⟩
        case measure => simp [intOf]
    · obtain ⟨rfl, rfl, hp⟩ := hsf
      cases hd : dec r.data.toList with
      | none =>
        rw [hd] at H
        have hres : parse s.data.toList = none := by rw [hp]; unfold p3; rw [hd]
        have HR := Lib.hid hres
        clear hp hres hd
        go_wp2_with fail
        refine (H _).mono ?_
        rintro e w1 ⟨rfl, b1⟩
        simp only [uintRes]
        have hB1 := hB.below b1
        have hb1 := hb.trans (b1.mono hb.size)
        clear hB hA hb b1 H
        have q0 := hB1.cell (j := 0) rfl
        have q1 := hB1.cell (j := 1) rfl
        have q2 := hB1.cell (j := 2) rfl
        have q3 := hB1.cell (j := 3) rfl
        have q4 := hB1.cell (j := 4) rfl
        have f0 := hB1.frozen 0
        have f1 := hB1.frozen 1
        have f2 := hB1.frozen 2
        have f3 := hB1.frozen 3
        have f4 := hB1.frozen 4
        go_wp2
        refine bodyPost_ret (results_tok2 rfl rfl rfl (hB1.put5 (.int .u64 0) (.int .u64 0) (.int .u64 0) (.int .u64 0) (.int .u64 0))) rfl ?_
        exact ⟨by rw [HR.out]; rfl, below_put5 hb1 (Nat.le_refl _) _ _ _ _ _⟩
      | some y =>
        obtain ⟨n, q⟩ := y
        rw [hd] at H
        have hql := Leb.dec_lt hd
        have hqs : (⟨q.toArray⟩ : ByteArray).size = q.length := Kit.size_mk q
        rw [Kit.size_list] at hql
        have hres : parse s.data.toList = p4 a b c n q := by rw [hp]; unfold p3; rw [hd]
        have HR := Lib.hid hres
        clear hp hres hd
        go_wp2_with fail
        refine (H _).mono ?_
        rintro e w1 ⟨rfl, b1⟩
        simp only [uintRes]
        have hB1 := hB.below b1
        have hA1 := hA.below b1
        have hb1 := hb.trans (b1.mono hb.size)
        clear hB hA hb b1 H
        have q0 := hA1.cell (j := 3) rfl
        have f0 := hA1.frozen 3
        have hB2 := hB1.set_off (p := ⟨w.heap.size + 1, 3, none⟩) (by simp) (.int .u64 (n : Int))
        have hA2 := hA1.set 3 (.int .u64 (n : Int))
        have hb2 := hb1.setCell (p := ⟨w.heap.size + 1, 3, none⟩) (by simp) (.int .u64 (n : Int))
        clear hB1 hA1 hb1
        go_wp2
        go_roundw
        case rel => exact ⟨4, a, b, c, n, 0, ⟨q.toArray⟩, by omega, rfl, rfl, by omega, ⟨rfl, HR.out⟩, hB2, hA2, hb2⟩
        case measure => simp [intOf]
    · obtain ⟨rfl, hp⟩ := hsf
      cases hd : dec r.data.toList with
      | none =>
        rw [hd] at H
        have hres : parse s.data.toList = none := by rw [hp]; unfold p4; rw [hd]
        have HR := Lib.hid hres
        clear hp hres hd
        go_wp2_with fail
        refine (H _).mono ?_
        rintro e w1 ⟨rfl, b1⟩
        simp only [uintRes]
        have hB1 := hB.below b1
        have hb1 := hb.trans (b1.mono hb.size)
        clear hB hA hb b1 H
        have q0 := hB1.cell (j := 0) rfl
        have q1 := hB1.cell (j := 1) rfl
        have q2 := hB1.cell (j := 2) rfl
        have q3 := hB1.cell (j := 3) rfl
        have q4 := hB1.cell (j := 4) rfl
        have f0 := hB1.frozen 0
        have f1 := hB1.frozen 1
        have f2 := hB1.frozen 2
        have f3 := hB1.frozen 3
        have f4 := hB1.frozen 4
        go_wp2
        refine bodyPost_ret (results_tok2 rfl rfl rfl (hB1.put5 (.int .u64 0) (.int .u64 0) (.int .u64 0) (.int .u64 0) (.int .u64 0))) rfl ?_
        exact ⟨by rw [HR.out]; rfl, below_put5 hb1 (Nat.le_refl _) _ _ _ _ _⟩
      | some y =>
        obtain ⟨n, q⟩ := y
        rw [hd] at H
        have hql := Leb.dec_lt hd
        have hqs : (⟨q.toArray⟩ : ByteArray).size = q.length := Kit.size_mk q
        rw [Kit.size_list] at hql
        have hres : parse s.data.toList = p5 a b c d n q := by rw [hp]; unfold p4; rw [hd]
        have HR := Lib.hid hres
        clear hp hres hd
        go_wp2_with fail
        refine (H _).mono ?_
        rintro e w1 ⟨rfl, b1⟩
        simp only [uintRes]
        have hB1 := hB.below b1
        have hA1 := hA.below b1
        have hb1 := hb.trans (b1.mono hb.size)
        clear hB hA hb b1 H
        have q0 := hA1.cell (j := 4) rfl
        have f0 := hA1.frozen 4
        have hB2 := hB1.set_off (p := ⟨w.heap.size + 1, 4, none⟩) (by simp) (.int .u64 (n : Int))
        have hA2 := hA1.set 4 (.int .u64 (n : Int))
        have hb2 := hb1.setCell (p := ⟨w.heap.size + 1, 4, none⟩) (by simp) (.int .u64 (n : Int))
        clear hB1 hA1 hb1
        go_wp2
        go_roundw
        case rel => exact ⟨5, a, b, c, d, n, ⟨q.toArray⟩, by omega, rfl, rfl, by omega, HR.out, hB2, hA2, hb2⟩
        case measure => simp [intOf]
    · have hp : parse s.data.toList = p5 a b c d g r.data.toList := hsf
      clear hsf H
      by_cases h0 : r = ⟨#[]⟩
      · subst h0
        have hres : parse s.data.toList = some ⟨a, b, c, d, g⟩ := by rw [hp]; rfl
        have HR := Lib.hid hres
        clear hp hres
        have q0 := hB.cell (j := 0) rfl
        have q1 := hB.cell (j := 1) rfl
        have q2 := hB.cell (j := 2) rfl
        have q3 := hB.cell (j := 3) rfl
        have q4 := hB.cell (j := 4) rfl
        have f0 := hB.frozen 0
        have f1 := hB.frozen 1
        have f2 := hB.frozen 2
        have f3 := hB.frozen 3
        have f4 := hB.frozen 4
        have a0 := hA.cell (j := 0) rfl
        have a1 := hA.cell (j := 1) rfl
        have a2 := hA.cell (j := 2) rfl
        have a3 := hA.cell (j := 3) rfl
        have a4 := hA.cell (j := 4) rfl
        clear hA
        go_wp2
        refine bodyPost_ret (results_tok2 rfl rfl rfl (hB.put5 (.int .u64 (a : Int)) (.int .u64 (b : Int)) (.int .u64 (c : Int)) (.int .u64 (d : Int)) (.int .u64 (g : Int)))) rfl ?_
        exact ⟨by rw [HR.out]; rfl, below_put5 hb (Nat.le_refl _) _ _ _ _ _⟩
      · have hres : parse s.data.toList = none := by
          rw [hp]
          unfold p5
          rw [if_neg]
          intro e
          apply h0
          apply ByteArray.ext
          apply Array.ext'
          exact e
        have hne : r.toList.isEmpty = false := by
          rw [List.isEmpty_eq_false_iff]
          intro e
          exact h0 (Ida.bytes_inj (by rw [e, ByteArray.toList_eq]))
        have HR := Lib.hid hres
        clear hp hres h0
        have q0 := hB.cell (j := 0) rfl
        have q1 := hB.cell (j := 1) rfl
        have q2 := hB.cell (j := 2) rfl
        have q3 := hB.cell (j := 3) rfl
        have q4 := hB.cell (j := 4) rfl
        have f0 := hB.frozen 0
        have f1 := hB.frozen 1
        have f2 := hB.frozen 2
        have f3 := hB.frozen 3
        have f4 := hB.frozen 4
        clear hA
        go_wp2
        refine bodyPost_ret (results_tok2 rfl rfl rfl (hB.put5 (.int .u64 0) (.int .u64 0) (.int .u64 0) (.int .u64 0) (.int .u64 0))) rfl ?_
        exact ⟨by rw [HR.out]; rfl, below_put5 hb (Nat.le_refl _) _ _ _ _ _⟩
end Cap
end Go.Proofs.Ytbhdcocgghaifaa
