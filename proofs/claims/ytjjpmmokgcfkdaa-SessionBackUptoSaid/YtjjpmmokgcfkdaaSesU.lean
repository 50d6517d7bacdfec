/-
  Package session: take, Parse.
-/
import Derived.Test.YtjjpmmokgcfkdaaSesC
import Derived.Test.YtjjpmmokgcfkdaaRes
namespace Go.Proofs.Ytjjpmmokgcfkdaa
open Go.RowKit
open Leb (dec decT)
namespace Ses

theorem load_row {T : TypeId} {w : World} {b : Nat} {x y z : Value} (h : Box b w #[x, y, z] T) : (loadVar 25 ⟨b, 0, none⟩).run Try.prog w = .ok (.agg #[x, y, z]) w := by
  have hl : (loadCells ⟨b, 0, none⟩ 3).run Try.prog w = .ok #[x, y, z] w := run_loadCells_list (P := Try.prog) (w := w) ⟨b, 0, none⟩ [x, y, z] (fun j t hv => by
    match j, hv with
    | 0, hv => simp at hv; subst hv; exact h.cell rfl
    | 1, hv => simp at hv; subst hv; exact h.cell rfl
    | 2, hv => simp at hv; subst hv; exact h.cell rfl)
  simp only [loadVar, Sem.run_bind, Try.isAgg25 w, Result.andThen]
  simp [hl, Result.andThen]
theorem results_cell_tmps {fn : Func} {p u q : Tmp} {ty : TypeId} (h : fn.results = #[.cell p ty, .tmp u, .tmp q]) (tmps : Array Value) (P : Program) (w : World) :
    (results fn tmps).run P w =
      ((asAddr (tmps.getD p undef)).run P w).andThen fun a w₁ => ((loadVar ty a).run P w₁).andThen fun v w₂ => .ok (.tuple #[v, tmps.getD u undef, tmps.getD q undef]) w₂ := by
  simp only [results, h]
  simp [Sem.run_bind, Result.andThen]
/-- Three results, the first a row in a variable. -/
theorem results_row3 {T : TypeId} {f : Func} {p u q : Tmp} (h : f.results = #[.cell p 25, .tmp u, .tmp q]) {tmps : Array Value} {w : World} {b : Nat} {x y z v o : Value} (hp : tmps.getD p undef = .pointer (some ⟨b, 0, none⟩)) (hu : tmps.getD u undef = v) (hq : tmps.getD q undef = o) (ht : Box b w #[x, y, z] T) :
    (results f tmps).run Try.prog w = .ok (.tuple #[.agg #[x, y, z], v, o]) w := by
  rw [results_cell_tmps h, hp]
  simp only [asAddr, Sem.run_pure, Result.andThen, load_row ht, hu, hq]
theorem put3 {T : TypeId} {w : World} {b : Nat} {x0 x1 x2 : Value} (h : Box b w #[x0, x1, x2] T) (y0 y1 y2 : Value) : Box b (((w.setCell ⟨b, 0, none⟩ y0).setCell ⟨b, 1, none⟩ y1).setCell ⟨b, 2, none⟩ y2) #[y0, y1, y2] T := ((h.set 0 y0).set 1 y1).set 2 y2
theorem below_put3 {B b : Nat} {w w' : World} (h : Below B w w') (hb : B ≤ b) (y0 y1 y2 : Value) : Below B w (((w'.setCell ⟨b, 0, none⟩ y0).setCell ⟨b, 1, none⟩ y1).setCell ⟨b, 2, none⟩ y2) :=
  ((h.setCell (p := ⟨b, 0, none⟩) hb y0).setCell (p := ⟨b, 1, none⟩) hb y1).setCell (p := ⟨b, 2, none⟩) hb y2

/-- What take tells. -/
def TakeEnd (o : Option (Row × List UInt8)) (e : Ending) : Prop :=
  ∃ (x : Row) (rest : ByteArray), e = .returned (.tuple #[.agg #[.int .u64 (x.id : Int), .int .u64 (x.num : Int), .string x.ans], .string rest, .bool o.isSome]) ∧ ∀ r l', o = some (r, l') → x = r ∧ rest = ⟨l'.toArray⟩
theorem takeText_list (l : List UInt8) (hl : l.length ≤ 9223372036854775807) (m : Int) (hm0 : -9223372036854775808 ≤ m) (hm1 : m ≤ 9223372036854775807) (w : World) :
    Calls Try.prog 34 #[.string ⟨l.toArray⟩, .int .i64 m] w fun e w' => e = .returned (textRes (decT l m)) ∧ Below w.heap.size w w' := by
  have h := takeText_any ⟨l.toArray⟩ (by rw [Kit.size_mk]; exact hl) m hm0 hm1 w
  exact h
theorem rTakeText256_list (l : List UInt8) (hl : l.length ≤ 9223372036854775807) (m : Int) (hm0 : -9223372036854775808 ≤ m) (hm1 : m ≤ 9223372036854775807) (w : World) :
    Calls Try.prog 28 #[.string ⟨l.toArray⟩, .int .i64 m] w fun e w' => e = .returned (textRes (decT l m)) ∧ Below w.heap.size w w' := by
  have h := rTakeText_any ⟨l.toArray⟩ (by rw [Kit.size_mk]; exact hl) m hm0 hm1 w
  exact h
theorem row0 {l : List UInt8} (h : dec l = none) : takeRow l = none := by unfold takeRow; rw [h]
theorem row1 {l r : List UInt8} {a : Nat} (h : dec l = some (a, r)) (h1 : dec r = none) : takeRow l = none := by
  unfold takeRow
  rw [h]
  simp only
  rw [h1]
theorem row2 {l r r2 : List UInt8} {a b : Nat} (h : dec l = some (a, r)) (h1 : dec r = some (b, r2)) (h2 : decT r2 256 = none) : takeRow l = none := by
  unfold takeRow
  rw [h]
  simp only
  rw [h1]
  simp only
  rw [h2]
theorem row3 {l r r2 c r3 : List UInt8} {a b : Nat} (h : dec l = some (a, r)) (h1 : dec r = some (b, r2)) (h2 : decT r2 256 = some (c, r3)) : takeRow l = some (⟨a, b, ⟨c.toArray⟩⟩, r3) := by
  unfold takeRow
  rw [h]
  simp only
  rw [h1]
  simp only
  rw [h2]

set_option maxRecDepth 100000 in
set_option maxHeartbeats 4000000 in
theorem take_any (l : List UInt8) (hl : l.length ≤ 9223372036854775807) (w : World) :
    Calls Try.prog 26 #[.string ⟨l.toArray⟩] w fun e w' => TakeEnd (takeRow l) e ∧ Below w.heap.size w w' := by
  have c0 := below_lit w (.cells #[.int .u64 0, .int .u64 0, .string ⟨#[]⟩] 25)
  have X0 := Box.new w #[.int .u64 0, .int .u64 0, .string ⟨#[]⟩] 25
  have H := fun w => takeUint_list l hl w
  cases hd : dec l with
  | none =>
    rw [hd] at H
    have HR := Lib.hid (row0 hd)
    clear hd
    go_enter Try.func26, Try.ntmps26
    go_wp2_with fail
    refine (H _).mono ?_
    rintro e w1 ⟨rfl, b⟩
    simp only [uintRes]
    replace X0 := X0.below b
    replace c0 := c0.trans (b.mono c0.size)
    clear b H
    have x0 := X0.cell (j := 0) rfl
    have x1 := X0.cell (j := 1) rfl
    have x2 := X0.cell (j := 2) rfl
    have f0 := X0.frozen 0
    have f1 := X0.frozen 1
    have f2 := X0.frozen 2
    go_wp2
    refine bodyPost_ret (results_row3 rfl rfl rfl rfl (put3 X0 (.int .u64 0) (.int .u64 0) (.string ⟨#[]⟩))) rfl ?_
    exact ⟨⟨⟨0, 0, ⟨#[]⟩⟩, ⟨#[]⟩, by rw [HR.out]; rfl, fun r l' h => by rw [HR.out] at h; cases h⟩, below_put3 c0 (Nat.le_refl _) _ _ _⟩
  | some y =>
    obtain ⟨a, r⟩ := y
    rw [hd] at H
    have hrl := Leb.dec_lt hd
    have H2 := fun w => takeUint_list r (by omega) w
    cases hd1 : dec r with
    | none =>
      rw [hd1] at H2
      have HR := Lib.hid (row1 hd hd1)
      clear hd hd1
      go_enter Try.func26, Try.ntmps26
      go_wp2_with fail
      refine (H _).mono ?_
      rintro e w1 ⟨rfl, b⟩
      simp only [uintRes]
      replace X0 := X0.below b
      replace c0 := c0.trans (b.mono c0.size)
      clear b H
      go_wp2_with fail
      refine (H2 _).mono ?_
      rintro e w2 ⟨rfl, b⟩
      simp only [uintRes]
      replace X0 := X0.below b
      replace c0 := c0.trans (b.mono c0.size)
      clear b H2
      have x0 := X0.cell (j := 0) rfl
      have x1 := X0.cell (j := 1) rfl
      have x2 := X0.cell (j := 2) rfl
      have f0 := X0.frozen 0
      have f1 := X0.frozen 1
      have f2 := X0.frozen 2
      go_wp2
      refine bodyPost_ret (results_row3 rfl rfl rfl rfl (put3 X0 (.int .u64 0) (.int .u64 0) (.string ⟨#[]⟩))) rfl ?_
      exact ⟨⟨⟨0, 0, ⟨#[]⟩⟩, ⟨#[]⟩, by rw [HR.out]; rfl, fun r l' h => by rw [HR.out] at h; cases h⟩, below_put3 c0 (Nat.le_refl _) _ _ _⟩
    | some y =>
      obtain ⟨b, r2⟩ := y
      rw [hd1] at H2
      have hrl2 := Leb.dec_lt hd1
      have H3 := fun w => takeText_list r2 (by omega) 256 (by decide) (by decide) w
      cases hd2 : decT r2 256 with
      | none =>
        rw [hd2] at H3
        have HR := Lib.hid (row2 hd hd1 hd2)
        clear hd hd1 hd2
        go_enter Try.func26, Try.ntmps26
        go_wp2_with fail
        refine (H _).mono ?_
        rintro e w1 ⟨rfl, bb⟩
        simp only [uintRes]
        replace X0 := X0.below bb
        replace c0 := c0.trans (bb.mono c0.size)
        clear bb H
        go_wp2_with fail
        refine (H2 _).mono ?_
        rintro e w2 ⟨rfl, bb⟩
        simp only [uintRes]
        replace X0 := X0.below bb
        replace c0 := c0.trans (bb.mono c0.size)
        clear bb H2
        go_wp2_with fail
        refine (H3 _).mono ?_
        rintro e w3 ⟨rfl, bb⟩
        simp only [textRes]
        replace X0 := X0.below bb
        replace c0 := c0.trans (bb.mono c0.size)
        clear bb H3
        have x0 := X0.cell (j := 0) rfl
        have x1 := X0.cell (j := 1) rfl
        have x2 := X0.cell (j := 2) rfl
        have f0 := X0.frozen 0
        have f1 := X0.frozen 1
        have f2 := X0.frozen 2
        go_wp2
        refine bodyPost_ret (results_row3 rfl rfl rfl rfl (put3 X0 (.int .u64 (a : Int)) (.int .u64 (b : Int)) (.string ⟨#[]⟩))) rfl ?_
        exact ⟨⟨⟨a, b, ⟨#[]⟩⟩, ⟨#[]⟩, by rw [HR.out]; rfl, fun r l' h => by rw [HR.out] at h; cases h⟩, below_put3 c0 (Nat.le_refl _) _ _ _⟩
      | some y =>
        obtain ⟨c, r3⟩ := y
        rw [hd2] at H3
        have HR := Lib.hid (row3 hd hd1 hd2)
        clear hd hd1 hd2
        go_enter Try.func26, Try.ntmps26
        go_wp2_with fail
        refine (H _).mono ?_
        rintro e w1 ⟨rfl, bb⟩
        simp only [uintRes]
        replace X0 := X0.below bb
        replace c0 := c0.trans (bb.mono c0.size)
        clear bb H
        go_wp2_with fail
        refine (H2 _).mono ?_
        rintro e w2 ⟨rfl, bb⟩
        simp only [uintRes]
        replace X0 := X0.below bb
        replace c0 := c0.trans (bb.mono c0.size)
        clear bb H2
        go_wp2_with fail
        refine (H3 _).mono ?_
        rintro e w3 ⟨rfl, bb⟩
        simp only [textRes]
        replace X0 := X0.below bb
        replace c0 := c0.trans (bb.mono c0.size)
        clear bb H3
        have x0 := X0.cell (j := 0) rfl
        have x1 := X0.cell (j := 1) rfl
        have x2 := X0.cell (j := 2) rfl
        have f0 := X0.frozen 0
        have f1 := X0.frozen 1
        have f2 := X0.frozen 2
        go_wp2
        refine bodyPost_ret (results_row3 rfl rfl rfl rfl (put3 X0 (.int .u64 (a : Int)) (.int .u64 (b : Int)) (.string ⟨c.toArray⟩))) rfl ?_
        refine ⟨⟨⟨a, b, ⟨c.toArray⟩⟩, ⟨r3.toArray⟩, by rw [HR.out]; rfl, fun r l' h => ?_⟩, below_put3 c0 (Nat.le_refl _) _ _ _⟩
        rw [HR.out] at h
        injection h with h
        injection h with h1 h2
        exact ⟨h1, by rw [h2]⟩
end Ses
end Go.Proofs.Ytjjpmmokgcfkdaa
