/-
  Package quota: takeRow, Parse.
-/
import Derived.Test.YtdiocnehejeldaaQuoV
namespace Go.Proofs.Ytdiocnehejeldaa
open Go.RowKit
open Leb (dec)
namespace Quo

theorem load_row {T : TypeId} {w : World} {b : Nat} {x y z : Value} (h : Box b w #[x, y, z] T) : (loadVar 39 ⟨b, 0, none⟩).run Try.prog w = .ok (.agg #[x, y, z]) w := by
  have hl : (loadCells ⟨b, 0, none⟩ 3).run Try.prog w = .ok #[x, y, z] w := run_loadCells_list (P := Try.prog) (w := w) ⟨b, 0, none⟩ [x, y, z] (fun j t hv => by
    match j, hv with
    | 0, hv => simp at hv; subst hv; exact h.cell rfl
    | 1, hv => simp at hv; subst hv; exact h.cell rfl
    | 2, hv => simp at hv; subst hv; exact h.cell rfl)
  simp only [loadVar, Sem.run_bind, Try.isAgg39 w, Result.andThen]
  simp [hl, Result.andThen]
theorem results_cell_tmps {fn : Func} {p u q : Tmp} {ty : TypeId} (h : fn.results = #[.cell p ty, .tmp u, .tmp q]) (tmps : Array Value) (P : Program) (w : World) :
    (results fn tmps).run P w =
      ((asAddr (tmps.getD p undef)).run P w).andThen fun a w₁ => ((loadVar ty a).run P w₁).andThen fun v w₂ => .ok (.tuple #[v, tmps.getD u undef, tmps.getD q undef]) w₂ := by
  simp only [results, h]
  simp [Sem.run_bind, Result.andThen]
/-- Three results, the first a row in a variable. -/
theorem results_row3 {T : TypeId} {f : Func} {p u q : Tmp} (h : f.results = #[.cell p 39, .tmp u, .tmp q]) {tmps : Array Value} {w : World} {b : Nat} {x y z v o : Value} (hp : tmps.getD p undef = .pointer (some ⟨b, 0, none⟩)) (hu : tmps.getD u undef = v) (hq : tmps.getD q undef = o) (ht : Box b w #[x, y, z] T) :
    (results f tmps).run Try.prog w = .ok (.tuple #[.agg #[x, y, z], v, o]) w := by
  rw [results_cell_tmps h, hp]
  simp only [asAddr, Sem.run_pure, Result.andThen, load_row ht, hu, hq]
theorem put3 {T : TypeId} {w : World} {b : Nat} {x0 x1 x2 : Value} (h : Box b w #[x0, x1, x2] T) (y0 y1 y2 : Value) : Box b (((w.setCell ⟨b, 0, none⟩ y0).setCell ⟨b, 1, none⟩ y1).setCell ⟨b, 2, none⟩ y2) #[y0, y1, y2] T := ((h.set 0 y0).set 1 y1).set 2 y2
theorem below_put3 {B b : Nat} {w w' : World} (h : Below B w w') (hb : B ≤ b) (y0 y1 y2 : Value) : Below B w (((w'.setCell ⟨b, 0, none⟩ y0).setCell ⟨b, 1, none⟩ y1).setCell ⟨b, 2, none⟩ y2) :=
  ((h.setCell (p := ⟨b, 0, none⟩) hb y0).setCell (p := ⟨b, 1, none⟩) hb y1).setCell (p := ⟨b, 2, none⟩) hb y2

/-- What takeRow tells. -/
def TakeEnd (o : Option (Row × List UInt8)) (e : Ending) : Prop :=
  ∃ (x : Row) (rest : ByteArray), e = .returned (.tuple #[.agg #[.int .u64 (x.ten : Int), .int .u64 (x.used : Int), .int .u64 (x.lim : Int)], .string rest, .bool o.isSome]) ∧ ∀ r l', o = some (r, l') → x = r ∧ rest = ⟨l'.toArray⟩
/-- Behind so many numbers. -/
def RowAt (l : List UInt8) (a b c : Nat) (q : List UInt8) : Nat → Prop
  | 0 => a = 0 ∧ b = 0 ∧ c = 0 ∧ q = l
  | 1 => dec l = some (a, q) ∧ b = 0 ∧ c = 0
  | 2 => ∃ q1, dec l = some (a, q1) ∧ dec q1 = some (b, q) ∧ c = 0
  | _ => ∃ q1 q2, dec l = some (a, q1) ∧ dec q1 = some (b, q2) ∧ dec q2 = some (c, q)
theorem RowAt.none_ {l q : List UInt8} {a b c : Nat} : ∀ {j : Nat}, RowAt l a b c q j → j < 3 → dec q = none → takeRow l = none
  | 0, ⟨_, _, _, h⟩, _, hd => by subst h; exact row0 hd
  | 1, ⟨h, _, _⟩, _, hd => row1 h hd
  | 2, ⟨q1, h1, h2, _⟩, _, hd => row2 h1 h2 hd
  | j + 3, _, hj, _ => absurd hj (by omega)

set_option maxRecDepth 100000 in
set_option maxHeartbeats 4000000 in
theorem pTake_any (l : List UInt8) (hl : l.length ≤ 9223372036854775807) (w : World) :
    Calls Try.prog 26 #[.string ⟨l.toArray⟩] w fun e w' => TakeEnd (takeRow l) e ∧ Below w.heap.size w w' := by
  have c0 := below_lit w (.cells #[.int .u64 0, .int .u64 0, .int .u64 0] 39)
  have X0 := Box.new w #[.int .u64 0, .int .u64 0, .int .u64 0] 39
  have c1 := below_lit (w.alloc (.cells #[.int .u64 0, .int .u64 0, .int .u64 0] 39)) (.cells #[.int .u64 0, .int .u64 0, .int .u64 0] 49)
  have Y0 : Box (w.heap.size + 1) ((w.alloc (.cells #[.int .u64 0, .int .u64 0, .int .u64 0] 39)).alloc (.cells #[.int .u64 0, .int .u64 0, .int .u64 0] 49)) #[.int .u64 0, .int .u64 0, .int .u64 0] 49 := by
    have := Box.new (w.alloc (.cells #[.int .u64 0, .int .u64 0, .int .u64 0] 39)) #[.int .u64 0, .int .u64 0, .int .u64 0] 49
    rwa [World.size_alloc] at this
  replace X0 := X0.below c1
  replace c0 := c0.trans (c1.mono c0.size)
  clear c1
  have hz0 : RowAt l 0 0 0 l 0 := ⟨rfl, rfl, rfl, rfl⟩
  go_enter Try.func26, Try.ntmps26
  go_wp2
  go_loopw [0, 10] (fun vs vi wr => ∃ (j a b c : Nat) (q : List UInt8), j ≤ 3 ∧ vi = .int .i64 (j : Int) ∧ vs = .string ⟨q.toArray⟩ ∧ q.length ≤ l.length ∧ Hid (RowAt l a b c q j) ∧
      Box (w.heap.size + 1) wr #[.int .u64 (a : Int), .int .u64 (b : Int), .int .u64 (c : Int)] 49 ∧ Box w.heap.size wr #[.int .u64 0, .int .u64 0, .int .u64 0] 39 ∧ Below w.heap.size w wr) (fun _ vi _ => 3 - (intOf vi).toNat)
  case atStart => exact ⟨0, 0, 0, 0, l, by decide, rfl, rfl, Nat.le_refl _, Lib.hid hz0, Y0, X0, c0⟩
  case round =>
    obtain ⟨j, a, b, c, q, hj, rfl, rfl, hq, HA, Y, X, hB⟩ := hrel
    clear X0 Y0 c0 hz0
    by_cases hj3 : j < 3
    · have HT := fun w => takeUint_list q (by omega) w
      have hj4 : (j : Int) < 3 := by omega
      cases hd : dec q with
      | none =>
        rw [hd] at HT
        have HR := Lib.hid (HA.out.none_ hj3 hd)
        clear hd HA hj
        go_wp2_with fail
        refine (HT _).mono ?_
        rintro e w3 ⟨rfl, bb⟩
        simp only [uintRes]
        replace X := X.below bb
        replace hB := hB.trans (bb.mono hB.size)
        clear bb HT Y
        have x0 := X.cell (j := 0) rfl
        have x1 := X.cell (j := 1) rfl
        have x2 := X.cell (j := 2) rfl
        have f0 := X.frozen 0
        have f1 := X.frozen 1
        have f2 := X.frozen 2
        go_wp2
        refine bodyPost_ret (results_row3 rfl rfl rfl rfl (put3 X (.int .u64 0) (.int .u64 0) (.int .u64 0))) rfl ?_
        exact ⟨⟨⟨0, 0, 0⟩, ⟨#[]⟩, by rw [HR.out]; rfl, fun r l' h => by rw [HR.out] at h; cases h⟩, below_put3 hB (Nat.le_refl _) _ _ _⟩
      | some y =>
        obtain ⟨n, q2⟩ := y
        rw [hd] at HT
        have hql := Leb.dec_lt hd
        have HD := Lib.hid hd
        clear hd hj
        obtain rfl | rfl | rfl : j = 0 ∨ j = 1 ∨ j = 2 := by omega
        · have HA2 : Hid (RowAt l n b c q2 1) := Lib.hid (by obtain ⟨_, e2, e3, e4⟩ := HA.out; rw [e4] at HD; exact ⟨HD.out, e2, e3⟩)
          clear HA HD
          go_wp2_with fail
          refine (HT _).mono ?_
          rintro e w3 ⟨rfl, bb⟩
          simp only [uintRes]
          replace X := X.below bb
          replace Y := Y.below bb
          replace hB := hB.trans (bb.mono hB.size)
          clear bb HT
          have y0 := Y.cell (j := 0) rfl
          have f0 := Y.frozen 0
          have hq4 : q2.length ≤ l.length := by omega
          have Y2 : Box (w.heap.size + 1) (w3.setCell ⟨w.heap.size + 1, 0, none⟩ (.int .u64 (n : Int))) #[.int .u64 (n : Int), .int .u64 (b : Int), .int .u64 (c : Int)] 49 := Y.set 0 (.int .u64 (n : Int))
          have X2 := X.set_off (p := ⟨w.heap.size + 1, 0, none⟩) (by simp) (.int .u64 (n : Int))
          have hB2 : Below w.heap.size w (w3.setCell ⟨w.heap.size + 1, 0, none⟩ (.int .u64 (n : Int))) := hB.setCell (p := ⟨w.heap.size + 1, 0, none⟩) (Nat.le_succ _) (.int .u64 (n : Int))
          have HZ := Lib.hid (And.intro Y2 (And.intro X2 hB2))
          clear Y X hB Y2 X2 hB2 hql
          go_wp2
          go_roundw
          case rel => exact ⟨1, n, b, c, q2, by decide, rfl, rfl, hq4, HA2, HZ.out.1, HZ.out.2.1, HZ.out.2.2⟩
          case measure => decide
        · have HA2 : Hid (RowAt l a n c q2 2) := Lib.hid (by obtain ⟨e1, _, e3⟩ := HA.out; exact ⟨_, e1, HD.out, e3⟩)
          clear HA HD
          go_wp2_with fail
          refine (HT _).mono ?_
          rintro e w3 ⟨rfl, bb⟩
          simp only [uintRes]
          replace X := X.below bb
          replace Y := Y.below bb
          replace hB := hB.trans (bb.mono hB.size)
          clear bb HT
          have y1 := Y.cell (j := 1) rfl
          have f1 := Y.frozen 1
          have hq4 : q2.length ≤ l.length := by omega
          have Y2 : Box (w.heap.size + 1) (w3.setCell ⟨w.heap.size + 1, 1, none⟩ (.int .u64 (n : Int))) #[.int .u64 (a : Int), .int .u64 (n : Int), .int .u64 (c : Int)] 49 := Y.set 1 (.int .u64 (n : Int))
          have X2 := X.set_off (p := ⟨w.heap.size + 1, 1, none⟩) (by simp) (.int .u64 (n : Int))
          have hB2 : Below w.heap.size w (w3.setCell ⟨w.heap.size + 1, 1, none⟩ (.int .u64 (n : Int))) := hB.setCell (p := ⟨w.heap.size + 1, 1, none⟩) (Nat.le_succ _) (.int .u64 (n : Int))
          have HZ := Lib.hid (And.intro Y2 (And.intro X2 hB2))
          clear Y X hB Y2 X2 hB2 hql
          go_wp2
          go_roundw
          case rel => exact ⟨2, a, n, c, q2, by decide, rfl, rfl, hq4, HA2, HZ.out.1, HZ.out.2.1, HZ.out.2.2⟩
          case measure => decide
        · have HA2 : Hid (RowAt l a b n q2 3) := Lib.hid (by obtain ⟨q1, e1, e2, _⟩ := HA.out; exact ⟨_, _, e1, e2, HD.out⟩)
          clear HA HD
          go_wp2_with fail
          refine (HT _).mono ?_
          rintro e w3 ⟨rfl, bb⟩
          simp only [uintRes]
          replace X := X.below bb
          replace Y := Y.below bb
          replace hB := hB.trans (bb.mono hB.size)
          clear bb HT
          have y2 := Y.cell (j := 2) rfl
          have f2 := Y.frozen 2
          have hq4 : q2.length ≤ l.length := by omega
          have Y2 : Box (w.heap.size + 1) (w3.setCell ⟨w.heap.size + 1, 2, none⟩ (.int .u64 (n : Int))) #[.int .u64 (a : Int), .int .u64 (b : Int), .int .u64 (n : Int)] 49 := Y.set 2 (.int .u64 (n : Int))
          have X2 := X.set_off (p := ⟨w.heap.size + 1, 2, none⟩) (by simp) (.int .u64 (n : Int))
          have hB2 : Below w.heap.size w (w3.setCell ⟨w.heap.size + 1, 2, none⟩ (.int .u64 (n : Int))) := hB.setCell (p := ⟨w.heap.size + 1, 2, none⟩) (Nat.le_succ _) (.int .u64 (n : Int))
          have HZ := Lib.hid (And.intro Y2 (And.intro X2 hB2))
          clear Y X hB Y2 X2 hB2 hql
          go_wp2
          go_roundw
          case rel => exact ⟨3, a, b, n, q2, by decide, rfl, rfl, hq4, HA2, HZ.out.1, HZ.out.2.1, HZ.out.2.2⟩
          case measure => decide
    · obtain rfl : j = 3 := by omega
      have hj4 : ¬ (3 : Int) < 3 := by decide
      obtain ⟨q1, q2, h1, h2, h3⟩ := HA.out
      have HR := Lib.hid (row3 h1 h2 h3)
      clear h1 h2 h3 HA hj hj3
      have y0 := Y.cell (j := 0) rfl
      have y1 := Y.cell (j := 1) rfl
      have y2 := Y.cell (j := 2) rfl
      have x0 := X.cell (j := 0) rfl
      have x1 := X.cell (j := 1) rfl
      have x2 := X.cell (j := 2) rfl
      have f0 := X.frozen 0
      have f1 := X.frozen 1
      have f2 := X.frozen 2
      go_wp2
      refine bodyPost_ret (results_row3 rfl rfl rfl rfl (put3 X (.int .u64 (a : Int)) (.int .u64 (b : Int)) (.int .u64 (c : Int)))) rfl ?_
      refine ⟨⟨⟨a, c, b⟩, ⟨q.toArray⟩, by rw [HR.out]; rfl, fun r l' h => ?_⟩, below_put3 hB (Nat.le_refl _) _ _ _⟩
      rw [HR.out] at h
      injection h with h
      injection h with h1 h2
      exact ⟨h1, by rw [h2]⟩

set_option maxRecDepth 100000 in
set_option maxHeartbeats 4000000 in
theorem parse_any (s : ByteArray) (hs : s.size ≤ 9223372036854775807) (w : World) :
    Calls Try.prog 16 #[.string s] w fun e w' => ParseEnd (parse s.data.toList) e w' ∧ Below w.heap.size w w' := by
  have H := takeUint_any s hs w
  cases hd : dec s.data.toList with
  | none =>
    rw [hd] at H
    have HR := Lib.hid (parse0 hd)
    clear hd
    go_enter Try.func16, Try.ntmps16
    go_wp2_with fail
    refine H.mono ?_
    rintro e w1 ⟨rfl, b⟩
    simp only [uintRes]
    clear H
    go_wp2
    go_ret2
    rw [HR.out]
    exact ⟨⟨_, rfl, Tb.nil_ _⟩, b⟩
  | some y =>
    obtain ⟨n, r⟩ := y
    rw [hd] at H
    have hrl := Leb.dec_lt hd
    rw [Kit.size_list] at hrl
    by_cases hn : 16 < n
    · have HR := Lib.hid (parse1 hd hn)
      have g0 : (n : Int) > 16 := by omega
      clear hd hn
      go_enter Try.func16, Try.ntmps16
      go_wp2_with fail
      refine H.mono ?_
      rintro e w1 ⟨rfl, b⟩
      simp only [uintRes]
      clear H
      go_wp2
      go_ret2
      rw [HR.out]
      exact ⟨⟨_, rfl, Tb.nil_ _⟩, b⟩
    · have g0 : ¬ (n : Int) > 16 := by omega
      have HP2 := Lib.hid (fun h2 => parse2 hd hn h2)
      have HP3 := Lib.hid (fun (t : List Row) (r' : List UInt8) h2 h3 => parse3 (t := t) (r' := r') hd hn h2 h3)
      have HP4 := Lib.hid (fun (t : List Row) h2 h3 => parse4 (t := t) hd hn h2 h3)
      obtain ⟨i0, z0, hi, iz0, iz1, iz2, iz3⟩ := infoQuo
      have on := World.ownsRow_nil w w.heap.size 39 3
      have hn16 : n ≤ 16 := by omega
      have h0 : Hid (takeRows n r = ahead [] (takeRows (n - 0) r)) := Lib.hid (by rw [ahead_nil, Nat.sub_zero])
      clear hd hn
      go_enter Try.func16, Try.ntmps16
      go_wp2_with fail
      refine H.mono ?_
      rintro e w1 ⟨rfl, b⟩
      simp only [uintRes]
      replace on := Dsk.row_kept on fun i hi hlt => b.block i hlt
      have hrs : r.length ≤ 9223372036854775807 := by omega
      clear H hrl
      go_wp2
      go_loopw [5, 7, 22] (fun vs vt vi wr => ∃ (k : Nat) (t : List Row) (q : List UInt8), k ≤ n ∧ vi = .int .u64 (k : Int) ∧ vs = .string ⟨q.toArray⟩ ∧ q.length ≤ r.length ∧ t.length = k ∧ Hid (takeRows n r = ahead t (takeRows (n - k) q)) ∧ wr.ownsRow w.heap.size 39 3 vt t.length (flat t) ∧ Below w.heap.size w wr)
        (fun _ _ vi _ => n - (intOf vi).toNat)
      case atStart => exact ⟨0, [], r, Nat.zero_le _, rfl, rfl, Nat.le_refl _, rfl, h0, on, b⟩
      case round =>
        obtain ⟨k, t, q, hk, rfl, rfl, hq, rfl, HA, own, hB⟩ := hrel
        clear on b h0
        by_cases hlt : t.length < n
        · have g1 : (t.length : Int) < (n : Int) := by omega
          have c0 := below_lit wr (.cells #[.int .u64 0, .int .u64 0, .int .u64 0] 39)
          have X0 := Box.new wr #[.int .u64 0, .int .u64 0, .int .u64 0] 39
          have own2 := Dsk.row_kept own fun i hi hlt => c0.block i hlt
          have hB2 := hB.trans (c0.mono hB.size)
          have HT := fun w => pTake_any q (by omega) w
          obtain ⟨j, hj⟩ : ∃ j, n - t.length = j + 1 := ⟨n - t.length - 1, by omega⟩
          have hj2 : j = n - (t.length + 1) := by omega
          rw [hj] at HA
          have hz := hB.size
          have hlo := fun k hk => (own.lt k hk).2
          clear c0 own hB
          cases ht : takeRow q with
          | none =>
            rw [ht] at HT
            have HR := Lib.hid (HP2.out (by rw [HA.out]; exact rows_no ht))
            clear ht HA
            go_wp2_with fail
            refine (HT _).mono ?_
            rintro e w3 ⟨⟨x, rest, rfl, -⟩, b⟩
            replace X0 := X0.below b
            replace hB2 := hB2.trans (b.mono hB2.size)
            have f0 := X0.frozen 0
            have f1 := X0.frozen 1
            have f2 := X0.frozen 2
            have x0 := X0.cell (j := 0) rfl
            have x1 := X0.cell (j := 1) rfl
            have x2 := X0.cell (j := 2) rfl
            have fin := below_put3 hB2 (b := wr.heap.size) hz (.int .u64 (x.ten : Int)) (.int .u64 (x.used : Int)) (.int .u64 (x.lim : Int))
            clear b HT own2
            simp only [Option.isSome_none]
            go_wp2
            go_ret2
            rw [HR.out]
            exact ⟨⟨_, rfl, Tb.nil_ _⟩, fin⟩
          | some y =>
            obtain ⟨x, q2⟩ := y
            rw [ht] at HT
            have hql := takeRow_lt ht
            have HA2 : Hid (takeRows n r = ahead (t ++ [x]) (takeRows (n - (t.length + 1)) q2)) := Lib.hid (by rw [← hj2, HA.out]; exact rows_next ht)
            have hfs := flat_snoc t x
            clear ht HA hj hj2 HP2 HP3 HP4
            go_wp2_with fail
            refine (HT _).mono ?_
            rintro e w3 ⟨⟨x', rest, rfl, hxx⟩, b⟩
            obtain ⟨rfl, rfl⟩ := hxx x q2 rfl
            have own3 := Dsk.row_kept own2 fun i hi hlt => b.block i hlt
            replace X0 := X0.below b
            replace hB2 := hB2.trans (b.mono hB2.size)
            have f0 := X0.frozen 0
            have f1 := X0.frozen 1
            have f2 := X0.frozen 2
            have x0 := X0.cell (j := 0) rfl
            have x1 := X0.cell (j := 1) rfl
            have x2 := X0.cell (j := 2) rfl
            have hB4 := below_put3 hB2 (b := wr.heap.size) hz (.int .u64 (x'.ten : Int)) (.int .u64 (x'.used : Int)) (.int .u64 (x'.lim : Int))
            have own4 := Dsk.row_kept own3 (w' := ((w3.setCell ⟨wr.heap.size, 0, none⟩ (.int .u64 (x'.ten : Int))).setCell ⟨wr.heap.size, 1, none⟩ (.int .u64 (x'.used : Int))).setCell ⟨wr.heap.size, 2, none⟩ (.int .u64 (x'.lim : Int))) fun i hi hlt => by
              have hi2 := hlo i hi
              rw [heap_setCell_other _ ⟨wr.heap.size, 2, none⟩ i _ (by simp; omega), heap_setCell_other _ ⟨wr.heap.size, 1, none⟩ i _ (by simp; omega), heap_setCell_other _ ⟨wr.heap.size, 0, none⟩ i _ (by simp; omega)]
            have X4 := put3 X0 (.int .u64 (x'.ten : Int)) (.int .u64 (x'.used : Int)) (.int .u64 (x'.lim : Int))
            have hsz : (((w3.setCell ⟨wr.heap.size, 0, none⟩ (.int .u64 (x'.ten : Int))).setCell ⟨wr.heap.size, 1, none⟩ (.int .u64 (x'.used : Int))).setCell ⟨wr.heap.size, 2, none⟩ (.int .u64 (x'.lim : Int))).heap.size = w3.heap.size := by simp [World.setCell]
            obtain ⟨W4, hW4⟩ : ∃ W4, W4 = ((w3.setCell ⟨wr.heap.size, 0, none⟩ (.int .u64 (x'.ten : Int))).setCell ⟨wr.heap.size, 1, none⟩ (.int .u64 (x'.used : Int))).setCell ⟨wr.heap.size, 2, none⟩ (.int .u64 (x'.lim : Int)) := ⟨_, rfl⟩
            rw [← hW4] at hB4 own4 X4 hsz
            have HWW := Lib.hid hW4
            have bb := below_lit W4 (.cells #[.int .u64 (x'.ten : Int), .int .u64 (x'.used : Int), .int .u64 (x'.lim : Int)] 39)
            have bx : (W4.alloc (.cells #[.int .u64 (x'.ten : Int), .int .u64 (x'.used : Int), .int .u64 (x'.lim : Int)] 39)).heap[w3.heap.size]? = some (.cells #[.int .u64 (x'.ten : Int), .int .u64 (x'.used : Int), .int .u64 (x'.lim : Int)] 39 (0, 0)) := by rw [← hsz]; exact (MapKept.heap_alloc W4 _).1
            have own5 := Dsk.row_kept own4 fun i hi hlt => bb.block i hlt
            have hB5 := hB4.trans (bb.mono hB4.size)
            have hlo5 := own5.lt
            clear b HT own2 own3 hB2 hB4 own4 X4 X0 hxx hW4 bb hsz
            simp only [Option.isSome_some]
            go_wp2_with (at_builtin; rw [← HWW.out]; refine wpList_append_lies _ rfl _ _ 22 rfl w.heap.size 39 i0 z0 3 24 Try.underlying22 hi iz0 iz1 iz2 iz3 (by decide) _ _ _ rfl own5 ⟨w3.heap.size, 0, none⟩ 1 1 (rowC x') rfl rfl (World.news_of_block bx) (row_one _) (by decide) ?c3 ?c4 hB5.size _ rfl ?_)
            case c3 => unfold maxLen; omega
            case c4 => omega
            intro g cap w5 own6 hg hat hlt5
            have hB6 := hB5.grown hg hB5.size (fun k hk => (hlo5 k hk).1)
            have hl1 : t.length + 1 = (t ++ [x']).length := by simp
            rw [← hfs] at own6
            have HO6 := Lib.hid own6
            have HL1 := Lib.hid hl1
            clear own5 hB5 hlo5 bx hg hat hlt5 hfs own6 f0 f1 f2 x0 x1 x2 hlo hl1
            go_wp2
            go_roundw
            case rel => exact ⟨t.length + 1, t ++ [x'], q2, hlt, by go_num, rfl, Nat.le_trans hql hq, HL1.out.symm, HA2, by rw [← HL1.out]; exact HO6.out, hB6⟩
            case measure =>
              have l5 : (intOf (.int .u64 ((t.length : Int) + 1))).toNat = t.length + 1 := rfl
              have l6 : (intOf (.int .u64 (t.length : Int))).toNat = t.length := rfl
              rw [l5, l6]
              exact Nat.sub_lt_sub_left hlt (Nat.lt_succ_self t.length)
        · obtain rfl : n = t.length := by omega
          have hd1 : ¬ (t.length : Int) < (t.length : Int) := by omega
          rw [Nat.sub_self] at HA
          have HA2 : takeRows t.length r = some (t, q) := by rw [HA.out]; simp [takeRows, ahead]
          have hT := Tb.of_own own
          obtain ⟨ta, tc, rfl⟩ := hT.form
          have HC := fun w hv => check_any t (by omega) (.slice ta t.length tc) w hv
          by_cases hq0 : q = []
          · subst hq0
            cases hok : okB t with
            | true =>
              rw [hok] at HC
              have HR := Lib.hid (HP4.out t HA2 hok)
              clear HP2 HP3 HP4 HA HA2 hlt own hok
              go_wp2_with fail
              refine (HC _ hT).mono ?_
              rintro e w4 ⟨rfl, b⟩
              have hT4 := hT.below b
              have fin := hB.trans (b.mono hB.size)
              clear HC hT hB b
              go_wp2
              go_ret2
              rw [HR.out]
              exact ⟨⟨_, rfl, hT4⟩, fin⟩
            | false =>
              rw [hok] at HC
              have HR := Lib.hid (HP3.out t [] HA2 (by rw [hok]; simp))
              clear HP2 HP3 HP4 HA HA2 hlt own hok
              go_wp2_with fail
              refine (HC _ hT).mono ?_
              rintro e w4 ⟨rfl, b⟩
              have fin := hB.trans (b.mono hB.size)
              clear HC hT hB b
              go_wp2
              go_ret2
              rw [HR.out]
              exact ⟨⟨_, rfl, Tb.nil_ _⟩, fin⟩
          · have HR := Lib.hid (HP3.out t q HA2 (fun h => hq0 h.1))
            clear HP2 HP3 HP4 HA HA2 hlt own HC hT
            go_wp2
            go_ret2
            rw [HR.out]
            exact ⟨⟨_, rfl, Tb.nil_ _⟩, hB⟩
end Quo
end Go.Proofs.Ytdiocnehejeldaa
