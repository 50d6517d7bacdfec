/-
  Package quota: Text.
-/
import Derived.Test.YtdiocnehejeldaaQuoD
import Derived.Test.YtdiocnehejeldaaAppW
import Derived.Lib.AppendStr
namespace Go.Proofs.Ytdiocnehejeldaa
open Go.RowKit
open Go.Lib (uvarint uvarint_length64 byteCells)
namespace Quo

theorem own_str {w : World} {B n : Nat} {v : Value} {l m : List UInt8} (h : w.ownsRow B 5 1 v (n + (⟨m.toArray⟩ : ByteArray).size) (byteCells l ++ Lib.strCells ⟨m.toArray⟩)) (hn : n = l.length) : w.ownsRow B 5 1 v (l ++ m).length (byteCells (l ++ m)) := by
  subst hn
  rw [Lib.byteCells_append, List.length_append]
  rw [Kit.size_mk, Lib.strCells_eq] at h
  exact h
/-- A row's first numbers. -/
def numsL (x : Row) : Nat → List UInt8
  | 0 => []
  | 1 => uvarint x.ten
  | 2 => uvarint x.ten ++ uvarint x.used
  | _ => (uvarint x.ten ++ uvarint x.used) ++ uvarint x.lim
theorem nums_all (x : Row) : numsL x 3 = rowL x := by
  show (uvarint x.ten ++ uvarint x.used) ++ uvarint x.lim = rowL x
  unfold rowL
  rw [List.append_assoc]
theorem index0 (a b c : Int) (w : World) : (Instr.index 49 (.agg #[.int .u64 a, .int .u64 b, .int .u64 c]) (.int .i64 0)).run Try.prog w = .ok (.int .u64 a) w := by kernel_rfl
theorem index1 (a b c : Int) (w : World) : (Instr.index 49 (.agg #[.int .u64 a, .int .u64 b, .int .u64 c]) (.int .i64 1)).run Try.prog w = .ok (.int .u64 b) w := by kernel_rfl
theorem index2 (a b c : Int) (w : World) : (Instr.index 49 (.agg #[.int .u64 a, .int .u64 b, .int .u64 c]) (.int .i64 2)).run Try.prog w = .ok (.int .u64 c) w := by kernel_rfl
theorem nums_len {x : Row} (h : fine x) (j : Nat) : (numsL x j).length ≤ 30 := by
  have h1 := uvarint_length64 h.1
  have h2 := uvarint_length64 h.2.2
  have h3 := uvarint_length64 h.2.1
  match j with
  | 0 => exact Nat.zero_le _
  | 1 => show (uvarint x.ten).length ≤ 30; omega
  | 2 => show (uvarint x.ten ++ uvarint x.used).length ≤ 30; rw [List.length_append]; omega
  | _ + 3 => show ((uvarint x.ten ++ uvarint x.used) ++ uvarint x.lim).length ≤ 30; rw [List.length_append, List.length_append]; omega

set_option maxRecDepth 100000 in
set_option maxHeartbeats 4000000 in
theorem text_any (t : List Row) (hw : wide t) (hl : t.length * 24 ≤ 140737488355328) (v : Value) (w : World) (hv : Tb w v t) :
    Calls Try.prog 18 #[v] w fun e w' => e = .returned (.string ⟨(textL t).toArray⟩) ∧ Below w.heap.size w w' := by
  obtain ⟨a, cap, rfl⟩ := hv.form
  obtain ⟨i0, hi, hz0, hz1, hz2⟩ := info_parts infoU8
  have q1 : IntKind.u64.wrap (t.length : Int) = (t.length : Int) := by rw [IntKind.wrap_u64]; omega
  have H0 := putUint_any t.length (by omega) w
  have hpl := Lib.hid (part_len hw hl)
  have hp0 := part_zero t
  have hu0 := uvarint_length64 (show t.length < 18446744073709551616 by omega)
  have on := World.ownsRow_nil w w.heap.size 5 1
  go_enter Try.func18, Try.ntmps18
  go_wp2_with fail
  refine H0.mono ?_
  rintro e w1 ⟨rfl, b⟩
  have on1 := Dsk.row_kept on fun i hi hlt => b.block i hlt
  clear H0 on q1
  go_wp2_with (at_builtin; refine Kit.wpList_append_str_wide rfl _ _ 47 9 rfl w.heap.size 5 i0 Try.underlying47 Try.underlying9 hi hz0 hz1 hz2 _ _ _ rfl on1 ⟨(uvarint t.length).toArray⟩ rfl ?c1 ?c2 ?c3 ?_)
  case c1 => rw [Kit.size_mk]; omega
  case c2 => rw [Kit.size_mk]; omega
  case c3 => exact b.size
  intro vb w2 own hg
  have hB := b.grown hg b.size (fun k hk => (on1.lt k hk).1)
  replace own : w2.ownsRow w.heap.size 5 1 vb (part t 0).length (byteCells (part t 0)) := by
    rw [hp0]
    rw [Lib.strCells_eq] at own
    simpa [Kit.size_mk] using own
  clear on1 hg b hp0 hu0
  go_wp2
  go_loopw [3, 16] (fun vb vi wr => ∃ k : Nat, k ≤ t.length ∧ vi = .int .i64 (k : Int) ∧ wr.ownsRow w.heap.size 5 1 vb (part t k).length (byteCells (part t k)) ∧ Below w.heap.size w wr) (fun _ vi _ => t.length - (intOf vi).toNat)
  case atStart => exact ⟨0, Nat.zero_le _, rfl, own, hB⟩
  case round =>
    clear own hB
    obtain ⟨k, hk, rfl, own, hB⟩ := hrel
    by_cases hlt : k < t.length
    · have hlt2 : (k : Int) < (t.length : Int) := by omega
      obtain ⟨x, hx⟩ : ∃ x, t[k]? = some x := ⟨_, List.getElem?_eq_getElem hlt⟩
      obtain ⟨ad, rfl, t0, t1, t2⟩ := (hv.below hB).at_ hx
      have HPS := Lib.hid (part_succ hx)
      have hxw := hw x (List.mem_of_getElem? hx)
      have hpk := hpl.out k
      have HV := Lib.hid hv
      have bn := below_lit wr (.cells #[.int .u64 (x.ten : Int), .int .u64 (x.used : Int), .int .u64 (x.lim : Int)] 39)
      have bx := Box.new wr #[.int .u64 (x.ten : Int), .int .u64 (x.used : Int), .int .u64 (x.lim : Int)] 39
      have own2 := Dsk.row_kept own fun i hi hlt => bn.block i hlt
      have hB2 := hB.trans (bn.mono hB.size)
      have u1 := uvarint_length64 hxw.1
      have u2 := uvarint_length64 hxw.2.2
      have u3 := uvarint_length64 hxw.2.1
      have HP1 := fun w => putUint_any x.ten hxw.1 w
      have HP2 := fun w => putUint_any x.used hxw.2.2 w
      have HP3 := fun w => putUint_any x.lim hxw.2.1 w
      have hnl := Lib.hid (nums_len hxw)
      have hall := Lib.hid (nums_all x)
      have n1 : Hid (numsL x 0 ++ uvarint x.ten = numsL x 1) := Lib.hid rfl
      have n2 : Hid (numsL x 1 ++ uvarint x.used = numsL x 2) := Lib.hid rfl
      have n3 : Hid (numsL x 2 ++ uvarint x.lim = numsL x 3) := Lib.hid rfl
      have own3 := own
      rw [show part t k = part t k ++ numsL x 0 from by rw [show numsL x 0 = [] from rfl, List.append_nil]] at own3
      replace own2 := Dsk.row_kept own3 fun i hi hlt => bn.block i hlt
      clear hx hv own own3 bn hB hxw
      have y0 := bx.cell (j := 0) rfl
      have y1 := bx.cell (j := 1) rfl
      have y2 := bx.cell (j := 2) rfl
      generalize hP0 : part t k = P0 at *
      clear hP0
      generalize numsL x = nums at *
      generalize rowL x = RL at *
      generalize uvarint x.ten = M1 at *
      generalize uvarint x.used = M2 at *
      generalize uvarint x.lim = M3 at *
      go_wp2
      go_loopw [3, 27] (fun vc vj wn => ∃ j : Nat, j ≤ 3 ∧ vj = .int .i64 (j : Int) ∧ wn.ownsRow w.heap.size 5 1 vc (P0 ++ nums j).length (byteCells (P0 ++ nums j)) ∧ Below w.heap.size w wn) (fun _ vj _ => 3 - (intOf vj).toNat)
      case atStart => exact ⟨0, by decide, rfl, own2, hB2⟩
      case round =>
        clear own2 hB2 bx y0 y1 y2
        obtain ⟨j, hj, rfl, own, hB⟩ := hrel
        have hnj := hnl.out j
        obtain rfl | rfl | rfl | rfl : j = 0 ∨ j = 1 ∨ j = 2 ∨ j = 3 := by omega
        · have hj3 : (0 : Int) < 3 := by decide
          have ix := index0 (x.ten : Int) (x.used : Int) (x.lim : Int)
          go_wp2_with fail
          refine (HP1 _).mono ?_
          rintro e wa ⟨rfl, b⟩
          have own2 := Dsk.row_kept own fun i hi hlt => b.block i hlt
          replace hB := hB.trans (b.mono hB.size)
          clear b HP1 HP2 HP3 own
          go_wp2_with (at_builtin; refine Kit.wpList_append_str_wide rfl _ _ 47 9 rfl w.heap.size 5 i0 Try.underlying47 Try.underlying9 hi hz0 hz1 hz2 _ _ _ rfl own2 ⟨M1.toArray⟩ rfl ?c1 ?c2 ?c3 ?_)
          case c1 => rw [Kit.size_mk]; omega
          case c2 => rw [Kit.size_mk, List.length_append]; omega
          case c3 => exact hB.size
          intro vb1 wb own3 hg
          replace hB := hB.grown hg hB.size (fun k hk => (own2.lt k hk).1)
          replace own3 := own_str own3 (by simp only [List.length_append])
          rw [List.append_assoc, n1.out] at own3
          clear own2 hg
          go_wp2
          go_roundw
          case rel => exact ⟨1, by decide, rfl, own3, hB⟩
          case measure => decide
        · have hj3 : (1 : Int) < 3 := by decide
          have ix := index1 (x.ten : Int) (x.used : Int) (x.lim : Int)
          go_wp2_with fail
          refine (HP2 _).mono ?_
          rintro e wa ⟨rfl, b⟩
          have own2 := Dsk.row_kept own fun i hi hlt => b.block i hlt
          replace hB := hB.trans (b.mono hB.size)
          clear b HP1 HP2 HP3 own
          go_wp2_with (at_builtin; refine Kit.wpList_append_str_wide rfl _ _ 47 9 rfl w.heap.size 5 i0 Try.underlying47 Try.underlying9 hi hz0 hz1 hz2 _ _ _ rfl own2 ⟨M2.toArray⟩ rfl ?c1 ?c2 ?c3 ?_)
          case c1 => rw [Kit.size_mk]; omega
          case c2 => rw [Kit.size_mk, List.length_append]; omega
          case c3 => exact hB.size
          intro vb1 wb own3 hg
          replace hB := hB.grown hg hB.size (fun k hk => (own2.lt k hk).1)
          replace own3 := own_str own3 (by simp only [List.length_append])
          rw [List.append_assoc, n2.out] at own3
          clear own2 hg
          go_wp2
          go_roundw
          case rel => exact ⟨2, by decide, rfl, own3, hB⟩
          case measure => decide
        · have hj3 : (2 : Int) < 3 := by decide
          have ix := index2 (x.ten : Int) (x.used : Int) (x.lim : Int)
          go_wp2_with fail
          refine (HP3 _).mono ?_
          rintro e wa ⟨rfl, b⟩
          have own2 := Dsk.row_kept own fun i hi hlt => b.block i hlt
          replace hB := hB.trans (b.mono hB.size)
          clear b HP1 HP2 HP3 own
          go_wp2_with (at_builtin; refine Kit.wpList_append_str_wide rfl _ _ 47 9 rfl w.heap.size 5 i0 Try.underlying47 Try.underlying9 hi hz0 hz1 hz2 _ _ _ rfl own2 ⟨M3.toArray⟩ rfl ?c1 ?c2 ?c3 ?_)
          case c1 => rw [Kit.size_mk]; omega
          case c2 => rw [Kit.size_mk, List.length_append]; omega
          case c3 => exact hB.size
          intro vb1 wb own3 hg
          replace hB := hB.grown hg hB.size (fun k hk => (own2.lt k hk).1)
          replace own3 := own_str own3 (by simp only [List.length_append])
          rw [List.append_assoc, n3.out] at own3
          clear own2 hg
          go_wp2
          go_roundw
          case rel => exact ⟨3, by decide, rfl, own3, hB⟩
          case measure => decide
        · have HR3 := HPS.out
          rw [← hall.out] at HR3
          rw [← HR3] at own
          clear HP1 HP2 HP3
          go_wp2
          go_roundw
          case rel => exact ⟨k + 1, hlt, by go_num, own, hB⟩
          case measure =>
            have l5 : (intOf (.int .i64 ((k : Int) + 1))).toNat = k + 1 := rfl
            have l6 : (intOf (.int .i64 (k : Int))).toNat = k := rfl
            rw [l5, l6]
            exact Nat.sub_lt_sub_left hlt (Nat.lt_succ_self k)
    · obtain rfl : k = t.length := by omega
      have hd1 : ¬ (t.length : Int) < (t.length : Int) := by omega
      rw [part_all] at own
      have hcv := conv_any own
      clear hlt
      go_wp2
      go_ret
      exact ⟨rfl, hB⟩
end Quo
end Go.Proofs.Ytdiocnehejeldaa
