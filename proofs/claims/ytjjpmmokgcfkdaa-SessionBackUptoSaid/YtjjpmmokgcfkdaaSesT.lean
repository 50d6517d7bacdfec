/-
  Text, and the document's Text.
-/
import Derived.Test.YtjjpmmokgcfkdaaSesC
import Derived.Test.YtjjpmmokgcfkdaaSesO
import Derived.Lib.AppendStr
import Derived.Deep.RegionHeld3
namespace Go.Proofs.Ytjjpmmokgcfkdaa
open Go.RowKit
open Go.Lib (uvarint uvarint_length64 byteCells)
open Leb (encT)
namespace Ses

theorem encT_len (s : ByteArray) : (encT s.data.toList).length = (uvarint s.size).length + s.size := by
  unfold encT
  rw [List.length_append, Kit.size_list]
theorem rowL_len {r : Row} (h : r.id < 18446744073709551616 ∧ r.num < 18446744073709551616) (hs : r.ans.size < 18446744073709551616) : (rowL r).length ≤ 30 + r.ans.size := by
  have h1 := uvarint_length64 h.1
  have h2 := uvarint_length64 h.2
  have h3 := uvarint_length64 hs
  unfold rowL
  rw [List.length_append, List.length_append, encT_len]
  omega
theorem rowsL_le : ∀ t : List Row, wide t → tweight t ≤ 1048576 → (rowsL t).length ≤ 30 * tweight t
  | [], _, _ => Nat.zero_le _
  | r :: t, hw, hz => by
    simp only [tweight] at hz ⊢
    have h1 := rowL_len (hw r (List.mem_cons_self ..)) (by omega)
    have h2 := rowsL_le t (fun x hx => hw x (List.mem_cons_of_mem _ hx)) (by omega)
    rw [rowsL, List.length_append]
    omega
theorem tweight_at : ∀ {t : List Row} {k : Nat} {x : Row}, t[k]? = some x → x.ans.size < tweight t
  | r :: t, 0, x, h => by
    simp only [List.getElem?_cons_zero, Option.some.injEq] at h
    subst h
    simp only [tweight]
    omega
  | r :: t, k + 1, x, h => by
    have := tweight_at (t := t) (k := k) (x := x) (by simpa using h)
    simp only [tweight]
    omega
theorem tweight_take : ∀ (t : List Row) (k : Nat), tweight (t.take k) ≤ tweight t
  | [], k => by simp
  | r :: t, 0 => Nat.zero_le _
  | r :: t, k + 1 => by
    have := tweight_take t k
    rw [List.take_succ_cons]
    simp only [tweight]
    omega
/-- The first k rows' bytes, behind the number's. -/
def part (t : List Row) (k : Nat) : List UInt8 := uvarint t.length ++ rowsL (t.take k)
theorem part_zero (t : List Row) : part t 0 = uvarint t.length := by simp [part, rowsL]
theorem part_succ {t : List Row} {k : Nat} {x : Row} (h : t[k]? = some x) : part t (k + 1) = part t k ++ rowL x := by
  unfold part
  rw [take_succ h, rowsL_append, List.append_assoc]
  congr 2
  simp [rowsL]
theorem part_all (t : List Row) : part t t.length = textL t := by unfold part textL; rw [List.take_length]
theorem part_len {t : List Row} (hw : wide t) (hz : tweight t ≤ 1048576) (k : Nat) : (part t k).length ≤ 31457290 := by
  have h1 := rowsL_le (t.take k) (fun r hr => hw r (List.mem_of_mem_take hr)) (by have := tweight_take t k; omega)
  have h2 := tweight_take t k
  have h3 := uvarint_length64 (show t.length < 18446744073709551616 by have := tweight_len t; omega)
  unfold part
  rw [List.length_append]
  omega
theorem own_str {w : World} {B n : Nat} {v : Value} {l m : List UInt8} (h : w.ownsRow B 5 1 v (n + (⟨m.toArray⟩ : ByteArray).size) (byteCells l ++ Lib.strCells ⟨m.toArray⟩)) (hn : n = l.length) : w.ownsRow B 5 1 v (l ++ m).length (byteCells (l ++ m)) := by
  subst hn
  rw [Lib.byteCells_append, List.length_append]
  rw [Kit.size_mk, Lib.strCells_eq] at h
  exact h
theorem cat_lists (a b : List UInt8) : (⟨a.toArray⟩ : ByteArray) ++ ⟨b.toArray⟩ = ⟨(a ++ b).toArray⟩ := by
  apply ByteArray.ext
  simp

set_option maxRecDepth 100000 in
set_option maxHeartbeats 4000000 in
theorem text_any (t : List Row) (hw : wide t) (hz : tweight t ≤ 1048576) (v : Value) (w : World) (hv : Tb w v t) :
    Calls Try.prog 18 #[v] w fun e w' => e = .returned (.string ⟨(textL t).toArray⟩) ∧ Below w.heap.size w w' := by
  obtain ⟨a, cap, rfl⟩ := hv.form
  obtain ⟨i0, hi, hz0, hz1, hz2⟩ := info_parts infoU8
  have hlt := tweight_len t
  have q1 : IntKind.u64.wrap (t.length : Int) = (t.length : Int) := by rw [IntKind.wrap_u64]; omega
  have H0 := putUint_any t.length (by omega) w
  have hpl := Lib.hid (part_len hw hz)
  have hp0 := part_zero t
  have hu0 := uvarint_length64 (show t.length < 18446744073709551616 by omega)
  have on := World.ownsRow_nil w w.heap.size 5 1
  go_enter Try.func18, Try.ntmps18
  go_wp2_with fail
  refine H0.mono ?_
  rintro e w1 ⟨rfl, b⟩
  have on1 := Dsk.row_kept on fun i hi hlt => b.block i hlt
  clear H0 on q1
  go_wp2_with (at_builtin; refine Lib.wpList_append_own_string _ rfl _ _ 52 9 rfl w.heap.size 5 i0 Try.underlying52 Try.underlying9 hi hz0 hz1 hz2 _ _ _ rfl on1 ⟨(uvarint t.length).toArray⟩ rfl ?c1 ?c2 ?c3 ?_)
  case c1 => unfold maxLen; rw [Kit.size_mk]; omega
  case c2 => rw [Kit.size_mk]; omega
  case c3 => exact b.size
  intro vb w2 own hg _
  have hB := b.grown hg b.size (fun k hk => (on1.lt k hk).1)
  replace own : w2.ownsRow w.heap.size 5 1 vb (part t 0).length (byteCells (part t 0)) := by
    rw [hp0]
    rw [Lib.strCells_eq] at own
    exact own
  have hlt9 : t.length ≤ 1048576 := by omega
  clear on1 hg b hp0 hu0 hlt
  go_wp2
  go_loopw [3, 14] (fun vb vi wr => ∃ k : Nat, k ≤ t.length ∧ vi = .int .i64 (k : Int) ∧ wr.ownsRow w.heap.size 5 1 vb (part t k).length (byteCells (part t k)) ∧ Below w.heap.size w wr) (fun _ vi _ => t.length - (intOf vi).toNat)
  case atStart => exact ⟨0, Nat.zero_le _, rfl, own, hB⟩
  case round =>
    clear own hB
    obtain ⟨k, hk, rfl, own, hB⟩ := hrel
    by_cases hlt : k < t.length
    · have hlt2 : (k : Int) < (t.length : Int) := by omega
      obtain ⟨x, hx⟩ : ∃ x, t[k]? = some x := ⟨_, List.getElem?_eq_getElem hlt⟩
      obtain ⟨ad, rfl, t0, t1, t2⟩ := (hv.below hB).at_ hx
      have hps := part_succ hx
      have hxw := hw x (List.mem_of_getElem? hx)
      have hxs := tweight_at hx
      have hpk := hpl.out k
      have HV := Lib.hid hv
      clear hx hv
      have bn := below_lit wr (.cells #[.int .u64 (x.id : Int), .int .u64 (x.num : Int), .string x.ans] 25)
      have bx := Box.new wr #[.int .u64 (x.id : Int), .int .u64 (x.num : Int), .string x.ans] 25
      have own2 := Dsk.row_kept own fun i hi hlt => bn.block i hlt
      have hB2 := hB.trans (bn.mono hB.size)
      unfold rowL at hps
      have u1 := uvarint_length64 hxw.1
      have u2 := uvarint_length64 hxw.2
      have u3 : (encT x.ans.data.toList).length ≤ 10 + x.ans.size := by
        have := uvarint_length64 (show x.ans.size < 18446744073709551616 by omega)
        rw [encT_len]
        omega
      have HP1 := fun w => putUint_any x.id hxw.1 w
      have HP2 := fun w => putUint_any x.num hxw.2 w
      have HP3 := fun w => putText_any x.ans (by omega) w
      rw [← List.append_assoc, ← List.append_assoc] at hps
      have HPS := Lib.hid hps
      clear hps own bn hB hxw
      have y0 := bx.cell (j := 0) rfl
      have y1 := bx.cell (j := 1) rfl
      have y2 := bx.cell (j := 2) rfl
      generalize part t k = P0 at *
      generalize uvarint x.id = M1 at *
      generalize uvarint x.num = M2 at *
      generalize encT x.ans.data.toList = M3 at *
      go_wp2_with fail
      refine (HP1 _).mono ?_
      rintro e wa ⟨rfl, b⟩
      replace bx := bx.below b
      have own3 := Dsk.row_kept own2 fun i hi hlt => b.block i hlt
      replace hB2 := hB2.trans (b.mono hB2.size)
      clear b HP1 own2 y0 y1 y2 t0 t1 t2
      go_wp2_with (at_builtin; refine Lib.wpList_append_own_string _ rfl _ _ 52 9 rfl w.heap.size 5 i0 Try.underlying52 Try.underlying9 hi hz0 hz1 hz2 _ _ _ rfl own3 ⟨M1.toArray⟩ rfl ?c1 ?c2 ?c3 ?_)
      case c1 => unfold maxLen; rw [Kit.size_mk]; omega
      case c2 => rw [Kit.size_mk]; omega
      case c3 => exact hB2.size
      intro vb1 wb own2 hg _
      replace hB2 := hB2.grown hg hB2.size (fun k hk => (own3.lt k hk).1)
      replace bx := bx.grown hg (fun k hk => Dsk.row_ne_box own3 bx (by decide) hk)
      replace own2 := own_str own2 (rfl)
      clear own3 hg
      have y0 := bx.cell (j := 0) rfl
      have y1 := bx.cell (j := 1) rfl
      have y2 := bx.cell (j := 2) rfl
      go_wp2_with fail
      refine (HP2 _).mono ?_
      rintro e wa ⟨rfl, b⟩
      replace bx := bx.below b
      have own3 := Dsk.row_kept own2 fun i hi hlt => b.block i hlt
      replace hB2 := hB2.trans (b.mono hB2.size)
      clear b HP2 own2 y0 y1 y2
      go_wp2_with (at_builtin; refine Lib.wpList_append_own_string _ rfl _ _ 52 9 rfl w.heap.size 5 i0 Try.underlying52 Try.underlying9 hi hz0 hz1 hz2 _ _ _ rfl own3 ⟨M2.toArray⟩ rfl ?c1 ?c2 ?c3 ?_)
      case c1 => unfold maxLen; rw [Kit.size_mk, List.length_append]; omega
      case c2 => rw [Kit.size_mk, List.length_append]; omega
      case c3 => exact hB2.size
      intro vb2 wb own2 hg _
      replace hB2 := hB2.grown hg hB2.size (fun k hk => (own3.lt k hk).1)
      replace bx := bx.grown hg (fun k hk => Dsk.row_ne_box own3 bx (by decide) hk)
      replace own2 := own_str own2 (by simp only [List.length_append])
      clear own3 hg
      have y0 := bx.cell (j := 0) rfl
      have y1 := bx.cell (j := 1) rfl
      have y2 := bx.cell (j := 2) rfl
      go_wp2_with fail
      refine (HP3 _).mono ?_
      rintro e wa ⟨rfl, b⟩
      replace bx := bx.below b
      have own3 := Dsk.row_kept own2 fun i hi hlt => b.block i hlt
      replace hB2 := hB2.trans (b.mono hB2.size)
      clear b HP3 own2 y0 y1 y2
      go_wp2_with (at_builtin; refine Lib.wpList_append_own_string _ rfl _ _ 52 9 rfl w.heap.size 5 i0 Try.underlying52 Try.underlying9 hi hz0 hz1 hz2 _ _ _ rfl own3 ⟨M3.toArray⟩ rfl ?c1 ?c2 ?c3 ?_)
      case c1 => unfold maxLen; rw [Kit.size_mk, List.length_append, List.length_append]; omega
      case c2 => rw [Kit.size_mk, List.length_append, List.length_append]; omega
      case c3 => exact hB2.size
      intro vb3 wb own2 hg _
      replace hB2 := hB2.grown hg hB2.size (fun k hk => (own3.lt k hk).1)
      replace bx := bx.grown hg (fun k hk => Dsk.row_ne_box own3 bx (by decide) hk)
      replace own2 := own_str own2 (by simp only [List.length_append])
      clear own3 hg
      have y0 := bx.cell (j := 0) rfl
      have y1 := bx.cell (j := 1) rfl
      have y2 := bx.cell (j := 2) rfl
      go_wp2
      go_roundw
      case rel => exact ⟨k + 1, hlt, by go_num, by rw [HPS.out]; simpa only [List.append_assoc] using own2, hB2⟩
      case measure =>
        have l5 : (intOf (.int .i64 ((k : Int) + 1))).toNat = k + 1 := rfl
        have l6 : (intOf (.int .i64 (k : Int))).toNat = k := rfl
        rw [l5, l6]
        exact Nat.sub_lt_sub_left hlt (Nat.lt_succ_self k)
    · obtain rfl : k = t.length := by omega
      have hd1 : ¬ (t.length : Int) < (t.length : Int) := by omega
      rw [part_all] at own
      have hcv := conv_any own
      clear hlt
      go_wp2
      go_ret
      exact ⟨rfl, hB⟩

set_option maxRecDepth 100000 in
set_option maxHeartbeats 4000000 in
theorem rText_any (t : List Row) (hw : wide t) (hz : tweight t ≤ 1048576) (v : Value) (w : World) (hv : Tb w v t) :
    Calls Try.prog 19 #[v] w fun e w' => e = .returned (.string ⟨(textL t).toArray⟩) ∧ Below w.heap.size w w' := by
  obtain ⟨a, cap, rfl⟩ := hv.form
  have hlt := tweight_len t
  have q1 : IntKind.u64.wrap (t.length : Int) = (t.length : Int) := by rw [IntKind.wrap_u64]; omega
  have H0 := rPutUint_any t.length (by omega) w
  rw [← part_zero] at H0
  have hpl := Lib.hid (part_len hw hz)
  go_enter Try.func19, Try.ntmps19
  go_wp2_with fail
  refine H0.mono ?_
  rintro e w1 ⟨rfl, b1⟩
  have hlt9 : t.length ≤ 1048576 := by omega
  clear H0 q1 hlt
  go_wp2
  go_loopw [3, 4] (fun vs vi wr => ∃ k : Nat, k ≤ t.length ∧ vi = .int .i64 (k : Int) ∧ vs = .string ⟨(part t k).toArray⟩ ∧ Below w.heap.size w wr) (fun _ vi _ => t.length - (intOf vi).toNat)
  case atStart => exact ⟨0, Nat.zero_le _, rfl, rfl, b1⟩
  case round =>
    clear b1
    obtain ⟨k, hk, rfl, rfl, hB⟩ := hrel
    by_cases hlt : k < t.length
    · have hlt2 : (k : Int) < (t.length : Int) := by omega
      obtain ⟨x, hx⟩ : ∃ x, t[k]? = some x := ⟨_, List.getElem?_eq_getElem hlt⟩
      obtain ⟨ad, rfl, t0, t1, t2⟩ := (hv.below hB).at_ hx
      have hps := part_succ hx
      have hxw := hw x (List.mem_of_getElem? hx)
      have hxs := tweight_at hx
      have hpk := hpl.out k
      have HCL : ∀ w', Below w.heap.size w w' → w'.cell? (ad.add (k * 3)) = some (.int .u64 (x.id : Int)) ∧ w'.cell? ⟨(ad.add (k * 3)).block, (ad.add (k * 3)).off + 1, none⟩ = some (.int .u64 (x.num : Int)) ∧ w'.cell? ⟨(ad.add (k * 3)).block, (ad.add (k * 3)).off + 2, none⟩ = some (.string x.ans) ∧ Below w.heap.size w w' := fun w' b => by
        obtain ⟨a1, e1, p0, p1, p2⟩ := (hv.below b).at_ hx
        obtain rfl := Option.some.inj e1
        exact ⟨p0, p1, p2, b⟩
      clear hx hv
      have u1 := uvarint_length64 hxw.1
      have u2 := uvarint_length64 hxw.2
      have u3 : (encT x.ans.data.toList).length ≤ 10 + x.ans.size := by
        have := uvarint_length64 (show x.ans.size < 18446744073709551616 by omega)
        rw [encT_len]
        omega
      have HP1 := fun w => rPutUint_any x.id hxw.1 w
      have HP2 := fun w => rPutUint_any x.num hxw.2 w
      have HP3 := fun w => rPutText_any x.ans (by omega) w
      have HPS : Hid ((⟨(part t k).toArray⟩ : ByteArray) ++ ((⟨(uvarint x.id).toArray⟩ ++ ⟨(uvarint x.num).toArray⟩) ++ ⟨(encT x.ans.data.toList).toArray⟩) = ⟨(part t (k + 1)).toArray⟩) := Lib.hid (by
        rw [cat_lists, cat_lists, cat_lists, hps]
        unfold rowL
        rw [List.append_assoc (uvarint x.id)])
      clear hps hxw
      have z0 := Kit.size_mk (part t k)
      have z1 := Kit.size_mk (uvarint x.id)
      have z2 := Kit.size_mk (uvarint x.num)
      have z3 := Kit.size_mk (encT x.ans.data.toList)
      generalize (⟨(part t k).toArray⟩ : ByteArray) = A0 at *
      generalize (⟨(uvarint x.id).toArray⟩ : ByteArray) = A1 at *
      generalize (⟨(uvarint x.num).toArray⟩ : ByteArray) = A2 at *
      generalize (⟨(encT x.ans.data.toList).toArray⟩ : ByteArray) = A3 at *
      have f1 : (9223372036854775807 < (A1.size : Int) + (A2.size : Int)) = False := by simp; omega
      have f2 : (9223372036854775807 < (A1.size : Int) + (A2.size : Int) + (A3.size : Int)) = False := by simp; omega
      have f3 : (9223372036854775807 < (A0.size : Int) + ((A1.size : Int) + (A2.size : Int) + (A3.size : Int))) = False := by simp; omega
      have f4 : (9223372036854775807 < A1.size + A2.size) = False := by simp; omega
      have f5 : (9223372036854775807 < A1.size + A2.size + A3.size) = False := by simp; omega
      have f6 : (9223372036854775807 < A0.size + (A1.size + A2.size + A3.size)) = False := by simp; omega
      clear z0 z1 z2 z3 u1 u2 u3 hpk hxs
      have bd := hB.drew
      go_wp2
      go_region_held3 (fun w' => w'.cell? (ad.add (k * 3)) = some (.int .u64 (x.id : Int)) ∧ w'.cell? ⟨(ad.add (k * 3)).block, (ad.add (k * 3)).off + 1, none⟩ = some (.int .u64 (x.num : Int)) ∧ w'.cell? ⟨(ad.add (k * 3)).block, (ad.add (k * 3)).off + 2, none⟩ = some (.string x.ans) ∧ Below w.heap.size w w')
        (first | exact HCL _ b5 | exact HCL _ b4 | exact HCL _ b3 | exact HCL _ bd)
        (first
          | (go_at_call 32; refine (HP3 _).mono ?_; rintro e w5 ⟨rfl, b⟩; have b5 := b4.trans (b.mono b4.size))
          | (go_at_call 31; have hbS := b3; refine (HP2 _).mono ?_; rintro e w4 ⟨rfl, b⟩; have b4 := b3.trans (b.mono b3.size))
          | (go_at_call 31; refine (HP1 _).mono ?_; rintro e w3 ⟨rfl, b⟩; have b3 := bd.trans (b.mono bd.size)))
      clear HCL bd HP1 HP2 HP3
      go_wp2
      go_roundw
      case rel => exact ⟨k + 1, hlt, by go_num, by rw [HPS.out], b5⟩
      case measure =>
        have l5 : (intOf (.int .i64 ((k : Int) + 1))).toNat = k + 1 := rfl
        have l6 : (intOf (.int .i64 (k : Int))).toNat = k := rfl
        rw [l5, l6]
        exact Nat.sub_lt_sub_left hlt (Nat.lt_succ_self k)
    · obtain rfl : k = t.length := by omega
      have hd1 : ¬ (t.length : Int) < (t.length : Int) := by omega
      have EP := Lib.hid (part_all t)
      clear hlt
      go_wp2
      go_ret
      exact ⟨by rw [← EP.out]; rfl, hB⟩
end Ses
end Go.Proofs.Ytjjpmmokgcfkdaa
