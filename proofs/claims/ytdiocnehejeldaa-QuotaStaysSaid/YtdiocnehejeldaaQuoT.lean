/-
  The document's Text.
-/
import Derived.Test.YtdiocnehejeldaaQuoC
import Derived.Test.YtdiocnehejeldaaWalksE
import Derived.Deep.RegionHeld3
namespace Go.Proofs.Ytdiocnehejeldaa
open Go.RowKit
open Go.Lib (uvarint uvarint_length64 byteCells)
namespace Quo

theorem rowL_len {r : Row} (h : fine r) : (rowL r).length ≤ 30 := by
  have h1 := uvarint_length64 h.1
  have h2 := uvarint_length64 h.2.1
  have h3 := uvarint_length64 h.2.2
  unfold rowL
  rw [List.length_append, List.length_append]
  omega
theorem rowsL_le : ∀ t : List Row, wide t → (rowsL t).length ≤ 30 * t.length
  | [], _ => Nat.zero_le _
  | r :: t, hw => by
    have h1 := rowL_len (hw r (List.mem_cons_self ..))
    have h2 := rowsL_le t (fun x hx => hw x (List.mem_cons_of_mem _ hx))
    rw [rowsL, List.length_append, List.length_cons]
    omega
theorem take_succ {l : List Row} {j : Nat} {x : Row} (h : l[j]? = some x) : l.take (j + 1) = l.take j ++ [x] := by
  obtain ⟨hlt, he⟩ := List.getElem?_eq_some_iff.1 h
  rw [List.take_succ_eq_append_getElem hlt, he]
/-- The first k rows' bytes, behind the number's. -/
def part (t : List Row) (k : Nat) : List UInt8 := uvarint t.length ++ rowsL (t.take k)
theorem part_zero (t : List Row) : part t 0 = uvarint t.length := by simp [part, rowsL]
theorem part_succ {t : List Row} {k : Nat} {x : Row} (h : t[k]? = some x) : part t (k + 1) = part t k ++ rowL x := by
  unfold part
  rw [take_succ h, rowsL_append, List.append_assoc]
  congr 2
  simp [rowsL]
theorem part_all (t : List Row) : part t t.length = textL t := by unfold part textL; rw [List.take_length]
theorem part_len {t : List Row} (hw : wide t) (hl : t.length * 24 ≤ 140737488355328) (k : Nat) : (part t k).length ≤ 10 + 30 * t.length := by
  have h1 := rowsL_le (t.take k) (fun r hr => hw r (List.mem_of_mem_take hr))
  have h2 : (t.take k).length ≤ t.length := by rw [List.length_take]; omega
  have h3 := uvarint_length64 (show t.length < 18446744073709551616 by omega)
  unfold part
  rw [List.length_append]
  omega
theorem cat_lists (a b : List UInt8) : (⟨a.toArray⟩ : ByteArray) ++ ⟨b.toArray⟩ = ⟨(a ++ b).toArray⟩ := by
  apply ByteArray.ext
  simp

set_option maxRecDepth 100000 in
set_option maxHeartbeats 4000000 in
theorem rText_any (t : List Row) (hw : wide t) (hl : t.length * 24 ≤ 140737488355328) (v : Value) (w : World) (hv : Tb w v t) :
    Calls Try.prog 21 #[v] w fun e w' => e = .returned (.string ⟨(textL t).toArray⟩) ∧ Below w.heap.size w w' := by
  obtain ⟨a, cap, rfl⟩ := hv.form
  have q1 : IntKind.u64.wrap (t.length : Int) = (t.length : Int) := by rw [IntKind.wrap_u64]; omega
  have H0 := rPutUint_any t.length (by omega) w
  rw [← part_zero] at H0
  have hpl := Lib.hid (part_len hw hl)
  go_enter Try.func21, Try.ntmps21
  go_wp2_with fail
  refine H0.mono ?_
  rintro e w1 ⟨rfl, b1⟩
  clear H0 q1
  go_wp2
  go_loopw [3, 4] (fun vs vi wr => ∃ k : Nat, k ≤ t.length ∧ vi = .int .i64 (k : Int) ∧ vs = .string ⟨(part t k).toArray⟩ ∧ Below w.heap.size w wr) (fun _ vi _ => t.length - (intOf vi).toNat)
  case atStart => exact ⟨0, Nat.zero_le _, rfl, rfl, b1⟩
  case round =>
    clear b1
    obtain ⟨k, hk, rfl, rfl, hB⟩ := hrel
    by_cases hlt : k < t.length
    · have hlt2 : (k : Int) < (t.length : Int) := by omega
      obtain ⟨x, hx⟩ : ∃ x, t[k]? = some x := ⟨_, List.getElem?_eq_getElem hlt⟩
      obtain ⟨ad, rfl, t0, t1, t2⟩ := (hv.below hB).at_ hx
      have hps := part_succ hx
      have hxw := hw x (List.mem_of_getElem? hx)
      have hpk := hpl.out k
      have HCL : ∀ w', Below w.heap.size w w' → w'.cell? (ad.add (k * 3)) = some (.int .u64 (x.ten : Int)) ∧ w'.cell? ⟨(ad.add (k * 3)).block, (ad.add (k * 3)).off + 1, none⟩ = some (.int .u64 (x.used : Int)) ∧ w'.cell? ⟨(ad.add (k * 3)).block, (ad.add (k * 3)).off + 2, none⟩ = some (.int .u64 (x.lim : Int)) ∧ Below w.heap.size w w' := fun w' b => by
        obtain ⟨a1, e1, p0, p1, p2⟩ := (hv.below b).at_ hx
        obtain rfl := Option.some.inj e1
        exact ⟨p0, p1, p2, b⟩
      clear hx hv
      have u1 := uvarint_length64 hxw.1
      have u2 := uvarint_length64 hxw.2.2
      have u3 := uvarint_length64 hxw.2.1
      have HP1 := fun w => rPutUint_any x.ten hxw.1 w
      have HP2 := fun w => rPutUint_any x.used hxw.2.2 w
      have HP3 := fun w => rPutUint_any x.lim hxw.2.1 w
      have HPS : Hid ((⟨(part t k).toArray⟩ : ByteArray) ++ ((⟨(uvarint x.ten).toArray⟩ ++ ⟨(uvarint x.used).toArray⟩) ++ ⟨(uvarint x.lim).toArray⟩) = ⟨(part t (k + 1)).toArray⟩) := Lib.hid (by
        rw [cat_lists, cat_lists, cat_lists, hps]
        unfold rowL
        rw [List.append_assoc (uvarint x.ten)])
      clear hps hxw
      have z0 := Kit.size_mk (part t k)
      have z1 := Kit.size_mk (uvarint x.ten)
      have z2 := Kit.size_mk (uvarint x.used)
      have z3 := Kit.size_mk (uvarint x.lim)
      generalize (⟨(part t k).toArray⟩ : ByteArray) = A0 at *
      generalize (⟨(uvarint x.ten).toArray⟩ : ByteArray) = A1 at *
      generalize (⟨(uvarint x.used).toArray⟩ : ByteArray) = A2 at *
      generalize (⟨(uvarint x.lim).toArray⟩ : ByteArray) = A3 at *
      have f1 : (9223372036854775807 < (A1.size : Int) + (A2.size : Int)) = False := by simp; omega
      have f2 : (9223372036854775807 < (A1.size : Int) + (A2.size : Int) + (A3.size : Int)) = False := by simp; omega
      have f3 : (9223372036854775807 < (A0.size : Int) + ((A1.size : Int) + (A2.size : Int) + (A3.size : Int))) = False := by simp; omega
      have f4 : (9223372036854775807 < A1.size + A2.size) = False := by simp; omega
      have f5 : (9223372036854775807 < A1.size + A2.size + A3.size) = False := by simp; omega
      have f6 : (9223372036854775807 < A0.size + (A1.size + A2.size + A3.size)) = False := by simp; omega
      clear z0 z1 z2 z3 u1 u2 u3 hpk
      have bd := hB.drew
      go_wp2
      go_region_held3 (fun w' => w'.cell? (ad.add (k * 3)) = some (.int .u64 (x.ten : Int)) ∧ w'.cell? ⟨(ad.add (k * 3)).block, (ad.add (k * 3)).off + 1, none⟩ = some (.int .u64 (x.used : Int)) ∧ w'.cell? ⟨(ad.add (k * 3)).block, (ad.add (k * 3)).off + 2, none⟩ = some (.int .u64 (x.lim : Int)) ∧ Below w.heap.size w w')
        (first | exact HCL _ b5 | exact HCL _ b4 | exact HCL _ b3 | exact HCL _ bd)
        (first
          | (go_at_call 29; have hbS := b4; refine (HP3 _).mono ?_; rintro e w5 ⟨rfl, b⟩; have b5 := b4.trans (b.mono b4.size))
          | (go_at_call 29; have hbS := b3; refine (HP2 _).mono ?_; rintro e w4 ⟨rfl, b⟩; have b4 := b3.trans (b.mono b3.size))
          | (go_at_call 29; refine (HP1 _).mono ?_; rintro e w3 ⟨rfl, b⟩; have b3 := bd.trans (b.mono bd.size)))
      clear HCL bd HP1 HP2 HP3
      go_wp2
      go_roundw
      case rel => exact ⟨k + 1, hlt, by go_num, by rw [HPS.out], b5⟩
      case measure =>
        have l5 : (intOf (.int .i64 ((k : Int) + 1))).toNat = k + 1 := rfl
        have l6 : (intOf (.int .i64 (k : Int))).toNat = k := rfl
        rw [l5, l6]
        exact Nat.sub_lt_sub_left hlt (Nat.lt_succ_self k)
    · obtain rfl : k = t.length := by omega
      have hd1 : ¬ (t.length : Int) < (t.length : Int) := by omega
      have EP := Lib.hid (part_all t)
      clear hlt
      go_wp2
      go_ret
      exact ⟨by rw [← EP.out]; rfl, hB⟩
end Quo
end Go.Proofs.Ytdiocnehejeldaa
