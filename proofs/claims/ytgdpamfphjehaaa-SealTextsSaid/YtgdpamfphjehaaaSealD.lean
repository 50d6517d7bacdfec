/-
  Package seal: the laws' locked and fixed; leaves compared.
-/
import Derived.Test.YtgdpamfphjehaaaSealC
import Derived.Laws.StructEq
import Derived.ChangeKeysEq
namespace Go.Proofs.Ytgdpamfphjehaaa
open Go.RowKit
open Ideal Ida
open Go.Lib (uvarint uvarint_small)

namespace Sea
theorem plain_num : Try.prog.plainKey 22 = true := by kernel_rfl
theorem leaf_eql (a0 a1 a2 a3 b0 b1 b2 b3 : Int) (w : World) : (binOp .eql 24 (.agg #[.int .u64 a0, .int .u64 a1, .int .u64 a2, .int .u64 a3]) (.agg #[.int .u64 b0, .int .u64 b1, .int .u64 b2, .int .u64 b3])).run Try.prog w = .ok (.bool (a0 == b0 && a1 == b1 && a2 == b2 && a3 == b3)) w := by
  have p0 : ∀ (a b c d : Int), (part 22 #[.int .u64 a, .int .u64 b, .int .u64 c, .int .u64 d] 0).run Try.prog w = .ok (.int .u64 a) w := fun a b c d => run_part_plain w plain_num rfl
  have p1 : ∀ (a b c d : Int), (part 22 #[.int .u64 a, .int .u64 b, .int .u64 c, .int .u64 d] 1).run Try.prog w = .ok (.int .u64 b) w := fun a b c d => run_part_plain w plain_num rfl
  have p2 : ∀ (a b c d : Int), (part 22 #[.int .u64 a, .int .u64 b, .int .u64 c, .int .u64 d] 2).run Try.prog w = .ok (.int .u64 c) w := fun a b c d => run_part_plain w plain_num rfl
  have p3 : ∀ (a b c d : Int), (part 22 #[.int .u64 a, .int .u64 b, .int .u64 c, .int .u64 d] 3).run Try.prog w = .ok (.int .u64 d) w := fun a b c d => run_part_plain w plain_num rfl
  have q : ∀ (a b : Int), (Op.equalIn 9999 22 (.int .u64 a) (.int .u64 b)).run Try.prog w = .ok (a == b) w := fun a b => run_equalIn_int w 9998 _ _ _ a b Try.underlying22
  have e := run_equalIn_struct w 9999 24 #[.int .u64 a0, .int .u64 a1, .int .u64 a2, .int .u64 a3] #[.int .u64 b0, .int .u64 b1, .int .u64 b2, .int .u64 b3] (by unfold Program.fieldsOf; rw [Try.underlying24]) (by kernel_rfl)
  rw [run_eql_struct, e]
  have r0 := q a0 b0
  have r1 := q a1 b1
  have r2 := q a2 b2
  have r3 := q a3 b3
  clear q e
  generalize (a0 == b0) = x0 at *
  generalize (a1 == b1) = x1 at *
  generalize (a2 == b2) = x2 at *
  generalize (a3 == b3) = x3 at *
  cases x0 <;> cases x1 <;> cases x2 <;> cases x3 <;> simp [Program.fieldsOf, Try.underlying24, Op.eqFields, Sem.run_bind, p0, p1, p2, p3, r0, r1, r2, r3, Result.andThen_ok]

set_option maxRecDepth 100000 in
set_option maxHeartbeats 4000000 in
theorem locked_any (l : List Nat) (hl : l.length * 8 ≤ 140737488355328) (hx : ∀ x ∈ l, x < 18446744073709551616) (k v s r e : Nat) (hk : k < 18446744073709551616) (hv : v < 18446744073709551616) (hs : s < 18446744073709551616) (hr : r < 18446744073709551616) (he : e < 18446744073709551616) (p : ByteArray) (hp : p.size ≤ maxLen) (dv : Value) (w : World) (hv0 : Kit.Sl w dv (nums l)) :
    Calls Try.prog 14 #[.agg #[dv, .int .u64 (k : Int), .int .u64 (v : Int), .int .u64 (s : Int), .int .u64 (r : Int), .int .u64 (e : Int), .string p]] w fun x w' => ∃ L, x = .returned (.tuple #[ptr L, .agg #[.int .u64 ((((Or.new l).draw q0).lockL k v s r e p).v : Int), .int .u64 ((((Or.new l).draw q0).lockL k v s r e p).e : Int), .int .u64 ((((Or.new l).draw q0).lockL k v s r e p).n : Int), .int .u64 ((((Or.new l).draw q0).lockL k v s r e p).c : Int)]]) ∧ Orc w' L (((Or.new l).draw q0).lockO k v s r e p) ∧ L.within w.heap.size w'.heap.size ∧ Below w.heap.size w w' := by
  have B0 := (Box.new w #[dv, .int .u64 (k : Int), .int .u64 (v : Int), .int .u64 (s : Int), .int .u64 (r : Int), .int .u64 (e : Int), .string p] 32).alloc (.cells #[.int .u64 0, .int .u64 0, .int .u64 0, .int .u64 0] 24)
  have R0 := Box.new (w.alloc (.cells #[dv, .int .u64 (k : Int), .int .u64 (v : Int), .int .u64 (s : Int), .int .u64 (r : Int), .int .u64 (e : Int), .string p] 32)) #[.int .u64 0, .int .u64 0, .int .u64 0, .int .u64 0] 24
  have c0 := below_lit w (.cells #[dv, .int .u64 (k : Int), .int .u64 (v : Int), .int .u64 (s : Int), .int .u64 (r : Int), .int .u64 (e : Int), .string p] 32)
  have c1 := c0.trans ((below_lit (w.alloc (.cells #[dv, .int .u64 (k : Int), .int .u64 (v : Int), .int .u64 (s : Int), .int .u64 (r : Int), .int .u64 (e : Int), .string p] 32)) (.cells #[.int .u64 0, .int .u64 0, .int .u64 0, .int .u64 0] 24)).mono c0.size)
  have HN := new_any l hl hx dv _ (hv0.below c1)
  rw [World.size_alloc] at R0
  have n0 : (Or.new l).rows.length = 0 := rfl
  have n1 : ((Or.new l).draw q0).rows.length = 1 := by rw [Or.len_draw]; rfl
  have HF := fun w' M (h : Orc w' M (Or.new l)) => o_fresh h (by omega)
  have HL := fun w' M (h : Orc w' M ((Or.new l).draw q0)) => lock_any h (by omega) k v s r e hk hv hs hr he p hp
  generalize ((Or.new l).draw q0).lockL k v s r e p = m at *
  generalize ((Or.new l).draw q0).lockO k v s r e p = O2 at *
  generalize (Or.new l).draw q0 = O1 at *
  generalize Or.new l = O0 at *
  clear hl hx hk hv hs hr he hp hv0 n0 n1 c0
  go_enter Try.func14, Try.ntmps14
  have q0 := B0.cell (j := 0) rfl
  go_wp2_with fail
  refine HN.mono ?_
  rintro x w1 ⟨L, rfl, h1, hin, b1⟩
  have B1 := B0.below b1
  have R1 := R0.below b1
  have c2 := c1.trans (b1.mono c1.size)
  have hin : L.within (w.heap.size + 2) w1.heap.size := hin.wider (by simp) (Nat.le_refl _)
  have hb0 : ¬ L.own w.heap.size := fun ho => by have := (hin.own _ ho).1; omega
  have hb1 : ¬ L.own (w.heap.size + 1) := fun ho => by have := (hin.own _ ho).1; omega
  have hw : ∀ i, L.own i → w.heap.size ≤ i := fun i hi => by have := (hin.own i hi).1; omega
  clear B0 R0 c1 b1 HN q0
  go_wp2_with fail
  refine (HF _ _ h1).mono ?_
  rintro x w2 ⟨rfl, h2, b2⟩
  have B2 := B1.but b2 hb0
  have R2 := R1.but b2 hb1
  have c3 := c2.trans (b2.below c2.size hw)
  have hin := hin.wider (Nat.le_refl _) b2.size
  clear B1 R1 c2 b2 HF h1
  have q0 := B2.cell (j := 0) rfl
  have q1 := B2.cell (j := 1) rfl
  have q2 := B2.cell (j := 2) rfl
  have q3 := B2.cell (j := 3) rfl
  have q4 := B2.cell (j := 4) rfl
  have q5 := B2.cell (j := 5) rfl
  have q6 := B2.cell (j := 6) rfl
  go_wp2_with fail
  refine (HL _ _ h2).mono ?_
  rintro x w3 ⟨rfl, h3, b3⟩
  have R3 := R2.but b3 hb1
  have c4 := c3.trans (b3.below c3.size hw)
  have hin := hin.wider (Nat.le_refl _) b3.size
  clear B2 R2 c3 b3 HL h2 q0 q1 q2 q3 q4 q5 q6
  have q0 := R3.cell (j := 0) rfl
  have q1 := R3.cell (j := 1) rfl
  have q2 := R3.cell (j := 2) rfl
  have q3 := R3.cell (j := 3) rfl
  have f0 := R3.frozen 0
  have f1 := R3.frozen 1
  have f2 := R3.frozen 2
  have f3 := R3.frozen 3
  have h4 := fun y0 y1 y2 y3 => h3.but (but_put4 (S := fun i => i = w.heap.size + 1) (b := w.heap.size + 1) (Kit.But.refl _ w3) (fun _ => rfl) y0 y1 y2 y3) (fun i hi e => hb1 (e ▸ hi)) (fun j hj e => by have := (hin.dv j hj).1; omega)
  have hin : L.within w.heap.size w3.heap.size := hin.wider (by omega) (Nat.le_refl _)
  clear h3 hb0 hb1 hw
  go_wp2
  refine bodyPost_ret (results_tmp_leaf rfl rfl rfl (R3.put4 (.int .u64 (m.v : Int)) (.int .u64 (m.e : Int)) (.int .u64 (m.n : Int)) (.int .u64 (m.c : Int)))) rfl ?_
  refine ⟨L, rfl, h4 _ _ _ _, ?_, below_put4 c4 (by omega) _ _ _ _⟩
  simpa using hin

def tx : ByteArray := ⟨#[1, 0, 7, 9]⟩
def ta : ByteArray := ⟨#[1, 2, 3, 172, 2]⟩
def xs : ByteArray := ⟨#[120]⟩
theorem tx_is : text ⟨1, 0, 7, 9⟩ = tx := by
  unfold text
  apply ByteArray.ext
  apply Array.ext'
  rw [four_data, uvarint_small (by decide), uvarint_small (by decide), uvarint_small (by decide), uvarint_small (by decide)]
  rfl
theorem ta_is : four 1 2 3 300 = ta := by
  apply ByteArray.ext
  apply Array.ext'
  rw [four_data, uvarint_small (by decide), uvarint_small (by decide), uvarint_small (by decide), Go.Lib.uvarint_big (by decide), uvarint_small (by decide)]
  rfl
theorem ad_is : four 2 3 1 0 = ⟨#[2, 3, 1, 0]⟩ := by
  apply ByteArray.ext
  apply Array.ext'
  rw [four_data, uvarint_small (by decide), uvarint_small (by decide), uvarint_small (by decide), uvarint_small (by decide)]
  rfl
theorem cut_is : parse (⟨#[1, 0, 7]⟩ : ByteArray).data.toList = none := by decide +kernel
def K0 : Or := Or.new [7, 9]
theorem n0 : K0.rows.length = 0 := rfl
theorem l0 : K0.lockL 1 2 3 1 0 xs = ⟨1, 0, 7, 9⟩ := by
  unfold Or.lockL Or.lockQ
  rw [ad_is]
  have e1 : K0.next = 7 := rfl
  have e2 : (K0.draw q0).val (qs 1 7 ⟨#[2, 3, 1, 0]⟩ xs) = 9 := by decide +kernel
  rw [e1, e2]

set_option maxRecDepth 100000 in
set_option maxHeartbeats 8000000 in
theorem fixed_any (w : World) : Calls Try.prog 12 #[] w fun e w' => e = .returned (.bool true) ∧ Below w.heap.size w w' := by
  have B0 : Box w.heap.size (w.alloc (.cells #[.int .u64 1, .int .u64 0, .int .u64 7, .int .u64 9] 24)) #[.int .u64 1, .int .u64 0, .int .u64 7, .int .u64 9] 24 := Box.new w _ _
  have c0 := below_lit w (.cells #[.int .u64 1, .int .u64 0, .int .u64 7, .int .u64 9] 24)
  have B1 := B0.alloc (.cells #[.int .u64 7, .int .u64 9] 22)
  have c1 := c0.trans ((below_lit (w.alloc (.cells #[.int .u64 1, .int .u64 0, .int .u64 7, .int .u64 9] 24)) (.cells #[.int .u64 7, .int .u64 9] 22)).mono c0.size)
  have s0 := laid_sl (w.alloc (.cells #[.int .u64 1, .int .u64 0, .int .u64 7, .int .u64 9] 24)) [7, 9] 22
  have HN := new_any [7, 9] (by decide) (by decide) _ _ s0
  rw [World.size_alloc] at HN
  have HP := fun w => parse_any ⟨#[1, 0, 7]⟩ (by decide) w
  rw [cut_is] at HP
  have HT := fun w => text_any ⟨1, 0, 7, 9⟩ ⟨by decide, by decide, by decide, by decide⟩ w
  rw [tx_is] at HT
  have HA := fun w => ad_any 1 2 3 300 (by decide) (by decide) (by decide) (by decide) w
  rw [ta_is] at HA
  have HL := fun w L (h : Orc w L K0) => lock_any h (by rw [n0]; decide) 1 2 3 1 0 (by decide) (by decide) (by decide) (by decide) (by decide) xs (by decide)
  rw [l0] at HL
  have HQ := fun w => leaf_eql 1 0 7 9 1 0 7 9 w
  have et : tx.toList = (⟨#[1, 0, 7, 9]⟩ : ByteArray).toList := rfl
  have ea : ta.toList = (⟨#[1, 2, 3, 172, 2]⟩ : ByteArray).toList := rfl
  clear s0 c0 B0
  go_enter Try.func12, Try.ntmps12
  go_wp2_with fail
  refine HN.mono ?_
  rintro x w1 ⟨L, rfl, h1, hin, b1⟩
  have B2 := B1.below b1
  have c2 := c1.trans (b1.mono c1.size)
  have hoff : ¬ L.own w.heap.size := fun ho => by have := (hin.own _ ho).1; simp at this; omega
  have hw : ∀ i, L.own i → w.heap.size ≤ i := fun i hi => by have := (hin.own i hi).1; simp at this; omega
  have h1 : Orc w1 L K0 := h1
  clear B1 c1 b1 HN hin
  go_wp2_with fail
  refine (HP _).mono ?_
  rintro x w2 ⟨rfl, b2⟩
  simp only [leafRes]
  have B3 := ((B2.below b2).alloc (.cells #[.int .u64 0, .int .u64 0, .int .u64 0, .int .u64 0] 24)).drew
  have h2 := ((h1.below b2).alloc (.cells #[.int .u64 0, .int .u64 0, .int .u64 0, .int .u64 0] 24)).drew
  have c3 := (c2.trans (b2.mono c2.size)).trans ((below_lit w2 (.cells #[.int .u64 0, .int .u64 0, .int .u64 0, .int .u64 0] 24)).mono (c2.trans (b2.mono c2.size)).size)
  clear B2 c2 b2 h1 HP
  have c4 := c3.drew
  go_upto_region 6 with (fail)
  go_region_held3 (fun w' => w'.cell? ⟨w.heap.size, 0, none⟩ = some (.int .u64 1) ∧ w'.cell? ⟨w.heap.size, 1, none⟩ = some (.int .u64 0) ∧ w'.cell? ⟨w.heap.size, 2, none⟩ = some (.int .u64 7) ∧ w'.cell? ⟨w.heap.size, 3, none⟩ = some (.int .u64 9))
    (first | exact ⟨B3.cell rfl, B3.cell rfl, B3.cell rfl, B3.cell rfl⟩ | exact ⟨B4.cell rfl, B4.cell rfl, B4.cell rfl, B4.cell rfl⟩ | exact ⟨B5.cell rfl, B5.cell rfl, B5.cell rfl, B5.cell rfl⟩ | exact ⟨B6.cell rfl, B6.cell rfl, B6.cell rfl, B6.cell rfl⟩)
    (first
      | (go_at_call 24; refine (HA _).mono ?_; rintro x w6 ⟨rfl, b6⟩; have B6 := B5.below b6; have c7 := c6.trans (b6.mono c6.size))
      | (go_at_call 26; refine (HL _ _ h4).mono ?_; rintro x w5 ⟨rfl, h5, b5⟩; have B5 := B4.but b5 hoff; have c6 := c5.trans (b5.below c5.size hw))
      | (go_at_call 11; refine (HT _).mono ?_; rintro x w4 ⟨rfl, b4⟩; have B4 := B3.below b4; have h4 := h2.below b4; have c5 := c4.trans (b4.mono c4.size)))
  go_wp2
  go_ret
  exact ⟨rfl, c7⟩
end Sea
end Go.Proofs.Ytgdpamfphjehaaa
