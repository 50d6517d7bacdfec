/-
  The fixed calls of package msg's laws.
-/
import Derived.Test.YtnbjlhbaeghihaaMsgF
namespace Go.Proofs.Ytnbjlhbaeghihaa
open Go.RowKit
open Go.Lib (uvarint uvarint_small uvarint_big uvarint_length64 uvarint_pos byteCells)
open Leb (dec decT decL takeNs takeTs encT encN encL encNs encTs)
open Msg (numOf lowOf highOf form chk enc dm)

theorem enc_fixed : enc 5 [1, 2, 300] [] = [5, 1, 2, 172, 2, 0] := by
  simp only [enc, encNs, encL, encTs, List.length_nil]
  rw [uv_small (show 5 < 128 by decide), uv_small (show 1 < 128 by decide), uv_small (show 2 < 128 by decide), uv_small (show 0 < 128 by decide), uv300]
  rfl
theorem encRes_fixed : encRes 5 [1, 2, 300] [] = .tuple #[.string ⟨#[5, 1, 2, 172, 2, 0]⟩, .int .i64 0] := by
  have h : chk ((5 : Nat) : Int) [1, 2, 300] [] = 0 := Msg.chk_ok (by decide) (by decide) (by rw [enc_fixed]; decide)
  have h' : chk 5 [1, 2, 300] [] = 0 := h
  unfold encRes
  rw [if_pos h']
  show Value.tuple #[.string ⟨(enc 5 [1, 2, 300] []).toArray⟩, .int .i64 0] = _
  rw [enc_fixed]

set_option maxHeartbeats 2000000 in
set_option maxRecDepth 100000 in
theorem mFixed_any (w : World) : Calls Try.prog 10 #[] w fun e w' => e = .returned (.bool true) ∧ Below w.heap.size w w' := by
  have d1 : dm [5, 1, 2, 172, 2, 0, 0] = .error 21 := by rfl
  have d2 : dm [8] = .error 20 := by rfl
  have d3 : dm [] = .error 21 := by rfl
  have H2 := fun w => decode_any [5, 1, 2, 172, 2, 0, 0] (by decide) w
  have H3 := fun w => decode_any [8] (by decide) w
  have H4 := fun w => decode_any [] (by decide) w
  rw [d1] at H2
  rw [d2] at H3
  rw [d3] at H4
  simp only [DecEnd] at H2 H3 H4
  have H1 := fun vn w (h : Kit.Rd w vn (nums [1, 2, 300])) => encode_any 5 (by decide) (by decide) [1, 2, 300] (by decide) [] (by decide) vn (.slice none 0 0) w h (Kit.Rd.nil_ w)
  rw [encRes_fixed] at H1
  clear d1 d2 d3
  go_enter Try.func10, Try.ntmps10
  go_wp2_with fail
  refine (H1 _ _ ?_).mono ?_
  · exact ⟨_, _, rfl, .inr ⟨_, rfl, fun j u hj => by
      match j, hj with
      | 0, hj => simp [nums] at hj; subst hj; simp [Addr.add]
      | 1, hj => simp [nums] at hj; subst hj; simp [Addr.add]
      | 2, hj => simp [nums] at hj; subst hj; simp [Addr.add]⟩⟩
  rintro e w1 ⟨rfl, hb1⟩
  have c1 := ((Below.refl _ w).alloc (Nat.le_refl _) _).trans (hb1.mono (((Below.refl _ w).alloc (Nat.le_refl _) _).size))
  clear H1 hb1
  go_wp2_with fail
  refine (H2 _).mono ?_
  rintro e w2 ⟨rfl, hb2⟩
  have c2 := c1.trans (hb2.mono c1.size)
  clear H2 hb2 c1
  go_wp2_with fail
  refine (H3 _).mono ?_
  rintro e w3 ⟨rfl, hb3⟩
  have c3 := (c2.alloc c2.size _).trans (hb3.mono (c2.alloc c2.size _).size)
  clear H3 hb3 c2
  go_wp2_with fail
  refine (H4 _).mono ?_
  rintro e w4 ⟨rfl, hb4⟩
  have c4 := (c3.alloc c3.size _).trans (hb4.mono (c3.alloc c3.size _).size)
  clear H4 hb4 c3
  go_wp2
  go_ret
  exact ⟨rfl, c4.alloc c4.size _⟩
end Go.Proofs.Ytnbjlhbaeghihaa
