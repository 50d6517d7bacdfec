/-
  SlotFrames: the walk, for every input.
-/
import Derived.Test.YtolanlnabdbolaaSltI
namespace Go.Proofs.Ytolanlnabdbolaa.Frames9
open Go.RowKit
open Dsk Slt

set_option maxRecDepth 100000 in
set_option maxHeartbeats 8000000 in
theorem frames_any (n : Nat) (hn : n < 18446744073709551616) (t : ByteArray) (z : Int) (s : ByteArray) (w : World) :
    Calls Try.prog 3 #[.agg #[.int .u64 (n : Int), .string t, .int .i64 z], .string s] w fun e w' => e = .returned (.bool true) ∧ Below w.heap.size w w' := by
  have X := Box.new w #[.int .u64 (n : Int), .string t, .int .i64 z] 24
  have c0 := below_lit w (.cells #[.int .u64 (n : Int), .string t, .int .i64 z] 24)
  have x0 : (w.alloc (.cells #[.int .u64 (n : Int), .string t, .int .i64 z] 24)).cell? ⟨w.heap.size, 0, none⟩ = some (.int .u64 (n : Int)) := X.cell (j := 0) rfl
  have x1 : (w.alloc (.cells #[.int .u64 (n : Int), .string t, .int .i64 z] 24)).cell? ⟨w.heap.size, 1, none⟩ = some (.string t) := X.cell (j := 1) rfl
  have x2 : (w.alloc (.cells #[.int .u64 (n : Int), .string t, .int .i64 z] 24)).cell? ⟨w.heap.size, 2, none⟩ = some (.int .i64 z) := X.cell (j := 2) rfl
  have HA := fun w => frame_any n hn t z w
  have HB := fun w => rFrame_any n hn t z w
  have HC := fun w => unframe_any s w
  have HD := fun w => rUnframe_any s w
  have HF := fixed_any
  generalize un s = us at *
  obtain ⟨un1, un2, un3⟩ := us
  clear X
  by_cases hf : fits n t z = true
  · rw [frame_good hf] at HA HB
    have h := of_decide_eq_true hf
    obtain ⟨k, rfl⟩ : ∃ k : Nat, z = (k : Int) := ⟨z.toNat, by omega⟩
    have HU := fun w => unframe_any (body n t k) w
    rw [un_body (by omega) hn (by omega) (by omega) (by omega)] at HU
    have hb : (body n t k).size = k := body_size (by omega)
    rw [show (k : Int).toNat = k from rfl] at HA HB
    clear hf h
    generalize body n t k = fr at *
    go_enter Try.func3, Try.ntmps3
    go_wp2_with fail
    go_quiet (fail)
    have c1 := c0.trans ((Dsk.below_drewN _ nq).mono c0.size)
    clear x0 x1 x2 c0
    generalize World.drewN _ nq = wa at *
    go_wp2_with fail
    refine (HA _).mono ?_
    rintro e w1 ⟨rfl, b1⟩
    have c2 := c1.trans (b1.mono c1.size)
    clear c1 b1 HA
    go_wp2_with fail
    refine (HB _).mono ?_
    rintro e w2 ⟨rfl, b1⟩
    have c3 := c2.trans (b1.mono c2.size)
    clear c2 b1 HB
    go_wp2_with fail
    refine (HC _).mono ?_
    rintro e w3 ⟨rfl, b1⟩
    have c4 := c3.trans (b1.mono c3.size)
    clear c3 b1 HC
    go_wp2_with fail
    refine (HD _).mono ?_
    rintro e w4 ⟨rfl, b1⟩
    have c5 := c4.trans (b1.mono c4.size)
    clear c4 b1 HD
    go_wp2_with fail
    refine (HF _).mono ?_
    rintro e w5 ⟨rfl, b1⟩
    have c6 := c5.trans (b1.mono c5.size)
    clear c5 b1 HF
    go_wp2_with fail
    refine (HU _).mono ?_
    rintro e w6 ⟨rfl, b1⟩
    have c7 := c6.trans (b1.mono c6.size)
    clear c6 b1 HU
    go_wp2
    go_ret
    exact ⟨rfl, c7⟩
  · rw [frame_bad (by simpa using hf)] at HA HB
    clear hf
    go_enter Try.func3, Try.ntmps3
    go_wp2_with fail
    go_quiet (fail)
    have c1 := c0.trans ((Dsk.below_drewN _ nq).mono c0.size)
    clear x0 x1 x2 c0
    generalize World.drewN _ nq = wa at *
    go_wp2_with fail
    refine (HA _).mono ?_
    rintro e w1 ⟨rfl, b1⟩
    have c2 := c1.trans (b1.mono c1.size)
    clear c1 b1 HA
    go_wp2_with fail
    refine (HB _).mono ?_
    rintro e w2 ⟨rfl, b1⟩
    have c3 := c2.trans (b1.mono c2.size)
    clear c2 b1 HB
    go_wp2_with fail
    refine (HC _).mono ?_
    rintro e w3 ⟨rfl, b1⟩
    have c4 := c3.trans (b1.mono c3.size)
    clear c3 b1 HC
    go_wp2_with fail
    refine (HD _).mono ?_
    rintro e w4 ⟨rfl, b1⟩
    have c5 := c4.trans (b1.mono c4.size)
    clear c4 b1 HD
    go_wp2_with fail
    refine (HF _).mono ?_
    rintro e w5 ⟨rfl, b1⟩
    have c6 := c5.trans (b1.mono c5.size)
    clear c5 b1 HF
    go_wp2
    go_ret
    exact ⟨rfl, c6⟩
end Go.Proofs.Ytolanlnabdbolaa.Frames9
