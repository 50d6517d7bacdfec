/-
  The laws' fixed calls.
-/
import Derived.Test.YtolanlnabdbolaaSltG
import Derived.Test.YtolanlnabdbolaaSltH
import Derived.Test.YtolanlnabdbolaaDskG
namespace Go.Proofs.Ytolanlnabdbolaa
open Go.RowKit
namespace Slt
open Dsk

def hi2 : ByteArray := ⟨#[104, 105]⟩
def ta : ByteArray := ⟨#[97]⟩
def mid : ByteArray := ⟨#[0, 2, 104, 105]⟩
def E0 : Dk := Dk.new 2 32
def E1 : Dk := save E0 0 1 ta
theorem can0 : Dk.can 2 32 = true := by decide
theorem fx1 : fits 1 hi2 32 = true := by decide +kernel
theorem fx2 : fits 0 hi2 32 = false := by decide +kernel
theorem fx3 : load E0 0 1 = (0, ⟨#[]⟩) := by decide +kernel
theorem fx4 : can E0 0 1 ta = true := by decide +kernel
theorem fx5 : load E1 0 1 = (1, ta) := by decide +kernel
theorem fx6 : E1.pend.length = 0 := by decide +kernel
theorem fx7 : body 1 hi2 32 = eight 1 ++ mid ++ zeros 12 ++ eight 1 := by decide +kernel

set_option maxRecDepth 100000 in
set_option maxHeartbeats 8000000 in
theorem fixed_any (w : World) : Calls Try.prog 12 #[] w fun e w' => e = .returned (.bool true) ∧ Below w.heap.size w w' := by
  have HF := fun w => frame_any 1 (by omega) hi2 32 w
  have HG := fun w => frame_any 0 (by omega) hi2 32 w
  have HN := fun w => new_good 2 32 can0 w
  have HL := fun w p K (h : Mem w p K E0) => load_any h (by show 0 < 2000; decide) 0 1
  have HS := fun w p K (h : Mem w p K E0) => save_any h (by show 0 < 900; decide) 0 1 ta
  have HM := fun w p K (h : Mem w p K E1) => load_any h (by rw [fx6]; decide) 0 1
  have HE := fun w => rEight_any 1 (by omega) w
  have HZ := fun w => rZeros_any 12 (by omega) w
  rw [frame_good fx1, show (32 : Int).toNat = 32 from rfl, fx7] at HF
  rw [frame_bad fx2] at HG
  rw [fx3] at HL
  rw [fx4] at HS
  rw [fx5] at HM
  rw [show Dk.new 2 32 = E0 from rfl] at HN
  rw [show save E0 0 1 ta = E1 from rfl] at HS
  have z1 := eight_size 1
  have z2 := zeros_size 12
  generalize E0 = D0 at *
  generalize E1 = D1 at *
  generalize eight 1 = en at *
  generalize zeros 12 = zs at *
  simp only [hi2, ta, mid] at HF HG HS HM
  go_enter Try.func12, Try.ntmps12
  go_wp2_with fail
  refine (HF _).mono ?_
  rintro e w1 ⟨rfl, c1⟩
  clear HF
  go_wp2_with fail
  refine (HN _).mono ?_
  rintro e w2 ⟨p, K, rfl, h2, hK, b2⟩
  have c2 := c1.trans (b2.mono c1.size)
  have hK : ∀ i, K i → w.heap.size ≤ i := fun i hi => Nat.le_trans c1.size (hK i hi)
  clear c1 b2 HN
  go_wp2_with fail
  refine (HG _).mono ?_
  rintro e w3 ⟨rfl, b3⟩
  have h3 := h2.below b3
  have c3 := c2.trans (b3.mono c2.size)
  clear h2 c2 b3 HG
  go_wp2_with fail
  refine (HL _ _ _ h3).mono ?_
  rintro e w4 ⟨rfl, b4⟩
  have h4 := h3.below b4
  have c4 := c3.trans (b4.mono c3.size)
  clear h3 c3 b4 HL
  go_wp2_with fail
  refine (HS _ _ _ h4).mono ?_
  rintro e w5 ⟨rfl, K5, h5, st⟩
  have c5 := c4.trans (st.low c4.size hK)
  clear h4 c4 st HS hK
  go_wp2_with fail
  refine (HM _ _ _ h5).mono ?_
  rintro e w6 ⟨rfl, b6⟩
  have c6 := c5.trans (b6.mono c5.size)
  clear h5 c5 b6 HM
  go_wp2_with fail
  refine (HE _).mono ?_
  rintro e w7 ⟨rfl, b7⟩
  have c7 := c6.trans (b7.mono c6.size)
  clear c6 b7
  go_wp2_with fail
  refine (HZ _).mono ?_
  rintro e w8 ⟨rfl, b8⟩
  have c8 := c7.trans (b8.mono c7.size)
  clear c7 b8 HZ
  go_wp2_with fail
  refine (HE _).mono ?_
  rintro e w9 ⟨rfl, b9⟩
  have c9 := c8.trans (b9.mono c8.size)
  clear c8 b9 HE
  go_wp2
  go_ret
  exact ⟨rfl, c9⟩
end Slt
end Go.Proofs.Ytolanlnabdbolaa
