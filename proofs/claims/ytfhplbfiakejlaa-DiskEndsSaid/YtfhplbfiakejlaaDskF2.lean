/-
  The laws' fixed calls, and made: a disk behind some acts.
-/
import Derived.Test.YtfhplbfiakejlaaDskO
namespace Go.Proofs.Ytfhplbfiakejlaa
open Go.RowKit
namespace Dsk

def ab : ByteArray := ⟨#[97, 98]⟩
def a1 : ByteArray := ⟨#[97]⟩
theorem can1 : Dk.can (2 : Nat) (32 : Nat) = true := by decide
theorem can2 : Dk.can 2 31 = false := by decide
def E0 : Dk := Dk.new 2 32
def E1 : Dk := E0.write 0 ab
def E2 : Dk := E1.crash [1]
theorem fx1 : E0.canWrite 0 ab = true := by decide +kernel
theorem fx2 : E1.pend.length = 1 := by decide +kernel
theorem fx3 : (E2.read 0).1 = a1 ++ zeros 31 := by decide +kernel
theorem fx4 : (E2.read 0).2 = true := by decide +kernel
theorem fx5 : E2.safe.length = 2 := by decide +kernel
theorem fx6 : E2.size = 32 := rfl
theorem fx7 : E2.pend.length = 0 := rfl

set_option maxRecDepth 100000 in
set_option maxHeartbeats 8000000 in
theorem fixed_any (w : World) : Calls Try.prog 10 #[] w fun e w' => e = .returned (.bool true) ∧ Below w.heap.size w w' := by
  have HN := fun w => new_good 2 32 can1 w
  have HB := fun w => new_bad 2 31 can2 w
  have HW := fun w p K (h : Mem w p K E0) => write_any h (by show 0 < 1000; decide) 0 ab
  have HP := fun w p K (h : Mem w p K E1) => pending_any h
  have HC := fun w p K (h : Mem w p K E1) v hv => @crash_any w p K E1 h (by rw [fx2]; decide) [1] v hv
  have HR := fun w p K (h : Mem w p K E2) => read_any h (by rw [fx7]; decide) 0
  have HS := fun w p K (h : Mem w p K E2) => sectors_any h
  have HZ := fun w p K (h : Mem w p K E2) => size_any h
  have HQ := fun w p K (h : Mem w p K E2) => pending_any h
  have HO := fun w => rZeros_any 31 (by decide) w
  rw [fx1] at HW
  rw [fx2] at HP
  rw [fx3, fx4] at HR
  rw [fx5] at HS
  rw [fx6] at HZ
  rw [fx7] at HQ
  have e0 : Dk.new 2 32 = E0 := rfl
  have e1 : E0.write 0 ab = E1 := rfl
  have e2 : E1.crash [1] = E2 := rfl
  rw [e0] at HN
  rw [e1] at HW
  rw [e2] at HC
  have z31 := zeros_size 31
  generalize E0 = D0 at *
  generalize E1 = D1 at *
  generalize E2 = D2 at *
  generalize zeros 31 = zs at *
  have s1 : (9223372036854775807 < a1.size + zs.size) = False := eq_false (by rw [z31, show a1.size = 1 from rfl]; decide)
  simp only [ab, a1] at HW HR s1
  clear e0 e1 e2
  go_enter Try.func10, Try.ntmps10
  go_wp2_with fail
  refine (HN _).mono ?_
  rintro e w1 ⟨p, K, rfl, h1, hK, b1⟩
  go_wp2_with fail
  refine (HB _).mono ?_
  rintro e w2 ⟨rfl, b2⟩
  have h2 := h1.below b2
  have c2 := b1.trans (b2.mono b1.size)
  clear h1 b1 b2 HN HB
  go_wp2_with fail
  refine (HW _ _ _ h2).mono ?_
  rintro e w3 ⟨rfl, K3, h3, st⟩
  have c3 := c2.trans (st.low c2.size hK)
  have hK3 := st.from_ c2.size hK
  clear h2 c2 st HW hK
  go_wp2_with fail
  refine (HP _ _ _ h3).mono ?_
  rintro e w4 ⟨rfl, b⟩
  have h4 := h3.below b
  have c4 := c3.trans (b.mono c3.size)
  clear h3 c3 b HP
  have bl := below_lit w4 (.cells #[.int .i64 1] 3)
  have h5 := h4.below bl
  have c5 := c4.trans (bl.mono c4.size)
  have hr : RdK K3 (w4.alloc (.cells #[.int .i64 1] 3)) (.slice (some ⟨w4.heap.size, 0, none⟩) 1 1) (ints [1]) := by
    refine ⟨_, 1, rfl, .inr ⟨_, rfl, fun hk => Nat.lt_irrefl _ (h4.lt _ hk), fun j u hj => ?_⟩⟩
    match j, hj with
    | 0, hj =>
      cases hj
      exact (Box.new w4 #[.int .i64 1] 3).cell (j := 0) rfl
    | j + 1, hj => cases hj
  have H5 := HC _ _ _ h5 _ hr
  clear h4 c4 bl HC hr
  go_wp2_with fail
  refine H5.mono ?_
  rintro e w6 ⟨rfl, h6, b⟩
  have c6 := c5.trans (b.below c5.size hK3)
  clear h5 c5 b H5
  go_wp2_with fail
  refine (HR _ _ _ h6).mono ?_
  rintro e w7 ⟨rfl, b⟩
  have h7 := h6.below b
  have c7 := c6.trans (b.mono c6.size)
  clear h6 c6 b HR
  go_wp2_with fail
  refine (HO _).mono ?_
  rintro e w8 ⟨rfl, b⟩
  have h8 := h7.below b
  have c8 := c7.trans (b.mono c7.size)
  clear h7 c7 b HO
  go_wp2_with fail
  refine (HS _ _ _ h8).mono ?_
  rintro e w9 ⟨rfl, b⟩
  have h9 := h8.below b
  have c9 := c8.trans (b.mono c8.size)
  clear h8 c8 b HS
  go_wp2_with fail
  refine (HZ _ _ _ h9).mono ?_
  rintro e wx ⟨rfl, b⟩
  have hx := h9.below b
  have cx := c9.trans (b.mono c9.size)
  clear h9 c9 b HZ
  go_wp2_with fail
  refine (HQ _ _ _ hx).mono ?_
  rintro e wy ⟨rfl, b⟩
  have cy := cx.trans (b.mono cx.size)
  clear hx cx b HQ
  go_wp2
  go_ret
  exact ⟨rfl, cy⟩
end Dsk
end Go.Proofs.Ytfhplbfiakejlaa
