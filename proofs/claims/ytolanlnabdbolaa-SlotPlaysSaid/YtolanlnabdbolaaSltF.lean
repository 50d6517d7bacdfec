/-
  Package slot: framed, newest, Load, has.
-/
import Derived.Test.YtolanlnabdbolaaSltC
import Derived.Test.YtolanlnabdbolaaDskI
namespace Go.Proofs.Ytolanlnabdbolaa
open Go.RowKit
namespace Slt
open Dsk

theorem sec_cases (D : Dk) (a : Int) : ((sec D a).2.2 = true ∧ (sec D a).1 ≠ 0) ∨ sec D a = (0, ⟨#[]⟩, false) := un_cases _

set_option maxRecDepth 100000 in
set_option maxHeartbeats 2000000 in
theorem framed_any {w : World} {p : Nat} {K : Nat → Prop} {D : Dk} (h : Mem w p K D) (hl : D.pend.length < 2000) (a : Int) :
    Calls Try.prog 52 #[.pointer (some ⟨p, 0, none⟩), .int .i64 a] w fun e w' => e = .returned (.tuple #[.int .u64 ((sec D a).1 : Int), .string (sec D a).2.1]) ∧ Below w.heap.size w w' := by
  have HR := read_any h hl a
  have HU := fun w => unframe_any (D.read a).1 w
  have e : sec D a = un (D.read a).1 := rfl
  rw [e]
  clear e h
  generalize un (D.read a).1 = x at *
  generalize (D.read a).1 = tx at *
  generalize (D.read a).2 = ty at *
  obtain ⟨n, t, ok⟩ := x
  go_enter Try.func52, Try.ntmps52
  go_wp2_with fail
  refine HR.mono ?_
  rintro e w1 ⟨rfl, b1⟩
  go_wp2_with fail
  refine (HU _).mono ?_
  rintro e w2 ⟨rfl, b2⟩
  have c2 := b1.trans (b2.mono b1.size)
  go_wp2
  go_ret2
  exact ⟨rfl, c2⟩

/-- What newest tells. -/
def newRes (x : Nat × Nat × ByteArray) : Value := .tuple #[.int .u64 (x.2.1 : Int), .string x.2.2, .bool (decide (x.1 = 1))]

set_option maxRecDepth 100000 in
set_option maxHeartbeats 2000000 in
theorem newest_any {w : World} {p : Nat} {K : Nat → Prop} {D : Dk} (h : Mem w p K D) (hl : D.pend.length < 2000) (a b : Int) :
    Calls Try.prog 34 #[.pointer (some ⟨p, 0, none⟩), .int .i64 a, .int .i64 b] w fun e w' => e = .returned (newRes (new D a b)) ∧ Below w.heap.size w w' := by
  have HA := framed_any h hl a
  have HB := fun w (h : Mem w p K D) => framed_any h hl b
  have ca := sec_cases D a
  have cb := sec_cases D b
  have e : new D a b = nw (sec D a) (sec D b) := rfl
  rw [e]
  have HH := Lib.hid h
  clear e h
  generalize sec D a = x at *
  generalize sec D b = y at *
  obtain ⟨n, u, ok⟩ := x
  obtain ⟨m, v, is_⟩ := y
  dsimp only at *
  rcases ca with ⟨rfl, ca⟩ | ca
  · have g0 : ((n : Int) != 0) = true := by simpa using ca
    have hm : is_ = false → m = 0 := fun hi => by
      rcases cb with ⟨h, _⟩ | h
      · rw [hi] at h; cases h
      · injection h
    by_cases hc : m ≤ n
    · have e : nw (n, u, true) (m, v, is_) = (1, n, u) := by unfold nw; rw [if_pos ⟨rfl, .inr hc⟩]
      rw [e]
      have g1 : decide ((n : Int) ≥ (m : Int)) = true := by rw [decide_eq_true_iff]; omega
      clear ca cb hm
      go_enter Try.func34, Try.ntmps34
      go_wp2_with fail
      refine HA.mono ?_
      rintro e w1 ⟨rfl, b1⟩
      go_wp2_with fail
      refine (HB _ (HH.out.below b1)).mono ?_
      rintro e w2 ⟨rfl, b2⟩
      have c2 := b1.trans (b2.mono b1.size)
      go_wp2
      go_ret3
      exact ⟨rfl, c2⟩
    · obtain rfl : is_ = true := by
        cases is_ with
        | true => rfl
        | false => have := hm rfl; omega
      have e : nw (n, u, true) (m, v, true) = (2, m, v) := by unfold nw; rw [if_neg (by rintro ⟨-, h | h⟩; cases h; exact hc h), if_pos rfl]
      rw [e]
      have g1 : decide ((n : Int) ≥ (m : Int)) = false := by rw [decide_eq_false_iff_not]; omega
      clear ca cb hm
      go_enter Try.func34, Try.ntmps34
      go_wp2_with fail
      refine HA.mono ?_
      rintro e w1 ⟨rfl, b1⟩
      go_wp2_with fail
      refine (HB _ (HH.out.below b1)).mono ?_
      rintro e w2 ⟨rfl, b2⟩
      have c2 := b1.trans (b2.mono b1.size)
      go_wp2
      go_ret3
      exact ⟨rfl, c2⟩
  · injection ca with q1 ca
    injection ca with q2 q3
    subst q1
    subst q2
    subst q3
    have e : newRes (nw (0, ⟨#[]⟩, false) (m, v, is_)) = .tuple #[.int .u64 (m : Int), .string v, .bool false] := by
      rcases cb with ⟨rfl, _⟩ | h
      · rfl
      · injection h with q1 h
        injection h with q2 q3
        subst q1
        subst q2
        subst q3
        rfl
    rw [e]
    clear e cb
    go_enter Try.func34, Try.ntmps34
    go_wp2_with fail
    refine HA.mono ?_
    rintro e w1 ⟨rfl, b1⟩
    go_wp2_with fail
    refine (HB _ (HH.out.below b1)).mono ?_
    rintro e w2 ⟨rfl, b2⟩
    have c2 := b1.trans (b2.mono b1.size)
    go_wp2
    go_ret3
    exact ⟨rfl, c2⟩

set_option maxHeartbeats 1000000 in
theorem load_any {w : World} {p : Nat} {K : Nat → Prop} {D : Dk} (h : Mem w p K D) (hl : D.pend.length < 2000) (a b : Int) :
    Calls Try.prog 22 #[.pointer (some ⟨p, 0, none⟩), .int .i64 a, .int .i64 b] w fun e w' => e = .returned (.tuple #[.int .u64 ((load D a b).1 : Int), .string (load D a b).2]) ∧ Below w.heap.size w w' := by
  have HN := newest_any h hl a b
  have e : load D a b = (new D a b).2 := rfl
  rw [e]
  clear e h
  unfold newRes at HN
  generalize decide ((new D a b).1 = 1) = c at *
  generalize (new D a b).2 = x at *
  obtain ⟨n, t⟩ := x
  go_enter Try.func22, Try.ntmps22
  go_wp2_with fail
  refine HN.mono ?_
  rintro e w1 ⟨rfl, b1⟩
  go_wp2
  go_ret2
  exact ⟨rfl, b1⟩

set_option maxHeartbeats 1000000 in
theorem shas_any {w : World} {p : Nat} {K : Nat → Prop} {D : Dk} (h : Mem w p K D) (a : Int) :
    Calls Try.prog 33 #[.pointer (some ⟨p, 0, none⟩), .int .i64 a] w fun e w' => e = .returned (.bool (D.there a)) ∧ w' = w := by
  have HS := sectors_same h
  have e : D.there a = (decide (0 ≤ a) && decide (a < (D.safe.length : Int))) := rfl
  rw [e]
  clear e h
  by_cases h1 : 0 ≤ a
  · have g1 : decide (a ≥ 0) = true := by rw [decide_eq_true_iff]; exact h1
    go_enter Try.func33, Try.ntmps33
    go_wp2_with fail
    refine HS.mono ?_
    rintro e w1 ⟨rfl, rfl⟩
    go_wp2
    go_ret
    exact ⟨by simp [h1], rfl⟩
  · have g1 : decide (a ≥ 0) = false := by rw [decide_eq_false_iff_not]; exact h1
    go_enter Try.func33, Try.ntmps33
    go_wp2
    go_ret
    exact ⟨by simp, rfl⟩
end Slt
end Go.Proofs.Ytolanlnabdbolaa
