/-
  The document's own Nums: whether two lists of numbers are the same.
-/
import Derived.Test.YtllbcnficlbobaaWalksH
namespace Go.Proofs.Ytllbcnficlbobaa
open Go.RowKit
open Go.Lib (uvarint uvarint_small uvarint_big uvarint_length64 uvarint_pos byteCells)
open Leb (dec decT decL takeNs takeTs encT encN encL encNs encTs)

set_option maxHeartbeats 1000000 in
set_option maxRecDepth 100000 in
theorem nums_is (l m : List Nat) (hl : l.length ≤ 9223372036854775807) (u v : Value) (w : World) (hu : Kit.Rd w u (nums l)) (hv : Kit.Rd w v (nums m)) :
    Calls Try.prog 31 #[u, v] w fun e w' => e = .returned (.bool (decide (l = m))) ∧ Below w.heap.size w w' := by
  obtain ⟨a, cap, rfl⟩ := hu.form
  obtain ⟨b, cap2, rfl⟩ := hv.form
  rw [show (nums l).length = l.length by simp [nums]] at hu ⊢
  rw [show (nums m).length = m.length by simp [nums]] at hv ⊢
  by_cases hlen : l.length = m.length
  · have g1 : ((l.length : Int) != (m.length : Int)) = false := by rw [bne_eq_false_iff_eq]; omega
    have Hlen := Lib.hid hlen
    clear hlen
    go_enter Try.func31, Try.ntmps31
    go_wp2
    go_loopw [5] (fun vi wr => ∃ k : Nat, k ≤ l.length ∧ vi = .int .i64 k ∧ Hid (l.take k = m.take k) ∧ Below w.heap.size w wr) (fun vi _ => l.length - (intOf vi).toNat)
    case atStart => exact ⟨0, Nat.zero_le _, rfl, Lib.hid rfl, Below.refl _ _⟩
    case round =>
      obtain ⟨k, hk, rfl, Ht, hb⟩ := hrel
      by_cases hlt : k < l.length
      · have hltm : k < m.length := by rw [← Hlen.out]; exact hlt
        obtain ⟨ad, rfl, hc⟩ := (hu.below hb).at_ (k := k) (u := .int .u64 (l[k] : Nat)) (by simp [nums, hlt])
        obtain ⟨bd, rfl, hd⟩ := (hv.below hb).at_ (k := k) (u := .int .u64 (m[k] : Nat)) (by simp [nums, hltm])
        have hlt2 : (k : Int) < (l.length : Int) := by omega
        have hlt3 : (k : Int) < (m.length : Int) := by omega
        by_cases he : l[k] = m[k]
        · have Ht2 := Lib.hid (show l.take (k + 1) = m.take (k + 1) by rw [List.take_succ_eq_append_getElem hlt, List.take_succ_eq_append_getElem hltm, Ht.out, he])
          rw [← he] at hd
          clear he
          go_wp2
          go_quiet (fail)
          go_wp2
          go_roundw
          case rel => exact ⟨k + 1, by omega, by go_num, Ht2, below_drewN hb _⟩
          case measure => simp [intOf]; omega
        · have hne : ¬ l = m := fun h => he (by subst h; rfl)
          have hne2 : ((l[k] : Int) != (m[k] : Int)) = true := by rw [bne_iff_ne]; omega
          have hdn : decide (l = m) = false := decide_eq_false hne
          generalize l[k] = x at *
          generalize m[k] = y at *
          clear he hne
          go_wp2
          go_quiet (fail)
          go_wp2
          go_ret
          exact ⟨by rw [hdn]; rfl, below_drewN hb _⟩
      · obtain rfl : k = l.length := by omega
        have hdn : decide (l = m) = true := by
          rw [decide_eq_true_iff]
          have h := Ht.out
          rw [List.take_length, Hlen.out, List.take_length] at h
          exact h
        go_wp2
        go_ret
        exact ⟨by rw [hdn]; rfl, hb⟩
  · have g1 : ((l.length : Int) != (m.length : Int)) = true := by rw [bne_iff_ne]; omega
    have hdn : decide (l = m) = false := by
      rw [decide_eq_false_iff_not]
      exact fun h => hlen (by rw [h])
    rw [hdn]
    clear hlen hdn
    go_enter Try.func31, Try.ntmps31
    go_wp2
    go_ret
    exact ⟨rfl, Below.refl _ _⟩

end Go.Proofs.Ytllbcnficlbobaa
