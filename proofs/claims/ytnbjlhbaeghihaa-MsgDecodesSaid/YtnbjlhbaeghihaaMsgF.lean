/-
  The document's own Is: whether two messages are the same; and the fixed calls of package msg's laws.
-/
import Derived.Test.YtnbjlhbaeghihaaMsgE
namespace Go.Proofs.Ytnbjlhbaeghihaa
open Go.RowKit
open Go.Lib (uvarint uvarint_small uvarint_big uvarint_length64 uvarint_pos byteCells)
open Leb (dec decT decL takeNs takeTs encT encN encL encNs encTs)
open Msg (numOf lowOf highOf form chk enc dm)

set_option maxHeartbeats 1000000 in
set_option maxRecDepth 100000 in
theorem nums_is (l m : List Nat) (hl : l.length ≤ 9223372036854775807) (u v : Value) (w : World) (hu : Kit.Rd w u (nums l)) (hv : Kit.Rd w v (nums m)) :
    Calls Try.prog 30 #[u, v] w fun e w' => e = .returned (.bool (decide (l = m))) ∧ Below w.heap.size w w' := by
  obtain ⟨a, cap, rfl⟩ := hu.form
  obtain ⟨b, cap2, rfl⟩ := hv.form
  rw [show (nums l).length = l.length by simp [nums]] at hu ⊢
  rw [show (nums m).length = m.length by simp [nums]] at hv ⊢
  by_cases hlen : l.length = m.length
  · have g1 : ((l.length : Int) != (m.length : Int)) = false := by rw [bne_eq_false_iff_eq]; omega
    have Hlen := Lib.hid hlen
    clear hlen
    go_enter Try.func30, Try.ntmps30
    go_wp2
    go_loopw [5] (fun vi wr => ∃ k : Nat, k ≤ l.length ∧ vi = .int .i64 k ∧ Hid (l.take k = m.take k) ∧ Below w.heap.size w wr) (fun vi _ => l.length - (intOf vi).toNat)
    case atStart => exact ⟨0, Nat.zero_le _, rfl, Lib.hid rfl, Below.refl _ _⟩
    case round =>
      obtain ⟨k, hk, rfl, Ht, hb⟩ := hrel
      by_cases hlt : k < l.length
      · have hltm : k < m.length := by rw [← Hlen.out]; exact hlt
        obtain ⟨ad, rfl, hc⟩ := (hu.below hb).at_ (k := k) (u := .int .u64 (l[k] : Nat)) (by simp [nums, hlt])
        obtain ⟨bd, rfl, hd⟩ := (hv.below hb).at_ (k := k) (u := .int .u64 (m[k] : Nat)) (by simp [nums, hltm])
        have hlt2 : (k : Int) < (l.length : Int) := by omega
        have hlt3 : (k : Int) < (m.length : Int) := by omega
        by_cases he : l[k] = m[k]
        · have Ht2 := Lib.hid (show l.take (k + 1) = m.take (k + 1) by rw [List.take_succ_eq_append_getElem hlt, List.take_succ_eq_append_getElem hltm, Ht.out, he])
          rw [← he] at hd
          clear he
          go_wp2
          go_quiet (fail)
          go_wp2
          go_roundw
          case rel => exact ⟨k + 1, by omega, by go_num, Ht2, below_drewN hb _⟩
          case measure => simp [intOf]; omega
        · have hne : ¬ l = m := fun h => he (by subst h; rfl)
          have hne2 : ((l[k] : Int) != (m[k] : Int)) = true := by rw [bne_iff_ne]; omega
          have hdn : decide (l = m) = false := decide_eq_false hne
          generalize l[k] = x at *
          generalize m[k] = y at *
          clear he hne
          go_wp2
          go_quiet (fail)
          go_wp2
          go_ret
          exact ⟨by rw [hdn]; rfl, below_drewN hb _⟩
      · obtain rfl : k = l.length := by omega
        have hdn : decide (l = m) = true := by
          rw [decide_eq_true_iff]
          have h := Ht.out
          rw [List.take_length, Hlen.out, List.take_length] at h
          exact h
        go_wp2
        go_ret
        exact ⟨by rw [hdn]; rfl, hb⟩
  · have g1 : ((l.length : Int) != (m.length : Int)) = true := by rw [bne_iff_ne]; omega
    have hdn : decide (l = m) = false := by
      rw [decide_eq_false_iff_not]
      exact fun h => hlen (by rw [h])
    rw [hdn]
    clear hlen hdn
    go_enter Try.func30, Try.ntmps30
    go_wp2
    go_ret
    exact ⟨rfl, Below.refl _ _⟩

set_option maxHeartbeats 1000000 in
set_option maxRecDepth 100000 in
theorem texts_is (l m : List (List UInt8)) (hl : l.length ≤ 9223372036854775807) (u v : Value) (w : World) (hu : Kit.Rd w u (strsL l)) (hv : Kit.Rd w v (strsL m)) :
    Calls Try.prog 31 #[u, v] w fun e w' => e = .returned (.bool (decide (l = m))) ∧ Below w.heap.size w w' := by
  obtain ⟨a, cap, rfl⟩ := hu.form
  obtain ⟨b, cap2, rfl⟩ := hv.form
  rw [show (strsL l).length = l.length by simp [strsL]] at hu ⊢
  rw [show (strsL m).length = m.length by simp [strsL]] at hv ⊢
  by_cases hlen : l.length = m.length
  · have g1 : ((l.length : Int) != (m.length : Int)) = false := by rw [bne_eq_false_iff_eq]; omega
    have Hlen := Lib.hid hlen
    clear hlen
    go_enter Try.func31, Try.ntmps31
    go_wp2
    go_loopw [5] (fun vi wr => ∃ k : Nat, k ≤ l.length ∧ vi = .int .i64 k ∧ Hid (l.take k = m.take k) ∧ Below w.heap.size w wr) (fun vi _ => l.length - (intOf vi).toNat)
    case atStart => exact ⟨0, Nat.zero_le _, rfl, Lib.hid rfl, Below.refl _ _⟩
    case round =>
      obtain ⟨k, hk, rfl, Ht, hb⟩ := hrel
      by_cases hlt : k < l.length
      · have hltm : k < m.length := by rw [← Hlen.out]; exact hlt
        obtain ⟨ad, rfl, hc⟩ := (hu.below hb).at_ (k := k) (u := .string ⟨l[k].toArray⟩) (by simp [strsL, hlt])
        obtain ⟨bd, rfl, hd⟩ := (hv.below hb).at_ (k := k) (u := .string ⟨m[k].toArray⟩) (by simp [strsL, hltm])
        have hlt2 : (k : Int) < (l.length : Int) := by omega
        have hlt3 : (k : Int) < (m.length : Int) := by omega
        by_cases he : l[k] = m[k]
        · have Ht2 := Lib.hid (show l.take (k + 1) = m.take (k + 1) by rw [List.take_succ_eq_append_getElem hlt, List.take_succ_eq_append_getElem hltm, Ht.out, he])
          rw [← he] at hd
          clear he
          go_wp2
          go_quiet (fail)
          go_wp2
          go_roundw
          case rel => exact ⟨k + 1, by omega, by go_num, Ht2, below_drewN hb _⟩
          case measure => simp [intOf]; omega
        · have hne : ¬ l = m := fun h => he (by subst h; rfl)
          have hne2 : (l[k] == m[k]) = false := by rw [beq_eq_false_iff_ne]; exact he
          have hdn : decide (l = m) = false := decide_eq_false hne
          generalize l[k] = x at *
          generalize m[k] = y at *
          clear he hne
          go_wp2
          go_quiet (fail)
          go_wp2
          go_ret
          exact ⟨by rw [hdn]; rfl, below_drewN hb _⟩
      · obtain rfl : k = l.length := by omega
        have hdn : decide (l = m) = true := by
          rw [decide_eq_true_iff]
          have h := Ht.out
          rw [List.take_length, Hlen.out, List.take_length] at h
          exact h
        go_wp2
        go_ret
        exact ⟨by rw [hdn]; rfl, hb⟩
  · have g1 : ((l.length : Int) != (m.length : Int)) = true := by rw [bne_iff_ne]; omega
    have hdn : decide (l = m) = false := by
      rw [decide_eq_false_iff_not]
      exact fun h => hlen (by rw [h])
    rw [hdn]
    clear hlen hdn
    go_enter Try.func31, Try.ntmps31
    go_wp2
    go_ret
    exact ⟨rfl, Below.refl _ _⟩

def isMsg (k k' : Int) (ns ns' : List Nat) (ts ts' : List (List UInt8)) : Bool := decide (k = k' ∧ ns = ns' ∧ ts = ts')

set_option maxHeartbeats 2000000 in
set_option maxRecDepth 100000 in
theorem rIs_any (k k' : Int) (ns ns' : List Nat) (ts ts' : List (List UInt8)) (hn : ns.length ≤ 9223372036854775807) (ht : ts.length ≤ 9223372036854775807) (vn vn' vt vt' : Value) (w : World)
    (h1 : Kit.Rd w vn (nums ns)) (h2 : Kit.Rd w vn' (nums ns')) (h3 : Kit.Rd w vt (strsL ts)) (h4 : Kit.Rd w vt' (strsL ts')) :
    Calls Try.prog 15 #[.agg #[.int .i64 k, vn, vt], .agg #[.int .i64 k', vn', vt']] w fun e w' => e = .returned (.bool (isMsg k k' ns ns' ts ts')) ∧ Below w.heap.size w w' := by
  have HN := fun wx (hb : Below w.heap.size w wx) => nums_is ns ns' hn vn vn' wx (h1.below hb) (h2.below hb)
  have HT := fun wx (hb : Below w.heap.size w wx) => texts_is ts ts' ht vt vt' wx (h3.below hb) (h4.below hb)
  clear h1 h2 h3 h4
  have T1 := (Three.new w (.int .i64 k) vn vt 25).alloc (.cells #[.int .i64 k', vn', vt'] 25)
  have T2 := Three.new (w.alloc (.cells #[.int .i64 k, vn, vt] 25)) (.int .i64 k') vn' vt' 25
  rw [World.size_alloc] at T2
  have c0 : Below w.heap.size w ((w.alloc (.cells #[.int .i64 k, vn, vt] 25)).alloc (.cells #[.int .i64 k', vn', vt'] 25)) := ((Below.refl _ w).alloc (Nat.le_refl _) _).alloc (by simp) _
  unfold isMsg
  by_cases hk : k = k'
  · have g1 : (k == k') = true := by rw [beq_iff_eq]; exact hk
    by_cases hns : ns = ns'
    · rw [decide_eq_true hns] at HN
      have hres : decide (k = k' ∧ ns = ns' ∧ ts = ts') = decide (ts = ts') := by simp [hk, hns]
      rw [hres]
      clear hres hns hk
      go_enter Try.func15, Try.ntmps15
      go_wp2_with fail
      refine (HN _ c0).mono ?_
      rintro e w1 ⟨rfl, hb1⟩
      have c1 := c0.trans (hb1.mono c0.size)
      have T1' := T1.below hb1
      have T2' := T2.below hb1
      clear T1 T2 c0 hb1 HN
      obtain ⟨-, ⟨p0, p1, p2⟩, -⟩ := T1'.parts
      obtain ⟨-, ⟨q0, q1, q2⟩, -⟩ := T2'.parts
      clear T1' T2'
      go_wp2_with fail
      refine (HT _ c1).mono ?_
      rintro e w2 ⟨rfl, hb2⟩
      have c2 := c1.trans (hb2.mono c1.size)
      clear c1 hb2 HT
      go_wp2
      go_ret
      exact ⟨rfl, c2⟩
    · rw [decide_eq_false hns] at HN
      have hres : decide (k = k' ∧ ns = ns' ∧ ts = ts') = false := by simp [hns]
      rw [hres]
      clear hres hns hk HT
      go_enter Try.func15, Try.ntmps15
      go_wp2_with fail
      refine (HN _ c0).mono ?_
      rintro e w1 ⟨rfl, hb1⟩
      have c1 := c0.trans (hb1.mono c0.size)
      clear T1 T2 c0 hb1 HN
      go_wp2
      go_ret
      exact ⟨rfl, c1⟩
  · have g1 : (k == k') = false := by rw [beq_eq_false_iff_ne]; exact hk
    have hres : decide (k = k' ∧ ns = ns' ∧ ts = ts') = false := by simp [hk]
    rw [hres]
    clear hres hk HN HT
    go_enter Try.func15, Try.ntmps15
    go_wp2
    go_ret
    exact ⟨rfl, c0⟩
end Go.Proofs.Ytnbjlhbaeghihaa
