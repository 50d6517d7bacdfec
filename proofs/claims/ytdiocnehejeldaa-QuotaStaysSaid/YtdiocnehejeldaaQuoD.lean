/-
  Package quota: Check.
-/
import Derived.Test.YtdiocnehejeldaaQuoN
namespace Go.Proofs.Ytdiocnehejeldaa
open Go.RowKit
namespace Quo

set_option maxRecDepth 100000 in
set_option maxHeartbeats 4000000 in
theorem check_any (t : List Row) (hl : t.length ≤ 9223372036854775807) (v : Value) (w : World) (hv : Tb w v t) :
    Calls Try.prog 19 #[v] w fun e w' => e = .returned (.bool (okB t)) ∧ Below w.heap.size w w' := by
  obtain ⟨a, cap, rfl⟩ := hv.form
  by_cases h16 : t.length ≤ 16
  · have H16 := Lib.hid h16
    have g0 : ¬ (t.length : Int) > 16 := by omega
    clear h16
    go_enter Try.func19, Try.ntmps19
    go_wp2
    go_loopw [10] (fun vi wr => ∃ k : Nat, k ≤ t.length ∧ vi = .int .i64 (k : Int) ∧ Hid (good t k) ∧ Below w.heap.size w wr) (fun vi _ => t.length - (intOf vi).toNat)
    case atStart => exact ⟨0, Nat.zero_le _, rfl, Lib.hid (good_zero t), Below.refl _ _⟩
    case round =>
      obtain ⟨k, hk, rfl, HG, hB⟩ := hrel
      by_cases hlt : k < t.length
      · have hlt2 : (k : Int) < (t.length : Int) := by omega
        obtain ⟨x, hx⟩ : ∃ x, t[k]? = some x := ⟨_, List.getElem?_eq_getElem hlt⟩
        obtain ⟨ad, rfl, t0, t1, t2⟩ := (hv.below hB).at_ hx
        have bn := below_lit wr (.cells #[.int .u64 (x.ten : Int), .int .u64 (x.used : Int), .int .u64 (x.lim : Int)] 39)
        have bx := Box.new wr #[.int .u64 (x.ten : Int), .int .u64 (x.used : Int), .int .u64 (x.lim : Int)] 39
        have hB2 := hB.trans (bn.mono hB.size)
        have HF := pFind_any t hl x.ten _ _ (hv.below hB2)
        have Hx := Lib.hid hx
        clear hB bn
        have y0 := bx.cell (j := 0) rfl
        rcases at_self hx with ha | ⟨j, y, hj, ha⟩
        · rw [idx_at ha] at HF
          have HG2 := Lib.hid (good_succ HG.out hx ha.hno)
          have g3 : ((k : Int) != (k : Int)) = false := by simp
          clear hx ha hv
          generalize x.ten = z at *
          generalize x.used = z1 at *
          generalize x.lim = z2 at *
          go_wp2_with fail
          refine HF.mono ?_
          rintro e w3 ⟨rfl, b⟩
          have fin := hB2.trans (b.mono hB2.size)
          clear HF b hB2 t0 t1 t2 y0 bx
          go_wp2
          go_roundw
          case rel => exact ⟨k + 1, hlt, by go_num, HG2, fin⟩
          case measure =>
            have l5 : (intOf (.int .i64 ((k : Int) + 1))).toNat = k + 1 := rfl
            have l6 : (intOf (.int .i64 (k : Int))).toNat = k := rfl
            rw [l5, l6]
            exact Nat.sub_lt_sub_left hlt (Nat.lt_succ_self k)
        · rw [idx_at ha] at HF
          have EO := Lib.hid (okB_two hx ha.hk hj ha.hr)
          have g3 : ((j : Int) != (k : Int)) = true := by rw [bne_iff_ne]; omega
          clear hx ha hv hj
          generalize x.ten = z at *
          generalize x.used = z1 at *
          generalize x.lim = z2 at *
          go_wp2_with fail
          refine HF.mono ?_
          rintro e w3 ⟨rfl, b⟩
          have fin := hB2.trans (b.mono hB2.size)
          clear HF b hB2 t0 t1 t2 y0 bx
          go_wp2
          go_ret
          exact ⟨by rw [EO.out]; rfl, fin⟩
      · obtain rfl : k = t.length := by omega
        have EO := Lib.hid (okB_good H16.out HG.out)
        have hd1 : ¬ (t.length : Int) < (t.length : Int) := by omega
        clear hlt
        go_wp2
        go_ret
        exact ⟨by rw [EO.out]; rfl, hB⟩
  · have EO := Lib.hid (okB_long h16)
    have g0 : (t.length : Int) > 16 := by omega
    clear h16
    go_enter Try.func19, Try.ntmps19
    go_wp2
    go_ret
    exact ⟨by rw [EO.out]; rfl, Below.refl _ _⟩
end Quo
end Go.Proofs.Ytdiocnehejeldaa
