/-
  Check, and the document's Check.
-/
import Derived.Test.YtjjpmmokgcfkdaaSesR
namespace Go.Proofs.Ytjjpmmokgcfkdaa
open Go.RowKit
namespace Ses

/-- The first k rows are small, and unlike those ahead of each. -/
def good (t : List Row) (k : Nat) : Prop := ∀ j, j < k → ∀ x : Row, t[j]? = some x → x.ans.size ≤ 256 ∧ ∀ i, i < j → ∀ y : Row, t[i]? = some y → y.id ≠ x.id
theorem good_zero (t : List Row) : good t 0 := fun j hj => absurd hj (Nat.not_lt_zero j)
theorem good_succ {t : List Row} {k : Nat} {x : Row} (h : good t k) (hx : t[k]? = some x) (h1 : x.ans.size ≤ 256) (h2 : ∀ i, i < k → ∀ y : Row, t[i]? = some y → y.id ≠ x.id) : good t (k + 1) := fun j hj y hy => by
  rcases Nat.lt_or_ge j k with h' | h'
  · exact h j h' y hy
  · obtain rfl : j = k := by omega
    rw [hx] at hy
    injection hy with hy
    subst hy
    exact ⟨h1, h2⟩
theorem okB_good {t : List Row} (h16 : t.length ≤ 16) (h : good t t.length) : okB t = true := by
  rw [okB_iff]
  refine ⟨h16, fun r hr => ?_, fun i j x y hji hx hy => (h i (List.getElem?_eq_some_iff.1 hx).1 x hx).2 j hji y hy⟩
  obtain ⟨j, hj⟩ := List.mem_iff_getElem?.1 hr
  exact (h j (List.getElem?_eq_some_iff.1 hj).1 r hj).1
theorem okB_long {t : List Row} (h : ¬ t.length ≤ 16) : okB t = false := by
  rw [okB_not]
  exact fun h' => h h'.1
theorem okB_big {t : List Row} {k : Nat} {x : Row} (hx : t[k]? = some x) (h : ¬ x.ans.size ≤ 256) : okB t = false := by
  rw [okB_not]
  exact fun h' => h (h'.2.1 x (List.mem_of_getElem? hx))
theorem okB_two {t : List Row} {k j : Nat} {x y : Row} (hx : t[k]? = some x) (hy : t[j]? = some y) (hj : j < k) (h : y.id = x.id) : okB t = false := by
  rw [okB_not]
  exact fun h' => h'.2.2 k j x y hj hx hy h

set_option maxRecDepth 100000 in
set_option maxHeartbeats 4000000 in
theorem check_any (t : List Row) (hl : t.length ≤ 9223372036854775807) (v : Value) (w : World) (hv : Tb w v t) :
    Calls Try.prog 16 #[v] w fun e w' => e = .returned (.bool (okB t)) ∧ Below w.heap.size w w' := by
  obtain ⟨a, cap, rfl⟩ := hv.form
  by_cases h16 : t.length ≤ 16
  · have H16 := Lib.hid h16
    have g0 : ¬ (t.length : Int) > 16 := by omega
    clear h16
    go_enter Try.func16, Try.ntmps16
    go_wp2
    go_loopw [10] (fun vi wr => ∃ k : Nat, k ≤ t.length ∧ vi = .int .i64 (k : Int) ∧ Hid (good t k) ∧ Below w.heap.size w wr) (fun vi _ => t.length - (intOf vi).toNat)
    case atStart => exact ⟨0, Nat.zero_le _, rfl, Lib.hid (good_zero t), Below.refl _ _⟩
    case round =>
      obtain ⟨k, hk, rfl, HG, hB⟩ := hrel
      by_cases hlt : k < t.length
      · have hlt2 : (k : Int) < (t.length : Int) := by omega
        obtain ⟨x, hx⟩ : ∃ x, t[k]? = some x := ⟨_, List.getElem?_eq_getElem hlt⟩
        obtain ⟨ad, rfl, t0, t1, t2⟩ := (hv.below hB).at_ hx
        have Hx := Lib.hid hx
        have HV := Lib.hid hv
        clear hx hv
        have bn := below_lit wr (.cells #[.int .u64 (x.id : Int), .int .u64 (x.num : Int), .string x.ans] 25)
        have bx := Box.new wr #[.int .u64 (x.id : Int), .int .u64 (x.num : Int), .string x.ans] 25
        have hB2 := hB.trans (bn.mono hB.size)
        clear hB bn
        have y0 := bx.cell (j := 0) rfl
        have y2 := bx.cell (j := 2) rfl
        by_cases hs : x.ans.size ≤ 256
        · have hs2 : ¬ (x.ans.size : Int) > 256 := by omega
          rcases idx_cases t x.id with ⟨_, hno⟩ | ⟨j, y, e1, hj, hy, hno⟩
          · exact absurd rfl (hno k x Hx.out)
          · have hjk : j ≤ k := by
              rcases Nat.lt_or_ge k j with h | h
              · exact absurd rfl (hno k h x Hx.out)
              · exact h
            by_cases he : j = k
            · subst he
              have HG2 := Lib.hid (good_succ HG.out Hx.out hs hno)
              have g3 : ((j : Int) != (j : Int)) = false := by simp
              clear hno hj hy hjk hs
              go_wp2_with fail
              refine (of_any x.id _).mono ?_
              rintro e w3 ⟨b, rfl, hb, hbl, b3⟩
              have hB3 := hB2.trans (b3.mono hB2.size)
              have HI := index_any t (by omega) b x.id _ w3 (HV.out.below hB3) hb
              rw [e1] at HI
              clear hb hbl b3 hB2 y0 y2 bx t0 t1 t2 e1
              go_wp2_with fail
              refine HI.mono ?_
              rintro e w4 ⟨rfl, b4⟩
              have fin := hB3.trans (b4.mono hB3.size)
              clear HI b4 hB3
              go_wp2
              go_roundw
              case rel => exact ⟨j + 1, hlt, by go_num, HG2, fin⟩
              case measure =>
                have l5 : (intOf (.int .i64 ((j : Int) + 1))).toNat = j + 1 := rfl
                have l6 : (intOf (.int .i64 (j : Int))).toNat = j := rfl
                rw [l5, l6]
                exact Nat.sub_lt_sub_left hlt (Nat.lt_succ_self j)
            · have EO := Lib.hid (okB_two Hx.out hj (by omega) hy)
              have g3 : ((j : Int) != (k : Int)) = true := by rw [bne_iff_ne]; omega
              clear hno hj hy hjk hs he
              go_wp2_with fail
              refine (of_any x.id _).mono ?_
              rintro e w3 ⟨b, rfl, hb, hbl, b3⟩
              have hB3 := hB2.trans (b3.mono hB2.size)
              have HI := index_any t (by omega) b x.id _ w3 (HV.out.below hB3) hb
              rw [e1] at HI
              clear hb hbl b3 hB2 y0 y2 bx t0 t1 t2 e1
              go_wp2_with fail
              refine HI.mono ?_
              rintro e w4 ⟨rfl, b4⟩
              have fin := hB3.trans (b4.mono hB3.size)
              clear HI b4 hB3
              go_wp2
              go_ret
              exact ⟨by rw [EO.out]; rfl, fin⟩
        · have hs2 : (x.ans.size : Int) > 256 := by omega
          have EO := Lib.hid (okB_big Hx.out hs)
          clear hs
          go_wp2
          go_ret
          exact ⟨by rw [EO.out]; rfl, hB2⟩
      · obtain rfl : k = t.length := by omega
        have EO := Lib.hid (okB_good H16.out HG.out)
        have hd1 : ¬ (t.length : Int) < (t.length : Int) := by omega
        clear hlt
        go_wp2
        go_ret
        exact ⟨by rw [EO.out]; rfl, hB⟩
  · have EO := Lib.hid (okB_long h16)
    have g0 : (t.length : Int) > 16 := by omega
    clear h16
    go_enter Try.func16, Try.ntmps16
    go_wp2
    go_ret
    exact ⟨by rw [EO.out]; rfl, Below.refl _ _⟩

set_option maxRecDepth 100000 in
set_option maxHeartbeats 4000000 in
theorem rCheck_any (t : List Row) (hl : t.length ≤ 9223372036854775807) (v : Value) (w : World) (hv : Tb w v t) :
    Calls Try.prog 17 #[v] w fun e w' => e = .returned (.bool (okB t)) ∧ Below w.heap.size w w' := by
  obtain ⟨a, cap, rfl⟩ := hv.form
  by_cases h16 : t.length ≤ 16
  · have H16 := Lib.hid h16
    have g0 : ¬ (t.length : Int) > 16 := by omega
    clear h16
    go_enter Try.func17, Try.ntmps17
    go_wp2
    go_loopw [3] (fun vi wr => ∃ k : Nat, k ≤ t.length ∧ vi = .int .i64 (k : Int) ∧ Hid (good t k) ∧ Below w.heap.size w wr) (fun vi _ => t.length - (intOf vi).toNat)
    case atStart => exact ⟨0, Nat.zero_le _, rfl, Lib.hid (good_zero t), Below.refl _ _⟩
    case round =>
      obtain ⟨k, hk, rfl, HG, hB⟩ := hrel
      by_cases hlt : k < t.length
      · have hlt2 : (k : Int) < (t.length : Int) := by omega
        obtain ⟨x, hx⟩ : ∃ x, t[k]? = some x := ⟨_, List.getElem?_eq_getElem hlt⟩
        obtain ⟨ad, rfl, t0, t1, t2⟩ := (hv.below hB).at_ hx
        have Hx := Lib.hid hx
        have HV := Lib.hid hv
        clear hx hv
        by_cases hs : x.ans.size ≤ 256
        · have hs2 : ¬ (x.ans.size : Int) > 256 := by omega
          go_wp2
          go_loopw [4] (fun vj wn => ∃ j : Nat, j ≤ k ∧ vj = .int .i64 (j : Int) ∧ Hid (∀ i, i < j → ∀ y : Row, t[i]? = some y → y.id ≠ x.id) ∧ Below w.heap.size w wn) (fun vj _ => k - (intOf vj).toNat)
          case atStart => exact ⟨0, Nat.zero_le _, rfl, Lib.hid (fun i hi => absurd hi (Nat.not_lt_zero i)), hB⟩
          case round =>
            obtain ⟨j, hj, rfl, HJ, hB2⟩ := hrel
            by_cases hjk : j < k
            · have hjk2 : (j : Int) < (k : Int) := by omega
              have hjt : (j : Int) < (t.length : Int) := by omega
              obtain ⟨y, hy⟩ : ∃ y, t[j]? = some y := ⟨_, List.getElem?_eq_getElem (by omega)⟩
              obtain ⟨ad', ea, s0, s1, s2⟩ := (HV.out.below hB2).at_ hy
              injection ea with ea
              subst ea
              obtain ⟨ad', ea, t0', t1', t2'⟩ := (HV.out.below hB2).at_ Hx.out
              injection ea with ea
              subst ea
              have Hy := Lib.hid hy
              clear hy t0 t1 t2
              by_cases he : y.id = x.id
              · have EO := Lib.hid (okB_two Hx.out Hy.out hjk he)
                have he2 : ((y.id : Int) == (x.id : Int)) = true := by rw [he]; simp
                clear he
                generalize y.id = yi at *
                generalize x.id = xi at *
                go_wp2
                go_quiet (fail)
                go_wp2
                go_ret
                exact ⟨by rw [EO.out]; rfl, below_drewN hB2 _⟩
              · have HJ2 : Hid (∀ i, i < j + 1 → ∀ y : Row, t[i]? = some y → y.id ≠ x.id) := Lib.hid fun i hi z hz => by
                  rcases Nat.lt_or_ge i j with h | h
                  · exact HJ.out i h z hz
                  · obtain rfl : i = j := by omega
                    rw [Hy.out] at hz
                    injection hz with hz
                    rw [← hz]
                    exact he
                have he2 : ((y.id : Int) == (x.id : Int)) = false := by rw [beq_eq_false_iff_ne]; omega
                clear he
                go_wp2
                go_quiet (fail)
                go_wp2
                go_roundw
                case rel => exact ⟨j + 1, hjk, by go_num, HJ2, below_drewN hB2 _⟩
                case measure =>
                  have l5 : (intOf (.int .i64 ((j : Int) + 1))).toNat = j + 1 := rfl
                  have l6 : (intOf (.int .i64 (j : Int))).toNat = j := rfl
                  rw [l5, l6]
                  exact Nat.sub_lt_sub_left hjk (Nat.lt_succ_self j)
            · obtain rfl : j = k := by omega
              have HG2 := Lib.hid (good_succ HG.out Hx.out hs HJ.out)
              have hd1 : ¬ (j : Int) < (j : Int) := by omega
              clear hjk t0 t1 t2
              go_wp2
              go_roundw
              case rel => exact ⟨j + 1, hlt, by go_num, HG2, hB2⟩
              case measure =>
                have l5 : (intOf (.int .i64 ((j : Int) + 1))).toNat = j + 1 := rfl
                have l6 : (intOf (.int .i64 (j : Int))).toNat = j := rfl
                rw [l5, l6]
                exact Nat.sub_lt_sub_left hlt (Nat.lt_succ_self j)
        · have hs2 : (x.ans.size : Int) > 256 := by omega
          have EO := Lib.hid (okB_big Hx.out hs)
          clear hs
          go_wp2
          go_ret
          exact ⟨by rw [EO.out]; rfl, hB⟩
      · obtain rfl : k = t.length := by omega
        have EO := Lib.hid (okB_good H16.out HG.out)
        have hd1 : ¬ (t.length : Int) < (t.length : Int) := by omega
        clear hlt
        go_wp2
        go_ret
        exact ⟨by rw [EO.out]; rfl, hB⟩
  · have EO := Lib.hid (okB_long h16)
    have g0 : (t.length : Int) > 16 := by omega
    clear h16
    go_enter Try.func17, Try.ntmps17
    go_wp2
    go_ret
    exact ⟨by rw [EO.out]; rfl, Below.refl _ _⟩
end Ses
end Go.Proofs.Ytjjpmmokgcfkdaa
