/-
  QuotaStays: the law's walk.
-/
import Derived.Test.YtdiocnehejeldaaQuBa
namespace Go.Proofs.Ytdiocnehejeldaa
open Go.RowKit
namespace Quo

/-- What a table that may be comes to be: one again, no shorter, with the same tenants first. -/
def Stays (t a : List Row) : Prop := okB a = true ∧ t.length ≤ a.length ∧ a.length ≤ 16 ∧ ∀ (i : Nat) (x y : Row), a[i]? = some x → t[i]? = some y → x.ten = y.ten
theorem stays_put {t : List Row} {d k : Nat} {r r' : Row} (ho : okB t = true) (h : At t d k r) (hr : r'.ten = r.ten) : Stays t (t.set k r') := by
  have ho' := okB_iff.1 ho
  refine ⟨okB_iff.2 (ok_put ho' h.hk hr), by rw [List.length_set]; exact Nat.le_refl _, by rw [List.length_set]; exact ho'.1, fun i x y hx hy => ?_⟩
  by_cases hi : k = i
  · subst hi
    rw [List.getElem?_set_self h.lt] at hx
    injection hx with hx
    have := h.hk.symm.trans hy
    injection this with this
    rw [← hx, hr, this]
  · rw [List.getElem?_set_ne hi, hy] at hx
    injection hx with hx
    rw [hx]
theorem stays_snoc {t : List Row} {d n : Nat} (ho : okB t = true) (h : Off t d) (hl : t.length < 16) : Stays t (t ++ [⟨d, n, 0⟩]) := by
  refine ⟨okB_iff.2 (ok_snoc (okB_iff.1 ho) h hl), by simp, by rw [List.length_append, List.length_singleton]; omega, fun i x y hx hy => ?_⟩
  rw [List.getElem?_append_left (List.getElem?_eq_some_iff.1 hy).1, hy] at hx
  injection hx with hx
  rw [hx]
/-- Values that read as these tables. -/
def TT (w : World) (vs : List Value) (ls : List (List Row)) : Prop := vs.length = ls.length ∧ ∀ (i : Nat) (v : Value) (a : List Row), vs[i]? = some v → ls[i]? = some a → Tb w v a
theorem TT.nil_ (w : World) : TT w [] [] := ⟨rfl, fun i v a h => by simp at h⟩
theorem TT.below {w w' : World} {vs : List Value} {ls : List (List Row)} (h : TT w vs ls) (hb : Below w.heap.size w w') : TT w' vs ls := ⟨h.1, fun i v a hv ha => (h.2 i v a hv ha).below hb⟩
theorem TT.snoc {w : World} {vs : List Value} {ls : List (List Row)} {v : Value} {a : List Row} (h : TT w vs ls) (hv : Tb w v a) : TT w (vs ++ [v]) (ls ++ [a]) := by
  refine ⟨by simp [h.1], fun i v' a' h1 h2 => ?_⟩
  rcases Nat.lt_or_ge i vs.length with hi | hi
  · rw [List.getElem?_append_left hi] at h1
    rw [List.getElem?_append_left (by rw [← h.1]; exact hi)] at h2
    exact h.2 i v' a' h1 h2
  · have hi2 : i < (vs ++ [v]).length := (List.getElem?_eq_some_iff.1 h1).1
    rw [List.length_append, List.length_singleton] at hi2
    obtain rfl : i = vs.length := by omega
    rw [List.getElem?_append_right (Nat.le_refl _), Nat.sub_self] at h1
    rw [h.1, List.getElem?_append_right (Nat.le_refl _), Nat.sub_self] at h2
    injection h1 with h1
    injection h2 with h2
    rw [← h1, ← h2]
    exact hv
theorem infoTab : (Try.prog.info? 22).map (fun i => (i.zero, i.size, i.bytes)) = some (some (.slice none 0 0), 1, 24) := by kernel_rfl

set_option maxRecDepth 100000 in
set_option maxHeartbeats 16000000 in
theorem stays_any (t : List Row) (hl : (t.length + 2) * 24 ≤ 140737488355328) (hw : wide t) (d n : Nat) (hn : n < 18446744073709551616) (v : Value) (w : World) (hv : Tb w v t) :
    Calls Try.prog 6 #[v, .int .u64 (d : Int), .int .u64 (n : Int)] w fun e w' => e = .returned (.bool true) ∧ Below w.heap.size w w' := by
  obtain ⟨i1, hi1, hy0, hy1, hy2⟩ := info_parts infoTab
  have HF := fixed_any
  have HC := fun w hv => check_any t (by omega) v w hv
  have H1 := fun w hv => set_any t (by omega) d n v w hv
  have H2 := fun w hv => take_any t (by omega) hw d n hn v w hv
  have H3 := fun w hv => give_any t (by omega) hw d n hn v w hv
  have H9 := fun v w (hv : Tb w v t) => find_any t (by omega) d v w hv
  have hB := Below.refl w.heap.size w
  cases hok : okB t with
  | false =>
    rw [hok] at HC
    clear H1 H2 H3 H9 hl hw hn hok hi1 hy0 hy1 hy2
    go_enter Try.func6, Try.ntmps6
    go_wp2_with fail
    refine (HF _).mono ?_
    rintro e w1 ⟨rfl, b⟩
    replace hv := hv.below b
    replace hB := hB.trans (b.mono hB.size)
    clear b
    go_wp2_with fail
    refine (HC _ hv).mono ?_
    rintro e w2 ⟨rfl, b⟩
    replace hv := hv.below b
    replace hB := hB.trans (b.mono hB.size)
    clear b HC
    go_wp2_with fail
    refine (HF _).mono ?_
    rintro e w3 ⟨rfl, b⟩
    replace hv := hv.below b
    replace hB := hB.trans (b.mono hB.size)
    clear b HF
    clear hv
    go_wp2
    go_ret
    exact ⟨rfl, hB⟩
  | true =>
    rw [hok] at HC
    have h16 := (okB_iff.1 hok).1
    have HC2 := Lib.hid (fun (a : List Row) (ha : Stays t a) v w hv => check_any a (by have := ha.2.2.1; omega) v w hv)
    rcases at_cases t d with ho | ⟨k, r, ha⟩
    · rw [idx_off ho] at H9
      rw [take_off ho] at H2
      rw [give_off ho] at H3
      by_cases hlt : t.length < 16
      · rw [set_off ho hlt] at H1
        have S1 := stays_snoc (n := n) hok ho hlt
        generalize t ++ [(⟨d, n, 0⟩ : Row)] = o1 at *
        have f1 : (t.length : Int) < 16 := by omega
        have f2 : decide ((t.length : Int) < 16) = true := decide_eq_true f1
        simp only [Option.getD_some, Option.isSome_some] at H1
        clear hok ho hl hw hn hlt
        go_enter Try.func6, Try.ntmps6
        go_wp2_with fail
        refine (HF _).mono ?_
        rintro e w1 ⟨rfl, b⟩
        replace hv := hv.below b
        replace hB := hB.trans (b.mono hB.size)
        clear b HF
        go_wp2_with fail
        refine (HC _ hv).mono ?_
        rintro e w2 ⟨rfl, b⟩
        replace hv := hv.below b
        replace hB := hB.trans (b.mono hB.size)
        clear b HC
        go_wp2_with fail
        refine (H1 _ hv).mono ?_
        rintro e w3 ⟨⟨v1, rfl, q1⟩, b⟩
        replace q1 := Tb.of_own q1
        replace hv := hv.below b
        replace hB := hB.trans (b.mono hB.size)
        clear b H1
        go_wp2_with fail
        refine (H2 _ hv).mono ?_
        rintro e w4 ⟨⟨v2, rfl, q2⟩, b⟩
        replace q2 := Tb.of_own q2
        replace hv := hv.below b
        replace q1 := q1.below b
        replace hB := hB.trans (b.mono hB.size)
        clear b H2
        clear q2
        go_wp2_with fail
        refine (H3 _ hv).mono ?_
        rintro e w5 ⟨⟨v3, rfl, q3⟩, b⟩
        replace q3 := Tb.of_own q3
        replace hv := hv.below b
        replace q1 := q1.below b
        replace hB := hB.trans (b.mono hB.size)
        clear b H3
        clear q3
        obtain ⟨at_, pt, rfl⟩ := hv.form
        obtain ⟨a1, p1, rfl⟩ := q1.form
        have bb := below_lit w5 (.cells #[] 22)
        have hmx : maxLen = 9223372036854775807 := rfl
        have hrow := World.ownsRow_made (base := w5.heap.size) (e := 22) (size := 1) w5 #[] 0 (Nat.le_refl _) (by unfold maxLen; omega) rfl
        have hz : w5.heap.size ≤ (w5.alloc (.cells #[] 22)).heap.size := by simp
        have hBB : Below w5.heap.size w5 (w5.alloc (.cells #[] 22)) := bb
        clear bb
        have hl1 : 0 + 1 ≤ maxLen := by omega
        have hl2 : (0 + 1) * 24 ≤ 140737488355328 := by decide
        have hsl := Kit.lit1 (w5.alloc (.cells #[] 22)) (.slice a1 o1.length p1) 22
        rw [World.size_alloc] at hsl
        have hrow2 : ((w5.alloc (.cells #[] 22)).alloc (.cells #[.slice a1 o1.length p1] 22)).ownsRow w5.heap.size 22 1 (.slice (some ⟨w5.heap.size, 0, none⟩) 0 0) 0 [] := hrow.alloc _
        have hz2 : w5.heap.size ≤ ((w5.alloc (.cells #[] 22)).alloc (.cells #[.slice a1 o1.length p1] 22)).heap.size := by simp; omega
        have hlo2 := hrow2.lt
        have hone : ∀ u ∈ [Value.slice a1 o1.length p1], u.oneCell' = true := by simp [Value.oneCell']
        have hB2 := hBB.trans ((below_lit (w5.alloc (.cells #[] 22)) (.cells #[.slice a1 o1.length p1] 22)).mono hz)
        go_wp2_with (at_builtin; refine Kit.wpList_append_sl rfl _ _ 41 rfl w5.heap.size 22 i1 (.slice none 0 0) 24 Try.underlying41 hi1 hy0 hy1 hy2 rfl _ _ _ rfl hrow2 _ [.slice a1 o1.length p1] rfl hsl hone hl1 hl2 hz2 ?_)
        clear hrow hl1 hl2 hsl hone
        intro vl1 wl1 hrow hg
        replace hrow : wl1.ownsRow w5.heap.size 22 1 vl1 1 [.slice a1 o1.length p1] := hrow
        replace hBB := hB2.grown hg hz2 (fun k hk => (hlo2 k hk).1)
        clear hz hg hrow2 hz2 hlo2 hB2
        have hz := hBB.size
        replace hv := hv.below hBB
        replace q1 := q1.below hBB
        replace hB := hB.trans (hBB.mono hB.size)
        have hTT : TT _ [.slice a1 o1.length p1] [o1] := (TT.nil_ wl1).snoc q1
        have HGA : Hid (∀ a ∈ ([o1] : List (List Row)), Stays t a) := Lib.hid (by
          intro a ha
          simp only [List.mem_cons, List.not_mem_nil, or_false] at ha
          subst ha
          exact S1)
        clear q1 hz hBB
        obtain ⟨vs, hvs⟩ : ∃ vs : List Value, vs = [.slice a1 o1.length p1] := ⟨_, rfl⟩
        obtain ⟨ls, hls⟩ : ∃ ls : List (List Row), ls = [o1] := ⟨_, rfl⟩
        have hvl : vs.length = 1 := by rw [hvs]; rfl
        rw [← hvs, ← hls] at hTT
        rw [← hls] at HGA
        rw [← hvs] at hrow
        obtain ⟨la, lc, rfl, -, -⟩ := Dsk.row_form hrow
        clear hvs hls S1
        have HQ := Lib.hid (And.intro hTT (And.intro hrow hv))
        have HB0 := Lib.hid hB
        go_wp2
        go_loopw [14] (fun vi wr => ∃ i : Nat, i ≤ 1 ∧ vi = .int .i64 (i : Int) ∧ Below wl1.heap.size wl1 wr) (fun vi _ => 1 - (intOf vi).toNat)
        case atStart => exact ⟨0, Nat.zero_le _, rfl, Below.refl _ _⟩
        case round =>
          obtain ⟨i, hi, rfl, hb⟩ := hrel
          clear hTT hrow hv hB
          have hTT := HQ.out.1.below hb
          have hrow := Kit.Rd.of_own (Dsk.row_kept HQ.out.2.1 fun i hi hlt => hb.block i hlt)
          have hv := HQ.out.2.2.below hb
          by_cases hlt : i < 1
          · have j0 : (i : Int) < 1 := by omega
            obtain ⟨u, hu⟩ : ∃ u, vs[i]? = some u := ⟨_, List.getElem?_eq_getElem (by rw [hvl]; exact hlt)⟩
            obtain ⟨a, ha⟩ : ∃ a, ls[i]? = some a := ⟨_, List.getElem?_eq_getElem (by rw [← hTT.1, hvl]; exact hlt)⟩
            have hT := hTT.2 i u a hu ha
            have hS := HGA.out a (List.mem_of_getElem? ha)
            obtain ⟨ua, uc, rfl⟩ := hT.form
            have HD := HC2.out a hS (.slice ua a.length uc) wr hT
            rw [hS.1] at HD
            obtain ⟨ad, e9, c0⟩ := hrow.at_ hu
            subst e9
            have j1 : decide ((a.length : Int) < (t.length : Int)) = false := by have := hS.2.1; rw [decide_eq_false_iff_not]; omega
            have j1' : decide (a.length < t.length) = false := by have := hS.2.1; rw [decide_eq_false_iff_not]; omega
            have HS4 := Lib.hid (And.intro hS.2.2.2 hS.2.1)
            have HU := Lib.hid hu
            clear hu ha hS
            go_wp2_with fail
            refine HD.mono ?_
            rintro e wc ⟨rfl, b⟩
            have hT2 := hT.below b
            have hv2 := hv.below b
            have hrow2 := hrow.below b
            have hb2 := hb.trans (b.mono hb.size)
            obtain ⟨ad2, e9, c1⟩ := hrow2.at_ HU.out
            obtain rfl := Option.some.inj e9
            have HQ2 := Lib.hid (And.intro hT2 (And.intro hv2 hrow2))
            clear HD b hT hTT hrow hv c0 hb hT2 hv2 hrow2
            go_wp2
            clear j1 j1'
            go_loopw [15] (fun vj wn => ∃ j : Nat, j ≤ t.length ∧ vj = .int .i64 (j : Int) ∧ Below wc.heap.size wc wn) (fun vj _ => t.length - (intOf vj).toNat)
            case atStart => exact ⟨0, Nat.zero_le _, rfl, Below.refl _ _⟩
            case round =>
              obtain ⟨j, hj, rfl, hbn⟩ := hrel
              have hT := HQ2.out.1.below hbn
              have hv := HQ2.out.2.1.below hbn
              have hrow := HQ2.out.2.2.below hbn
              by_cases hjt : j < t.length
              · have m0 : (j : Int) < (t.length : Int) := by omega
                have m1 : (j : Int) < (a.length : Int) := by have := HS4.out.2; omega
                obtain ⟨x, hx⟩ : ∃ x, a[j]? = some x := ⟨_, List.getElem?_eq_getElem (by omega)⟩
                obtain ⟨y, hy⟩ : ∃ y, t[j]? = some y := ⟨_, List.getElem?_eq_getElem hjt⟩
                have hxy := HS4.out.1 j x y hx hy
                obtain ⟨ad3, e9, c2⟩ := hrow.at_ HU.out
                obtain rfl := Option.some.inj e9
                obtain ⟨da, rfl, s0, s1, s2⟩ := hT.at_ hx
                obtain ⟨dt, rfl, y0, y1, y2⟩ := hv.at_ hy
                have m2 : ((x.ten : Int) != (y.ten : Int)) = false := by rw [hxy]; simp
                clear hx hy hxy hT hv hrow s1 s2 y1 y2 c1
                generalize x.ten = xt at *
                generalize y.ten = yt at *
                go_wp2
                go_quiet (fail)
                go_wp2
                go_roundw
                case rel => exact ⟨j + 1, hjt, by go_num, below_drewN hbn _⟩
                case measure =>
                  have l5 : (intOf (.int .i64 ((j : Int) + 1))).toNat = j + 1 := rfl
                  have l6 : (intOf (.int .i64 (j : Int))).toNat = j := rfl
                  rw [l5, l6]
                  exact Nat.sub_lt_sub_left hjt (Nat.lt_succ_self j)
              · obtain rfl : j = t.length := by omega
                have hd1 : ¬ (t.length : Int) < (t.length : Int) := by omega
                have hb3 := hb2.trans (hbn.mono hb2.size)
                clear hjt hT hv hrow c1
                go_wp2
                go_roundw
                case rel => exact ⟨i + 1, hlt, by go_num, hb3⟩
                case measure =>
                  have l5 : (intOf (.int .i64 ((i : Int) + 1))).toNat = i + 1 := rfl
                  have l6 : (intOf (.int .i64 (i : Int))).toNat = i := rfl
                  rw [l5, l6]
                  exact Nat.sub_lt_sub_left hlt (Nat.lt_succ_self i)
          · obtain rfl : i = 1 := by omega
            have hB := HB0.out.trans (hb.mono HB0.out.size)
            clear hlt hb hTT hrow
            go_wp2_with fail
            refine (H9 _ _ hv).mono ?_
            rintro e wd ⟨rfl, b⟩
            replace hv := hv.below b
            replace hB := hB.trans (b.mono hB.size)
            clear b
            go_wp2_with fail
            refine (H9 _ _ hv).mono ?_
            rintro e we ⟨rfl, b⟩
            replace hB := hB.trans (b.mono hB.size)
            clear b hv H9
            go_wp2
            go_ret
            exact ⟨rfl, hB⟩
      · rw [set_full ho (by omega)] at H1
        have f1 : ¬ (t.length : Int) < 16 := by omega
        have f2 : decide ((t.length : Int) < 16) = false := decide_eq_false f1
        simp only [Option.getD_none, Option.isSome_none] at H1
        clear hok ho hl hw hn hlt
        go_enter Try.func6, Try.ntmps6
        go_wp2_with fail
        refine (HF _).mono ?_
        rintro e w1 ⟨rfl, b⟩
        replace hv := hv.below b
        replace hB := hB.trans (b.mono hB.size)
        clear b HF
        go_wp2_with fail
        refine (HC _ hv).mono ?_
        rintro e w2 ⟨rfl, b⟩
        replace hv := hv.below b
        replace hB := hB.trans (b.mono hB.size)
        clear b HC
        go_wp2_with fail
        refine (H1 _ hv).mono ?_
        rintro e w3 ⟨⟨v1, rfl, q1⟩, b⟩
        replace q1 := Tb.of_own q1
        replace hv := hv.below b
        replace hB := hB.trans (b.mono hB.size)
        clear b H1
        clear q1
        go_wp2_with fail
        refine (H2 _ hv).mono ?_
        rintro e w4 ⟨⟨v2, rfl, q2⟩, b⟩
        replace q2 := Tb.of_own q2
        replace hv := hv.below b
        replace hB := hB.trans (b.mono hB.size)
        clear b H2
        clear q2
        go_wp2_with fail
        refine (H3 _ hv).mono ?_
        rintro e w5 ⟨⟨v3, rfl, q3⟩, b⟩
        replace q3 := Tb.of_own q3
        replace hv := hv.below b
        replace hB := hB.trans (b.mono hB.size)
        clear b H3
        clear q3
        obtain ⟨at_, pt, rfl⟩ := hv.form
        have bb := below_lit w5 (.cells #[] 22)
        have hmx : maxLen = 9223372036854775807 := rfl
        have hrow := World.ownsRow_made (base := w5.heap.size) (e := 22) (size := 1) w5 #[] 0 (Nat.le_refl _) (by unfold maxLen; omega) rfl
        have hz : w5.heap.size ≤ (w5.alloc (.cells #[] 22)).heap.size := by simp
        have hBB : Below w5.heap.size w5 (w5.alloc (.cells #[] 22)) := bb
        clear bb
        replace hv := hv.below hBB

        replace hB := hB.trans (hBB.mono hB.size)
        have hTT : TT _ [] [] := TT.nil_ (w5.alloc (.cells #[] 22))
        have HGA : Hid (∀ a ∈ ([] : List (List Row)), Stays t a) := Lib.hid (by
          intro a ha
          simp at ha)
        clear hz hBB
        replace hrow : (w5.alloc (.cells #[] 22)).ownsRow w5.heap.size 22 1 (.slice (some ⟨w5.heap.size, 0, none⟩) 0 0) 0 [] := hrow
        generalize hwq : (w5.alloc (.cells #[] 22)) = wq at *
        have HWQ := Lib.hid hwq
        clear hwq
        obtain ⟨vs, hvs⟩ : ∃ vs : List Value, vs = [] := ⟨_, rfl⟩
        obtain ⟨ls, hls⟩ : ∃ ls : List (List Row), ls = [] := ⟨_, rfl⟩
        have hvl : vs.length = 0 := by rw [hvs]; rfl
        rw [← hvs, ← hls] at hTT
        rw [← hls] at HGA
        replace hrow : wq.ownsRow w5.heap.size 22 1 (.slice (some ⟨w5.heap.size, 0, none⟩) 0 0) 0 vs := by rw [hvs]; exact hrow
        clear hvs hls 
        have HQ := Lib.hid (And.intro hTT (And.intro hrow hv))
        have HB0 := Lib.hid hB
        go_wp2
        rw [HWQ.out]
        go_loopw [14] (fun vi wr => ∃ i : Nat, i ≤ 0 ∧ vi = .int .i64 (i : Int) ∧ Below wq.heap.size wq wr) (fun vi _ => 0 - (intOf vi).toNat)
        case atStart => exact ⟨0, Nat.zero_le _, rfl, Below.refl _ _⟩
        case round =>
          obtain ⟨i, hi, rfl, hb⟩ := hrel
          clear hTT hrow hv hB
          have hTT := HQ.out.1.below hb
          have hrow := Kit.Rd.of_own (Dsk.row_kept HQ.out.2.1 fun i hi hlt => hb.block i hlt)
          have hv := HQ.out.2.2.below hb
          by_cases hlt : i < 0
          · exact absurd hlt (Nat.not_lt_zero i)
          · obtain rfl : i = 0 := by omega
            have hB := HB0.out.trans (hb.mono HB0.out.size)
            clear hlt hb hTT hrow
            go_wp2_with fail
            refine (H9 _ _ hv).mono ?_
            rintro e wd ⟨rfl, b⟩
            replace hv := hv.below b
            replace hB := hB.trans (b.mono hB.size)
            clear b
            go_wp2_with fail
            refine (H9 _ _ hv).mono ?_
            rintro e we ⟨rfl, b⟩
            replace hB := hB.trans (b.mono hB.size)
            clear b hv H9
            go_wp2
            go_ret
            exact ⟨rfl, hB⟩
    · rw [idx_at ha] at H9
      rw [set_at ha] at H1
      rw [give_at ha] at H3
      have f0 : (k : Int) ≥ 0 := by omega
      have S1 := stays_put (r' := putL n r) hok ha rfl
      have S3 := stays_put (r' := putU (r.used - n) r) hok ha rfl
      simp only [Option.getD_some, Option.isSome_some] at H1
      by_cases hov : r.lim < r.used + n
      · rw [take_over ha hov] at H2
        generalize t.set k (putL n r) = o1 at *
        generalize t.set k (putU (r.used - n) r) = o3 at *
        clear hok ha hl hw hn hov
        go_enter Try.func6, Try.ntmps6
        go_wp2_with fail
        refine (HF _).mono ?_
        rintro e w1 ⟨rfl, b⟩
        replace hv := hv.below b
        replace hB := hB.trans (b.mono hB.size)
        clear b HF
        go_wp2_with fail
        refine (HC _ hv).mono ?_
        rintro e w2 ⟨rfl, b⟩
        replace hv := hv.below b
        replace hB := hB.trans (b.mono hB.size)
        clear b HC
        go_wp2_with fail
        refine (H1 _ hv).mono ?_
        rintro e w3 ⟨⟨v1, rfl, q1⟩, b⟩
        replace q1 := Tb.of_own q1
        replace hv := hv.below b
        replace hB := hB.trans (b.mono hB.size)
        clear b H1
        go_wp2_with fail
        refine (H2 _ hv).mono ?_
        rintro e w4 ⟨⟨v2, rfl, q2⟩, b⟩
        replace q2 := Tb.of_own q2
        replace hv := hv.below b
        replace q1 := q1.below b
        replace hB := hB.trans (b.mono hB.size)
        clear b H2
        clear q2
        go_wp2_with fail
        refine (H3 _ hv).mono ?_
        rintro e w5 ⟨⟨v3, rfl, q3⟩, b⟩
        replace q3 := Tb.of_own q3
        replace hv := hv.below b
        replace q1 := q1.below b
        replace hB := hB.trans (b.mono hB.size)
        clear b H3
        obtain ⟨at_, pt, rfl⟩ := hv.form
        obtain ⟨a1, p1, rfl⟩ := q1.form
        obtain ⟨a3, p3, rfl⟩ := q3.form
        have bb := below_lit w5 (.cells #[] 22)
        have hmx : maxLen = 9223372036854775807 := rfl
        have hrow := World.ownsRow_made (base := w5.heap.size) (e := 22) (size := 1) w5 #[] 0 (Nat.le_refl _) (by unfold maxLen; omega) rfl
        have hz : w5.heap.size ≤ (w5.alloc (.cells #[] 22)).heap.size := by simp
        have hBB : Below w5.heap.size w5 (w5.alloc (.cells #[] 22)) := bb
        clear bb
        have hl1 : 0 + 1 ≤ maxLen := by omega
        have hl2 : (0 + 1) * 24 ≤ 140737488355328 := by decide
        have hsl := Kit.lit1 (w5.alloc (.cells #[] 22)) (.slice a1 o1.length p1) 22
        rw [World.size_alloc] at hsl
        have hrow2 : ((w5.alloc (.cells #[] 22)).alloc (.cells #[.slice a1 o1.length p1] 22)).ownsRow w5.heap.size 22 1 (.slice (some ⟨w5.heap.size, 0, none⟩) 0 0) 0 [] := hrow.alloc _
        have hz2 : w5.heap.size ≤ ((w5.alloc (.cells #[] 22)).alloc (.cells #[.slice a1 o1.length p1] 22)).heap.size := by simp; omega
        have hlo2 := hrow2.lt
        have hone : ∀ u ∈ [Value.slice a1 o1.length p1], u.oneCell' = true := by simp [Value.oneCell']
        have hB2 := hBB.trans ((below_lit (w5.alloc (.cells #[] 22)) (.cells #[.slice a1 o1.length p1] 22)).mono hz)
        go_wp2_with (at_builtin; refine Kit.wpList_append_sl rfl _ _ 41 rfl w5.heap.size 22 i1 (.slice none 0 0) 24 Try.underlying41 hi1 hy0 hy1 hy2 rfl _ _ _ rfl hrow2 _ [.slice a1 o1.length p1] rfl hsl hone hl1 hl2 hz2 ?_)
        clear hrow hl1 hl2 hsl hone
        intro vl1 wl1 hrow hg
        replace hrow : wl1.ownsRow w5.heap.size 22 1 vl1 1 [.slice a1 o1.length p1] := hrow
        replace hBB := hB2.grown hg hz2 (fun k hk => (hlo2 k hk).1)
        clear hz hg hrow2 hz2 hlo2 hB2
        have hz := hBB.size
        have hl1 : 1 + 1 ≤ maxLen := by omega
        have hl2 : (1 + 1) * 24 ≤ 140737488355328 := by decide
        go_wp2_with (at_builtin; refine Kit.wpList_append_one rfl _ _ 41 rfl w5.heap.size 22 i1 (.slice none 0 0) 24 Try.underlying41 hi1 hy0 hy1 hy2 rfl _ _ _ rfl hrow (.slice a3 o3.length p3) 22 rfl rfl hl1 hl2 hz ?_)
        clear hrow hl1 hl2
        intro vl3 wl3 hrow bn _
        replace hrow : wl3.ownsRow w5.heap.size 22 1 vl3 2 [.slice a1 o1.length p1, .slice a3 o3.length p3] := hrow
        replace hBB := hBB.trans bn
        clear hz bn
        have hz := hBB.size
        replace hv := hv.below hBB
        replace q1 := q1.below hBB
        replace q3 := q3.below hBB
        replace hB := hB.trans (hBB.mono hB.size)
        have hTT : TT _ [.slice a1 o1.length p1, .slice a3 o3.length p3] [o1, o3] := ((TT.nil_ wl3).snoc q1).snoc q3
        have HGA : Hid (∀ a ∈ ([o1, o3] : List (List Row)), Stays t a) := Lib.hid (by
          intro a ha
          simp only [List.mem_cons, List.not_mem_nil, or_false] at ha
          rcases ha with rfl | rfl
          · exact S1
          · exact S3)
        clear q1 q3 hz hBB
        obtain ⟨vs, hvs⟩ : ∃ vs : List Value, vs = [.slice a1 o1.length p1, .slice a3 o3.length p3] := ⟨_, rfl⟩
        obtain ⟨ls, hls⟩ : ∃ ls : List (List Row), ls = [o1, o3] := ⟨_, rfl⟩
        have hvl : vs.length = 2 := by rw [hvs]; rfl
        rw [← hvs, ← hls] at hTT
        rw [← hls] at HGA
        rw [← hvs] at hrow
        obtain ⟨la, lc, rfl, -, -⟩ := Dsk.row_form hrow
        clear hvs hls S1 S3
        have HQ := Lib.hid (And.intro hTT (And.intro hrow hv))
        have HB0 := Lib.hid hB
        go_wp2
        go_loopw [14] (fun vi wr => ∃ i : Nat, i ≤ 2 ∧ vi = .int .i64 (i : Int) ∧ Below wl3.heap.size wl3 wr) (fun vi _ => 2 - (intOf vi).toNat)
        case atStart => exact ⟨0, Nat.zero_le _, rfl, Below.refl _ _⟩
        case round =>
          obtain ⟨i, hi, rfl, hb⟩ := hrel
          clear hTT hrow hv hB
          have hTT := HQ.out.1.below hb
          have hrow := Kit.Rd.of_own (Dsk.row_kept HQ.out.2.1 fun i hi hlt => hb.block i hlt)
          have hv := HQ.out.2.2.below hb
          by_cases hlt : i < 2
          · have j0 : (i : Int) < 2 := by omega
            obtain ⟨u, hu⟩ : ∃ u, vs[i]? = some u := ⟨_, List.getElem?_eq_getElem (by rw [hvl]; exact hlt)⟩
            obtain ⟨a, ha⟩ : ∃ a, ls[i]? = some a := ⟨_, List.getElem?_eq_getElem (by rw [← hTT.1, hvl]; exact hlt)⟩
            have hT := hTT.2 i u a hu ha
            have hS := HGA.out a (List.mem_of_getElem? ha)
            obtain ⟨ua, uc, rfl⟩ := hT.form
            have HD := HC2.out a hS (.slice ua a.length uc) wr hT
            rw [hS.1] at HD
            obtain ⟨ad, e9, c0⟩ := hrow.at_ hu
            subst e9
            have j1 : decide ((a.length : Int) < (t.length : Int)) = false := by have := hS.2.1; rw [decide_eq_false_iff_not]; omega
            have j1' : decide (a.length < t.length) = false := by have := hS.2.1; rw [decide_eq_false_iff_not]; omega
            have HS4 := Lib.hid (And.intro hS.2.2.2 hS.2.1)
            have HU := Lib.hid hu
            clear hu ha hS
            go_wp2_with fail
            refine HD.mono ?_
            rintro e wc ⟨rfl, b⟩
            have hT2 := hT.below b
            have hv2 := hv.below b
            have hrow2 := hrow.below b
            have hb2 := hb.trans (b.mono hb.size)
            obtain ⟨ad2, e9, c1⟩ := hrow2.at_ HU.out
            obtain rfl := Option.some.inj e9
            have HQ2 := Lib.hid (And.intro hT2 (And.intro hv2 hrow2))
            clear HD b hT hTT hrow hv c0 hb hT2 hv2 hrow2
            go_wp2
            clear j1 j1'
            go_loopw [15] (fun vj wn => ∃ j : Nat, j ≤ t.length ∧ vj = .int .i64 (j : Int) ∧ Below wc.heap.size wc wn) (fun vj _ => t.length - (intOf vj).toNat)
            case atStart => exact ⟨0, Nat.zero_le _, rfl, Below.refl _ _⟩
            case round =>
              obtain ⟨j, hj, rfl, hbn⟩ := hrel
              have hT := HQ2.out.1.below hbn
              have hv := HQ2.out.2.1.below hbn
              have hrow := HQ2.out.2.2.below hbn
              by_cases hjt : j < t.length
              · have m0 : (j : Int) < (t.length : Int) := by omega
                have m1 : (j : Int) < (a.length : Int) := by have := HS4.out.2; omega
                obtain ⟨x, hx⟩ : ∃ x, a[j]? = some x := ⟨_, List.getElem?_eq_getElem (by omega)⟩
                obtain ⟨y, hy⟩ : ∃ y, t[j]? = some y := ⟨_, List.getElem?_eq_getElem hjt⟩
                have hxy := HS4.out.1 j x y hx hy
                obtain ⟨ad3, e9, c2⟩ := hrow.at_ HU.out
                obtain rfl := Option.some.inj e9
                obtain ⟨da, rfl, s0, s1, s2⟩ := hT.at_ hx
                obtain ⟨dt, rfl, y0, y1, y2⟩ := hv.at_ hy
                have m2 : ((x.ten : Int) != (y.ten : Int)) = false := by rw [hxy]; simp
                clear hx hy hxy hT hv hrow s1 s2 y1 y2 c1
                generalize x.ten = xt at *
                generalize y.ten = yt at *
                go_wp2
                go_quiet (fail)
                go_wp2
                go_roundw
                case rel => exact ⟨j + 1, hjt, by go_num, below_drewN hbn _⟩
                case measure =>
                  have l5 : (intOf (.int .i64 ((j : Int) + 1))).toNat = j + 1 := rfl
                  have l6 : (intOf (.int .i64 (j : Int))).toNat = j := rfl
                  rw [l5, l6]
                  exact Nat.sub_lt_sub_left hjt (Nat.lt_succ_self j)
              · obtain rfl : j = t.length := by omega
                have hd1 : ¬ (t.length : Int) < (t.length : Int) := by omega
                have hb3 := hb2.trans (hbn.mono hb2.size)
                clear hjt hT hv hrow c1
                go_wp2
                go_roundw
                case rel => exact ⟨i + 1, hlt, by go_num, hb3⟩
                case measure =>
                  have l5 : (intOf (.int .i64 ((i : Int) + 1))).toNat = i + 1 := rfl
                  have l6 : (intOf (.int .i64 (i : Int))).toNat = i := rfl
                  rw [l5, l6]
                  exact Nat.sub_lt_sub_left hlt (Nat.lt_succ_self i)
          · obtain rfl : i = 2 := by omega
            have hB := HB0.out.trans (hb.mono HB0.out.size)
            clear hlt hb hTT hrow
            go_wp2_with fail
            refine (H9 _ _ hv).mono ?_
            rintro e wd ⟨rfl, b⟩
            replace hv := hv.below b
            replace hB := hB.trans (b.mono hB.size)
            clear b
            go_wp2_with fail
            refine (H9 _ _ hv).mono ?_
            rintro e we ⟨rfl, b⟩
            replace hB := hB.trans (b.mono hB.size)
            clear b hv H9
            go_wp2
            go_ret
            exact ⟨rfl, hB⟩
      · rw [take_at ha hov] at H2
        have S2 := stays_put (r' := putU (r.used + n) r) hok ha rfl
        generalize t.set k (putL n r) = o1 at *
        generalize t.set k (putU (r.used - n) r) = o3 at *
        generalize t.set k (putU (r.used + n) r) = o2 at *
        clear hok ha hl hw hn hov
        go_enter Try.func6, Try.ntmps6
        go_wp2_with fail
        refine (HF _).mono ?_
        rintro e w1 ⟨rfl, b⟩
        replace hv := hv.below b
        replace hB := hB.trans (b.mono hB.size)
        clear b HF
        go_wp2_with fail
        refine (HC _ hv).mono ?_
        rintro e w2 ⟨rfl, b⟩
        replace hv := hv.below b
        replace hB := hB.trans (b.mono hB.size)
        clear b HC
        go_wp2_with fail
        refine (H1 _ hv).mono ?_
        rintro e w3 ⟨⟨v1, rfl, q1⟩, b⟩
        replace q1 := Tb.of_own q1
        replace hv := hv.below b
        replace hB := hB.trans (b.mono hB.size)
        clear b H1
        go_wp2_with fail
        refine (H2 _ hv).mono ?_
        rintro e w4 ⟨⟨v2, rfl, q2⟩, b⟩
        replace q2 := Tb.of_own q2
        replace hv := hv.below b
        replace q1 := q1.below b
        replace hB := hB.trans (b.mono hB.size)
        clear b H2
        go_wp2_with fail
        refine (H3 _ hv).mono ?_
        rintro e w5 ⟨⟨v3, rfl, q3⟩, b⟩
        replace q3 := Tb.of_own q3
        replace hv := hv.below b
        replace q1 := q1.below b
        replace q2 := q2.below b
        replace hB := hB.trans (b.mono hB.size)
        clear b H3
        obtain ⟨at_, pt, rfl⟩ := hv.form
        obtain ⟨a1, p1, rfl⟩ := q1.form
        obtain ⟨a2, p2, rfl⟩ := q2.form
        obtain ⟨a3, p3, rfl⟩ := q3.form
        have bb := below_lit w5 (.cells #[] 22)
        have hmx : maxLen = 9223372036854775807 := rfl
        have hrow := World.ownsRow_made (base := w5.heap.size) (e := 22) (size := 1) w5 #[] 0 (Nat.le_refl _) (by unfold maxLen; omega) rfl
        have hz : w5.heap.size ≤ (w5.alloc (.cells #[] 22)).heap.size := by simp
        have hBB : Below w5.heap.size w5 (w5.alloc (.cells #[] 22)) := bb
        clear bb
        have hl1 : 0 + 1 ≤ maxLen := by omega
        have hl2 : (0 + 1) * 24 ≤ 140737488355328 := by decide
        have hsl := Kit.lit1 (w5.alloc (.cells #[] 22)) (.slice a1 o1.length p1) 22
        rw [World.size_alloc] at hsl
        have hrow2 : ((w5.alloc (.cells #[] 22)).alloc (.cells #[.slice a1 o1.length p1] 22)).ownsRow w5.heap.size 22 1 (.slice (some ⟨w5.heap.size, 0, none⟩) 0 0) 0 [] := hrow.alloc _
        have hz2 : w5.heap.size ≤ ((w5.alloc (.cells #[] 22)).alloc (.cells #[.slice a1 o1.length p1] 22)).heap.size := by simp; omega
        have hlo2 := hrow2.lt
        have hone : ∀ u ∈ [Value.slice a1 o1.length p1], u.oneCell' = true := by simp [Value.oneCell']
        have hB2 := hBB.trans ((below_lit (w5.alloc (.cells #[] 22)) (.cells #[.slice a1 o1.length p1] 22)).mono hz)
        go_wp2_with (at_builtin; refine Kit.wpList_append_sl rfl _ _ 41 rfl w5.heap.size 22 i1 (.slice none 0 0) 24 Try.underlying41 hi1 hy0 hy1 hy2 rfl _ _ _ rfl hrow2 _ [.slice a1 o1.length p1] rfl hsl hone hl1 hl2 hz2 ?_)
        clear hrow hl1 hl2 hsl hone
        intro vl1 wl1 hrow hg
        replace hrow : wl1.ownsRow w5.heap.size 22 1 vl1 1 [.slice a1 o1.length p1] := hrow
        replace hBB := hB2.grown hg hz2 (fun k hk => (hlo2 k hk).1)
        clear hz hg hrow2 hz2 hlo2 hB2
        have hz := hBB.size
        have hl1 : 1 + 1 ≤ maxLen := by omega
        have hl2 : (1 + 1) * 24 ≤ 140737488355328 := by decide
        go_wp2_with (at_builtin; refine Kit.wpList_append_one rfl _ _ 41 rfl w5.heap.size 22 i1 (.slice none 0 0) 24 Try.underlying41 hi1 hy0 hy1 hy2 rfl _ _ _ rfl hrow (.slice a2 o2.length p2) 22 rfl rfl hl1 hl2 hz ?_)
        clear hrow hl1 hl2
        intro vl2 wl2 hrow bn _
        replace hrow : wl2.ownsRow w5.heap.size 22 1 vl2 2 [.slice a1 o1.length p1, .slice a2 o2.length p2] := hrow
        replace hBB := hBB.trans bn
        clear hz bn
        have hz := hBB.size
        have hl1 : 2 + 1 ≤ maxLen := by omega
        have hl2 : (2 + 1) * 24 ≤ 140737488355328 := by decide
        go_wp2_with (at_builtin; refine Kit.wpList_append_one rfl _ _ 41 rfl w5.heap.size 22 i1 (.slice none 0 0) 24 Try.underlying41 hi1 hy0 hy1 hy2 rfl _ _ _ rfl hrow (.slice a3 o3.length p3) 22 rfl rfl hl1 hl2 hz ?_)
        clear hrow hl1 hl2
        intro vl3 wl3 hrow bn _
        replace hrow : wl3.ownsRow w5.heap.size 22 1 vl3 3 [.slice a1 o1.length p1, .slice a2 o2.length p2, .slice a3 o3.length p3] := hrow
        replace hBB := hBB.trans bn
        clear hz bn
        have hz := hBB.size
        replace hv := hv.below hBB
        replace q1 := q1.below hBB
        replace q2 := q2.below hBB
        replace q3 := q3.below hBB
        replace hB := hB.trans (hBB.mono hB.size)
        have hTT : TT _ [.slice a1 o1.length p1, .slice a2 o2.length p2, .slice a3 o3.length p3] [o1, o2, o3] := (((TT.nil_ wl3).snoc q1).snoc q2).snoc q3
        have HGA : Hid (∀ a ∈ ([o1, o2, o3] : List (List Row)), Stays t a) := Lib.hid (by
          intro a ha
          simp only [List.mem_cons, List.not_mem_nil, or_false] at ha
          rcases ha with rfl | rfl | rfl
          · exact S1
          · exact S2
          · exact S3)
        clear q1 q2 q3 hz hBB
        obtain ⟨vs, hvs⟩ : ∃ vs : List Value, vs = [.slice a1 o1.length p1, .slice a2 o2.length p2, .slice a3 o3.length p3] := ⟨_, rfl⟩
        obtain ⟨ls, hls⟩ : ∃ ls : List (List Row), ls = [o1, o2, o3] := ⟨_, rfl⟩
        have hvl : vs.length = 3 := by rw [hvs]; rfl
        rw [← hvs, ← hls] at hTT
        rw [← hls] at HGA
        rw [← hvs] at hrow
        obtain ⟨la, lc, rfl, -, -⟩ := Dsk.row_form hrow
        clear hvs hls S1 S2 S3
        have HQ := Lib.hid (And.intro hTT (And.intro hrow hv))
        have HB0 := Lib.hid hB
        go_wp2
        go_loopw [14] (fun vi wr => ∃ i : Nat, i ≤ 3 ∧ vi = .int .i64 (i : Int) ∧ Below wl3.heap.size wl3 wr) (fun vi _ => 3 - (intOf vi).toNat)
        case atStart => exact ⟨0, Nat.zero_le _, rfl, Below.refl _ _⟩
        case round =>
          obtain ⟨i, hi, rfl, hb⟩ := hrel
          clear hTT hrow hv hB
          have hTT := HQ.out.1.below hb
          have hrow := Kit.Rd.of_own (Dsk.row_kept HQ.out.2.1 fun i hi hlt => hb.block i hlt)
          have hv := HQ.out.2.2.below hb
          by_cases hlt : i < 3
          · have j0 : (i : Int) < 3 := by omega
            obtain ⟨u, hu⟩ : ∃ u, vs[i]? = some u := ⟨_, List.getElem?_eq_getElem (by rw [hvl]; exact hlt)⟩
            obtain ⟨a, ha⟩ : ∃ a, ls[i]? = some a := ⟨_, List.getElem?_eq_getElem (by rw [← hTT.1, hvl]; exact hlt)⟩
            have hT := hTT.2 i u a hu ha
            have hS := HGA.out a (List.mem_of_getElem? ha)
            obtain ⟨ua, uc, rfl⟩ := hT.form
            have HD := HC2.out a hS (.slice ua a.length uc) wr hT
            rw [hS.1] at HD
            obtain ⟨ad, e9, c0⟩ := hrow.at_ hu
            subst e9
            have j1 : decide ((a.length : Int) < (t.length : Int)) = false := by have := hS.2.1; rw [decide_eq_false_iff_not]; omega
            have j1' : decide (a.length < t.length) = false := by have := hS.2.1; rw [decide_eq_false_iff_not]; omega
            have HS4 := Lib.hid (And.intro hS.2.2.2 hS.2.1)
            have HU := Lib.hid hu
            clear hu ha hS
            go_wp2_with fail
            refine HD.mono ?_
            rintro e wc ⟨rfl, b⟩
            have hT2 := hT.below b
            have hv2 := hv.below b
            have hrow2 := hrow.below b
            have hb2 := hb.trans (b.mono hb.size)
            obtain ⟨ad2, e9, c1⟩ := hrow2.at_ HU.out
            obtain rfl := Option.some.inj e9
            have HQ2 := Lib.hid (And.intro hT2 (And.intro hv2 hrow2))
            clear HD b hT hTT hrow hv c0 hb hT2 hv2 hrow2
            go_wp2
            clear j1 j1'
            go_loopw [15] (fun vj wn => ∃ j : Nat, j ≤ t.length ∧ vj = .int .i64 (j : Int) ∧ Below wc.heap.size wc wn) (fun vj _ => t.length - (intOf vj).toNat)
            case atStart => exact ⟨0, Nat.zero_le _, rfl, Below.refl _ _⟩
            case round =>
              obtain ⟨j, hj, rfl, hbn⟩ := hrel
              have hT := HQ2.out.1.below hbn
              have hv := HQ2.out.2.1.below hbn
              have hrow := HQ2.out.2.2.below hbn
              by_cases hjt : j < t.length
              · have m0 : (j : Int) < (t.length : Int) := by omega
                have m1 : (j : Int) < (a.length : Int) := by have := HS4.out.2; omega
                obtain ⟨x, hx⟩ : ∃ x, a[j]? = some x := ⟨_, List.getElem?_eq_getElem (by omega)⟩
                obtain ⟨y, hy⟩ : ∃ y, t[j]? = some y := ⟨_, List.getElem?_eq_getElem hjt⟩
                have hxy := HS4.out.1 j x y hx hy
                obtain ⟨ad3, e9, c2⟩ := hrow.at_ HU.out
                obtain rfl := Option.some.inj e9
                obtain ⟨da, rfl, s0, s1, s2⟩ := hT.at_ hx
                obtain ⟨dt, rfl, y0, y1, y2⟩ := hv.at_ hy
                have m2 : ((x.ten : Int) != (y.ten : Int)) = false := by rw [hxy]; simp
                clear hx hy hxy hT hv hrow s1 s2 y1 y2 c1
                generalize x.ten = xt at *
                generalize y.ten = yt at *
                go_wp2
                go_quiet (fail)
                go_wp2
                go_roundw
                case rel => exact ⟨j + 1, hjt, by go_num, below_drewN hbn _⟩
                case measure =>
                  have l5 : (intOf (.int .i64 ((j : Int) + 1))).toNat = j + 1 := rfl
                  have l6 : (intOf (.int .i64 (j : Int))).toNat = j := rfl
                  rw [l5, l6]
                  exact Nat.sub_lt_sub_left hjt (Nat.lt_succ_self j)
              · obtain rfl : j = t.length := by omega
                have hd1 : ¬ (t.length : Int) < (t.length : Int) := by omega
                have hb3 := hb2.trans (hbn.mono hb2.size)
                clear hjt hT hv hrow c1
                go_wp2
                go_roundw
                case rel => exact ⟨i + 1, hlt, by go_num, hb3⟩
                case measure =>
                  have l5 : (intOf (.int .i64 ((i : Int) + 1))).toNat = i + 1 := rfl
                  have l6 : (intOf (.int .i64 (i : Int))).toNat = i := rfl
                  rw [l5, l6]
                  exact Nat.sub_lt_sub_left hlt (Nat.lt_succ_self i)
          · obtain rfl : i = 3 := by omega
            have hB := HB0.out.trans (hb.mono HB0.out.size)
            clear hlt hb hTT hrow
            go_wp2_with fail
            refine (H9 _ _ hv).mono ?_
            rintro e wd ⟨rfl, b⟩
            replace hv := hv.below b
            replace hB := hB.trans (b.mono hB.size)
            clear b
            go_wp2_with fail
            refine (H9 _ _ hv).mono ?_
            rintro e we ⟨rfl, b⟩
            replace hB := hB.trans (b.mono hB.size)
            clear b hv H9
            go_wp2
            go_ret
            exact ⟨rfl, hB⟩
end Quo
end Go.Proofs.Ytdiocnehejeldaa
