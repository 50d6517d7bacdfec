/-
  Package quota: Set, Take, Give.
-/
import Derived.Test.YtdiocnehejeldaaQuoL
import Derived.StillTailTactics
namespace Go.Proofs.Ytdiocnehejeldaa
open Go.RowKit
namespace Quo

set_option maxRecDepth 100000 in
set_option maxHeartbeats 4000000 in
theorem set_any (t : List Row) (hl : (t.length + 1) * 24 ≤ 140737488355328) (d n : Nat) (v : Value) (w : World) (hv : Tb w v t) :
    Calls Try.prog 8 #[v, .int .u64 (d : Int), .int .u64 (n : Int)] w fun e w' => TabEnd w ((set_ t d n).getD []) (.bool (set_ t d n).isSome) e w' ∧ Below w.heap.size w w' := by
  obtain ⟨i0, z0, hi, iz0, iz1, iz2, iz3⟩ := infoQuo
  have HF := pFind_any t (by omega) d v w hv
  have HC := fun v w (hv : Tb w v t) => pClone_any t (by omega) v w hv
  have hvf := hv
  obtain ⟨a, cap, rfl⟩ := hvf.form
  go_enter Try.func8, Try.ntmps8
  go_wp2_with fail
  refine HF.mono ?_
  rintro e w1 ⟨rfl, b1⟩
  replace hv := hv.below b1
  clear HF hvf
  rcases at_cases t d with ho | ⟨k, r, ha⟩
  · rw [idx_off ho]
    by_cases h16 : 16 ≤ t.length
    · have HR := Lib.hid (set_full (n := n) ho h16)
      have g1 : (t.length : Int) ≥ 16 := by omega
      clear ho h16 hv HC
      go_wp2
      go_ret2
      rw [HR.out]
      exact ⟨TabEnd.nil_ w _ _, b1⟩
    · have HR := Lib.hid (set_off (n := n) ho (by omega))
      have g1 : ¬ (t.length : Int) ≥ 16 := by omega
      have hfs := flat_snoc t ⟨d, n, 0⟩
      clear ho h16
      go_wp2_with fail
      refine (HC _ _ hv).mono ?_
      rintro e w2 ⟨c, rfl, hown, b⟩
      replace hown := own_base hown b1.size
      replace b1 := b1.trans (b.mono b1.size)
      clear b HC hv
      have bb := below_lit w2 (.cells #[.int .u64 (d : Int), .int .u64 0, .int .u64 (n : Int)] 39)
      have bx : (w2.alloc (.cells #[.int .u64 (d : Int), .int .u64 0, .int .u64 (n : Int)] 39)).heap[w2.heap.size]? = some (.cells #[.int .u64 (d : Int), .int .u64 0, .int .u64 (n : Int)] 39 (0, 0)) := (MapKept.heap_alloc w2 _).1
      have own4 := Dsk.row_kept hown fun i hi hlt => bb.block i hlt
      have b5 := b1.trans (bb.mono b1.size)
      have hlo := own4.lt
      have z5 := b5.size
      clear hown bb b1
      go_wp2_with (at_builtin; refine wpList_append_lies _ rfl _ _ 22 rfl w.heap.size 39 i0 z0 3 24 Try.underlying22 hi iz0 iz1 iz2 iz3 (by decide) _ _ _ rfl own4 ⟨w2.heap.size, 0, none⟩ 1 1 (rowC ⟨d, n, 0⟩) rfl rfl (World.news_of_block bx) (row_one _) (by decide) ?c3 hl z5 _ rfl ?_)
      case c3 => unfold maxLen; omega
      intro g2 cap2 w5 own5 hg hat hlt5
      have b6 := b5.grown hg z5 (fun k hk => (hlo k hk).1)
      rw [← hfs] at own5
      have hl1 : t.length + 1 = (t ++ [(⟨d, n, 0⟩ : Row)]).length := by simp
      have HO := Lib.hid (And.intro hl1 own5)
      clear own4 hg hat hlt5 hlo z5 b5 bx hfs own5 hl1
      go_wp2
      go_ret2
      rw [HR.out]
      exact ⟨⟨_, rfl, by rw [Option.getD_some, ← HO.out.1]; exact HO.out.2⟩, b6⟩
  · have HR := Lib.hid (set_at (n := n) ha)
    have g0 : (k : Int) < (t.length : Int) := by have := ha.lt; omega
    have g3 : (k : Int) ≥ 0 := by omega
    rw [idx_at ha]
    go_wp2_with fail
    refine (HC _ _ hv).mono ?_
    rintro e w2 ⟨c, rfl, hown, b⟩
    replace hown := own_base hown b1.size
    replace b1 := b1.trans (b.mono b1.size)
    clear b HC hv
    obtain ⟨g, cap2, rfl, hg1, hg2⟩ := hown.form (by have := ha.lt; omega)
    obtain ⟨s0, s1, s2⟩ := own_at hown ha.hk ha.lt
    have f2 := hown.frozenAt (k * 3 + 2)
    have HO := Lib.hid (And.intro (own_lim hown ha.hk n) (b1.setCell (p := ⟨g, k * 3 + 2, none⟩) hg1 (.int .u64 (n : Int))))
    clear hown b1 ha s0 s1
    go_wp2
    go_ret2
    rw [HR.out]
    exact ⟨⟨_, rfl, by rw [Option.getD_some, List.length_set]; exact HO.out.1⟩, HO.out.2⟩

set_option maxRecDepth 100000 in
set_option maxHeartbeats 4000000 in
theorem take_any (t : List Row) (hl : t.length * 24 ≤ 140737488355328) (hw : wide t) (d n : Nat) (hn : n < 18446744073709551616) (v : Value) (w : World) (hv : Tb w v t) :
    Calls Try.prog 10 #[v, .int .u64 (d : Int), .int .u64 (n : Int)] w fun e w' => TabEnd w (take_ t d n).1 (.int .i64 (take_ t d n).2) e w' ∧ Below w.heap.size w w' := by
  have HF := pFind_any t (by omega) d v w hv
  have HC := fun v w (hv : Tb w v t) => pClone_any t (by omega) v w hv
  have hvf := hv
  obtain ⟨a, cap, rfl⟩ := hvf.form
  clear hvf
  rcases at_cases t d with ho | ⟨k, r, ha⟩
  · have HR := Lib.hid (take_off (n := n) ho)
    rw [idx_off ho] at HF
    clear ho
    go_enter Try.func10, Try.ntmps10
    go_wp2_with fail
    refine HF.mono ?_
    rintro e w1 ⟨rfl, b⟩
    go_wp2
    go_ret2
    rw [HR.out]
    exact ⟨TabEnd.nil_ w _ _, b⟩
  · rw [idx_at ha] at HF
    have hrw := hw r (List.mem_of_getElem? ha.hk)
    have g0 : (k : Int) < (t.length : Int) := by have := ha.lt; omega
    have g3 : ¬ (k : Int) < 0 := by omega
    by_cases hov : r.lim < r.used + n
    · have HR := Lib.hid (take_over ha hov)
      go_enter Try.func10, Try.ntmps10
      go_wp2_with fail
      refine HF.mono ?_
      rintro e w1 ⟨rfl, b⟩
      replace hv := hv.below b
      obtain ⟨ad, rfl, t0, t1, t2⟩ := hv.at_ ha.hk
      clear hv ha HF t0 HC
      by_cases hx : r.lim < r.used
      · have g4 : (r.used : Int) > (r.lim : Int) := by omega
        have d4 : decide ((r.lim : Int) < (r.used : Int)) = true := decide_eq_true g4
        have d5 : decide (r.lim < r.used) = true := decide_eq_true hx
        clear hov hrw hx
        generalize r.lim = y at *
        generalize r.used = x at *
        go_wp2
        go_quiet (fail)
        go_wp2
        go_ret2
        rw [HR.out]
        exact ⟨TabEnd.nil_ w _ _, below_drewN b _⟩
      · have g4 : ¬ (r.used : Int) > (r.lim : Int) := by omega
        have g5 : IntKind.u64.wrap ((r.lim : Int) - (r.used : Int)) = ((r.lim - r.used : Nat) : Int) := by
          have := hrw.2.1
          rw [IntKind.wrap_u64]
          omega
        have g6 : (n : Int) > ((r.lim - r.used : Nat) : Int) := by omega
        have d4 : decide ((r.lim : Int) < (r.used : Int)) = false := decide_eq_false g4
        have d5 : decide (r.lim < r.used) = false := decide_eq_false hx
        clear hx hov hrw
        generalize r.lim - r.used = q at *
        generalize r.lim = y at *
        generalize r.used = x at *
        go_wp2
        go_quiet (fail)
        go_wp2
        go_ret2
        rw [HR.out]
        exact ⟨TabEnd.nil_ w _ _, below_drewN b _⟩
    · have HR := Lib.hid (take_at ha hov)
      have g4 : ¬ (r.used : Int) > (r.lim : Int) := by omega
      have g5 : IntKind.u64.wrap ((r.lim : Int) - (r.used : Int)) = ((r.lim - r.used : Nat) : Int) := by
        have := hrw.2.1
        rw [IntKind.wrap_u64]
        omega
      have g6 : ¬ (n : Int) > ((r.lim - r.used : Nat) : Int) := by omega
      have d4 : decide ((r.lim : Int) < (r.used : Int)) = false := decide_eq_false g4
      have d5 : decide (r.lim < r.used) = false := decide_eq_false (by omega)
      have g7 : IntKind.u64.wrap ((r.used : Int) + (n : Int)) = ((r.used + n : Nat) : Int) := by
        have := hrw.2.1
        rw [IntKind.wrap_u64]
        omega
      clear hov hrw
      go_enter Try.func10, Try.ntmps10
      go_wp2_with fail
      refine HF.mono ?_
      rintro e w1 ⟨rfl, b⟩
      replace hv := hv.below b
      obtain ⟨ad, rfl, t0, t1, t2⟩ := hv.at_ ha.hk
      have HA := Lib.hid ha
      clear HF t0 ha
      generalize hq : r.lim - r.used = q at *
      generalize hs : r.used + n = s at *
      generalize hy : r.lim = y at *
      generalize hx : r.used = x at *
      clear hq
      have Hs := Lib.hid hs
      have Hx := Lib.hid hx
      clear hs hx hy
      go_wp2
      go_quiet (fail)
      clear g4 g5 t1 t2
      have hv2 := fun m => hv.below (below_drewN (Below.refl w1.heap.size w1) m)
      have b2 := below_drewN b
      go_wp2_with fail
      refine (HC _ _ (hv2 _)).mono ?_
      rintro e w2 ⟨c, rfl, hown, b3⟩
      replace hown := own_base hown (b2 _).size
      have b4 := (b2 _).trans (b3.mono (b2 _).size)
      clear b3 b2 HC hv hv2
      have ha := HA.out
      obtain ⟨g, cap2, rfl, hg1, hg2⟩ := hown.form (by have := ha.lt; omega)
      obtain ⟨s0, s1, s2⟩ := own_at hown ha.hk ha.lt
      rw [Hx.out] at s1
      have f2 := hown.frozenAt (k * 3 + 1)
      have HO := Lib.hid (And.intro (own_used hown ha.hk s) (b4.setCell (p := ⟨g, k * 3 + 1, none⟩) hg1 (.int .u64 (s : Int))))
      clear hown b4 ha s0 s2 b
      go_wp2
      go_ret2
      rw [HR.out]
      refine ⟨⟨_, rfl, ?_⟩, HO.out.2⟩
      rw [List.length_set]
      exact HO.out.1

set_option maxRecDepth 100000 in
set_option maxHeartbeats 4000000 in
theorem give_any (t : List Row) (hl : t.length * 24 ≤ 140737488355328) (hw : wide t) (d n : Nat) (hn : n < 18446744073709551616) (v : Value) (w : World) (hv : Tb w v t) :
    Calls Try.prog 12 #[v, .int .u64 (d : Int), .int .u64 (n : Int)] w fun e w' => TabEnd w (give_ t d n).1 (.int .i64 (give_ t d n).2) e w' ∧ Below w.heap.size w w' := by
  have HF := pFind_any t (by omega) d v w hv
  have HC := fun v w (hv : Tb w v t) => pClone_any t (by omega) v w hv
  have hvf := hv
  obtain ⟨a, cap, rfl⟩ := hvf.form
  clear hvf
  rcases at_cases t d with ho | ⟨k, r, ha⟩
  · have HR := Lib.hid (give_off (n := n) ho)
    rw [idx_off ho] at HF
    clear ho
    go_enter Try.func12, Try.ntmps12
    go_wp2_with fail
    refine HF.mono ?_
    rintro e w1 ⟨rfl, b⟩
    go_wp2
    go_ret2
    rw [HR.out]
    exact ⟨TabEnd.nil_ w _ _, b⟩
  · rw [idx_at ha] at HF
    have hrw := hw r (List.mem_of_getElem? ha.hk)
    have g0 : (k : Int) < (t.length : Int) := by have := ha.lt; omega
    have g3 : ¬ (k : Int) < 0 := by omega
    have HR := Lib.hid (give_at (n := n) ha)
    have hq : (r.used < n → r.used - n = 0) ∧ (¬ r.used < n → IntKind.u64.wrap ((r.used : Int) - (n : Int)) = ((r.used - n : Nat) : Int)) := by
      have := hrw.2.2
      exact ⟨fun h => by omega, fun h => by rw [IntKind.wrap_u64]; omega⟩
    have HQ := Lib.hid hq
    clear hq
    clear hrw
    go_enter Try.func12, Try.ntmps12
    go_wp2_with fail
    refine HF.mono ?_
    rintro e w1 ⟨rfl, b⟩
    replace hv := hv.below b
    clear HF
    go_wp2_with fail
    refine (HC _ _ hv).mono ?_
    rintro e w2 ⟨c, rfl, hown, b3⟩
    replace hown := own_base hown b.size
    have b4 := b.trans (b3.mono b.size)
    clear b3 b HC hv
    obtain ⟨g, cap2, rfl, hg1, hg2⟩ := hown.form (by have := ha.lt; omega)
    obtain ⟨s0, s1, s2⟩ := own_at hown ha.hk ha.lt
    have hd := Dsk.row_kept hown (w' := w2.drew) fun i hi hlt => rfl
    have f2 := hd.frozenAt (k * 3 + 1)
    have s3 := (own_at hd ha.hk ha.lt).2.1
    have HO := Lib.hid (And.intro (own_used hd ha.hk (r.used - n)) (b4.drew.setCell (p := ⟨g, k * 3 + 1, none⟩) hg1 (.int .u64 ((r.used - n : Nat) : Int))))
    clear hown hd b4 ha s0 s2
    generalize r.used - n = p at *
    generalize r.used = x at *
    by_cases hlt : x < n
    · have hlt2 : (x : Int) < (n : Int) := by omega
      have hw0 : IntKind.u64.wrap 0 = 0 := rfl
      obtain rfl := HQ.out.1 hlt
      clear HQ
      simp only [Int.ofNat_zero] at HO
      go_wp2
      go_still_tail 15, (by kernel_rfl)
      change wpList _ _ _ _ _ w2.drew
      generalize w2.drew = w3 at *
      go_wp2
      go_ret2
      rw [HR.out]
      exact ⟨⟨_, rfl, by rw [List.length_set]; exact HO.out.1⟩, HO.out.2⟩
    · have hlt2 : ¬ (x : Int) < (n : Int) := by omega
      have hq := HQ.out.2 hlt
      clear HQ
      go_wp2
      go_still_tail 15, (by kernel_rfl)
      change wpList _ _ _ _ _ w2.drew
      generalize w2.drew = w3 at *
      go_wp2
      go_ret2
      rw [HR.out]
      exact ⟨⟨_, rfl, by rw [List.length_set]; exact HO.out.1⟩, HO.out.2⟩
end Quo
end Go.Proofs.Ytdiocnehejeldaa
