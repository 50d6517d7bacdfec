/-
  The document's Find, Is, Set, Take, Give.
-/
import Derived.Test.YtdiocnehejeldaaQuoK
import Derived.Test.YtdiocnehejeldaaAppR
import Derived.Lib.Hide
import Derived.Lib.Strings
import Derived.BigQuiet
import Derived.Laws.StructEq
import Derived.ChangeKeysEq
namespace Go.Proofs.Ytdiocnehejeldaa
open Go.RowKit
namespace Quo

theorem plain_num : Try.prog.plainKey 23 = true := by kernel_rfl
theorem row_eqI (a0 a1 a2 b0 b1 b2 : Int) (w : World) : (Op.equalIn 10000 39 (.agg #[.int .u64 a0, .int .u64 a1, .int .u64 a2]) (.agg #[.int .u64 b0, .int .u64 b1, .int .u64 b2])).run Try.prog w = .ok (a0 == b0 && a1 == b1 && a2 == b2) w := by
  have p0 : ∀ (a b c : Int), (part 23 #[.int .u64 a, .int .u64 b, .int .u64 c] 0).run Try.prog w = .ok (.int .u64 a) w := fun a b c => run_part_plain w plain_num rfl
  have p1 : ∀ (a b c : Int), (part 23 #[.int .u64 a, .int .u64 b, .int .u64 c] 1).run Try.prog w = .ok (.int .u64 b) w := fun a b c => run_part_plain w plain_num rfl
  have p2 : ∀ (a b c : Int), (part 23 #[.int .u64 a, .int .u64 b, .int .u64 c] 2).run Try.prog w = .ok (.int .u64 c) w := fun a b c => run_part_plain w plain_num rfl
  have q : ∀ (a b : Int), (Op.equalIn 9999 23 (.int .u64 a) (.int .u64 b)).run Try.prog w = .ok (a == b) w := fun a b => run_equalIn_int w 9998 _ _ _ a b Try.underlying23
  rw [run_equalIn_struct w 9999 39 #[.int .u64 a0, .int .u64 a1, .int .u64 a2] #[.int .u64 b0, .int .u64 b1, .int .u64 b2] (by unfold Program.fieldsOf; rw [Try.underlying39]) (by kernel_rfl)]
  have r0 := q a0 b0
  have r1 := q a1 b1
  have r2 := q a2 b2
  clear q
  generalize (a0 == b0) = x0 at *
  generalize (a1 == b1) = x1 at *
  generalize (a2 == b2) = x2 at *
  cases x0 <;> cases x1 <;> cases x2 <;> simp [Program.fieldsOf, Try.underlying39, Op.eqFields, Sem.run_bind, p0, p1, p2, r0, r1, r2, Result.andThen_ok]
theorem row_is (x y : Row) : ((x.ten : Int) == (y.ten : Int) && (x.used : Int) == (y.used : Int) && (x.lim : Int) == (y.lim : Int)) = decide (x = y) := by
  obtain ⟨a, b, c⟩ := x
  obtain ⟨a', b', c'⟩ := y
  rw [Bool.eq_iff_iff]
  simp only [Bool.and_eq_true, beq_iff_eq, decide_eq_true_eq, Row.mk.injEq]
  omega
theorem row_neq (x y : Row) (w : World) : (binOp .neq 39 (.agg #[.int .u64 (x.ten : Int), .int .u64 (x.used : Int), .int .u64 (x.lim : Int)]) (.agg #[.int .u64 (y.ten : Int), .int .u64 (y.used : Int), .int .u64 (y.lim : Int)])).run Try.prog w = .ok (.bool (!decide (x = y))) w := by
  rw [run_neq_struct, row_eqI, row_is]
  rfl
theorem row_eq (x y : Row) (w : World) : (binOp .eql 39 (.agg #[.int .u64 (x.ten : Int), .int .u64 (x.used : Int), .int .u64 (x.lim : Int)]) (.agg #[.int .u64 (y.ten : Int), .int .u64 (y.used : Int), .int .u64 (y.lim : Int)])).run Try.prog w = .ok (.bool (decide (x = y))) w := by
  rw [run_eql_struct, row_eqI, row_is]
  rfl

/-! ### Is -/
set_option maxRecDepth 100000 in
set_option maxHeartbeats 2000000 in
theorem is_any (l m : List Row) (hl : l.length ≤ 9223372036854775807) (u v : Value) (w : World) (hu : Tb w u l) (hv : Tb w v m) :
    Calls Try.prog 15 #[u, v] w fun e w' => e = .returned (.bool (decide (l = m))) ∧ Below w.heap.size w w' := by
  obtain ⟨a, cap, rfl⟩ := hu.form
  obtain ⟨b, cap2, rfl⟩ := hv.form
  by_cases hlen : l.length = m.length
  · have g1 : ((l.length : Int) != (m.length : Int)) = false := by rw [bne_eq_false_iff_eq]; omega
    have Hlen := Lib.hid hlen
    clear hlen
    go_enter Try.func15, Try.ntmps15
    go_wp2
    go_loopw [5] (fun vi wr => ∃ k : Nat, k ≤ l.length ∧ vi = .int .i64 k ∧ Hid (l.take k = m.take k) ∧ Below w.heap.size w wr) (fun vi _ => l.length - (intOf vi).toNat)
    case atStart => exact ⟨0, Nat.zero_le _, rfl, Lib.hid rfl, Below.refl _ _⟩
    case round =>
      obtain ⟨k, hk, rfl, Ht, hb⟩ := hrel
      by_cases hlt : k < l.length
      · have hltm : k < m.length := by rw [← Hlen.out]; exact hlt
        obtain ⟨ad, rfl, t0, t1, t2⟩ := (hu.below hb).at_ (List.getElem?_eq_getElem hlt)
        obtain ⟨bd, rfl, s0, s1, s2⟩ := (hv.below hb).at_ (List.getElem?_eq_getElem hltm)
        have hlt2 : (k : Int) < (l.length : Int) := by omega
        have hlt3 : (k : Int) < (m.length : Int) := by omega
        have HN := fun w => row_neq l[k] m[k] w
        by_cases he : l[k] = m[k]
        · have Ht2 := Lib.hid (show l.take (k + 1) = m.take (k + 1) by rw [List.take_succ_eq_append_getElem hlt, List.take_succ_eq_append_getElem hltm, Ht.out, he])
          rw [decide_eq_true he] at HN
          clear he
          generalize l[k] = x at *
          generalize m[k] = y at *
          go_wp2
          go_quiet (fail)
          go_wp2
          go_roundw
          case rel => exact ⟨k + 1, hlt, rfl, Ht2, below_drewN hb _⟩
          case measure =>
            have l5 : (intOf (.int .i64 ((k : Int) + 1))).toNat = k + 1 := rfl
            have l6 : (intOf (.int .i64 (k : Int))).toNat = k := rfl
            rw [l5, l6]
            exact Nat.sub_lt_sub_left hlt (Nat.lt_succ_self k)
        · have hne : ¬ l = m := fun h => he (by subst h; rfl)
          have hdn : decide (l = m) = false := decide_eq_false hne
          rw [decide_eq_false he] at HN
          generalize l[k] = x at *
          generalize m[k] = y at *
          clear he hne
          go_wp2
          go_quiet (fail)
          go_wp2
          go_ret
          exact ⟨by rw [hdn]; rfl, below_drewN hb _⟩
      · obtain rfl : k = l.length := by omega
        have hdn : decide (l = m) = true := by
          rw [decide_eq_true_iff]
          have h := Ht.out
          rw [List.take_length, Hlen.out, List.take_length] at h
          exact h
        go_wp2
        go_ret
        exact ⟨by rw [hdn]; rfl, hb⟩
  · have g1 : ((l.length : Int) != (m.length : Int)) = true := by rw [bne_iff_ne]; omega
    have hdn : decide (l = m) = false := by
      rw [decide_eq_false_iff_not]
      exact fun h => hlen (by rw [h])
    rw [hdn]
    clear hlen hdn
    go_enter Try.func15, Try.ntmps15
    go_wp2
    go_ret
    exact ⟨rfl, Below.refl _ _⟩

/-! ### Find -/
set_option maxRecDepth 100000 in
set_option maxHeartbeats 2000000 in
theorem find_any (t : List Row) (hl : t.length ≤ 9223372036854775807) (d : Nat) (v : Value) (w : World) (hv : Tb w v t) :
    Calls Try.prog 22 #[v, .int .u64 (d : Int)] w fun e w' => e = .returned (.int .i64 (idx t d)) ∧ Below w.heap.size w w' := by
  obtain ⟨a, cap, rfl⟩ := hv.form
  go_enter Try.func22, Try.ntmps22
  go_wp2
  go_loopw [5] (fun vi wr => ∃ k : Nat, k ≤ t.length ∧ vi = .int .i64 (k : Int) ∧ Hid (∀ j, j < k → ∀ x : Row, t[j]? = some x → x.ten ≠ d) ∧ Below w.heap.size w wr) (fun vi _ => t.length - (intOf vi).toNat)
  case atStart => exact ⟨0, Nat.zero_le _, rfl, Lib.hid (fun j hj => absurd hj (Nat.not_lt_zero j)), Below.refl _ _⟩
  case round =>
    obtain ⟨k, hk, rfl, Hno, hB⟩ := hrel
    by_cases hlt : k < t.length
    · have hlt2 : (k : Int) < (t.length : Int) := by omega
      obtain ⟨x, hx⟩ : ∃ x, t[k]? = some x := ⟨_, List.getElem?_eq_getElem hlt⟩
      obtain ⟨ad, rfl, t0, t1, t2⟩ := (hv.below hB).at_ hx
      have Hx := Lib.hid hx
      clear hx hv t1 t2
      by_cases he : x.ten = d
      · have EI := Lib.hid (idx_at (show At t d k x from ⟨Hx.out, he, Hno.out⟩))
        have he2 : ((x.ten : Int) == (d : Int)) = true := by rw [he]; simp
        clear he
        generalize x.ten = z at *
        go_wp2
        go_ret
        exact ⟨by rw [EI.out]; rfl, hB⟩
      · have Hno2 : Hid (∀ j, j < k + 1 → ∀ x : Row, t[j]? = some x → x.ten ≠ d) := Lib.hid fun j hj y hy => by
          rcases Nat.lt_or_ge j k with h | h
          · exact Hno.out j h y hy
          · obtain rfl : j = k := by omega
            rw [Hx.out] at hy
            injection hy with hy
            rw [← hy]
            exact he
        have he2 : ((x.ten : Int) == (d : Int)) = false := by rw [beq_eq_false_iff_ne]; omega
        clear he
        go_wp2
        go_roundw
        case rel => exact ⟨k + 1, hlt, by go_num, Hno2, hB⟩
        case measure =>
          have l5 : (intOf (.int .i64 ((k : Int) + 1))).toNat = k + 1 := rfl
          have l6 : (intOf (.int .i64 (k : Int))).toNat = k := rfl
          rw [l5, l6]
          exact Nat.sub_lt_sub_left hlt (Nat.lt_succ_self k)
    · obtain rfl : k = t.length := by omega
      have EI := Lib.hid (idx_off (t := t) (d := d) fun j x hx => Hno.out j (List.getElem?_eq_some_iff.1 hx).1 x hx)
      have hd1 : ¬ (t.length : Int) < (t.length : Int) := by omega
      clear hlt
      go_wp2
      go_ret
      exact ⟨by rw [EI.out]; rfl, hB⟩

/-! ### Set -/
/-- What comes of a table: a new one, and a word. -/
def TabEnd (w : World) (o : List Row) (u : Value) (e : Ending) (w' : World) : Prop := ∃ v', e = .returned (.tuple #[v', u]) ∧ w'.ownsRow w.heap.size 39 3 v' o.length (flat o)
theorem TabEnd.nil_ (w w' : World) (u : Value) : TabEnd w [] u (.returned (.tuple #[.slice none 0 0, u])) w' := ⟨_, rfl, by simp [flat], .inl ⟨rfl, rfl⟩⟩
theorem Tb.src {w : World} {v : Value} {l : List Row} (h : Tb w v l) : (v = .slice none 0 0 ∧ flat l = []) ∨ ∃ ad cap, v = .slice (some ad) l.length cap ∧ ∀ j u, (flat l)[j]? = some u → w.cell? (ad.add j) = some u := by
  rcases h with ⟨rfl, rfl⟩ | h
  · exact .inl ⟨rfl, rfl⟩
  · exact .inr h
theorem idx_nat {t : List Row} {d k : Nat} {r : Row} (h : At t d k r) : (idx t d : Int) = (k : Int) := idx_at h

set_option maxRecDepth 100000 in
set_option maxHeartbeats 4000000 in
theorem rSet_any (t : List Row) (hl : (t.length + 1) * 24 ≤ 140737488355328) (d n : Nat) (v : Value) (w : World) (hv : Tb w v t) :
    Calls Try.prog 9 #[v, .int .u64 (d : Int), .int .u64 (n : Int)] w fun e w' => TabEnd w ((set_ t d n).getD []) (.bool (set_ t d n).isSome) e w' ∧ Below w.heap.size w w' := by
  obtain ⟨i0, z0, hi, iz0, iz1, iz2, iz3⟩ := infoQuo
  have HF := fun v w (hv : Tb w v t) => find_any t (by omega) d v w hv
  have hfl := flat_len t
  have h1 := one_flat t
  have hl3 : 0 + t.length ≤ maxLen := by unfold maxLen; omega
  have hl4 : (0 + t.length) * 24 ≤ 140737488355328 := by omega
  have hvf := hv
  obtain ⟨a, cap, rfl⟩ := hvf.form
  go_enter Try.func9, Try.ntmps9
  have b0 := below_lit w (.cells #[] 39)
  have ow := own_base (World.ownsRow_made (base := w.heap.size) (e := 39) (size := 3) w #[] 0 (Nat.le_refl _) (by unfold maxLen; omega) rfl) (Nat.le_refl _)
  have hsrc := (hv.below b0).src
  have z9 : w.heap.size ≤ (w.alloc (.cells #[] 39)).heap.size := Nat.le_trans (Nat.le_refl _) b0.size
  go_wp2_with (at_builtin; refine Kit.wpList_append_rows rfl _ _ 22 rfl w.heap.size 39 i0 z0 3 24 Try.underlying22 hi iz0 iz1 iz2 iz3 (by decide) _ _ _ rfl ow _ t.length (flat t) rfl hsrc hfl h1 hl3 hl4 z9 ?_)
  intro c w1 hown hg
  have b1 := b0.grown hg z9 (fun k hk => (ow.lt k hk).1)
  replace hown : w1.ownsRow w.heap.size 39 3 c t.length (flat t) := by simpa using hown
  replace hv := hv.below b1
  clear b0 ow hsrc z9 hg hfl h1 hl3 hl4
  go_wp2_with fail
  refine (HF _ _ hv).mono ?_
  rintro e w2 ⟨rfl, b⟩
  replace hown := Dsk.row_kept hown fun i hi hlt => b.block i hlt
  replace b1 := b1.trans (b.mono b1.size)
  clear b HF hv hvf
  rcases at_cases t d with ho | ⟨k, r, ha⟩
  · rw [idx_off ho]
    by_cases h16 : 16 ≤ t.length
    · have HR := Lib.hid (set_full (n := n) ho h16)
      have g1 : (t.length : Int) ≥ 16 := by omega
      clear ho hown h16
      go_wp2
      go_ret2
      rw [HR.out]
      exact ⟨TabEnd.nil_ w _ _, b1⟩
    · have HR := Lib.hid (set_off (n := n) ho (by omega))
      have g1 : ¬ (t.length : Int) ≥ 16 := by omega
      have bb := below_lit w2 (.cells #[.int .u64 (d : Int), .int .u64 0, .int .u64 (n : Int)] 39)
      have bx : (w2.alloc (.cells #[.int .u64 (d : Int), .int .u64 0, .int .u64 (n : Int)] 39)).heap[w2.heap.size]? = some (.cells #[.int .u64 (d : Int), .int .u64 0, .int .u64 (n : Int)] 39 (0, 0)) := (MapKept.heap_alloc w2 _).1
      have own4 := Dsk.row_kept hown fun i hi hlt => bb.block i hlt
      have b5 := b1.trans (bb.mono b1.size)
      have hlo := own4.lt
      have z5 := b5.size
      have hfs := flat_snoc t ⟨d, n, 0⟩
      clear hown bb b1 ho h16
      go_wp2_with (at_builtin; refine wpList_append_lies _ rfl _ _ 22 rfl w.heap.size 39 i0 z0 3 24 Try.underlying22 hi iz0 iz1 iz2 iz3 (by decide) _ _ _ rfl own4 ⟨w2.heap.size, 0, none⟩ 1 1 (rowC ⟨d, n, 0⟩) rfl rfl (World.news_of_block bx) (row_one _) (by decide) ?c3 hl z5 _ rfl ?_)
      case c3 => unfold maxLen; omega
      intro g2 cap2 w5 own5 hg hat hlt5
      have b6 := b5.grown hg z5 (fun k hk => (hlo k hk).1)
      rw [← hfs] at own5
      have hl1 : t.length + 1 = (t ++ [(⟨d, n, 0⟩ : Row)]).length := by simp
      have HO := Lib.hid (And.intro hl1 own5)
      clear own4 hg hat hlt5 hlo z5 b5 bx hfs own5 hl1
      go_wp2
      go_ret2
      rw [HR.out]
      exact ⟨⟨_, rfl, by rw [Option.getD_some, ← HO.out.1]; exact HO.out.2⟩, b6⟩
  · have HR := Lib.hid (set_at (n := n) ha)
    rw [idx_at ha]
    obtain ⟨g, cap2, rfl, hg1, hg2⟩ := hown.form (by have := ha.lt; omega)
    obtain ⟨s0, s1, s2⟩ := own_at hown ha.hk ha.lt
    have f2 := hown.frozenAt (k * 3 + 2)
    have HO := Lib.hid (And.intro (own_lim hown ha.hk n) (b1.setCell (p := ⟨g, k * 3 + 2, none⟩) hg1 (.int .u64 (n : Int))))
    have g0 : (k : Int) < (t.length : Int) := by have := ha.lt; omega
    have g3 : (k : Int) ≥ 0 := by omega
    clear hown b1 ha s0 s1
    go_wp2
    go_ret2
    rw [HR.out]
    exact ⟨⟨_, rfl, by rw [Option.getD_some, List.length_set]; exact HO.out.1⟩, HO.out.2⟩

set_option maxRecDepth 100000 in
set_option maxHeartbeats 4000000 in
theorem rTake_any (t : List Row) (hl : t.length * 24 ≤ 140737488355328) (hw : wide t) (d n : Nat) (hn : n < 18446744073709551616) (v : Value) (w : World) (hv : Tb w v t) :
    Calls Try.prog 11 #[v, .int .u64 (d : Int), .int .u64 (n : Int)] w fun e w' => TabEnd w (take_ t d n).1 (.int .i64 (take_ t d n).2) e w' ∧ Below w.heap.size w w' := by
  obtain ⟨i0, z0, hi, iz0, iz1, iz2, iz3⟩ := infoQuo
  have HF := fun v w (hv : Tb w v t) => find_any t (by omega) d v w hv
  have hfl := flat_len t
  have h1 := one_flat t
  have hl3 : 0 + t.length ≤ maxLen := by unfold maxLen; omega
  have hl4 : (0 + t.length) * 24 ≤ 140737488355328 := by omega
  have hvf := hv
  obtain ⟨a, cap, rfl⟩ := hvf.form
  rcases at_cases t d with ho | ⟨k, r, ha⟩
  · have HR := Lib.hid (take_off (n := n) ho)
    rw [idx_off ho] at HF
    clear ho
    go_enter Try.func11, Try.ntmps11
    go_wp2_with fail
    refine (HF _ _ hv).mono ?_
    rintro e w1 ⟨rfl, b⟩
    go_wp2
    go_ret2
    rw [HR.out]
    exact ⟨TabEnd.nil_ w _ _, b⟩
  · rw [idx_at ha] at HF
    have hrw := hw r (List.mem_of_getElem? ha.hk)
    have g0 : (k : Int) < (t.length : Int) := by have := ha.lt; omega
    have g3 : ¬ (k : Int) < 0 := by omega
    obtain ⟨q, hq, hq2⟩ : ∃ q : Nat, IntKind.u64.wrap ((r.used : Int) + (n : Int)) = (q : Int) ∧ ((q < n ∨ r.lim < q) ↔ r.lim < r.used + n) ∧ (¬ r.lim < r.used + n → q = r.used + n) := by
      obtain ⟨h1, h2, h3⟩ := hrw
      refine ⟨(r.used + n) % 18446744073709551616, by rw [IntKind.wrap_u64]; omega, ?_, ?_⟩
      · omega
      · omega
    clear hrw
    by_cases hov : r.lim < r.used + n
    · have HR := Lib.hid (take_over ha hov)
      have hq3 := hq2.1.2 hov
      clear hq2 hov
      go_enter Try.func11, Try.ntmps11
      go_wp2_with fail
      refine (HF _ _ hv).mono ?_
      rintro e w1 ⟨rfl, b⟩
      replace hv := hv.below b
      obtain ⟨ad, rfl, t0, t1, t2⟩ := hv.at_ ha.hk
      have HA := Lib.hid (And.intro hv ha)
      clear hv ha HF hvf t0
      generalize r.lim = y at *
      generalize r.used = x at *
      by_cases hqn : q < n
      · have g4 : (q : Int) < (n : Int) := by omega
        clear hq3 hqn
        go_wp2
        go_ret2
        rw [HR.out]
        exact ⟨TabEnd.nil_ w _ _, b⟩
      · have g4 : ¬ (q : Int) < (n : Int) := by omega
        have g5 : (q : Int) > (y : Int) := by omega
        clear hq3 hqn
        go_wp2
        go_ret2
        rw [HR.out]
        exact ⟨TabEnd.nil_ w _ _, b⟩
    · have HR := Lib.hid (take_at ha hov)
      have hq3 := hq2.2 hov
      have hq4 : ¬ (q < n ∨ r.lim < q) := fun h => hov (hq2.1.1 h)
      have g4 : ¬ (q : Int) < (n : Int) := by omega
      have g5 : ¬ (q : Int) > (r.lim : Int) := by omega
      have HQ := Lib.hid hq3
      clear hq2 hov hq4 hq3
      go_enter Try.func11, Try.ntmps11
      go_wp2_with fail
      refine (HF _ _ hv).mono ?_
      rintro e w1 ⟨rfl, b⟩
      replace hv := hv.below b
      obtain ⟨ad, rfl, t0, t1, t2⟩ := hv.at_ ha.hk
      clear hvf HF t0
      have hb := b.size
      have b0 := below_lit w1 (.cells #[] 39)
      have ow := own_base (World.ownsRow_made (base := w1.heap.size) (e := 39) (size := 3) w1 #[] 0 (Nat.le_refl _) (by unfold maxLen; omega) rfl) hb
      have hsrc := (hv.below b0).src
      have z9 : w.heap.size ≤ (w1.alloc (.cells #[] 39)).heap.size := Nat.le_trans hb b0.size
      go_wp2_with (at_builtin; refine Kit.wpList_append_rows rfl _ _ 22 rfl w.heap.size 39 i0 z0 3 24 Try.underlying22 hi iz0 iz1 iz2 iz3 (by decide) _ _ _ rfl ow _ t.length (flat t) rfl hsrc hfl h1 hl3 hl4 z9 ?_)
      intro c w2 hown hg
      have b1 := (b.trans (b0.mono hb)).grown hg z9 (fun k hk => (ow.lt k hk).1)
      replace hown : w2.ownsRow w.heap.size 39 3 c t.length (flat t) := by simpa using hown
      clear b0 ow hsrc z9 hg hfl h1 hl3 hl4 hv b t1 t2
      obtain ⟨g, cap2, rfl, hg1, hg2⟩ := hown.form (by have := ha.lt; omega)
      obtain ⟨s0, s1, s2⟩ := own_at hown ha.hk ha.lt
      have f2 := hown.frozenAt (k * 3 + 1)
      have HO := Lib.hid (And.intro (own_used hown ha.hk q) (b1.setCell (p := ⟨g, k * 3 + 1, none⟩) hg1 (.int .u64 (q : Int))))
      clear hown b1 ha s0 s2
      go_wp2
      go_ret2
      rw [HR.out]
      refine ⟨⟨_, rfl, ?_⟩, HO.out.2⟩
      rw [← HQ.out, List.length_set]
      exact HO.out.1

set_option maxRecDepth 100000 in
set_option maxHeartbeats 4000000 in
theorem rGive_any (t : List Row) (hl : t.length * 24 ≤ 140737488355328) (hw : wide t) (d n : Nat) (hn : n < 18446744073709551616) (v : Value) (w : World) (hv : Tb w v t) :
    Calls Try.prog 13 #[v, .int .u64 (d : Int), .int .u64 (n : Int)] w fun e w' => TabEnd w (give_ t d n).1 (.int .i64 (give_ t d n).2) e w' ∧ Below w.heap.size w w' := by
  obtain ⟨i0, z0, hi, iz0, iz1, iz2, iz3⟩ := infoQuo
  have HF := fun v w (hv : Tb w v t) => find_any t (by omega) d v w hv
  have hfl := flat_len t
  have h1 := one_flat t
  have hl3 : 0 + t.length ≤ maxLen := by unfold maxLen; omega
  have hl4 : (0 + t.length) * 24 ≤ 140737488355328 := by omega
  have hvf := hv
  obtain ⟨a, cap, rfl⟩ := hvf.form
  rcases at_cases t d with ho | ⟨k, r, ha⟩
  · have HR := Lib.hid (give_off (n := n) ho)
    rw [idx_off ho] at HF
    clear ho
    go_enter Try.func13, Try.ntmps13
    go_wp2_with fail
    refine (HF _ _ hv).mono ?_
    rintro e w1 ⟨rfl, b⟩
    go_wp2
    go_ret2
    rw [HR.out]
    exact ⟨TabEnd.nil_ w _ _, b⟩
  · rw [idx_at ha] at HF
    have hrw := hw r (List.mem_of_getElem? ha.hk)
    have g0 : (k : Int) < (t.length : Int) := by have := ha.lt; omega
    have g3 : ¬ (k : Int) < 0 := by omega
    have HR := Lib.hid (give_at (n := n) ha)
    have hv0 := hv
    go_enter Try.func13, Try.ntmps13
    go_wp2_with fail
    refine (HF _ _ hv).mono ?_
    rintro e w1 ⟨rfl, b⟩
    replace hv := hv.below b
    clear hvf HF
    have hb := b.size
    have b0 := below_lit w1 (.cells #[] 39)
    have ow := own_base (World.ownsRow_made (base := w1.heap.size) (e := 39) (size := 3) w1 #[] 0 (Nat.le_refl _) (by unfold maxLen; omega) rfl) hb
    have hsrc := (hv.below b0).src
    have z9 : w.heap.size ≤ (w1.alloc (.cells #[] 39)).heap.size := Nat.le_trans hb b0.size
    go_wp2_with (at_builtin; refine Kit.wpList_append_rows rfl _ _ 22 rfl w.heap.size 39 i0 z0 3 24 Try.underlying22 hi iz0 iz1 iz2 iz3 (by decide) _ _ _ rfl ow _ t.length (flat t) rfl hsrc hfl h1 hl3 hl4 z9 ?_)
    intro c w2 hown hg
    have b1 := (b.trans (b0.mono hb)).grown hg z9 (fun k hk => (ow.lt k hk).1)
    replace hown : w2.ownsRow w.heap.size 39 3 c t.length (flat t) := by simpa using hown
    obtain ⟨ad, rfl, t0, t1, t2⟩ := (hv0.below b1).at_ ha.hk
    clear b0 ow hsrc z9 hg hfl h1 hl3 hl4 hv hv0 b t0 t2
    obtain ⟨g, cap2, rfl, hg1, hg2⟩ := hown.form (by have := ha.lt; omega)
    obtain ⟨s0, s1, s2⟩ := own_at hown ha.hk ha.lt
    have f2 := hown.frozenAt (k * 3 + 1)
    have HO := Lib.hid (And.intro (own_used hown ha.hk (r.used - n)) (b1.setCell (p := ⟨g, k * 3 + 1, none⟩) hg1 (.int .u64 ((r.used - n : Nat) : Int))))
    clear hown b1 ha s0 s2
    by_cases hge : r.used ≤ n
    · have g4 : (n : Int) ≥ (r.used : Int) := by omega
      have EQ := Lib.hid (show ((r.used - n : Nat) : Int) = 0 by omega)
      clear hrw hge
      generalize r.used = x at *
      go_wp2
      go_ret2
      rw [HR.out]
      have HO2 := HO.out
      rw [EQ.out] at HO2
      exact ⟨⟨_, rfl, by rw [List.length_set]; exact HO2.1⟩, HO2.2⟩
    · have g4 : ¬ (n : Int) ≥ (r.used : Int) := by omega
      have g5 : IntKind.u64.wrap ((r.used : Int) - (n : Int)) = ((r.used - n : Nat) : Int) := by
        have := hrw.2.2
        rw [IntKind.wrap_u64]
        omega
      clear hrw hge
      generalize r.used - n = q at *
      generalize r.used = x at *
      go_wp2
      go_ret2
      rw [HR.out]
      exact ⟨⟨_, rfl, by rw [List.length_set]; exact HO.out.1⟩, HO.out.2⟩
end Quo
end Go.Proofs.Ytdiocnehejeldaa
