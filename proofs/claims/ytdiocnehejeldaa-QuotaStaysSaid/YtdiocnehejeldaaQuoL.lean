/-
  Package quota: find; the library: slices.IndexFunc, slices.Clone on tables.
-/
import Derived.Test.YtdiocnehejeldaaQuoW
import Derived.Test.YtdiocnehejeldaaBoxG
namespace Go.Proofs.Ytdiocnehejeldaa
open Go.RowKit
namespace Quo

set_option maxRecDepth 100000 in
set_option maxHeartbeats 1000000 in
theorem pFind1_any (x : Row) (b id : Nat) (w : World) (hb : Box b w #[.int .u64 (id : Int)] 23) :
    Calls Try.prog 31 #[.agg #[.int .u64 (x.ten : Int), .int .u64 (x.used : Int), .int .u64 (x.lim : Int)], .pointer (some ⟨b, 0, none⟩)] w fun e w' => e = .returned (.bool (decide (x.ten = id))) ∧ Below w.heap.size w w' := by
  have c0 := below_lit w (.cells #[.int .u64 (x.ten : Int), .int .u64 (x.used : Int), .int .u64 (x.lim : Int)] 39)
  have hb1 := (hb.below c0).cell (j := 0) rfl
  have e : decide (x.ten = id) = ((x.ten : Int) == (id : Int)) := by
    rw [Bool.eq_iff_iff]
    simp [Int.natCast_inj]
  rw [e]
  clear hb e
  go_enter Try.func31, Try.ntmps31
  go_wp2
  go_ret
  exact ⟨rfl, c0⟩

/-! ### slices.IndexFunc -/
set_option maxRecDepth 100000 in
set_option maxHeartbeats 2000000 in
theorem pIndex_any (l : List Row) (hl : l.length ≤ 9223372036854775807) (b id : Nat) (v : Value) (w : World) (hv : Tb w v l) (hb : Box b w #[.int .u64 (id : Int)] 23) :
    Calls Try.prog 30 #[v, .func (.func 31) #[] #[.pointer (some ⟨b, 0, none⟩)]] w fun e w' => e = .returned (.int .i64 (idx l id)) ∧ Below w.heap.size w w' := by
  obtain ⟨a, cap, rfl⟩ := hv.form
  go_enter Try.func30, Try.ntmps30
  go_wp2
  go_loopw [8] (fun vi wr => ∃ k : Nat, k ≤ l.length ∧ vi = .int .i64 (k : Int) ∧ Hid (∀ j, j < k → ∀ x : Row, l[j]? = some x → x.ten ≠ id) ∧ Below w.heap.size w wr) (fun vi _ => l.length - (intOf vi).toNat)
  case atStart => exact ⟨0, Nat.zero_le _, rfl, Lib.hid (fun j hj => absurd hj (Nat.not_lt_zero j)), Below.refl _ _⟩
  case round =>
    obtain ⟨k, hk, rfl, Hno, hB⟩ := hrel
    by_cases hlt : k < l.length
    · have hlt2 : (k : Int) < (l.length : Int) := by omega
      obtain ⟨x, hx⟩ : ∃ x, l[k]? = some x := ⟨_, List.getElem?_eq_getElem hlt⟩
      obtain ⟨ad, rfl, t0, t1, t2⟩ := (hv.below hB).at_ hx
      have HC := pFind1_any x b id wr (hb.below hB)
      have Hx := Lib.hid hx
      have HV := Lib.hid (And.intro hv hb)
      have e3 : wrap64 ((k : Int) + 1) = (k : Int) + 1 := by unfold wrap64; omega
      clear hx hv hb
      by_cases he : x.ten = id
      · have EI := Lib.hid (idx_at (show At l id k x from ⟨Hx.out, he, Hno.out⟩))
        rw [decide_eq_true he] at HC
        clear he
        go_wp2_with fail
        refine HC.mono ?_
        rintro e w3 ⟨rfl, b3⟩
        have fin := hB.trans (b3.mono hB.size)
        clear HC b3
        go_wp2
        go_ret
        exact ⟨by rw [EI.out]; rfl, fin⟩
      · have Hno2 : Hid (∀ j, j < k + 1 → ∀ x : Row, l[j]? = some x → x.ten ≠ id) := Lib.hid fun j hj y hy => by
          rcases Nat.lt_or_ge j k with h | h
          · exact Hno.out j h y hy
          · obtain rfl : j = k := by omega
            rw [Hx.out] at hy
            injection hy with hy
            rw [← hy]
            exact he
        rw [decide_eq_false he] at HC
        clear he
        go_wp2_with fail
        refine HC.mono ?_
        rintro e w3 ⟨rfl, b3⟩
        have fin := hB.trans (b3.mono hB.size)
        clear HC b3
        go_wp2
        go_roundw
        case rel => exact ⟨k + 1, hlt, by go_num, Hno2, fin⟩
        case measure =>
          have l5 : (intOf (.int .i64 ((k : Int) + 1))).toNat = k + 1 := rfl
          have l6 : (intOf (.int .i64 (k : Int))).toNat = k := rfl
          have l7 : (intOf (.int .i64 (wrap64 ((k : Int) + 1)))).toNat = k + 1 := by rw [e3]; rfl
          first | rw [l5, l6] | rw [l7, l6]
          exact Nat.sub_lt_sub_left hlt (Nat.lt_succ_self k)
    · obtain rfl : k = l.length := by omega
      have EI : Hid (idx l id = -1) := Lib.hid (idx_off (t := l) (d := id) fun j x hx => Hno.out j (List.getElem?_eq_some_iff.1 hx).1 x hx)
      have hd1 : ¬ (l.length : Int) < (l.length : Int) := by omega
      clear hlt
      go_wp2
      go_ret
      exact ⟨by rw [EI.out]; rfl, hB⟩

/-! ### slices.Clone -/
set_option maxRecDepth 100000 in
set_option maxHeartbeats 2000000 in
theorem pClone_any (l : List Row) (hl : l.length * 24 ≤ 140737488355328) (v : Value) (w : World) (hv : Tb w v l) :
    Calls Try.prog 24 #[v] w fun e w' => ∃ v', e = .returned v' ∧ w'.ownsRow w.heap.size 39 3 v' l.length (flat l) ∧ Below w.heap.size w w' := by
  obtain ⟨i0, z0, hi, iz0, iz1, iz2, iz3⟩ := infoQuo
  have qT := fun (w : World) (a : Option Addr) (n c : Nat) => Lib.run_eql_slice_nil (P := Try.prog) w 22 39 a n c 0 0 Try.underlying22
  rcases hv with ⟨rfl, rfl⟩ | ⟨ad, cap, rfl, hc⟩
  · go_enter Try.func24, Try.ntmps24
    go_wp2
    go_ret
    exact ⟨_, rfl, ⟨by simp [flat], .inl ⟨rfl, rfl⟩⟩, Below.refl _ _⟩
  · have b0 := below_lit w (.cells #[] 39)
    have ow := World.ownsRow_made (base := w.heap.size) (e := 39) (size := 3) w #[] 0 (Nat.le_refl _) (by unfold maxLen; omega) rfl
    have hc1 : ∀ j u, (flat l)[j]? = some u → (w.alloc (.cells #[] 39)).cell? (ad.add j) = some u := fun j u hu => by
      have h1 := hc j u hu
      rw [b0.cell (World.block_lt_of_cell? _ _ h1)]
      exact h1
    have hfl := flat_len l
    have h1 := one_flat l
    have HF : Hid (l.length = l.length) := Lib.hid rfl
    go_enter Try.func24, Try.ntmps24
    go_wp2_with (at_builtin; refine wpList_append_own _ rfl _ _ 22 rfl w.heap.size 39 i0 z0 3 24 Try.underlying22 hi iz0 iz1 iz2 iz3 (by decide) _ _ _ rfl ow ad l.length cap (flat l) rfl hfl hc1 h1 ?c3 ?c4 (by simp) ?_)
    case c3 => unfold maxLen; omega
    intro v' w' hown hg hnil
    have fin := b0.grown hg (by simp) (fun k hk => (ow.lt k hk).1)
    go_wp2
    go_ret
    exact ⟨_, rfl, by simpa using hown, fin⟩

/-! ### find -/
set_option maxRecDepth 100000 in
set_option maxHeartbeats 1000000 in
theorem pFind_any (l : List Row) (hl : l.length ≤ 9223372036854775807) (id : Nat) (v : Value) (w : World) (hv : Tb w v l) :
    Calls Try.prog 23 #[v, .int .u64 (id : Int)] w fun e w' => e = .returned (.int .i64 (idx l id)) ∧ Below w.heap.size w w' := by
  have c0 := below_lit w (.cells #[.int .u64 (id : Int)] 23)
  have b0 := Box.new w #[.int .u64 (id : Int)] 23
  have HI := pIndex_any l hl _ id v _ (hv.below c0) b0
  obtain ⟨a, cap, rfl⟩ := hv.form
  clear hv b0
  go_enter Try.func23, Try.ntmps23
  go_wp2_with fail
  refine HI.mono ?_
  rintro e w3 ⟨rfl, b3⟩
  have fin := c0.trans (b3.mono c0.size)
  clear HI b3 c0
  go_wp2
  go_ret
  exact ⟨rfl, fin⟩
end Quo
end Go.Proofs.Ytdiocnehejeldaa
