/-
  Package session: of and its closure; the library: slices.IndexFunc, slices.Clone on tables.
-/
import Derived.Test.YtjjpmmokgcfkdaaSesK
import Derived.Lib.Hide
namespace Go.Proofs.Ytjjpmmokgcfkdaa
open Go.RowKit
namespace Ses

/-! ### Where a session stands -/
def idx (l : List Row) (id : Nat) : Int := match l.findIdx? (fun r => decide (r.id = id)) with
  | none => -1
  | some k => (k : Int)
theorem idx_none {l : List Row} {id : Nat} (h : ∀ (j : Nat) (x : Row), l[j]? = some x → x.id ≠ id) : idx l id = -1 := by
  have e : l.findIdx? (fun r => decide (r.id = id)) = none := by
    rw [List.findIdx?_eq_none_iff]
    intro x hx
    obtain ⟨j, hj⟩ := List.mem_iff_getElem?.1 hx
    simpa using h j x hj
  unfold idx
  rw [e]
theorem idx_at {l : List Row} {id k : Nat} {r : Row} (hk : l[k]? = some r) (hr : r.id = id) (h : ∀ j, j < k → ∀ x : Row, l[j]? = some x → x.id ≠ id) : idx l id = (k : Int) := by
  have hlt := (List.getElem?_eq_some_iff.1 hk).1
  have e : l.findIdx? (fun r => decide (r.id = id)) = some k := by
    rw [List.findIdx?_eq_some_iff_getElem]
    have hg : l[k] = r := (List.getElem?_eq_some_iff.1 hk).2
    refine ⟨hlt, by rw [hg]; simpa using hr, fun j hj => ?_⟩
    have := h j hj l[j] (List.getElem?_eq_getElem (by omega))
    simpa using this
  unfold idx
  rw [e]
theorem idx_cases (l : List Row) (id : Nat) : (idx l id = -1 ∧ ∀ (j : Nat) (x : Row), l[j]? = some x → x.id ≠ id) ∨
    ∃ (k : Nat) (r : Row), idx l id = (k : Int) ∧ l[k]? = some r ∧ r.id = id ∧ ∀ j, j < k → ∀ x : Row, l[j]? = some x → x.id ≠ id := by
  induction l with
  | nil => exact .inl ⟨rfl, fun j x h => by simp at h⟩
  | cons y l ih =>
    by_cases hy : y.id = id
    · exact .inr ⟨0, y, idx_at rfl hy (fun j hj => absurd hj (Nat.not_lt_zero j)), rfl, hy, fun j hj => absurd hj (Nat.not_lt_zero j)⟩
    · rcases ih with ⟨_, h⟩ | ⟨k, r, _, hk, hr, h⟩
      · have h' : ∀ (j : Nat) (x : Row), (y :: l)[j]? = some x → x.id ≠ id := fun j x hx => by
          cases j with
          | zero => simp at hx; rw [← hx]; exact hy
          | succ j => exact h j x (by simpa using hx)
        exact .inl ⟨idx_none h', h'⟩
      · have h' : ∀ j, j < k + 1 → ∀ x : Row, (y :: l)[j]? = some x → x.id ≠ id := fun j hj x hx => by
          cases j with
          | zero => simp at hx; rw [← hx]; exact hy
          | succ j => exact h j (by omega) x (by simpa using hx)
        exact .inr ⟨k + 1, r, idx_at (by simpa using hk) hr h', by simpa using hk, hr, h'⟩

/-! ### of -/
set_option maxRecDepth 100000 in
set_option maxHeartbeats 1000000 in
theorem of1_any (x : Row) (b id : Nat) (w : World) (hb : Box b w #[.int .u64 (id : Int)] 23) :
    Calls Try.prog 33 #[.agg #[.int .u64 (x.id : Int), .int .u64 (x.num : Int), .string x.ans], .pointer (some ⟨b, 0, none⟩)] w fun e w' => e = .returned (.bool (decide (x.id = id))) ∧ Below w.heap.size w w' := by
  have c0 := below_lit w (.cells #[.int .u64 (x.id : Int), .int .u64 (x.num : Int), .string x.ans] 25)
  have hb1 := (hb.below c0).cell (j := 0) rfl
  have e : decide (x.id = id) = ((x.id : Int) == (id : Int)) := by
    rw [Bool.eq_iff_iff]
    simp [Int.natCast_inj]
  rw [e]
  clear hb e
  go_enter Try.func33, Try.ntmps33
  go_wp2
  go_ret
  exact ⟨rfl, c0⟩
set_option maxRecDepth 100000 in
set_option maxHeartbeats 1000000 in
theorem of_any (id : Nat) (w : World) :
    Calls Try.prog 22 #[.int .u64 (id : Int)] w fun e w' => ∃ b, e = .returned (.func (.func 33) #[] #[.pointer (some ⟨b, 0, none⟩)]) ∧ Box b w' #[.int .u64 (id : Int)] 23 ∧ w.heap.size ≤ b ∧ Below w.heap.size w w' := by
  have c0 := below_lit w (.cells #[.int .u64 (id : Int)] 23)
  have b0 := Box.new w #[.int .u64 (id : Int)] 23
  go_enter Try.func22, Try.ntmps22
  go_wp2
  go_ret
  exact ⟨_, rfl, b0, Nat.le_refl _, c0⟩

/-! ### slices.IndexFunc -/
set_option maxRecDepth 100000 in
set_option maxHeartbeats 2000000 in
theorem index_any (l : List Row) (hl : l.length ≤ 9223372036854775807) (b id : Nat) (v : Value) (w : World) (hv : Tb w v l) (hb : Box b w #[.int .u64 (id : Int)] 23) :
    Calls Try.prog 21 #[v, .func (.func 33) #[] #[.pointer (some ⟨b, 0, none⟩)]] w fun e w' => e = .returned (.int .i64 (idx l id)) ∧ Below w.heap.size w w' := by
  obtain ⟨a, cap, rfl⟩ := hv.form
  go_enter Try.func21, Try.ntmps21
  go_wp2
  go_loopw [8] (fun vi wr => ∃ k : Nat, k ≤ l.length ∧ vi = .int .i64 (k : Int) ∧ Hid (∀ j, j < k → ∀ x : Row, l[j]? = some x → x.id ≠ id) ∧ Below w.heap.size w wr) (fun vi _ => l.length - (intOf vi).toNat)
  case atStart => exact ⟨0, Nat.zero_le _, rfl, Lib.hid (fun j hj => absurd hj (Nat.not_lt_zero j)), Below.refl _ _⟩
  case round =>
    obtain ⟨k, hk, rfl, Hno, hB⟩ := hrel
    by_cases hlt : k < l.length
    · have hlt2 : (k : Int) < (l.length : Int) := by omega
      obtain ⟨x, hx⟩ : ∃ x, l[k]? = some x := ⟨_, List.getElem?_eq_getElem hlt⟩
      obtain ⟨ad, rfl, t0, t1, t2⟩ := (hv.below hB).at_ hx
      have HC := of1_any x b id wr (hb.below hB)
      have Hx := Lib.hid hx
      have HV := Lib.hid (And.intro hv hb)
      have e3 : wrap64 ((k : Int) + 1) = (k : Int) + 1 := by unfold wrap64; omega
      clear hx hv hb
      by_cases he : x.id = id
      · have EI := Lib.hid (idx_at Hx.out he Hno.out)
        rw [decide_eq_true he] at HC
        clear he
        go_wp2_with fail
        refine HC.mono ?_
        rintro e w3 ⟨rfl, b3⟩
        have fin := hB.trans (b3.mono hB.size)
        clear HC b3
        go_wp2
        go_ret
        exact ⟨by rw [EI.out]; rfl, fin⟩
      · have Hno2 : Hid (∀ j, j < k + 1 → ∀ x : Row, l[j]? = some x → x.id ≠ id) := Lib.hid fun j hj y hy => by
          rcases Nat.lt_or_ge j k with h | h
          · exact Hno.out j h y hy
          · obtain rfl : j = k := by omega
            rw [Hx.out] at hy
            injection hy with hy
            rw [← hy]
            exact he
        rw [decide_eq_false he] at HC
        clear he
        go_wp2_with fail
        refine HC.mono ?_
        rintro e w3 ⟨rfl, b3⟩
        have fin := hB.trans (b3.mono hB.size)
        clear HC b3
        go_wp2
        go_roundw
        case rel => exact ⟨k + 1, hlt, by go_num, Hno2, fin⟩
        case measure =>
          have l5 : (intOf (.int .i64 ((k : Int) + 1))).toNat = k + 1 := rfl
          have l6 : (intOf (.int .i64 (k : Int))).toNat = k := rfl
          have l7 : (intOf (.int .i64 (wrap64 ((k : Int) + 1)))).toNat = k + 1 := by rw [e3]; rfl
          first | rw [l5, l6] | rw [l7, l6]
          exact Nat.sub_lt_sub_left hlt (Nat.lt_succ_self k)
    · obtain rfl : k = l.length := by omega
      have EI : Hid (idx l id = -1) := Lib.hid (idx_none fun j x hx => Hno.out j (List.getElem?_eq_some_iff.1 hx).1 x hx)
      have hd1 : ¬ (l.length : Int) < (l.length : Int) := by omega
      clear hlt
      go_wp2
      go_ret
      exact ⟨by rw [EI.out]; rfl, hB⟩

/-! ### slices.Clone -/
set_option maxRecDepth 100000 in
set_option maxHeartbeats 2000000 in
theorem clone_any (l : List Row) (hl : l.length * 32 ≤ 140737488355328) (v : Value) (w : World) (hv : Tb w v l) :
    Calls Try.prog 24 #[v] w fun e w' => ∃ v', e = .returned v' ∧ w'.ownsRow w.heap.size 25 3 v' l.length (flat l) ∧ Below w.heap.size w w' := by
  obtain ⟨i0, z0, hi, iz0, iz1, iz2, iz3⟩ := infoSes
  have qT := fun (w : World) (a : Option Addr) (n c : Nat) => Lib.run_eql_slice_nil (P := Try.prog) w 22 25 a n c 0 0 Try.underlying22
  rcases hv with ⟨rfl, rfl⟩ | ⟨ad, cap, rfl, hc⟩
  · go_enter Try.func24, Try.ntmps24
    go_wp2
    go_ret
    exact ⟨_, rfl, ⟨by simp [flat], .inl ⟨rfl, rfl⟩⟩, Below.refl _ _⟩
  · have b0 := below_lit w (.cells #[] 25)
    have ow := World.ownsRow_made (base := w.heap.size) (e := 25) (size := 3) w #[] 0 (Nat.le_refl _) (by unfold maxLen; omega) rfl
    have hc1 : ∀ j u, (flat l)[j]? = some u → (w.alloc (.cells #[] 25)).cell? (ad.add j) = some u := fun j u hu => by
      have h1 := hc j u hu
      rw [b0.cell (World.block_lt_of_cell? _ _ h1)]
      exact h1
    have hfl := flat_len l
    have h1 := one_flat l
    have HF : Hid (l.length = l.length) := Lib.hid rfl
    go_enter Try.func24, Try.ntmps24
    go_wp2_with (at_builtin; refine wpList_append_own _ rfl _ _ 22 rfl w.heap.size 25 i0 z0 3 32 Try.underlying22 hi iz0 iz1 iz2 iz3 (by decide) _ _ _ rfl ow ad l.length cap (flat l) rfl hfl hc1 h1 ?c3 ?c4 (by simp) ?_)
    case c3 => unfold maxLen; omega
    intro v' w' hown hg hnil
    have fin := b0.grown hg (by simp) (fun k hk => (ow.lt k hk).1)
    go_wp2
    go_ret
    exact ⟨_, rfl, by simpa using hown, fin⟩
end Ses
end Go.Proofs.Ytjjpmmokgcfkdaa
