/-
  Package merkle: Build.
-/
import Derived.Test.YtllbcnficlbobaaMerC
import Derived.Test.YtllbcnficlbobaaMerF
namespace Go.Proofs.Ytllbcnficlbobaa
open Go.RowKit
open Ideal Ida Mer

namespace Kit
theorem rows_ne {w : World} {B B' : Nat} {e e' : TypeId} {v v' : Value} {n n' : Nat} {xs xs' : List Value} (h : w.ownsRow B e 1 v n xs) (h' : w.ownsRow B' e' 1 v' n' xs') (hne : e ≠ e') : v.ownBlock = none ∨ v.ownBlock ≠ v'.ownBlock := by
  rcases h.2 with ⟨rfl, -⟩ | ⟨g, cap, cur, rfl, -, hg, -⟩
  · exact .inl rfl
  · refine .inr fun eq => ?_
    rcases h'.2 with ⟨rfl, -⟩ | ⟨g', cap', cur', rfl, -, hg', -⟩
    · simp [Value.ownBlock] at eq
    · obtain rfl : g = g' := by simpa [Value.ownBlock] using eq
      rw [hg] at hg'
      simp only [Option.some.injEq, Obj.cells.injEq] at hg'
      exact hne hg'.2.1
end Kit

namespace Mera
theorem own_mono {w : World} {B B' : Nat} {e : TypeId} {z : Nat} {v : Value} {n : Nat} {xs : List Value} (h : w.ownsRow B e z v n xs) (hb : B' ≤ B) : w.ownsRow B' e z v n xs :=
  ⟨h.1, h.2.imp id (fun ⟨g, cap, cur, e1, h2, r⟩ => ⟨g, cap, cur, e1, Nat.le_trans hb h2, r⟩)⟩
theorem own_one {w : World} {B : Nat} {e : TypeId} {v : Value} {n : Nat} {xs : List Value} (h : w.ownsRow B e 1 v n xs) : v.oneCell' = true := by
  rcases h.2 with ⟨rfl, -⟩ | ⟨g, cap, cur, rfl, -⟩ <;> rfl
/-- The levels so far, each its own row. -/
def Lvs (w0 : Nat) (O : Or) (ls : List ByteArray) (d : Nat) (vs : List Value) (w : World) : Prop := ∀ (j : Nat) (x : Value), vs[j]? = some x → w.ownsRow w0 42 1 x (2 ^ (d - j)) (nums (O.lv ls d j).2)
section
variable {w0 : Nat} {O : Or} {ls : List ByteArray} {d : Nat} {vs : List Value} {w w' : World}
theorem Lvs.but {S : Nat → Prop} (h : Lvs w0 O ls d vs w) (b : Kit.But S w w') (hs : ∀ i, S i → i < w0) : Lvs w0 O ls d vs w' := fun j x hx => Kit.own_but (h j x hx) b hs
theorem Lvs.grown {lit : Obj} {B : Nat} {v : Value} {n : Nat} {xs : List Value} (h : Lvs w0 O ls d vs w) (hown : w.ownsRow B 22 1 v n xs) (hg : (w.alloc lit).grownBy w' v.ownBlock) : Lvs w0 O ls d vs w' := fun j x hx =>
  ((h j x hx).alloc lit).kept hg (Kit.rows_ne (h j x hx) hown (by decide))
theorem Lvs.alloc (h : Lvs w0 O ls d vs w) (o : Obj) : Lvs w0 O ls d vs (w.alloc o) := fun j x hx => (h j x hx).alloc o
theorem Lvs.snoc {x : Value} {k : Nat} (h : Lvs w0 O ls d vs w) (hk : vs.length = k) (hx : w.ownsRow w0 42 1 x (2 ^ (d - k)) (nums (O.lv ls d k).2)) : Lvs w0 O ls d (vs ++ [x]) w := fun j y hy => by
  subst hk
  rcases Nat.lt_trichotomy j vs.length with hj | rfl | hj
  · rw [List.getElem?_append_left hj] at hy
    exact h j y hy
  · simp at hy
    subst hy
    exact hx
  · rw [List.getElem?_eq_none (by simp; omega)] at hy
    cases hy
theorem Lvs.tree {v : Value} (h : Lvs w0 O ls d vs w) (hl : vs.length = d + 1) (hown : w.ownsRow w0 22 1 v (d + 1) vs) : Kit.Tr (· < w0) w v (O.tree ls d) := by
  refine ⟨vs, Kit.Off.of_own hown (fun i hi => hi), by simp [hl], fun k x l hx hl2 => ?_⟩
  have hk : k < d + 1 := by
    have := (List.getElem?_eq_some_iff.1 hx).1
    omega
  have e : l = (O.lv ls d k).2 := by
    unfold Or.tree at hl2
    rw [List.getElem?_map, List.getElem?_range hk] at hl2
    exact (Option.some.inj hl2).symm
  subst e
  exact Kit.Off.of_own (h k x hx) (fun i hi => hi)
end

set_option maxRecDepth 100000 in
set_option maxHeartbeats 4000000 in
theorem build_no {L : Lay} {O : Or} {w : World} (_h : Orc w L O) (d : Int) (hd1 : -9223372036854775808 ≤ d) (hd2 : d ≤ 9223372036854775807) (ls : List ByteArray) (hd : ¬ (0 ≤ d ∧ d ≤ 8 ∧ ls.length ≤ 2 ^ d.toNat)) (v : Value) (hv : Kit.Rd w v (strs ls)) :
    Calls Try.prog 11 #[ptr L, .int .i64 d, v] w fun e w' => e = .returned (.tuple #[.slice none 0 0, .bool false]) ∧ Below w.heap.size w w' := by
  obtain ⟨a, cap, rfl⟩ := hv.form
  rw [show (strs ls).length = ls.length by simp [strs]]
  clear hv _h
  by_cases h0 : d < 0
  · have e1 : decide (d < 0) = true := decide_eq_true h0
    clear hd hd1 hd2 h0
    go_enter Try.func11, Try.ntmps11
    go_wp2
    go_ret2
    exact ⟨rfl, Below.refl _ _⟩
  · by_cases h8 : d > 8
    · have e1 : decide (d < 0) = false := decide_eq_false h0
      have e2 : decide (d > 8) = true := decide_eq_true h8
      clear hd hd1 hd2 h0 h8
      go_enter Try.func11, Try.ntmps11
      go_wp2
      go_ret2
      exact ⟨rfl, Below.refl _ _⟩
    · obtain ⟨n, rfl⟩ : ∃ n : Nat, d = (n : Int) := ⟨d.toNat, by omega⟩
      have hn : n ≤ 8 := by omega
      have hl : 2 ^ n < ls.length := by
        rcases Nat.lt_or_ge (2 ^ n) ls.length with h | h
        · exact h
        · exact absurd ⟨by omega, by omega, by simpa using h⟩ hd
      have e2 : decide ((n : Int) > 8) = false := decide_eq_false (by omega)
      have e3 : decide (8 < n) = false := decide_eq_false (by omega)
      have e6 := wrap_pow hn
      have e7 := wrap_pow2 hn
      generalize 2 ^ n = p at *
      have e4 : decide ((ls.length : Int) > (p : Int)) = true := decide_eq_true (by omega)
      have e5 : decide (p < ls.length) = true := decide_eq_true hl
      have hn64 : n ≤ 64 := by omega
      clear hd hd1 hd2 h0 h8 hl hn
      go_enter Try.func11, Try.ntmps11
      go_wp2
      go_ret2
      exact ⟨rfl, Below.refl _ _⟩

set_option maxRecDepth 100000 in
set_option maxHeartbeats 8000000 in
theorem build_yes {L : Lay} {O : Or} {w : World} (h : Orc w L O) (hn : O.rows.length + 1024 < 1152921504606846976) (d : Nat) (hd : d ≤ 8) (ls : List ByteArray) (hls : ∀ t ∈ ls, t.size + 4 ≤ maxLen) (hl : ls.length ≤ 2 ^ d) (v : Value) (hv : Kit.Off L.own w v (strs ls)) :
    Calls Try.prog 11 #[ptr L, .int .i64 (d : Int), v] w fun e w' => ∃ v', e = .returned (.tuple #[v', .bool true]) ∧ Kit.Tr (· < w.heap.size) w' v' (O.tree ls d) ∧ Orc w' L (O.built ls d) ∧ Kit.But L.own w w' := by
  obtain ⟨a, cap, rfl, -, -⟩ := hv.form
  rw [show (strs ls).length = ls.length by simp [strs]] at hv ⊢
  obtain ⟨i0, hi, hz0, hz1, hz2⟩ := info_parts infoU64
  obtain ⟨i1, hi1, hy0, hy1, hy2⟩ := info_parts infoNums
  have e6 := wrap_pow hd
  have e7 := wrap_pow2 hd
  have hp8 := Or.pow_le hd
  obtain ⟨p, hp⟩ : ∃ p, p = 2 ^ d := ⟨_, rfl⟩
  have hown : ∀ i, L.own i → i < w.heap.size := fun i hi => h.lt hi
  rw [← hp] at e6 e7 hl hp8
  have e1 : decide ((d : Int) < 0) = false := decide_eq_false (by omega)
  have e2 : decide ((d : Int) > 8) = false := decide_eq_false (by omega)
  have e3 : decide (8 < d) = false := decide_eq_false (by omega)
  have e4 : decide ((ls.length : Int) > (p : Int)) = false := decide_eq_false (by omega)
  have e5 : decide (p < ls.length) = false := decide_eq_false (by omega)
  have hls2 : ∀ k, (ls.getD k .empty).size + 4 ≤ maxLen := fun k => by
    rw [List.getD_eq_getElem?_getD]
    cases hk : ls[k]? with
    | none => decide
    | some t => exact hls t (List.mem_of_getElem? hk)
  have Hf := Lib.hid h.2
  have Hh := Lib.hid h
  have Hn := Lib.hid hn
  have Hp := Lib.hid hp
  have Hls := Lib.hid hls2
  have Hl := Lib.hid hl
  have hN : (botT ls p).length = p := by simp
  have HN := Lib.hid hN
  have hd64 : d ≤ 64 := by omega
  clear hn hp hls hls2 hN hl
  go_enter Try.func11, Try.ntmps11
  go_wp2
  rw [e7]
  clear e6 e7
  go_loopw [8, 26] (fun vl vi wr => ∃ k : Nat, k ≤ p ∧ vi = .int .i64 (k : Int) ∧ wr.ownsRow w.heap.size 42 1 vl k (nums (O.vals ((botT ls p).take k))) ∧ Orc wr L (O.asks ((botT ls p).take k)) ∧ Kit.But L.own w wr) (fun _ vi _ => p - (intOf vi).toNat)
  case atStart => exact ⟨0, Nat.zero_le _, rfl, World.ownsRow_nil _ _ _ _, h, Kit.But.refl _ _⟩
  case round =>
    obtain ⟨k, hk, rfl, hrow, ho, hb⟩ := hrel
    clear h
    by_cases hlt : k < p
    · have hlt2 : (k : Int) < (p : Int) := by omega
      have hkN : k < (botT ls p).length := by rw [HN.out]; exact hlt
      have ev := Or.vals_take (O := O) hkN
      have ea := Or.asks_take (O := O) hkN
      have eb : (botT ls p)[k] = leafT (ls.getD k .empty) := botT_at hlt
      rw [eb] at ev ea
      have hln := Or.len_asks ((botT ls p).take k) O
      have htl : ((botT ls p).take k).length = k := by rw [List.length_take, HN.out]; omega
      have HT := fun w' (hv : Kit.Rd w' (.slice a ls.length cap) (strs ls)) => text_any ls k _ w' hv
      have HL := fun w' (h : Orc w' L (O.asks ((botT ls p).take k))) => leaf_any h (by have := Hn.out; omega) (ls.getD k .empty) (Hls.out k)
      have hm : maxLen = 9223372036854775807 := rfl
      have hl1 : k + 1 ≤ maxLen := by omega
      have hl2 : (k + 1) * 8 ≤ 140737488355328 := by omega
      have Ev := Lib.hid ev
      have Ea := Lib.hid ea
      have hdd : (O.asks ((botT ls p).take k)).draws = O.draws := Or.draws_asks _ _
      generalize O.vals ((botT ls p).take k) = vs at *
      generalize O.asks ((botT ls p).take k) = O1 at *
      generalize ls.getD k .empty = t at *
      have hdd2 : (O1.ask (qh (leafT t))).draws = O.draws := (Or.draws_ask1 _ _).trans hdd
      generalize O1.val (qh (leafT t)) = c at *
      generalize O1.ask (qh (leafT t)) = O2 at *
      clear ev ea eb hln htl hm hdd hkN
      have HT1 := HT _ (hv.but hb).rd
      clear HT
      go_wp2_with fail
      refine HT1.mono ?_
      rintro e w1 ⟨rfl, b1⟩
      replace ho := ho.below b1
      replace hb := hb.trans (Kit.But.of_below b1 (Nat.le_refl _) L.own)
      replace hrow := Kit.own_below hrow b1
      have HL1 := HL _ ho
      clear HT1 HL b1 ho
      go_wp2_with fail
      refine HL1.mono ?_
      rintro e w2 ⟨rfl, ho, b2⟩
      replace hb := hb.trans b2
      replace hrow := Kit.own_but hrow b2 hown
      have hz := hb.size
      clear HL1 b2
      go_wp2_with (at_builtin; refine Kit.wpList_append_one rfl _ _ 22 rfl w.heap.size 42 i0 (.int .u64 0) 8 Try.underlying22 hi hz0 hz1 hz2 rfl _ _ _ rfl hrow (.int .u64 (c : Int)) 42 rfl rfl hl1 hl2 hz ?_)
      intro v' w3 hrow3 b3 _
      have ho3 := ho.far Hh.out hdd2 b3
      have hb3 := hb.low b3
      go_wp2
      go_roundw
      case rel => exact ⟨k + 1, hlt, by go_num, by rw [Ev.out, nums_snoc1]; exact hrow3, by rw [Ea.out]; exact ho3, hb3⟩
      case measure =>
        clear e1 e2 e3 e4 e5
        simp [intOf]
        omega
    · obtain rfl : k = p := by omega
      have hd1 : decide ((k : Int) < (k : Int)) = false := by rw [decide_eq_false_iff_not]; omega
      rw [List.take_of_length_le (by rw [HN.out]; omega)] at hrow ho
      have el : O.lv ls d 0 = (O.asks (botT ls k), O.vals (botT ls k)) := by rw [Hp.out]; rfl
      obtain ⟨al, cl, rfl⟩ := Kit.own_form hrow
      have hrow0 : wr.ownsRow w.heap.size 42 1 (.slice al k cl) (2 ^ (d - 0)) (nums (O.lv ls d 0).2) := by rw [el, Nat.sub_zero, ← Hp.out]; exact hrow
      have ho0 : Orc wr L (O.lv ls d 0).1 := by rw [el]; exact ho
      have hz := hb.size
      have hT0 := World.ownsRow_lit (base := w.heap.size) (e := 22) (size := 1) wr #[.slice al k cl] 1 hz (by decide) rfl
      have hL0 : Lvs w.heap.size O ls d [.slice al k cl] (wr.alloc (.cells #[.slice al k cl] 22)) := fun j x hx => by
        match j, hx with
        | 0, hx =>
          simp at hx
          subst hx
          exact hrow0.alloc _
        | j + 1, hx => simp at hx
      have ho1 := ho0.alloc (.cells #[.slice al k cl] 22)
      have hb1 := hb.alloc (.cells #[.slice al k cl] 22)
      clear el hrow ho ho0 hrow0 hb hz hlt
      go_wp2
      go_loopw [8, 10, 41] (fun vl vt vi wr => ∃ (k : Nat) (vs : List Value), k ≤ d ∧ vi = .int .i64 (k : Int) ∧ vs.length = k + 1 ∧ vs[k]? = some vl ∧ Lvs w.heap.size O ls d vs wr ∧ wr.ownsRow w.heap.size 22 1 vt (k + 1) vs ∧ Orc wr L (O.lv ls d k).1 ∧ Kit.But L.own w wr) (fun _ _ vi _ => d - (intOf vi).toNat)
      case atStart => exact ⟨0, [.slice al k cl], Nat.zero_le _, rfl, rfl, rfl, hL0, hT0, ho1, hb1⟩
      case round =>
        obtain ⟨k, vs, hk, rfl, hvl, hvk, hL, hT, ho, hb⟩ := hrel
        clear hL0 hT0 ho1 hb1
        by_cases hlt : k < d
        · have hlt2 : (k : Int) < (d : Int) := by omega
          obtain ⟨ta, tc, rfl⟩ := Kit.own_form hT
          have hrk := hL k _ hvk
          have hlv := Or.lv_length (O := O) ls d k (by omega)
          have hpw : 2 ^ (d - k) = 2 * 2 ^ (d - (k + 1)) := by rw [← Nat.pow_succ']; congr 1; omega
          have hm1 : 1 ≤ 2 ^ (d - (k + 1)) := Nat.one_le_two_pow
          have hm2 : 2 ^ (d - (k + 1)) ≤ 256 := Or.pow_le (by omega)
          have hfe := Or.lv_fine Hf.out ls (d := d) (by omega) Hn.out k (by omega)
          have hfw := Or.lv_few (O := O) ls (d := d) (by omega) (k := k) (by omega)
          have HA := above_any ho (O.lv ls d k).2 (2 ^ (d - (k + 1))) (hlv.trans hpw) hm1 (by omega) hfe.2 (by have := Hn.out; omega) _ (Kit.Off.of_own hrk hown)
          have e1' : (O.lv ls d k).1.asks (upT (O.lv ls d k).2) = (O.lv ls d (k + 1)).1 := rfl
          have e2' : (O.lv ls d k).1.vals (upT (O.lv ls d k).2) = (O.lv ls d (k + 1)).2 := rfl
          rw [e1', e2'] at HA
          have hdd := Or.draws_lv O ls d (k + 1)
          have hm : maxLen = 9223372036854775807 := rfl
          have hl1 : (k + 1) + 1 ≤ maxLen := by omega
          have hl2 : ((k + 1) + 1) * 24 ≤ 140737488355328 := by omega
          have hd8 : d ≤ 8 := hd
          clear hrk hlv hpw hm1 hm2 hfe hfw hm ho e1' e2'
          go_wp2_with fail
          refine HA.mono ?_
          rintro e w1 ⟨v', rfl, hr', ho, b1⟩
          have hr2 := own_mono (B' := w.heap.size) hr' (by have := hb.size; omega)
          replace hb := hb.trans b1
          replace hL := hL.but b1 hown
          replace hT := Kit.own_but hT b1 hown
          have hz := hb.size
          have hone := own_one hr2
          obtain ⟨av, nv, cv, rfl⟩ : ∃ av nv cv, v' = .slice av nv cv := by
            obtain ⟨x, y, h⟩ := Kit.own_form hr2
            exact ⟨x, _, y, h⟩
          clear HA hr' b1
          go_wp2_with (at_builtin; refine Kit.wpList_append_one rfl _ _ 30 rfl w.heap.size 22 i1 (.slice none 0 0) 24 Try.underlying30 hi1 hy0 hy1 hy2 rfl _ _ _ rfl hT (.slice av nv cv) 22 rfl hone hl1 hl2 hz ?_)
          intro vt w2 hT2 b2 hg2
          have ho2 := ho.far Hh.out hdd b2
          have hb2 := hb.low b2
          have hL2 := (hL.grown hT hg2).snoc hvl (((hr2.alloc _).kept hg2 (Kit.rows_ne hr2 hT (by decide))))
          have hvk2 : (vs ++ [Value.slice av nv cv])[k + 1]? = some (.slice av nv cv) := by rw [← hvl]; simp
          have hvl2 : (vs ++ [Value.slice av nv cv]).length = k + 1 + 1 := by simp [hvl]
          clear hL hT hg2 hr2 ho b2 hb hvl hvk
          go_wp2
          go_roundw
          case rel => exact ⟨k + 1, vs ++ [.slice av nv cv], hlt, by go_num, hvl2, hvk2, hL2, hT2, ho2, hb2⟩
          case measure =>
            clear e1 e2 e3 e4 e5
            simp [intOf]
            omega
        · obtain rfl : k = d := by omega
          have hd1 : decide ((k : Int) < (k : Int)) = false := by rw [decide_eq_false_iff_not]; omega
          have hfin := hL.tree hvl hT
          go_wp2
          go_ret2
          exact ⟨_, rfl, hfin, ho, hb⟩
end Mera
end Go.Proofs.Ytllbcnficlbobaa
