/-
  Package merkle: replaced, Set.
-/
import Derived.Test.YtllbcnficlbobaaMerG
import Derived.Test.YtllbcnficlbobaaMerI
import Derived.Deep.RegionHeld3
namespace Go.Proofs.Ytllbcnficlbobaa
open Go.RowKit
open Ideal Ida Mer

theorem Kit.Tr.off_block {S : Nat → Prop} {w : World} {t : List (List Nat)} {ad : Addr} {n cap : Nat} (h : Kit.Tr S w (.slice (some ad) n cap) t) (ht : 0 < t.length) : ¬ S ad.block := by
  obtain ⟨vs, h1, h2, h3⟩ := h
  obtain ⟨ad', e, hn, -⟩ := h1.base (by intro e; rw [e] at h2; simp at h2; omega)
  cases e
  exact hn
namespace Mera
theorem sl_of_off {S : Nat → Prop} {w : World} {v : Value} {xs : List Value} (h : Kit.Off S w v xs) (hx : xs ≠ []) : Kit.Sl w v xs := by
  obtain ⟨a, cap, rfl, -, h⟩ := h
  obtain ⟨ad, rfl, -, hc⟩ := h.resolve_left hx
  exact .inr ⟨ad, cap, rfl, hc⟩
set_option maxHeartbeats 2000000 in
theorem replaced_any (l : List Nat) (hl : l.length ≤ 1000) (i x : Nat) (hi : i < l.length) (v : Value) (w : World) {S : Nat → Prop} (hv : Kit.Off S w v (nums l)) :
    Calls Try.prog 40 #[v, .int .i64 (i : Int), .int .u64 (x : Int)] w fun e w' => ∃ v', e = .returned v' ∧ w'.ownsRow w.heap.size 42 1 v' l.length (nums (l.set i x)) ∧ Below w.heap.size w w' := by
  have hne : nums l ≠ [] := fun e => by
    have h9 : l.length = 0 := by rw [← nums_len, e]; rfl
    omega
  have HC := clone_any l (by omega) v w (sl_of_off hv hne)
  have h0 : (0 : Int) ≤ (i : Int) := by omega
  have h1 : (i : Int) < (l.length : Int) := by omega
  go_enter Try.func40, Try.ntmps40
  go_wp2_with fail
  refine HC.mono ?_
  rintro e w1 ⟨v', rfl, hown, b⟩
  obtain ⟨g, cap, hg⟩ : ∃ g cap, v' = .slice (some ⟨g, 0, none⟩) l.length cap := by
    rcases hown.2 with ⟨-, h⟩ | ⟨g, cap, cur, h, -⟩
    · omega
    · exact ⟨g, cap, h⟩
  subst hg
  have hgb := (hown.lt g rfl).1
  have hc := hown.cellAt i (by omega)
  rw [nums_at hi] at hc
  have hf := hown.frozenAt i
  have hs := (hown.stored i (.int .u64 (x : Int))).1
  have hns : (nums l).set i (.int .u64 (x : Int)) = nums (l.set i x) := by simp [nums, List.map_set]
  rw [hns] at hs
  have hb : Below w.heap.size w (w1.setCell ⟨g, i, none⟩ (.int .u64 (x : Int))) := b.setCell (p := ⟨g, i, none⟩) hgb _
  clear HC hv hne hns hown b
  go_wp2
  go_ret
  exact ⟨_, rfl, hs, hb⟩

/-- What Set tells of a level: the value on the leaf's way. -/
def setT (O : Or) (t : List (List Nat)) (i : Nat) (s : ByteArray) (k : Nat) : Nat := ((O.ask (qh (leafT s))).climb (O.val (qh (leafT s))) i ((path t i).take k)).1
def setO (O : Or) (t : List (List Nat)) (i : Nat) (s : ByteArray) (k : Nat) : Or := ((O.ask (qh (leafT s))).climb (O.val (qh (leafT s))) i ((path t i).take k)).2
def setL (O : Or) (t : List (List Nat)) (i : Nat) (s : ByteArray) : List (List Nat) := (List.range t.length).map fun k => (t.getD k []).set (i / 2 ^ k) (setT O t i s k)
/-- The levels so far, each its own row. -/
def Sts (w0 : Nat) (f : Nat → List Nat) (vs : List Value) (w : World) : Prop := ∀ (j : Nat) (x : Value), vs[j]? = some x → w.ownsRow w0 42 1 x (f j).length (nums (f j))
section
variable {w0 : Nat} {f : Nat → List Nat} {vs : List Value} {w w' : World}
theorem Sts.but {S : Nat → Prop} (h : Sts w0 f vs w) (b : Kit.But S w w') (hs : ∀ i, S i → i < w0) : Sts w0 f vs w' := fun j x hx => Kit.own_but (h j x hx) b hs
theorem Sts.below (h : Sts w0 f vs w) (b : Below w.heap.size w w') : Sts w0 f vs w' := fun j x hx => Kit.own_below (h j x hx) b
theorem Sts.grown {lit : Obj} {B : Nat} {v : Value} {n : Nat} {xs : List Value} (h : Sts w0 f vs w) (hown : w.ownsRow B 22 1 v n xs) (hg : (w.alloc lit).grownBy w' v.ownBlock) : Sts w0 f vs w' := fun j x hx =>
  ((h j x hx).alloc lit).kept hg (Kit.rows_ne (h j x hx) hown (by decide))
theorem Sts.snoc {x : Value} {k : Nat} (h : Sts w0 f vs w) (hk : vs.length = k) (hx : w.ownsRow w0 42 1 x (f k).length (nums (f k))) : Sts w0 f (vs ++ [x]) w := fun j y hy => by
  subst hk
  rcases Nat.lt_trichotomy j vs.length with hj | rfl | hj
  · rw [List.getElem?_append_left hj] at hy
    exact h j y hy
  · simp at hy
    subst hy
    exact hx
  · rw [List.getElem?_eq_none (by simp; omega)] at hy
    cases hy
theorem Sts.tree {v : Value} {n : Nat} (h : Sts w0 f vs w) (hl : vs.length = n) (hown : w.ownsRow w0 22 1 v n vs) : Kit.Tr (· < w0) w v ((List.range n).map f) := by
  refine ⟨vs, Kit.Off.of_own hown (fun i hi => hi), by simp [hl], fun k x l hx hl2 => ?_⟩
  have hk : k < n := by
    have := (List.getElem?_eq_some_iff.1 hx).1
    omega
  have e : l = f k := by
    rw [List.getElem?_map, List.getElem?_range hk] at hl2
    exact (Option.some.inj hl2).symm
  subst e
  exact Kit.Off.of_own (h k x hx) (fun i hi => hi)
end
set_option maxHeartbeats 2000000 in
theorem set_no {S : Nat → Prop} {L : Lay} (t : List (List Nat)) (i : Int) (hno : ¬ (shaped t = true ∧ 0 ≤ i ∧ i < ((t.getD 0 []).length : Int))) (s : ByteArray) (v : Value) (w : World) (hv : Kit.Tr S w v t) :
    Calls Try.prog 23 #[ptr L, v, .int .i64 i, .string s] w fun e w' => e = .returned (.tuple #[.slice none 0 0, .bool false]) ∧ Below w.heap.size w w' := by
  have HP := path_no t i hno v w hv
  clear hno hv
  go_enter Try.func23, Try.ntmps23
  go_wp2_with fail
  refine HP.mono ?_
  rintro e w1 ⟨rfl, b⟩
  go_wp2
  go_ret2
  exact ⟨rfl, b⟩

set_option maxRecDepth 100000 in
set_option maxHeartbeats 8000000 in
theorem set_yes {L : Lay} {O : Or} {w : World} (h : Orc w L O) (hn : O.rows.length + 16 < 1152921504606846976) (t : List (List Nat)) (hs : shaped t = true) (hx : ∀ k x, x ∈ t.getD k [] → x < 18446744073709551616) (i : Nat) (hi : i < (t.getD 0 []).length) (s : ByteArray) (hsz : s.size + 4 ≤ maxLen) (v : Value) (hv : Kit.Tr L.own w v t) :
    Calls Try.prog 23 #[ptr L, v, .int .i64 (i : Int), .string s] w fun e w' => ∃ v', e = .returned (.tuple #[v', .bool true]) ∧ Kit.Tr (· < w.heap.size) w' v' (setL O t i s) ∧ Orc w' L (setO O t i s (t.length - 1)) ∧ Kit.But L.own w w' := by
  obtain ⟨a, cap, rfl, -, -⟩ := hv.form
  have HP := path_yes t hs i hi _ w hv
  obtain ⟨hl1, hl9, hsh⟩ := shaped_iff.1 hs
  obtain ⟨i1, hi1, hy0, hy1, hy2⟩ := info_parts infoNums
  have hown : ∀ i, L.own i → i < w.heap.size := fun i hi => h.lt hi
  obtain ⟨n, hnn⟩ : ∃ n, n = t.length - 1 := ⟨_, rfl⟩
  have h0l := t0_len hs
  rw [← hnn] at HP h0l ⊢
  have hpl : (path t i).length = n := by rw [path_length, hnn]
  have hpx : ∀ x ∈ path t i, x < 18446744073709551616 := fun x hxm => by
    unfold path at hxm
    obtain ⟨k, hk, rfl⟩ := List.mem_map.1 hxm
    rw [List.getD_eq_getElem?_getD]
    cases hg : (t.getD k [])[sib (i / 2 ^ k)]? with
    | none => simp
    | some y => exact hx k y (List.mem_of_getElem? hg)
  have hf0 := Or.fine_ask h.2 (by omega) (qh (leafT s))
  have hv0 := Or.val_lt h.2 (by omega) (qh (leafT s))
  have hl0 := Or.len_ask (O := O) (qh (leafT s))
  have HL := fun w' (h : Orc w' L O) => leaf_any h (by omega) s hsz
  have hT0 : setT O t i s 0 = O.val (qh (leafT s)) := rfl
  have hO0 : setO O t i s 0 = O.ask (qh (leafT s)) := rfl
  -- SET
  obtain ⟨N, hN⟩ : ∃ N, N = t.length := ⟨_, rfl⟩
  rw [← hN] at hv HP ⊢
  obtain ⟨ad, la0, lc0, rfl, hc0, -, ho0⟩ := hv.at_ (k := 0) (by omega)
  rw [add_zero'] at hc0
  have had : ¬ L.own ad.block := hv.off_block (by omega)
  have hc0' : ∀ w', Kit.But L.own w w' → w'.cell? ad = some (.slice la0 (t.getD 0 []).length lc0) := fun w' b => (b.cell (World.block_lt_of_cell? _ _ hc0) had).trans hc0
  have HR0 := fun w' (b : Kit.But L.own w w') x => replaced_any (t.getD 0 []) (by rw [h0l]; have := Or.pow_le (d := n) (by omega); omega) i x hi (.slice la0 (t.getD 0 []).length lc0) w' (ho0.but b)
  rw [← hT0, ← hO0] at HL
  rw [← hO0] at hf0 hl0
  rw [← hT0] at hv0
  have hl00 : (0 : Int) ≤ (i : Int) := by omega
  have hi256 : i < 256 := by rw [h0l] at hi; have := Or.pow_le (d := n) (by omega); omega
  have Hh := Lib.hid h
  have hN1 : (0 : Int) < (N : Int) := by omega
  have hN2 : 0 < N := by omega
  have Hi := Lib.hid hi
  have Hl0 := Lib.hid h0l
  have Hpl := Lib.hid hpl
  have Hpx := Lib.hid hpx
  have Hf0 := Lib.hid hf0
  have Hv0 := Lib.hid hv0
  have Hlr := Lib.hid (show (setO O t i s 0).rows.length ≤ O.rows.length + 1 from hl0)
  have Hn := Lib.hid hn
  have Hnn := Lib.hid hnn
  have HNt := Lib.hid hN
  have Hsh := Lib.hid hsh
  have H9 := Lib.hid hl9
  generalize hz : (t.getD 0 []).length = z at *
  have Hz := Lib.hid hz
  clear hz hi h0l hpl hpx hf0 hv0 hl0 hT0 hO0 hn hnn hN hsh hl9 hl1 hsz hs hx ho0 hc0
  go_enter Try.func23, Try.ntmps23
  go_wp2_with fail
  refine HP.mono ?_
  rintro e w1 ⟨vp, rfl, hpr, b⟩
  replace h := h.below b
  have hb := Kit.But.of_below b (Nat.le_refl _) L.own
  obtain ⟨pa, pc, rfl⟩ := Kit.own_form hpr
  have HLL := HL _ h
  clear HP b h HL
  go_wp2_with fail
  refine HLL.mono ?_
  rintro e w2 ⟨rfl, h, b⟩
  replace hpr := Kit.own_but hpr b hown
  replace hb := hb.trans b
  have hc0 := hc0' _ hb
  have HRR := HR0 _ hb (setT O t i s 0)
  clear HLL b HR0
  go_wp2_with fail
  refine HRR.mono ?_
  rintro e w3 ⟨v0, rfl, hr0, b⟩
  replace hr0 := own_mono (B' := w.heap.size) hr0 hb.size
  replace h := h.below b
  replace hpr := Kit.own_below hpr b
  replace hb := hb.trans (Kit.But.of_below b (Nat.le_refl _) L.own)
  obtain ⟨va, nv, vc, rfl⟩ : ∃ va nv vc, v0 = .slice va nv vc := by
    obtain ⟨x, y, h⟩ := Kit.own_form hr0
    exact ⟨x, _, y, h⟩
  have hz3 := hb.size
  have hT := World.ownsRow_lit (base := w.heap.size) (e := 22) (size := 1) w3 #[.slice va nv vc] 1 hz3 (by decide) rfl
  have hS0 : Sts w.heap.size (fun k => (t.getD k []).set (i / 2 ^ k) (setT O t i s k)) [.slice va nv vc] (w3.alloc (.cells #[.slice va nv vc] 22)) := fun j x hx => by
    match j, hx with
    | 0, hx =>
      simp at hx
      subst hx
      simp only [Nat.pow_zero, Nat.div_one, List.length_set]
      rw [Hz.out]
      exact hr0.alloc _
    | j + 1, hx => simp at hx
  have hpr2 := hpr.alloc (.cells #[.slice va nv vc] 22)
  have h2 := h.alloc (.cells #[.slice va nv vc] 22)
  have hb2 := hb.alloc (.cells #[.slice va nv vc] 22)
  clear HRR b hr0 h hb hpr hc0 hc0' hz3
  go_wp2
  go_loopw [12, 13, 36] (fun vh vt vi wr => ∃ (k : Nat) (vs : List Value), k ≤ n ∧ vi = .int .i64 (k : Int) ∧ vh = .int .u64 (setT O t i s k : Int) ∧ vs.length = k + 1 ∧ Sts w.heap.size (fun k => (t.getD k []).set (i / 2 ^ k) (setT O t i s k)) vs wr ∧ wr.ownsRow w.heap.size 22 1 vt (k + 1) vs ∧ wr.ownsRow w.heap.size 42 1 (.slice pa n pc) n (nums (path t i)) ∧ Orc wr L (setO O t i s k) ∧ Kit.But L.own w wr) (fun _ _ vi _ => n - (intOf vi).toNat)
  case atStart => exact ⟨0, [.slice va nv vc], Nat.zero_le _, rfl, rfl, rfl, hS0, hT, hpr2, h2, hb2⟩
  case round =>
    obtain ⟨k, vs, hk, rfl, rfl, hvl, hS, hT, hpr, h, hb⟩ := hrel
    clear hS0 hpr2 h2 hb2
    by_cases hlt : k < n
    · have hlt2 : (k : Int) < (n : Int) := by omega
      have h0 : (0 : Int) ≤ (k : Int) := by omega
      have hkp : k < (path t i).length := by rw [Hpl.out]; exact hlt
      have hk9 : k < 9 := by have := H9.out; have := Hnn.out; omega
      obtain ⟨ap, rfl, hcp⟩ := (Kit.Rd.of_own hpr).at_ (nums_at hkp)
      rw [getD_at hkp] at hcp
      obtain ⟨ta, tc, rfl⟩ := Kit.own_form hT
      obtain ⟨ad2, la, lc, e2, hc1, -, ho1⟩ := hv.at_ (k := k + 1) (by have := HNt.out; have := Hnn.out; omega)
      injection e2 with e2
      subst e2
      have hlen1 : (t.getD (k + 1) []).length = 2 ^ (n - (k + 1)) := by rw [Hsh.out (k + 1) (by have := HNt.out; have := Hnn.out; omega), ← Hnn.out]
      have hi1' : i / 2 ^ (k + 1) < (t.getD (k + 1) []).length := by rw [hlen1]; exact div_pow_lt (by have := Hi.out; rw [Hl0.out] at this; exact this) hlt
      have hn8 : n - (k + 1) ≤ 8 := by have := H9.out; have := Hnn.out; omega
      have hlen2 : (t.getD (k + 1) []).length ≤ 1000 := by rw [hlen1]; have := Or.pow_le hn8; omega
      have hcl : ∀ w', Kit.But L.own w w' → w'.cell? (ad.add (k + 1)) = some (.slice la (t.getD (k + 1) []).length lc) := fun w' b => (b.cell (World.block_lt_of_cell? _ _ hc1) (by rw [Kit.add_block]; exact had)).trans hc1
      rw [show ad.add (k + 1) = ⟨ad.block, ad.off + (k + 1), none⟩ by unfold Addr.add; simp] at hcl
      have HR := fun w' (b : Kit.But L.own w w') => replaced_any (t.getD (k + 1) []) hlen2 (i / 2 ^ (k + 1)) (setT O t i s (k + 1)) hi1' (.slice la (t.getD (k + 1) []).length lc) w' (ho1.but b)
      have htl : ((path t i).take k).length = k := by rw [List.length_take]; omega
      have hff := Or.fine_climb ((path t i).take k) (setO O t i s 0) (setT O t i s 0) i Hf0.out Hv0.out (by have := Hn.out; have := Hlr.out; omega)
      have hlc := Or.len_climb ((path t i).take k) (setO O t i s 0) (setT O t i s 0) i
      have hct := Or.climb_take hkp (setO O t i s 0) (setT O t i s 0) i
      have eT : setT O t i s k = ((setO O t i s 0).climb (setT O t i s 0) i ((path t i).take k)).1 := rfl
      have eO : setO O t i s k = ((setO O t i s 0).climb (setT O t i s 0) i ((path t i).take k)).2 := rfl
      have eT1 : setT O t i s (k + 1) = ((setO O t i s 0).climb (setT O t i s 0) i ((path t i).take (k + 1))).1 := rfl
      have eO1 : setO O t i s (k + 1) = ((setO O t i s 0).climb (setT O t i s 0) i ((path t i).take (k + 1))).2 := rfl
      rw [hct] at eT1 eO1
      rw [← eT, ← eO] at eT1 eO1
      rw [← eT, ← eO] at hff
      rw [← eO] at hlc
      have HJ := fun w' (h : Orc w' L (setO O t i s k)) => join_any h (by have := Hn.out; have := Hlr.out; omega) (i / 2 ^ k) (setT O t i s k) (path t i)[k] hff.2 (Hpx.out _ (List.getElem_mem _))
      simp only at eT1 eO1
      rw [← eT1, ← eO1, show ((i / 2 ^ k : Nat) : Int) = (i : Int) / 2 ^ k by push_cast; rfl] at HJ
      rw [show ((i / 2 ^ (k + 1) : Nat) : Int) = (i : Int) / 2 ^ (k + 1) by push_cast; rfl] at HR
      have hdd : (setO O t i s (k + 1)).draws = O.draws := (Or.draws_climb _ _ _ _).trans (Or.draws_ask1 _ _)
      have hfk : ((t.getD (k + 1) []).set (i / 2 ^ (k + 1)) (setT O t i s (k + 1))).length = (t.getD (k + 1) []).length := by simp
      have hsn := fun (x : Value) (W : World) (h : Sts w.heap.size (fun k => (t.getD k []).set (i / 2 ^ k) (setT O t i s k)) vs W) (hx : W.ownsRow w.heap.size 42 1 x (t.getD (k + 1) []).length (nums ((t.getD (k + 1) []).set (i / 2 ^ (k + 1)) (setT O t i s (k + 1))))) => h.snoc (k := k + 1) hvl (by have e := hx; rw [← hfk] at e; exact e)
      have hm : maxLen = 9223372036854775807 := rfl
      have hl1 : (k + 1) + 1 ≤ maxLen := by omega
      have hl2 : ((k + 1) + 1) * 24 ≤ 140737488355328 := by omega
      generalize hlz : (t.getD (k + 1) []).length = z2 at *
      generalize (t.getD (k + 1) []).set (i / 2 ^ (k + 1)) (setT O t i s (k + 1)) = new at *
      generalize (path t i)[k] = x at *
      have hx2 : (k : Int) + 1 < (N : Int) := by have := HNt.out; have := Hnn.out; omega
      have w1 : IntKind.i64.wrap ((k : Int) + 1) = (k : Int) + 1 := by rw [IntKind.wrap_i64]; omega
      have w2 : (0 : Int) ≤ (k : Int) + 1 := by omega
      have w3 : ((k : Int) + 1).toNat = k + 1 := by omega
      have HJJ := HJ _ h
      clear hlz eT eO eT1 eO1 hct htl hff hlc hfk hm hlen1 hlen2 hi1' hc1 ho1 HJ h hkp
      go_wp2_with fail
      refine HJJ.mono ?_
      rintro e w4 ⟨rfl, h, b⟩
      replace hpr := Kit.own_but hpr b hown
      replace hT := Kit.own_but hT b hown
      replace hS := hS.but b hown
      replace hb := hb.trans b
      clear HJJ b hcp
      go_wp2
      refine wp_region_noPanic ?_
      refine wp_region_held_drew (S := Kit.But L.own w) (by kernel_rfl) ?_ (fun hHeld => ?_)
      · exact hb.drew
      refine wpAnyH_take (i := 0) (oi := ⟨some 48, _, _, _, _, _⟩) (v := ?_) rfl (by kernel_rfl) (by kernel_rfl) (by kernel_rfl) (fun _ _ _ h => h) (Or.inl ⟨by rfl, ?_⟩) (by assumption) ?_
      rotate_left
      · (intro w' hSw; have k0 := hcl _ hSw; go_simp; try with_reducible rfl)
      simp only [Act.put, List.setIfInBounds_toArray, List.set_cons_zero, List.set_cons_succ]
      refine wpAnyH_take (i := 1) (oi := ⟨some 49, _, _, _, _, _⟩) (v := ?_) rfl (by kernel_rfl) (by kernel_rfl) (by kernel_rfl) (fun _ _ _ h => h) (Or.inl ⟨by rfl, ?_⟩) (by assumption) ?_
      rotate_left
      · (intro w' hSw; have k0 := hcl _ hSw; go_simp; try with_reducible rfl)
      simp only [Act.put, List.setIfInBounds_toArray, List.set_cons_zero, List.set_cons_succ]
      refine wpAnyH_take (i := 2) (oi := ⟨some 50, _, _, _, _, _⟩) (v := ?_) rfl (by kernel_rfl) (by kernel_rfl) (by kernel_rfl) (fun _ _ _ h => h) (Or.inl ⟨by rfl, ?_⟩) (by assumption) ?_
      rotate_left
      · (intro w' hSw; have k0 := hcl _ hSw; go_simp; try with_reducible rfl)
      simp only [Act.put, List.setIfInBounds_toArray, List.set_cons_zero, List.set_cons_succ]
      refine wpAnyH_take (i := 3) (oi := ⟨some 51, _, _, _, _, _⟩) (v := ?_) rfl (by kernel_rfl) (by kernel_rfl) (by kernel_rfl) (fun _ _ _ h => h) (Or.inl ⟨by rfl, ?_⟩) (by assumption) ?_
      rotate_left
      · (intro w' hSw; have k0 := hcl _ hSw; go_simp; try with_reducible rfl)
      simp only [Act.put, List.setIfInBounds_toArray, List.set_cons_zero, List.set_cons_succ]
      refine wpAnyH_take (i := 4) (oi := ⟨some 52, _, _, _, _, _⟩) (v := ?_) rfl (by kernel_rfl) (by kernel_rfl) (by kernel_rfl) (fun _ _ _ h => h) (Or.inl ⟨by rfl, ?_⟩) (by assumption) ?_
      rotate_left
      · (intro w' hSw; have k0 := hcl _ hSw; go_simp; try with_reducible rfl)
      simp only [Act.put, List.setIfInBounds_toArray, List.set_cons_zero, List.set_cons_succ]
      refine wpAnyH_take (i := 5) (oi := ⟨some 53, _, _, _, _, _⟩) (v := ?_) rfl (by kernel_rfl) (by kernel_rfl) (by kernel_rfl) (fun _ _ _ h => h) (Or.inl ⟨by rfl, ?_⟩) (by assumption) ?_
      rotate_left
      · (intro w' hSw; have k0 := hcl _ hSw; go_simp; try with_reducible rfl)
      simp only [Act.put, List.setIfInBounds_toArray, List.set_cons_zero, List.set_cons_succ]
      refine wpAnyH_take (i := 6) (oi := ⟨some 54, _, _, _, _, _⟩) (v := ?_) rfl (by kernel_rfl) (by kernel_rfl) (by kernel_rfl) (fun _ _ _ h => h) (Or.inl ⟨by rfl, ?_⟩) (by assumption) ?_
      rotate_left
      · (intro w' hSw; have k0 := hcl _ hSw; go_simp; try with_reducible rfl)
      simp only [Act.put, List.setIfInBounds_toArray, List.set_cons_zero, List.set_cons_succ]
      refine wpAnyH_take (i := 7) (oi := ⟨some 55, _, _, _, _, _⟩) (v := ?_) rfl (by kernel_rfl) (by kernel_rfl) (by kernel_rfl) (fun _ _ _ h => h) (Or.inl ⟨by rfl, ?_⟩) (by assumption) ?_
      rotate_left
      · (intro w' hSw; have k0 := hcl _ hSw; go_simp; try with_reducible rfl)
      simp only [Act.put, List.setIfInBounds_toArray, List.set_cons_zero, List.set_cons_succ]
      refine wpAnyH_take (i := 8) (oi := ⟨some 56, _, _, _, _, _⟩) (v := ?_) rfl (by kernel_rfl) (by kernel_rfl) (by kernel_rfl) (fun _ _ _ h => h) (Or.inl ⟨by rfl, ?_⟩) (by assumption) ?_
      rotate_left
      · (intro w' hSw; have k0 := hcl _ hSw; go_simp; try with_reducible rfl)
      simp only [Act.put, List.setIfInBounds_toArray, List.set_cons_zero, List.set_cons_succ]
      refine wpAnyH_take (i := 9) (oi := ⟨some 57, _, _, _, _, _⟩) (v := ?_) rfl (by kernel_rfl) (by kernel_rfl) (by kernel_rfl) (fun _ _ _ h => h) (Or.inl ⟨by rfl, ?_⟩) (by assumption) ?_
      rotate_left
      · (intro w' hSw; have k0 := hcl _ hSw; go_simp; try with_reducible rfl)
      simp only [Act.put, List.setIfInBounds_toArray, List.set_cons_zero, List.set_cons_succ]
      refine wpAnyH_take (i := 10) (oi := ⟨some 58, _, _, _, _, _⟩) (v := ?_) rfl (by kernel_rfl) (by kernel_rfl) (by kernel_rfl) (fun _ _ _ h => h) (Or.inl ⟨by rfl, ?_⟩) (by assumption) ?_
      rotate_left
      · (intro w' hSw; have k0 := hcl _ hSw; go_simp; try with_reducible rfl)
      simp only [Act.put, List.setIfInBounds_toArray, List.set_cons_zero, List.set_cons_succ]
      refine wpAnyH_ready (rs := [11]) (by kernel_rfl) (by simp) ?_
      refine AllReadyH.cons (o := ⟨some 59, _, _, _, _, _⟩) rfl (fun K hK => ?_) AllReadyH.nil
      go_simp
      go_at_call 40
      refine (HR _ hb.drew).mono ?_
      rintro e w5 ⟨v5, rfl, hr5, b5⟩
      have hb5 := hb.drew.trans (Kit.But.of_below b5 (Nat.le_refl _) L.own)
      have hr5 := own_mono (B' := w.heap.size) hr5 hb.size
      have hT5 := Kit.own_below hT.drew b5
      have hS5 : Sts w.heap.size (fun k => (t.getD k []).set (i / 2 ^ k) (setT O t i s k)) vs w5 := fun j x hx => Kit.own_below (hS j x hx).drew b5
      have hpr5 := Kit.own_below hpr.drew b5
      have h5 := h.drew.below b5
      have hone := own_one hr5
      obtain ⟨xa, xn, xc, rfl⟩ : ∃ xa xn xc, v5 = .slice xa xn xc := by
        obtain ⟨x, y, h⟩ := Kit.own_form hr5
        exact ⟨x, _, y, h⟩
      have hz5 := hb5.size
      go_wp2_with fail
      refine hK.out _ _ hb5 (fun hHeld11 => ?_)
      clear hK K
      try simp only [Act.put, List.setIfInBounds_toArray, List.set_cons_zero, List.set_cons_succ]
      refine wpAnyH_ready (rs := [12]) (by kernel_rfl) (by simp) ?_
      refine AllReadyH.cons (o := ⟨some 60, _, _, _, _, _⟩) rfl (fun K hK => ?_) AllReadyH.nil
      go_simp
      refine hK.out _ _ (hb5.alloc _) (fun hHeld12 => ?_)
      clear hK K
      try simp only [Act.put, List.setIfInBounds_toArray, List.set_cons_zero, List.set_cons_succ]
      refine wpAnyH_ready (rs := [13]) (by kernel_rfl) (by simp) ?_
      refine AllReadyH.cons (o := ⟨some 61, _, _, _, _, _⟩) rfl (fun K hK => ?_) AllReadyH.nil
      refine Kit.step_append_one rfl _ _ 30 rfl w.heap.size 22 i1 (.slice none 0 0) 24 Try.underlying30 hi1 hy0 hy1 hy2 rfl _ _ _ rfl hT5 (.slice xa xn xc) 22 rfl hone hl1 hl2 hz5 ?_
      intro vt w6 hT6 b6 hg6
      have hb6 := hb5.low b6
      have h6 := h5.far Hh.out hdd b6
      have hS6 := hsn _ _ (hS5.grown hT5 hg6) ((hr5.alloc _).kept hg6 (Kit.rows_ne hr5 hT5 (by decide)))
      have hpr6 := (hpr5.alloc _).kept hg6 (Kit.rows_ne hpr5 hT5 (by decide))
      refine hK.out _ _ hb6 (fun hHeld13 => ?_)
      clear hK K
      try simp only [Act.put, List.setIfInBounds_toArray, List.set_cons_zero, List.set_cons_succ]
      refine wpAnyH_take (i := 14) (oi := ⟨some 13, _, _, _, _, _⟩) (v := ?_) rfl (by kernel_rfl) (by kernel_rfl) (by kernel_rfl) (fun _ _ _ h => h) (Or.inl ⟨by rfl, ?_⟩) (by assumption) ?_
      rotate_left
      · (intro w' hSw; have k0 := hcl _ hSw; go_simp; try with_reducible rfl)
      simp only [Act.put, List.setIfInBounds_toArray, List.set_cons_zero, List.set_cons_succ]
      refine wpAnyH_done (by kernel_rfl) ?_ _
      refine NoPanic.normal ?_
      have hvl2 : (vs ++ [Value.slice xa xn xc]).length = k + 1 + 1 := by simp [hvl]
      clear hS hT hpr h hb hS5 hT5 hpr5 h5 hb5 hr5 hg6 b6 HR hcl hsn hvl
      go_wp2
      go_roundw
      case rel => exact ⟨k + 1, vs ++ [.slice xa xn xc], hlt, by go_num, rfl, hvl2, hS6, hT6, hpr6, h6, hb6⟩
      case measure => simp [intOf]; omega
    · obtain rfl : k = n := by omega
      have hd1 : decide ((k : Int) < (k : Int)) = false := by rw [decide_eq_false_iff_not]; omega
      obtain ⟨ta, tc, rfl⟩ := Kit.own_form hT
      have hfin := hS.tree hvl hT
      have hfin2 : Kit.Tr (· < w.heap.size) wr (.slice ta (k + 1) tc) (setL O t i s) := by
        unfold setL
        rw [show t.length = k + 1 by have := Hnn.out; have := HNt.out; omega]
        exact hfin
      clear hfin hlt hS hT
      go_wp2
      go_ret2
      exact ⟨_, rfl, hfin2, h, hb⟩
end Mera
end Go.Proofs.Ytllbcnficlbobaa
