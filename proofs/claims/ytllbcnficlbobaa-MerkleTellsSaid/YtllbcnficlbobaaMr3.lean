/-
  Mr3: MrG, MrH, MrI.
-/
import Derived.Test.YtllbcnficlbobaaMr2
import Derived.Test.YtllbcnficlbobaaMerH
/-! The document's own layer 6: a tree of the call's own, its levels stored into while its oracle goes on. -/
namespace Go.Proofs.Ytllbcnficlbobaa.Mr
open Go.RowKit
open Ideal Ida Mer Mera Ref3

theorem node_join {l : List Nat} {j c : Nat} (hj : j < l.length) : nodeT ((l.set j c).getD (2 * (j / 2)) 0) ((l.set j c).getD (2 * (j / 2) + 1) 0) = joinT j c (l.getD (sib j) 0) := by
  have gs : ∀ x, (l.set j c).getD x 0 = if j = x then c else l.getD x 0 := fun x => by
    rw [List.getD_eq_getElem?_getD, List.getElem?_set, List.getD_eq_getElem?_getD]
    by_cases h : j = x
    · subst h
      rw [if_pos rfl, if_pos rfl, if_pos hj]
      rfl
    · rw [if_neg h, if_neg h]
  rw [gs, gs]
  unfold joinT sib
  by_cases he : j % 2 = 0
  · rw [if_pos he, if_pos he, if_pos (by omega), if_neg (by omega), show 2 * (j / 2) + 1 = j + 1 by omega]
  · rw [if_neg he, if_neg he, if_neg (by omega), if_pos (by omega), show 2 * (j / 2) = j - 1 by omega]
/-- Levels, each its own row, apart. -/
structure Ss (K : Nat → Prop) (w : World) (q : Nat) (K' : Nat → Prop) (vt : Value) (vs : List Value) (f : Nat → List Nat) (O : Or) (w' : World) : Prop where
  sub : ∀ j, K j → K' j
  tr : w'.ownsRow w.heap.size 22 1 vt vs.length vs
  ownt : ∀ g, vt.ownBlock = some g → K' g
  rows : Sts w.heap.size f vs w'
  ownv : ∀ x ∈ vs, ∀ g, x.ownBlock = some g → K' g
  apart : ∀ (j j' : Nat) (x x' : Value) (g : Nat), vs[j]? = some x → vs[j']? = some x' → x.ownBlock = some g → x'.ownBlock = some g → j = j'
  ref : Ref K' w' q O
  on : On K' w'
  fr : Fr K w w'
  base : On K w
section
variable {K K' : Nat → Prop} {w w' w'' : World} {q : Nat} {vt : Value} {vs : List Value} {f : Nat → List Nat} {O O' : Or}
theorem Ss.call (h : Ss K w q K' vt vs f O w') (r : Ref K' w'' q O') (fr : Fr K' w' w'') : Ss K w q K' vt vs f O' w'' :=
  ⟨h.sub, row_fr h.tr h.ownt fr, h.ownt, fun j x hx => row_fr (h.rows j x hx) (h.ownv x (List.mem_of_getElem? hx)) fr, h.ownv, h.apart, r, on_of h.on fr.size, h.fr.trans (fr_sub fr h.sub), h.base⟩
theorem Ss.below (h : Ss K w q K' vt vs f O w') (b : Below w'.heap.size w' w'') : Ss K w q K' vt vs f O w'' := h.call (h.ref.below b) (fr_of b)
theorem Ss.set {k g n cap : Nat} (h : Ss K w q K' vt vs f O w') (hk : vs[k]? = some (.slice (some ⟨g, 0, none⟩) n cap)) (i u : Nat) (f' : Nat → List Nat) (h1 : f' k = (f k).set i u) (h2 : ∀ j, j ≠ k → f' j = f j) :
    Ss K w q K' vt vs f' O (w'.setCell ⟨g, i, none⟩ (.int .u64 (u : Int))) := by
  have hr := h.rows k _ hk
  have hn : n = (f k).length := by
    rcases hr.2 with ⟨e, -⟩ | ⟨g', cap', cur, e, -⟩
    · cases e
    · injection e
  subst hn
  have hs := hr.stored i (.int .u64 (u : Int))
  have hgK : K' g := h.ownv _ (List.mem_of_getElem? hk) g rfl
  have hgw : w.heap.size ≤ g := (hr.lt g rfl).1
  have hnu : (nums (f k)).set i (.int .u64 (u : Int)) = nums ((f k).set i u) := by simp [nums, List.map_set]
  refine ⟨h.sub, ?_, h.ownt, fun j x hx => ?_, h.ownv, h.apart, h.ref.kept (fun j hj _ => Below.heap_setCell _ _ _ _ (fun e => hj (by rw [e]; exact hgK))), fun j hj => ?_, h.fr.setCell (p := ⟨g, i, none⟩) (fun hlt => by simp only at hlt; omega) _, h.base⟩
  · exact h.tr.kept hs.2 (by
      rcases Kit.rows_ne h.tr hr (by decide) with e | e
      · exact .inl e
      · exact .inr e)
  · by_cases hj : j = k
    · subst hj
      rw [hk] at hx
      obtain rfl := Option.some.inj hx
      have h9 := hs.1
      rw [hnu] at h9
      rw [h1, List.length_set]
      exact h9
    · rw [h2 j hj]
      refine (h.rows j x hx).kept hs.2 ?_
      by_cases hb : x.ownBlock = some g
      · exact absurd (h.apart j k x _ g hx hk hb rfl) hj
      · exact .inr hb
  · have := h.on j hj
    have h9 := hs.2.size
    omega
theorem Ss.form (h : Ss K w q K' vt vs f O w') {k : Nat} (hk : k < vs.length) (hp : 0 < (f k).length) : ∃ g cap, vs[k]? = some (.slice (some ⟨g, 0, none⟩) (f k).length cap) := by
  have hx := List.getElem?_eq_getElem hk
  have hr := h.rows k _ hx
  rcases hr.2 with ⟨-, e⟩ | ⟨g, cap, cur, e, -⟩
  · omega
  · exact ⟨g, cap, by rw [hx, e]⟩
theorem Ss.fin (h : Ss K w q K' vt vs f O w') : Kit.Tr (fun i => ¬ K' i ∨ i < w.heap.size) w' vt ((List.range vs.length).map f) := by
  refine ⟨vs, off_row h.tr (fun g hg hn => ?_), by simp, fun k x l hx hl2 => ?_⟩
  · rcases hn with hn | hn
    · exact hn (h.ownt g hg)
    · have := (h.tr.lt g hg).1
      omega
  · have hk : k < vs.length := (List.getElem?_eq_some_iff.1 hx).1
    have e : l = f k := by
      rw [List.getElem?_map, List.getElem?_range hk] at hl2
      exact (Option.some.inj hl2).symm
    subst e
    refine off_row (h.rows k x hx) (fun g hg hn => ?_)
    rcases hn with hn | hn
    · exact hn (h.ownv x (List.mem_of_getElem? hx) g hg)
    · have := ((h.rows k x hx).lt g hg).1
      omega
end
/-- Levels copied one after the other. -/
structure Cs (w : World) (t : List (List Nat)) (vt : Value) (vs : List Value) (w' : World) : Prop where
  tr : w'.ownsRow w.heap.size 22 1 vt vs.length vs
  rows : Sts w.heap.size (fun k => t.getD k []) vs w'
  apart : ∀ (j j' : Nat) (x x' : Value) (g : Nat), vs[j]? = some x → vs[j']? = some x' → x.ownBlock = some g → x'.ownBlock = some g → j = j'
  below : Below w.heap.size w w'
section
variable {w w' w2 w3 : World} {t : List (List Nat)} {vt v v2 : Value} {vs : List Value} {lit : Obj}
theorem Cs.more (h : Cs w t vt vs w') (hv : w2.ownsRow w'.heap.size 42 1 v (t.getD vs.length []).length (nums (t.getD vs.length []))) (b : Below w'.heap.size w' w2)
    (hrow : w3.ownsRow w.heap.size 22 1 v2 (vs.length + 1) (vs ++ [v])) (b2 : Below w.heap.size w2 w3) (hg : (w2.alloc lit).grownBy w3 vt.ownBlock) : Cs w t v2 (vs ++ [v]) w3 := by
  have htW : w2.ownsRow w.heap.size 22 1 vt vs.length vs := Kit.own_below h.tr b
  have hvW : w2.ownsRow w.heap.size 42 1 v (t.getD vs.length []).length (nums (t.getD vs.length [])) := own_mono hv h.below.size
  have hb : Below w.heap.size w w3 := (h.below.trans (b.mono h.below.size)).trans b2
  have hrs : Sts w.heap.size (fun k => t.getD k []) vs w3 := (h.rows.below b).grown htW hg
  refine ⟨by rw [List.length_append]; exact hrow, hrs.snoc rfl ((hvW.alloc lit).kept hg (Kit.rows_ne hvW htW (by decide))), fun j j' x x' g hx hx' hg1 hg2 => ?_, hb⟩
  have key : ∀ (j j' : Nat) (x x' : Value), (vs ++ [v])[j]? = some x → (vs ++ [v])[j']? = some x' → x.ownBlock = some g → x'.ownBlock = some g → ¬ j < j' := by
    intro j j' x x' hx hx' h1 h2 hlt
    have hj' : j' < vs.length + 1 := by have := (List.getElem?_eq_some_iff.1 hx').1; simpa using this
    rw [List.getElem?_append_left (by omega)] at hx
    have hlo := ((h.rows j x hx).lt g h1).2
    by_cases e : j' = vs.length
    · subst e
      simp at hx'
      subst hx'
      have := (hv.lt g h2).1
      omega
    · rw [List.getElem?_append_left (by omega)] at hx'
      have := h.apart j j' x x' g hx hx' h1 h2
      omega
  have k1 := key j j' x x' hx hx' hg1 hg2
  have k2 := key j' j x' x hx' hx hg2 hg1
  omega
theorem Cs.ss {K : Nat → Prop} {q : Nat} {O : Or} (h : Cs w t vt vs w') (r : Ref K w q O) (on : On K w) : Ss K w q (And' K w w') vt vs (fun k => t.getD k []) O w' := by
  refine ⟨fun j hj => .inl hj, h.tr, fun g hg => .inr (h.tr.lt g hg), h.rows, fun x hx g hg => ?_, h.apart, and_below r h.below, and_on on h.below.size, fr_of h.below, on⟩
  obtain ⟨j, hj, rfl⟩ := List.getElem_of_mem hx
  exact .inr ((h.rows j _ (List.getElem?_eq_getElem hj)).lt g hg)
end
end Go.Proofs.Ytllbcnficlbobaa.Mr
/-! The document's own layer 6: Set. -/
namespace Go.Proofs.Ytllbcnficlbobaa.Mr
open Go.RowKit
open Ideal Ida Mer Mera Ref3

set_option maxHeartbeats 2000000 in
theorem rset_no {S : Nat → Prop} {q : Nat} (t : List (List Nat)) (i : Int) (hno : ¬ (shaped t = true ∧ 0 ≤ i ∧ i < ((t.getD 0 []).length : Int))) (s : ByteArray) (v : Value) (w : World) (hv : Kit.Tr S w v t) :
    Calls Try.prog 24 #[rptr q, v, .int .i64 i, .string s] w fun e w' => e = .returned (.tuple #[.slice none 0 0, .bool false]) ∧ Below w.heap.size w w' := by
  have HP := rpath_no t i hno v w hv
  clear hno hv
  go_enter Try.func24, Try.ntmps24
  go_wp2_with fail
  refine HP.mono ?_
  rintro e w1 ⟨rfl, b⟩
  go_wp2
  go_ret2
  exact ⟨rfl, b⟩

/-- The levels, those up to m set anew. -/
def Fm (O : Or) (t : List (List Nat)) (i : Nat) (s : ByteArray) (m l : Nat) : List Nat := if l ≤ m then (t.getD l []).set (i / 2 ^ l) (setT O t i s l) else t.getD l []
theorem Fm_len (O : Or) (t : List (List Nat)) (i : Nat) (s : ByteArray) (m l : Nat) : (Fm O t i s m l).length = (t.getD l []).length := by
  unfold Fm
  split <;> simp
theorem Fm_new (O : Or) (t : List (List Nat)) (i : Nat) (s : ByteArray) (m : Nat) : Fm O t i s (m + 1) (m + 1) = (Fm O t i s m (m + 1)).set (i / 2 ^ (m + 1)) (setT O t i s (m + 1)) := by
  unfold Fm
  rw [if_pos (Nat.le_refl _), if_neg (by omega)]
theorem Fm_old (O : Or) (t : List (List Nat)) (i : Nat) (s : ByteArray) (m j : Nat) (hj : j ≠ m + 1) : Fm O t i s (m + 1) j = Fm O t i s m j := by
  unfold Fm
  by_cases h : j ≤ m
  · rw [if_pos h, if_pos (by omega)]
  · rw [if_neg h, if_neg (by omega)]
theorem Fm_zero (O : Or) (t : List (List Nat)) (i : Nat) (s : ByteArray) : Fm O t i s 0 0 = (t.getD 0 []).set i (setT O t i s 0) := by
  unfold Fm
  rw [if_pos (Nat.le_refl _), Nat.pow_zero, Nat.div_one]
theorem Fm_zero' (O : Or) (t : List (List Nat)) (i : Nat) (s : ByteArray) (j : Nat) (hj : j ≠ 0) : Fm O t i s 0 j = t.getD j [] := by
  unfold Fm
  rw [if_neg (by omega)]
theorem Fm_top (O : Or) (t : List (List Nat)) (i : Nat) (s : ByteArray) (m : Nat) : Fm O t i s m m = (t.getD m []).set (i / 2 ^ m) (setT O t i s m) := by
  unfold Fm
  rw [if_pos (Nat.le_refl _)]
theorem Fm_all (O : Or) (t : List (List Nat)) (i : Nat) (s : ByteArray) (n : Nat) (h : t.length = n + 1) : (List.range (n + 1)).map (Fm O t i s n) = setL O t i s := by
  unfold setL
  rw [h]
  apply List.map_congr_left
  intro k hk
  have := List.mem_range.1 hk
  unfold Fm
  rw [if_pos (by omega)]
theorem Cs.begin {w w1 : World} (t : List (List Nat)) (b : Below w.heap.size w w1) : Cs w t (.slice (some ⟨w1.heap.size, 0, none⟩) 0 0) [] (w1.alloc (.cells #[] 22)) :=
  ⟨World.ownsRow_made w1 #[] 0 b.size (by unfold maxLen; omega) rfl, fun j x hx => by simp at hx, fun j j' x x' g hx => by simp at hx, b.alloc b.size _⟩
theorem made' (w' : World) : (w'.alloc (.cells #[] 42)).ownsRow w'.heap.size 42 1 (.slice (some ⟨w'.heap.size, 0, none⟩) 0 0) 0 [] ∧ Below w'.heap.size w' (w'.alloc (.cells #[] 42)) :=
  ⟨World.ownsRow_made w' #[] 0 (Nat.le_refl _) (by unfold maxLen; omega) rfl, (Below.refl w'.heap.size w').alloc (Nat.le_refl _) _⟩
theorem sl_off' {S : Nat → Prop} {w : World} {v : Value} {xs : List Value} (h : Kit.Off S w v xs) (hx : xs ≠ []) : Kit.Sl w v xs := by
  obtain ⟨a, cap, rfl, -, h⟩ := h
  obtain ⟨ad, rfl, -, hc⟩ := h.resolve_left hx
  exact .inr ⟨ad, cap, rfl, hc⟩
set_option maxRecDepth 100000 in
set_option maxHeartbeats 16000000 in
theorem rset_yes {K : Nat → Prop} {q : Nat} {w : World} {O : Or} (h : Ref K w q O) (hB : On K w) (hf : Fw O 64) (t : List (List Nat)) (hs : shaped t = true) (hx : ∀ k x, x ∈ t.getD k [] → x < 18446744073709551616) (i : Nat) (hi : i < (t.getD 0 []).length) (s : ByteArray) (hsz : s.size + 4 ≤ maxLen) (v : Value) (hv : Kit.Tr (fun i => ¬ K i) w v t) :
    Calls Try.prog 24 #[rptr q, v, .int .i64 (i : Int), .string s] w fun e w' => ∃ (v' : Value) (K' : Nat → Prop), e = .returned (.tuple #[v', .bool true]) ∧ (∀ j, K j → K' j) ∧ On K' w' ∧ Ref K' w' q (setO O t i s (t.length - 1)) ∧ Fr K w w' ∧ Kit.Tr (fun i => ¬ K' i ∨ i < w.heap.size) w' v' (setL O t i s) := by
  obtain ⟨a, cap, rfl, -, -⟩ := hv.form
  have HP := rpath_yes t hs i hi _ w hv
  obtain ⟨hl1, hl9, hsh⟩ := shaped_iff.1 hs
  obtain ⟨i0, hi0, hz0, hz1, hz2⟩ := info_parts infoU64
  obtain ⟨i1, hi1, hy0, hy1, hy2⟩ := info_parts infoNums
  have h0l := t0_len hs
  obtain ⟨n, hn⟩ : ∃ n, n = t.length - 1 := ⟨_, rfl⟩
  obtain ⟨N, hN⟩ : ∃ N, N = t.length := ⟨_, rfl⟩
  have hNn : N = n + 1 := by omega
  have hlen : ∀ k, k < N → (t.getD k []).length = 2 ^ (n - k) := fun k hk => by rw [hsh k (by omega), hn]
  have hpx : ∀ x ∈ path t i, x < 18446744073709551616 := fun x hxm => by
    unfold path at hxm
    obtain ⟨k, hk, rfl⟩ := List.mem_map.1 hxm
    rw [List.getD_eq_getElem?_getD]
    cases hg : (t.getD k [])[sib (i / 2 ^ k)]? with
    | none => simp
    | some y => exact hx k y (List.mem_of_getElem? hg)
  have hpl : (path t i).length = n := by rw [path_length, hn]
  have hfi := ref_fine h
  have hf0 := Or.fine_ask hfi (by have := hf.rows; omega) (qh (leafT s))
  have hv0 := Or.val_lt hfi (by have := hf.rows; omega) (qh (leafT s))
  have hf1 := Fw.ask (n := 63) hf (qh (leafT s))
  have hT0 : setT O t i s 0 = O.val (qh (leafT s)) := rfl
  have hO0 : setO O t i s 0 = O.ask (qh (leafT s)) := rfl
  rw [← hn] at h0l HP ⊢
  rw [← hN] at hv HP ⊢
  obtain ⟨ad, la0, lc0, rfl, -, -, -⟩ := hv.at_ (k := 0) (by omega)
  have hi256 : i < 256 := by have := Or.pow_le (d := n) (by omega); omega
  have hin : i < 2 ^ n := by omega
  have Hn := Lib.hid hn
  have HN := Lib.hid hN
  have HNn := Lib.hid hNn
  have Hlen := Lib.hid hlen
  have Hpx := Lib.hid hpx
  have Hpl := Lib.hid hpl
  have Hx := Lib.hid hx
  have Hf := Lib.hid hf
  have Hf0 := Lib.hid hf0
  have Hv0 := Lib.hid hv0
  have Hf1 := Lib.hid hf1
  have HT0 := Lib.hid hT0
  have HO0 := Lib.hid hO0
  have Hs := Lib.hid hsz
  have Hin := Lib.hid hin
  have HB := Lib.hid hB
  have Hh := Lib.hid h
  have H9 := Lib.hid (show n ≤ 8 by omega)
  clear hs hl1 hl9 hsh h0l hn hN hNn hlen hpx hpl hx hf hfi hf0 hv0 hf1 hT0 hO0 hsz hin hi hB h
  go_enter Try.func24, Try.ntmps24
  go_wp2_with fail
  refine HP.mono ?_
  rintro e w1 ⟨vp, rfl, hpr, b⟩
  obtain ⟨vpa, vpc, rfl⟩ := Kit.own_form hpr
  have hC0 := Cs.begin t b
  clear HP hpr
  go_wp2
  go_loopw [12, 13] (fun vt vi wr => ∃ (k : Nat) (vs : List Value), Hid (vs.length = k) ∧ k ≤ N ∧ vi = .int .i64 (k : Int) ∧ Cs w t vt vs wr) (fun _ vi _ => N - (intOf vi).toNat)
  case atStart => exact ⟨0, [], Lib.hid rfl, Nat.zero_le _, rfl, hC0⟩
  case round =>
    clear hC0 b
    obtain ⟨k, vs, Hvl, hk, rfl, hC⟩ := hrel
    have htr := hC.tr
    rw [Hvl.out] at htr
    obtain ⟨vta, vtc, rfl⟩ := Kit.own_form htr
    by_cases hlt : k < N
    · have hlt2 : (k : Int) < (N : Int) := by omega
      have h0 : (0 : Int) ≤ (k : Int) := by omega
      have hm : maxLen = 9223372036854775807 := rfl
      have hk9 : k < 9 := by have := H9.out; have := HNn.out; omega
      obtain ⟨ad2, la, lc, e2, hc, -, ho⟩ := (hv.below hC.below).at_ (k := k) (by have := HN.out; omega)
      injection e2 with e2
      subst e2
      have hll := Hlen.out k hlt
      have hl256 : (t.getD k []).length ≤ 256 := by rw [hll]; exact Or.pow_le (by have := H9.out; omega)
      have hlp : 1 ≤ (t.getD k []).length := by rw [hll]; exact Nat.one_le_two_pow
      have hrow0 := made' wr
      obtain ⟨hrow0, d0⟩ := hrow0
      have hnl : (nums (t.getD k [])).length = (t.getD k []).length := nums_len _
      have hne : nums (t.getD k []) ≠ [] := fun e => by
        have h9 : (nums (t.getD k [])).length = 0 := by rw [e]; rfl
        omega
      have hsl := sl_off' (ho.below d0) hne
      have ha1 : 0 + (nums (t.getD k [])).length ≤ maxLen := by omega
      have ha2 : (0 + (nums (t.getD k [])).length) * 8 ≤ 140737488355328 := by omega
      have ha3 : k + 1 ≤ maxLen := by omega
      have ha4 : (k + 1) * 24 ≤ 140737488355328 := by omega
      obtain ⟨al, rfl, -⟩ := ho.at_ (nums_at (k := 0) (by omega))
      have hz := d0.size
      have hc2 := (d0.cell (World.block_lt_of_cell? _ _ hc)).trans hc
      obtain ⟨lvl, hlvl⟩ : ∃ l, l = t.getD k [] := ⟨_, rfl⟩
      rw [← hlvl] at hc2 hsl ha1 ha2 hnl hc
      have Hnl := Lib.hid hnl
      have Hlvl := Lib.hid hlvl
      clear hm hll hlp ho hne hnl hlvl hl256
      go_wp2_with (at_builtin; refine Kit.wpList_append_sl rfl _ _ 22 rfl wr.heap.size 42 i0 (.int .u64 0) 8 Try.underlying22 hi0 hz0 hz1 hz2 rfl _ _ _ rfl hrow0 _ (nums lvl) rfl hsl (nums_one _) ha1 ha2 hz ?_)
      intro v2 w2 hrow2 g2
      have d2 := d0.grown g2 d0.size (fun j hj => (hrow0.lt j hj).1)
      rw [Hnl.out] at hrow2
      obtain ⟨v2a, v2c, rfl⟩ := Kit.own_form hrow2
      have hone := own_one hrow2
      have hz4 := Nat.le_trans hC.below.size d2.size
      clear hsl hrow0 d0 g2 hz hc hc2
      go_wp2_with (at_builtin; refine Kit.wpList_append_one rfl _ _ 30 rfl w.heap.size 22 i1 (.slice none 0 0) 24 Try.underlying30 hi1 hy0 hy1 hy2 rfl _ _ _ rfl (Kit.own_below htr d2) (.slice v2a _ v2c) 22 rfl hone ha3 ha4 hz4 ?_)
      intro v3 w3 hrow3 b3 g3
      have hC2 := hC.more (by rw [Hvl.out, ← Hlvl.out]; exact hrow2) d2 (by rw [Hvl.out]; exact hrow3) b3 g3
      clear hrow2 d2 hrow3 b3 g3 htr hC
      go_wp2
      go_roundw
      case rel => exact ⟨k + 1, _, Lib.hid (by rw [List.length_append, Hvl.out]; rfl), hlt, by go_num, hC2⟩
      case measure => simp [intOf]; omega
    · obtain rfl : N = k := by omega
      have hd1 : decide ((N : Int) < (N : Int)) = false := by rw [decide_eq_false_iff_not]; omega
      have hS := hC.ss Hh.out HB.out
      have hvl := Hvl.out
      have hN1 : 0 < N := by have := HNn.out; omega
      have h0l := Hlen.out 0 hN1
      rw [Nat.sub_zero] at h0l
      have hz1' : 1 ≤ 2 ^ n := Nat.one_le_two_pow
      obtain ⟨g0, c0, hx0⟩ := hS.form (k := 0) (by omega) (by show 0 < (t.getD 0 []).length; rw [h0l]; omega)
      have hx0 : vs[0]? = some (.slice (some ⟨g0, 0, none⟩) (t.getD 0 []).length c0) := hx0
      obtain ⟨gt, ct, hgt⟩ : ∃ gt ct, Value.slice vta N vtc = .slice (some ⟨gt, 0, none⟩) N ct := by
        rcases hS.tr.2 with ⟨-, e⟩ | ⟨g, cap, cur, e, -⟩
        · omega
        · exact ⟨g, cap, by rw [e, hvl]⟩
      simp only [Value.slice.injEq] at hgt
      obtain ⟨rfl, -, rfl⟩ := hgt
      rw [h0l] at hx0
      obtain ⟨z, hz⟩ : ∃ z, z = 2 ^ n := ⟨_, rfl⟩
      rw [← hz] at hx0 h0l
      have hiz : i < z := by rw [hz]; exact Hin.out
      have hct0 := htr.cellAt 0 (by omega)
      rw [hx0] at hct0
      have hgtK := hS.ownt gt rfl
      have hgtl := (hS.tr.lt gt rfl).2
      have hg0K := hS.ownv _ (List.mem_of_getElem? hx0) g0 rfl
      have hr0 := hS.rows 0 _ hx0
      have hgne : g0 ≠ gt := fun e => by
        rcases Kit.rows_ne hr0 hS.tr (by decide) with e1 | e1
        · cases e1
        · exact e1 (by rw [e]; rfl)
      have hcl : ∀ w' : World, w'.heap[gt]? = wr.heap[gt]? → w'.cell? ⟨gt, 0, none⟩ = some (.slice (some ⟨g0, 0, none⟩) z c0) := fun w' e => (World.cell?_of_block (w := wr) (a := ⟨gt, 0, none⟩) e).trans hct0
      obtain ⟨K1, hK1⟩ : ∃ K1, K1 = And' K w wr := ⟨_, rfl⟩
      rw [← hK1] at hS hgtK hg0K
      clear hK1
      have hSd := hS.below ((Below.refl _ _).drew)
      have HL := rleaf_any hSd.ref hSd.on Hf.out.few s Hs.out
      rw [← HT0.out, ← HO0.out] at HL
      have hci : ∀ w', Fr K1 wr.drew w' → w'.cell? ⟨g0, i, none⟩ = some (.int .u64 ((t.getD 0 []).getD i 0 : Nat)) := fun w' f => by
        have h9 := ((hSd.call (hSd.ref.below (Below.refl _ _)) (Kit.But.refl _ _)).rows 0 _ hx0)
        have h8 := row_fr h9 (hS.ownv _ (List.mem_of_getElem? hx0)) f
        rw [show (t.getD 0 []).length = z from h0l] at h8
        have h7 := h8.cellAt i (by omega)
        rw [h7, nums_at (by rw [h0l]; exact hiz)]
      have hfz : ∀ w', Fr K1 wr.drew w' → w'.frozen? ⟨g0, i, none⟩ = false := fun w' f => by
        have h9 := ((hSd.call (hSd.ref.below (Below.refl _ _)) (Kit.But.refl _ _)).rows 0 _ hx0)
        have h8 := row_fr h9 (hS.ownv _ (List.mem_of_getElem? hx0)) f
        rw [show (t.getD 0 []).length = z from h0l] at h8
        exact h8.frozenAt i
      have hNi : (0 : Int) < (N : Int) := by omega
      have hi0' : (0 : Int) ≤ (i : Int) := by omega
      have hiz2 : (i : Int) < (z : Int) := by omega
      have Hz := Lib.hid hz
      have Hx0 := Lib.hid hx0
      have HvL := Lib.hid hvl
      have H0l := Lib.hid h0l
      clear hC htr hvl hx0 hz h0l hz1' hct0 hr0 hS hlt hk Hvl
      go_wp2
      refine wp_region_noPanic ?_
      refine wp_region_held_drew (S := fun w9 : World => w9.heap[gt]? = wr.heap[gt]?) (by kernel_rfl) ?_ (fun hHeld => ?_)
      · exact rfl
      refine wpAnyH_take (i := 0) (oi := ⟨some 39, _, _, _, _, _⟩) (v := ?_) rfl (by kernel_rfl) (by kernel_rfl) (by kernel_rfl) (fun _ _ _ h => h) (Or.inl ⟨by rfl, ?_⟩) (by assumption) ?_
      rotate_left
      · (intro w' hSw; have k0 := hcl _ hSw; go_simp; try with_reducible rfl)
      simp only [Act.put, List.setIfInBounds_toArray, List.set_cons_zero, List.set_cons_succ]
      refine wpAnyH_take (i := 1) (oi := ⟨some 40, _, _, _, _, _⟩) (v := ?_) rfl (by kernel_rfl) (by kernel_rfl) (by kernel_rfl) (fun _ _ _ h => h) (Or.inl ⟨by rfl, ?_⟩) (by assumption) ?_
      rotate_left
      · (intro w' hSw; have k0 := hcl _ hSw; go_simp; try with_reducible rfl)
      simp only [Act.put, List.setIfInBounds_toArray, List.set_cons_zero, List.set_cons_succ]
      refine wpAnyH_take (i := 2) (oi := ⟨some 41, _, _, _, _, _⟩) (v := ?_) rfl (by kernel_rfl) (by kernel_rfl) (by kernel_rfl) (fun _ _ _ h => h) (Or.inl ⟨by rfl, ?_⟩) (by assumption) ?_
      rotate_left
      · (intro w' hSw; have k0 := hcl _ hSw; go_simp; try with_reducible rfl)
      simp only [Act.put, List.setIfInBounds_toArray, List.set_cons_zero, List.set_cons_succ]
      refine wpAnyH_take (i := 3) (oi := ⟨some 42, _, _, _, _, _⟩) (v := ?_) rfl (by kernel_rfl) (by kernel_rfl) (by kernel_rfl) (fun _ _ _ h => h) (Or.inl ⟨by rfl, ?_⟩) (by assumption) ?_
      rotate_left
      · (intro w' hSw; have k0 := hcl _ hSw; go_simp; try with_reducible rfl)
      simp only [Act.put, List.setIfInBounds_toArray, List.set_cons_zero, List.set_cons_succ]
      refine wpAnyH_take (i := 4) (oi := ⟨some 43, _, _, _, _, _⟩) (v := ?_) rfl (by kernel_rfl) (by kernel_rfl) (by kernel_rfl) (fun _ _ _ h => h) (Or.inl ⟨by rfl, ?_⟩) (by assumption) ?_
      rotate_left
      · (intro w' hSw; have k0 := hcl _ hSw; go_simp; try with_reducible rfl)
      simp only [Act.put, List.setIfInBounds_toArray, List.set_cons_zero, List.set_cons_succ]
      refine wpAnyH_take (i := 5) (oi := ⟨some 44, _, _, _, _, _⟩) (v := ?_) rfl (by kernel_rfl) (by kernel_rfl) (by kernel_rfl) (fun _ _ _ h => h) (Or.inl ⟨by rfl, ?_⟩) (by assumption) ?_
      rotate_left
      · (intro w' hSw; have k0 := hcl _ hSw; go_simp; try with_reducible rfl)
      simp only [Act.put, List.setIfInBounds_toArray, List.set_cons_zero, List.set_cons_succ]
      refine wpAnyH_ready (rs := [6]) (by kernel_rfl) (by simp) ?_
      refine AllReadyH.cons (o := ⟨some 45, _, _, _, _, _⟩) rfl (fun K hK => ?_) AllReadyH.nil
      go_simp
      go_at_call 28
      refine (HL).mono ?_
      rintro e wc6 ⟨rfl, hr6, hb6⟩
      go_wp2_with fail
      refine hK.out _ _ (hb6.block gt hgtl (fun hn => hn hgtK)) (fun hHeld6 => ?_)
      clear hK K
      try simp only [Act.put, List.setIfInBounds_toArray, List.set_cons_zero, List.set_cons_succ]
      refine wpAnyH_take (i := 7) (oi := ⟨some 46, _, _, _, _, _⟩) (v := ?_) rfl (by kernel_rfl) (by kernel_rfl) (by kernel_rfl) (fun _ _ _ h => h) (Or.inl ⟨by rfl, ?_⟩) (by assumption) ?_
      rotate_left
      · (intro w' hSw; have k0 := hcl _ hSw; go_simp; try with_reducible rfl)
      simp only [Act.put, List.setIfInBounds_toArray, List.set_cons_zero, List.set_cons_succ]
      have hci := hci _ hb6
      have hfz := hfz _ hb6
      refine wpAnyH_ready (rs := [8]) (by kernel_rfl) (by simp) ?_
      refine AllReadyH.cons (o := ⟨none, _, _, _, _, _⟩) rfl (fun K hK => ?_) AllReadyH.nil
      go_simp
      refine hK.out _ _ ((Below.heap_setCell _ _ _ _ (fun e => hgne e.symm)).trans (hb6.block gt hgtl (fun hn => hn hgtK))) (fun hHeld8 => ?_)
      clear hK K
      try simp only [Act.put, List.setIfInBounds_toArray, List.set_cons_zero, List.set_cons_succ]
      refine wpAnyH_done (by kernel_rfl) ?_ _
      refine NoPanic.normal ?_
      have hS2 := (hSd.call hr6 hb6).set Hx0.out i (setT O t i s 0) (Fm O t i s 0) (Fm_zero O t i s) (fun j hj => Fm_zero' O t i s j hj)
      have htr2 := hS2.tr
      have hcell := htr2
      clear hSd HL hci hfz hHeld hHeld6 hHeld8 hcl hr6 hb6 hg0K
      go_wp2
      go_loopw [2, 14] (fun vj vi wr => ∃ (k m j : Nat), Hid (k = m + 1) ∧ Hid (j = i / 2 ^ m) ∧ k ≤ N ∧ vi = .int .i64 (k : Int) ∧ vj = .int .i64 (j : Int) ∧ j < 256 ∧ Ss K w q K1 (.slice (some ⟨gt, 0, none⟩) N vtc) vs (Fm O t i s m) (setO O t i s m) wr) (fun _ vi _ => N - (intOf vi).toNat)
      case atStart => exact ⟨1, 0, i, Lib.hid rfl, Lib.hid (by simp), hN1, rfl, rfl, hi256, hS2⟩
      case round =>
        clear hS2
        obtain ⟨k, m, j, Hkm, Hj, hk, rfl, rfl, hj256, hS⟩ := hrel
        by_cases hlt : k < N
        · have hlt2 : (k : Int) < (N : Int) := by omega
          have h0 : (0 : Int) ≤ (k : Int) := by omega
          have hm0 : (0 : Int) ≤ (m : Int) := by omega
          have hmN : m < N := by have := Hkm.out; omega
          have hmN2 : (m : Int) < (N : Int) := by omega
          have hmn : m < n := by have := Hkm.out; have := HNn.out; omega
          have hk512 : k < 512 := by have := H9.out; have := HNn.out; omega
          have ew : IntKind.i64.wrap ((k : Int) - 1) = (m : Int) := by rw [IntKind.wrap_i64]; have := Hkm.out; omega
          obtain ⟨jj, hjj⟩ : ∃ jj, jj = j / 2 := ⟨_, rfl⟩
          have hjj2 : jj = i / 2 ^ k := by rw [hjj, Hj.out, Nat.div_div_eq_div_mul, Hkm.out, Nat.pow_succ]
          have hjI : (j : Int) / 2 = (jj : Int) := by omega
          have hjT : Int.tdiv (j : Int) 2 = (jj : Int) := by rw [Int.tdiv_eq_ediv_of_nonneg (by omega)]; exact hjI
          have hjj256 : jj < 256 := by omega
          -- the rows
          obtain ⟨gk, ck, hxk⟩ := hS.form (k := k) (by rw [HvL.out]; exact hlt) (by rw [Fm_len, Hlen.out k hlt]; exact Nat.one_le_two_pow)
          obtain ⟨gm, cm, hxm⟩ := hS.form (k := m) (by rw [HvL.out]; exact hmN) (by rw [Fm_len, Hlen.out m hmN]; exact Nat.one_le_two_pow)
          rw [Fm_len, Hlen.out k hlt] at hxk
          rw [Fm_len, Hlen.out m hmN, pow_even hmn, ← Hkm.out] at hxm
          obtain ⟨p, hp⟩ : ∃ p, p = 2 ^ (n - k) := ⟨_, rfl⟩
          rw [← hp] at hxk hxm
          have hp256 : p ≤ 256 := by rw [hp]; exact Or.pow_le (by have := H9.out; omega)
          have hjp : j < 2 * p := by
            rw [Hj.out, hp, Hkm.out, ← pow_even hmn]
            exact div_pow_lt Hin.out (by omega)
          have hjjp : jj < p := by omega
          have htr := hS.tr
          rw [HvL.out] at htr
          have hctk := htr.cellAt k (by omega)
          have hctm := htr.cellAt m (by omega)
          rw [hxk] at hctk
          rw [hxm] at hctm
          have hgtl := (htr.lt gt rfl).2
          have hrm := hS.rows m _ hxm
          have hrk := hS.rows k _ hxk
          have hlm : (Fm O t i s m m).length = 2 * p := by rw [Fm_len, Hlen.out m hmN, pow_even hmn, ← Hkm.out, hp]
          have hlk : (Fm O t i s m k).length = p := by rw [Fm_len, Hlen.out k hlt, hp]
          rw [hlm] at hrm
          rw [hlk] at hrk
          have hgml := (hrm.lt gm rfl).2
          have hgmK := hS.ownv _ (List.mem_of_getElem? hxm) gm rfl
          have hgkK := hS.ownv _ (List.mem_of_getElem? hxk) gk rfl
          have hgtK := hS.ownt gt rfl
          have hne1 : gk ≠ gt := fun e => by
            rcases Kit.rows_ne hrk htr (by decide) with e1 | e1
            · cases e1
            · exact e1 (by rw [e]; rfl)
          have hne2 : gk ≠ gm := fun e => by
            have := hS.apart k m _ _ gk hxk hxm rfl (by rw [e]; rfl)
            have := Hkm.out
            omega
          have hc1 := hrm.cellAt (2 * jj) (by omega)
          have hc2 := hrm.cellAt (2 * jj + 1) (by omega)
          rw [nums_at (by rw [hlm]; omega)] at hc1 hc2
          have hcl : ∀ w' : World, (w'.heap[gt]? = wr.heap[gt]? ∧ w'.heap[gm]? = wr.heap[gm]?) → w'.cell? ⟨gt, k, none⟩ = some (.slice (some ⟨gk, 0, none⟩) p ck) ∧ w'.cell? ⟨gt, m, none⟩ = some (.slice (some ⟨gm, 0, none⟩) (2 * p) cm) ∧ w'.cell? ⟨gm, 2 * jj, none⟩ = some (.int .u64 ((Fm O t i s m m).getD (2 * jj) 0 : Nat)) ∧ w'.cell? ⟨gm, 2 * jj + 1, none⟩ = some (.int .u64 ((Fm O t i s m m).getD (2 * jj + 1) 0 : Nat)) := fun w' e =>
            ⟨(World.cell?_of_block (w := wr) (a := ⟨gt, k, none⟩) e.1).trans hctk, (World.cell?_of_block (w := wr) (a := ⟨gt, m, none⟩) e.1).trans hctm, (World.cell?_of_block (w := wr) (a := ⟨gm, 2 * jj, none⟩) e.2).trans hc1, (World.cell?_of_block (w := wr) (a := ⟨gm, 2 * jj + 1, none⟩) e.2).trans hc2⟩
          -- what is asked
          have hkp : m < (path t i).length := by rw [Hpl.out]; exact hmn
          have hpk := path_at (t := t) (i := i) (k := m) (by have := HN.out; have := HNn.out; omega)
          have htl : ((path t i).take m).length = m := by rw [List.length_take]; omega
          have hff := Or.fine_climb ((path t i).take m) (setO O t i s 0) (setT O t i s 0) i (by rw [HO0.out]; exact Hf0.out) (by rw [HT0.out]; exact Hv0.out) (by rw [htl, HO0.out]; have := Hf1.out.rows; have := H9.out; omega)
          have hfw := Fw.climb (n := 1) ((path t i).take m) (setT O t i s 0) i (O := setO O t i s 0) (by rw [HO0.out]; exact Hf1.out.less (by rw [htl]; have := H9.out; omega))
          have hct := Or.climb_take hkp (setO O t i s 0) (setT O t i s 0) i
          have eT : setT O t i s m = ((setO O t i s 0).climb (setT O t i s 0) i ((path t i).take m)).1 := rfl
          have eO : setO O t i s m = ((setO O t i s 0).climb (setT O t i s 0) i ((path t i).take m)).2 := rfl
          have eT1 : setT O t i s (m + 1) = ((setO O t i s 0).climb (setT O t i s 0) i ((path t i).take (m + 1))).1 := rfl
          have eO1 : setO O t i s (m + 1) = ((setO O t i s 0).climb (setT O t i s 0) i ((path t i).take (m + 1))).2 := rfl
          rw [hct] at eT1 eO1
          rw [← eT, ← eO] at eT1 eO1
          rw [← eT, ← eO] at hff
          rw [← eO] at hfw
          simp only at eT1 eO1
          have hnj := node_join (l := t.getD m []) (j := j) (c := setT O t i s m) (by rw [Hlen.out m hmN, pow_even hmn, ← Hkm.out, ← hp]; exact hjp)
          have htop : (t.getD m []).set j (setT O t i s m) = Fm O t i s m m := by rw [Fm_top, Hj.out]
          rw [← Hj.out] at hpk eT1 eO1
          rw [← hpk, htop, ← hjj] at hnj
          rw [← hnj, ← Hkm.out] at eT1 eO1
          have hxb : ∀ x, (Fm O t i s m m).getD x 0 < 18446744073709551616 := fun x => by
            rw [Fm_top, List.getD_eq_getElem?_getD]
            cases hg : ((t.getD m []).set (i / 2 ^ m) (setT O t i s m))[x]? with
            | none => simp
            | some y =>
              rcases List.mem_or_eq_of_mem_set (List.mem_of_getElem? hg) with h9 | h9
              · exact Hx.out m y h9
              · rw [h9]; exact hff.2
          have hSd := hS.below ((Below.refl _ _).drew)
          have HQ := rnode_any hSd.ref hSd.on hfw.few ((Fm O t i s m m).getD (2 * jj) 0) ((Fm O t i s m m).getD (2 * jj + 1) 0) (hxb _) (hxb _)
          rw [← eT1, ← eO1] at HQ
          have hci : ∀ w', Fr K1 wr.drew w' → w'.cell? ⟨gk, jj, none⟩ = some (.int .u64 ((Fm O t i s m k).getD jj 0 : Nat)) ∧ w'.frozen? ⟨gk, jj, none⟩ = false := fun w' f => by
            have h8 := row_fr (hSd.rows k _ hxk) (hS.ownv _ (List.mem_of_getElem? hxk)) f
            rw [hlk] at h8
            have h7 := h8.cellAt jj (by omega)
            exact ⟨by rw [h7, nums_at (by rw [hlk]; exact hjjp)], h8.frozenAt jj⟩
          have hF1 : Fm O t i s k k = (Fm O t i s m k).set jj (setT O t i s k) := by rw [Hkm.out, Fm_new, ← Hkm.out, ← hjj2]
          have hF2 : ∀ l, l ≠ k → Fm O t i s k l = Fm O t i s m l := fun l hl => by rw [Hkm.out]; exact Fm_old O t i s m l (by rw [← Hkm.out]; exact hl)
          have g1 : (0 : Int) ≤ 2 * (jj : Int) := by omega
          have g2 : 2 * (jj : Int) < 2 * (p : Int) := by omega
          have g3 : (0 : Int) ≤ 2 * (jj : Int) + 1 := by omega
          have g4 : 2 * (jj : Int) + 1 < 2 * (p : Int) := by omega
          have g5 : (0 : Int) ≤ (jj : Int) := by omega
          have g6 : (jj : Int) < (p : Int) := by omega
          have w1 : IntKind.i64.wrap (2 * (jj : Int)) = 2 * (jj : Int) := by rw [IntKind.wrap_i64]; omega
          have w2 : IntKind.i64.wrap (2 * (jj : Int) + 1) = 2 * (jj : Int) + 1 := by rw [IntKind.wrap_i64]; omega
          have w3 : (2 * (jj : Int)).toNat = 2 * jj := by omega
          have w4 : (2 * (jj : Int) + 1).toNat = 2 * jj + 1 := by omega
          have Hjj2 := Lib.hid hjj2
          have HF1 := Lib.hid hF1
          have HF2 := Lib.hid hF2
          have Hxk := Lib.hid hxk
          generalize (Fm O t i s m m).getD (2 * jj) 0 = x at *
          generalize (Fm O t i s m m).getD (2 * jj + 1) 0 = y at *
          generalize (Fm O t i s m k).getD jj 0 = old at *
          clear hS htr hctk hctm hrm hrk hlm hlk hc1 hc2 hkp hpk htl hff hfw hct eT eO eT1 eO1 hnj htop hxb hp hjp hjj hjj2 hF1 hF2 hxk hxm hmN hmn
          go_wp2
          refine wp_region_noPanic ?_
          refine wp_region_held_drew (S := fun w9 : World => w9.heap[gt]? = wr.heap[gt]? ∧ w9.heap[gm]? = wr.heap[gm]?) (by kernel_rfl) ?_ (fun hHeld => ?_)
          · exact ⟨rfl, rfl⟩
          refine wpAnyH_take (i := 0) (oi := ⟨some 55, _, _, _, _, _⟩) (v := ?_) rfl (by kernel_rfl) (by kernel_rfl) (by kernel_rfl) (fun _ _ _ h => h) (Or.inl ⟨by rfl, ?_⟩) (by assumption) ?_
          rotate_left
          · (intro w' hSw; obtain ⟨k0, k1, k2, k3⟩ := hcl _ hSw; go_simp; try with_reducible rfl)
          simp only [Act.put, List.setIfInBounds_toArray, List.set_cons_zero, List.set_cons_succ]
          refine wpAnyH_take (i := 1) (oi := ⟨some 56, _, _, _, _, _⟩) (v := ?_) rfl (by kernel_rfl) (by kernel_rfl) (by kernel_rfl) (fun _ _ _ h => h) (Or.inl ⟨by rfl, ?_⟩) (by assumption) ?_
          rotate_left
          · (intro w' hSw; obtain ⟨k0, k1, k2, k3⟩ := hcl _ hSw; go_simp; try with_reducible rfl)
          simp only [Act.put, List.setIfInBounds_toArray, List.set_cons_zero, List.set_cons_succ]
          refine wpAnyH_take (i := 2) (oi := ⟨some 57, _, _, _, _, _⟩) (v := ?_) rfl (by kernel_rfl) (by kernel_rfl) (by kernel_rfl) (fun _ _ _ h => h) (Or.inl ⟨by rfl, ?_⟩) (by assumption) ?_
          rotate_left
          · (intro w' hSw; obtain ⟨k0, k1, k2, k3⟩ := hcl _ hSw; go_simp; try with_reducible rfl)
          simp only [Act.put, List.setIfInBounds_toArray, List.set_cons_zero, List.set_cons_succ]
          refine wpAnyH_take (i := 3) (oi := ⟨some 58, _, _, _, _, _⟩) (v := ?_) rfl (by kernel_rfl) (by kernel_rfl) (by kernel_rfl) (fun _ _ _ h => h) (Or.inl ⟨by rfl, ?_⟩) (by assumption) ?_
          rotate_left
          · (intro w' hSw; obtain ⟨k0, k1, k2, k3⟩ := hcl _ hSw; go_simp; try with_reducible rfl)
          simp only [Act.put, List.setIfInBounds_toArray, List.set_cons_zero, List.set_cons_succ]
          refine wpAnyH_take (i := 4) (oi := ⟨some 59, _, _, _, _, _⟩) (v := ?_) rfl (by kernel_rfl) (by kernel_rfl) (by kernel_rfl) (fun _ _ _ h => h) (Or.inl ⟨by rfl, ?_⟩) (by assumption) ?_
          rotate_left
          · (intro w' hSw; obtain ⟨k0, k1, k2, k3⟩ := hcl _ hSw; go_simp; try with_reducible rfl)
          simp only [Act.put, List.setIfInBounds_toArray, List.set_cons_zero, List.set_cons_succ]
          refine wpAnyH_take (i := 5) (oi := ⟨some 60, _, _, _, _, _⟩) (v := ?_) rfl (by kernel_rfl) (by kernel_rfl) (by kernel_rfl) (fun _ _ _ h => h) (Or.inl ⟨by rfl, ?_⟩) (by assumption) ?_
          rotate_left
          · (intro w' hSw; obtain ⟨k0, k1, k2, k3⟩ := hcl _ hSw; go_simp; try with_reducible rfl)
          simp only [Act.put, List.setIfInBounds_toArray, List.set_cons_zero, List.set_cons_succ]
          refine wpAnyH_take (i := 6) (oi := ⟨some 61, _, _, _, _, _⟩) (v := ?_) rfl (by kernel_rfl) (by kernel_rfl) (by kernel_rfl) (fun _ _ _ h => h) (Or.inl ⟨by rfl, ?_⟩) (by assumption) ?_
          rotate_left
          · (intro w' hSw; obtain ⟨k0, k1, k2, k3⟩ := hcl _ hSw; go_simp; try with_reducible rfl)
          simp only [Act.put, List.setIfInBounds_toArray, List.set_cons_zero, List.set_cons_succ]
          refine wpAnyH_take (i := 7) (oi := ⟨some 62, _, _, _, _, _⟩) (v := ?_) rfl (by kernel_rfl) (by kernel_rfl) (by kernel_rfl) (fun _ _ _ h => h) (Or.inl ⟨by rfl, ?_⟩) (by assumption) ?_
          rotate_left
          · (intro w' hSw; obtain ⟨k0, k1, k2, k3⟩ := hcl _ hSw; go_simp; try with_reducible rfl)
          simp only [Act.put, List.setIfInBounds_toArray, List.set_cons_zero, List.set_cons_succ]
          refine wpAnyH_take (i := 8) (oi := ⟨some 63, _, _, _, _, _⟩) (v := ?_) rfl (by kernel_rfl) (by kernel_rfl) (by kernel_rfl) (fun _ _ _ h => h) (Or.inl ⟨by rfl, ?_⟩) (by assumption) ?_
          rotate_left
          · (intro w' hSw; obtain ⟨k0, k1, k2, k3⟩ := hcl _ hSw; go_simp; try with_reducible rfl)
          simp only [Act.put, List.setIfInBounds_toArray, List.set_cons_zero, List.set_cons_succ]
          refine wpAnyH_take (i := 9) (oi := ⟨some 64, _, _, _, _, _⟩) (v := ?_) rfl (by kernel_rfl) (by kernel_rfl) (by kernel_rfl) (fun _ _ _ h => h) (Or.inl ⟨by rfl, ?_⟩) (by assumption) ?_
          rotate_left
          · (intro w' hSw; obtain ⟨k0, k1, k2, k3⟩ := hcl _ hSw; go_simp; try with_reducible rfl)
          simp only [Act.put, List.setIfInBounds_toArray, List.set_cons_zero, List.set_cons_succ]
          refine wpAnyH_take (i := 10) (oi := ⟨some 65, _, _, _, _, _⟩) (v := ?_) rfl (by kernel_rfl) (by kernel_rfl) (by kernel_rfl) (fun _ _ _ h => h) (Or.inl ⟨by rfl, ?_⟩) (by assumption) ?_
          rotate_left
          · (intro w' hSw; obtain ⟨k0, k1, k2, k3⟩ := hcl _ hSw; go_simp; try with_reducible rfl)
          simp only [Act.put, List.setIfInBounds_toArray, List.set_cons_zero, List.set_cons_succ]
          refine wpAnyH_take (i := 11) (oi := ⟨some 66, _, _, _, _, _⟩) (v := ?_) rfl (by kernel_rfl) (by kernel_rfl) (by kernel_rfl) (fun _ _ _ h => h) (Or.inl ⟨by rfl, ?_⟩) (by assumption) ?_
          rotate_left
          · (intro w' hSw; obtain ⟨k0, k1, k2, k3⟩ := hcl _ hSw; go_simp; try with_reducible rfl)
          simp only [Act.put, List.setIfInBounds_toArray, List.set_cons_zero, List.set_cons_succ]
          refine wpAnyH_take (i := 12) (oi := ⟨some 67, _, _, _, _, _⟩) (v := ?_) rfl (by kernel_rfl) (by kernel_rfl) (by kernel_rfl) (fun _ _ _ h => h) (Or.inl ⟨by rfl, ?_⟩) (by assumption) ?_
          rotate_left
          · (intro w' hSw; obtain ⟨k0, k1, k2, k3⟩ := hcl _ hSw; go_simp; try with_reducible rfl)
          simp only [Act.put, List.setIfInBounds_toArray, List.set_cons_zero, List.set_cons_succ]
          refine wpAnyH_take (i := 13) (oi := ⟨some 68, _, _, _, _, _⟩) (v := ?_) rfl (by kernel_rfl) (by kernel_rfl) (by kernel_rfl) (fun _ _ _ h => h) (Or.inl ⟨by rfl, ?_⟩) (by assumption) ?_
          rotate_left
          · (intro w' hSw; obtain ⟨k0, k1, k2, k3⟩ := hcl _ hSw; go_simp; try with_reducible rfl)
          simp only [Act.put, List.setIfInBounds_toArray, List.set_cons_zero, List.set_cons_succ]
          refine wpAnyH_take (i := 14) (oi := ⟨some 69, _, _, _, _, _⟩) (v := ?_) rfl (by kernel_rfl) (by kernel_rfl) (by kernel_rfl) (fun _ _ _ h => h) (Or.inl ⟨by rfl, ?_⟩) (by assumption) ?_
          rotate_left
          · (intro w' hSw; obtain ⟨k0, k1, k2, k3⟩ := hcl _ hSw; go_simp; try with_reducible rfl)
          simp only [Act.put, List.setIfInBounds_toArray, List.set_cons_zero, List.set_cons_succ]
          refine wpAnyH_take (i := 15) (oi := ⟨some 70, _, _, _, _, _⟩) (v := ?_) rfl (by kernel_rfl) (by kernel_rfl) (by kernel_rfl) (fun _ _ _ h => h) (Or.inl ⟨by rfl, ?_⟩) (by assumption) ?_
          rotate_left
          · (intro w' hSw; obtain ⟨k0, k1, k2, k3⟩ := hcl _ hSw; go_simp; try with_reducible rfl)
          simp only [Act.put, List.setIfInBounds_toArray, List.set_cons_zero, List.set_cons_succ]
          refine wpAnyH_take (i := 16) (oi := ⟨some 71, _, _, _, _, _⟩) (v := ?_) rfl (by kernel_rfl) (by kernel_rfl) (by kernel_rfl) (fun _ _ _ h => h) (Or.inl ⟨by rfl, ?_⟩) (by assumption) ?_
          rotate_left
          · (intro w' hSw; obtain ⟨k0, k1, k2, k3⟩ := hcl _ hSw; go_simp; try with_reducible rfl)
          simp only [Act.put, List.setIfInBounds_toArray, List.set_cons_zero, List.set_cons_succ]
          refine wpAnyH_take (i := 17) (oi := ⟨some 72, _, _, _, _, _⟩) (v := ?_) rfl (by kernel_rfl) (by kernel_rfl) (by kernel_rfl) (fun _ _ _ h => h) (Or.inl ⟨by rfl, ?_⟩) (by assumption) ?_
          rotate_left
          · (intro w' hSw; obtain ⟨k0, k1, k2, k3⟩ := hcl _ hSw; go_simp; try with_reducible rfl)
          simp only [Act.put, List.setIfInBounds_toArray, List.set_cons_zero, List.set_cons_succ]
          refine wpAnyH_take (i := 18) (oi := ⟨some 73, _, _, _, _, _⟩) (v := ?_) rfl (by kernel_rfl) (by kernel_rfl) (by kernel_rfl) (fun _ _ _ h => h) (Or.inl ⟨by rfl, ?_⟩) (by assumption) ?_
          rotate_left
          · (intro w' hSw; obtain ⟨k0, k1, k2, k3⟩ := hcl _ hSw; go_simp; try with_reducible rfl)
          simp only [Act.put, List.setIfInBounds_toArray, List.set_cons_zero, List.set_cons_succ]
          refine wpAnyH_take (i := 19) (oi := ⟨some 74, _, _, _, _, _⟩) (v := ?_) rfl (by kernel_rfl) (by kernel_rfl) (by kernel_rfl) (fun _ _ _ h => h) (Or.inl ⟨by rfl, ?_⟩) (by assumption) ?_
          rotate_left
          · (intro w' hSw; obtain ⟨k0, k1, k2, k3⟩ := hcl _ hSw; go_simp; try with_reducible rfl)
          simp only [Act.put, List.setIfInBounds_toArray, List.set_cons_zero, List.set_cons_succ]
          refine wpAnyH_take (i := 20) (oi := ⟨some 75, _, _, _, _, _⟩) (v := ?_) rfl (by kernel_rfl) (by kernel_rfl) (by kernel_rfl) (fun _ _ _ h => h) (Or.inl ⟨by rfl, ?_⟩) (by assumption) ?_
          rotate_left
          · (intro w' hSw; obtain ⟨k0, k1, k2, k3⟩ := hcl _ hSw; go_simp; try with_reducible rfl)
          simp only [Act.put, List.setIfInBounds_toArray, List.set_cons_zero, List.set_cons_succ]
          refine wpAnyH_take (i := 21) (oi := ⟨some 76, _, _, _, _, _⟩) (v := ?_) rfl (by kernel_rfl) (by kernel_rfl) (by kernel_rfl) (fun _ _ _ h => h) (Or.inl ⟨by rfl, ?_⟩) (by assumption) ?_
          rotate_left
          · (intro w' hSw; obtain ⟨k0, k1, k2, k3⟩ := hcl _ hSw; go_simp; try with_reducible rfl)
          simp only [Act.put, List.setIfInBounds_toArray, List.set_cons_zero, List.set_cons_succ]
          refine wpAnyH_take (i := 22) (oi := ⟨some 77, _, _, _, _, _⟩) (v := ?_) rfl (by kernel_rfl) (by kernel_rfl) (by kernel_rfl) (fun _ _ _ h => h) (Or.inl ⟨by rfl, ?_⟩) (by assumption) ?_
          rotate_left
          · (intro w' hSw; obtain ⟨k0, k1, k2, k3⟩ := hcl _ hSw; go_simp; try with_reducible rfl)
          simp only [Act.put, List.setIfInBounds_toArray, List.set_cons_zero, List.set_cons_succ]
          refine wpAnyH_take (i := 23) (oi := ⟨some 78, _, _, _, _, _⟩) (v := ?_) rfl (by kernel_rfl) (by kernel_rfl) (by kernel_rfl) (fun _ _ _ h => h) (Or.inl ⟨by rfl, ?_⟩) (by assumption) ?_
          rotate_left
          · (intro w' hSw; obtain ⟨k0, k1, k2, k3⟩ := hcl _ hSw; go_simp; try with_reducible rfl)
          simp only [Act.put, List.setIfInBounds_toArray, List.set_cons_zero, List.set_cons_succ]
          refine wpAnyH_take (i := 24) (oi := ⟨some 79, _, _, _, _, _⟩) (v := ?_) rfl (by kernel_rfl) (by kernel_rfl) (by kernel_rfl) (fun _ _ _ h => h) (Or.inl ⟨by rfl, ?_⟩) (by assumption) ?_
          rotate_left
          · (intro w' hSw; obtain ⟨k0, k1, k2, k3⟩ := hcl _ hSw; go_simp; try with_reducible rfl)
          simp only [Act.put, List.setIfInBounds_toArray, List.set_cons_zero, List.set_cons_succ]
          refine wpAnyH_ready (rs := [25]) (by kernel_rfl) (by simp) ?_
          refine AllReadyH.cons (o := ⟨some 80, _, _, _, _, _⟩) rfl (fun K hK => ?_) AllReadyH.nil
          go_simp
          go_at_call 30
          refine (HQ).mono ?_
          rintro e wc25 ⟨rfl, hr25, hb25⟩
          go_wp2_with fail
          refine hK.out _ _ (⟨hb25.block gt hgtl (fun hn => hn hgtK), hb25.block gm hgml (fun hn => hn hgmK)⟩) (fun hHeld25 => ?_)
          clear hK K
          try simp only [Act.put, List.setIfInBounds_toArray, List.set_cons_zero, List.set_cons_succ]
          refine wpAnyH_take (i := 26) (oi := ⟨some 81, _, _, _, _, _⟩) (v := ?_) rfl (by kernel_rfl) (by kernel_rfl) (by kernel_rfl) (fun _ _ _ h => h) (Or.inl ⟨by rfl, ?_⟩) (by assumption) ?_
          rotate_left
          · (intro w' hSw; obtain ⟨k0, k1, k2, k3⟩ := hcl _ hSw; go_simp; try with_reducible rfl)
          simp only [Act.put, List.setIfInBounds_toArray, List.set_cons_zero, List.set_cons_succ]
          obtain ⟨hcj, hfj⟩ := hci _ hb25
          refine wpAnyH_ready (rs := [27]) (by kernel_rfl) (by simp) ?_
          refine AllReadyH.cons (o := ⟨none, _, _, _, _, _⟩) rfl (fun K hK => ?_) AllReadyH.nil
          go_simp
          refine hK.out _ _ ⟨(Below.heap_setCell _ _ _ _ (fun e => hne1 e.symm)).trans (hb25.block gt hgtl (fun hn => hn hgtK)), (Below.heap_setCell _ _ _ _ (fun e => hne2 e.symm)).trans (hb25.block gm hgml (fun hn => hn hgmK))⟩ (fun hHeld27 => ?_)
          clear hK K hcj hfj
          try simp only [Act.put, List.setIfInBounds_toArray, List.set_cons_zero, List.set_cons_succ]
          refine wpAnyH_done (by kernel_rfl) ?_ _
          refine NoPanic.normal ?_
          have hS2 := (hSd.call hr25 hb25).set Hxk.out jj (setT O t i s k) (Fm O t i s k) HF1.out HF2.out
          clear hSd hci hcl w1 w2 w3 w4 hr25 hb25 HQ
          go_wp2
          go_roundw
          case rel => exact ⟨k + 1, k, jj, Lib.hid rfl, Hjj2, hlt, by go_num, rfl, hjj256, hS2⟩
          case measure => simp [intOf]; omega
        · have hkN : k = N := by omega
          have hd1 : decide ((k : Int) < (N : Int)) = false := by rw [decide_eq_false_iff_not]; omega
          have hd2 : decide (k < N) = false := by rw [decide_eq_false_iff_not]; omega
          have hmn : m = n := by have := Hkm.out; have := HNn.out; omega
          have hfin := hS.fin
          rw [HvL.out, HNn.out, hmn, Fm_all O t i s n (by rw [← HN.out]; exact HNn.out), ← HNn.out] at hfin
          rw [hmn] at hS
          clear hlt hk hmn hkN
          go_wp2
          go_ret2
          exact ⟨_, K1, rfl, hS.sub, hS.on, hS.ref, hS.fr, hfin⟩
end Go.Proofs.Ytllbcnficlbobaa.Mr
/-! Path, Climb and Set in one form each, the program's and the document's own. -/
namespace Go.Proofs.Ytllbcnficlbobaa.Mr
open Go.RowKit
open Ideal Ida Mer Mera Ref3

def In (t : List (List Nat)) (i : Int) : Prop := shaped t = true ∧ 0 ≤ i ∧ i < ((t.getD 0 []).length : Int)
instance (t : List (List Nat)) (i : Int) : Decidable (In t i) := inferInstanceAs (Decidable (_ ∧ _ ∧ _))
def pth (t : List (List Nat)) (i : Int) : List Nat := if In t i then path t i.toNat else []
theorem pth_len (t : List (List Nat)) (i : Int) : (pth t i).length ≤ 8 := by
  unfold pth
  split
  · rename_i h
    rw [path_length]
    have := (shaped_iff.1 h.1).2.1
    omega
  · simp
theorem path_uni {S : Nat → Prop} (t : List (List Nat)) (i : Int) (v : Value) (w : World) (hv : Kit.Tr S w v t) :
    Calls Try.prog 19 #[v, .int .i64 i] w fun e w' => ∃ v', e = .returned (.tuple #[v', .bool (decide (In t i))]) ∧ Kit.Off (· < w.heap.size) w' v' (nums (pth t i)) ∧ Below w.heap.size w w' := by
  by_cases h : In t i
  · obtain ⟨n, rfl⟩ : ∃ n : Nat, i = (n : Int) := ⟨i.toNat, by have := h.2.1; omega⟩
    refine (path_yes t h.1 n (by have := h.2.2; omega) v w hv).mono ?_
    rintro e w' ⟨v', rfl, hr, b⟩
    unfold pth
    rw [if_pos h, decide_eq_true h]
    exact ⟨v', rfl, Kit.Off.of_own hr (fun i hi => hi), b⟩
  · refine (path_no t i h v w hv).mono ?_
    rintro e w' ⟨rfl, b⟩
    unfold pth
    rw [if_neg h, decide_eq_false h]
    exact ⟨_, rfl, Kit.Off.nil_ _ _, b⟩
theorem rpath_uni {S : Nat → Prop} (t : List (List Nat)) (i : Int) (v : Value) (w : World) (hv : Kit.Tr S w v t) :
    Calls Try.prog 20 #[v, .int .i64 i] w fun e w' => ∃ v', e = .returned (.tuple #[v', .bool (decide (In t i))]) ∧ Kit.Off (· < w.heap.size) w' v' (nums (pth t i)) ∧ Below w.heap.size w w' := by
  by_cases h : In t i
  · obtain ⟨n, rfl⟩ : ∃ n : Nat, i = (n : Int) := ⟨i.toNat, by have := h.2.1; omega⟩
    refine (rpath_yes t h.1 n (by have := h.2.2; omega) v w hv).mono ?_
    rintro e w' ⟨v', rfl, hr, b⟩
    unfold pth
    rw [if_pos h, decide_eq_true h]
    exact ⟨v', rfl, Kit.Off.of_own hr (fun i hi => hi), b⟩
  · refine (rpath_no t i h v w hv).mono ?_
    rintro e w' ⟨rfl, b⟩
    unfold pth
    rw [if_neg h, decide_eq_false h]
    exact ⟨_, rfl, Kit.Off.nil_ _ _, b⟩

def Cin (l : List Nat) (i : Int) : Prop := l.length ≤ 8 ∧ 0 ≤ i ∧ i < ((2 ^ l.length : Nat) : Int)
instance (l : List Nat) (i : Int) : Decidable (Cin l i) := inferInstanceAs (Decidable (_ ∧ _ ∧ _))
def clV (O : Or) (s : ByteArray) (i : Int) (l : List Nat) : Nat := if Cin l i then ((O.ask (qh (leafT s))).climb (O.val (qh (leafT s))) i.toNat l).1 else 0
def clO (O : Or) (s : ByteArray) (i : Int) (l : List Nat) : Or := if Cin l i then ((O.ask (qh (leafT s))).climb (O.val (qh (leafT s))) i.toNat l).2 else O
theorem Fw.cl {O : Or} {n : Nat} (h : Fw O (n + 9)) (s : ByteArray) (i : Int) (l : List Nat) : Fw (clO O s i l) n := by
  unfold clO
  split
  · rename_i hc
    exact Fw.climb _ _ _ (Fw.ask (n := n + l.length) (h.less (by have := hc.1; omega)) _)
  · exact h.less (by omega)
theorem clV_lt {O : Or} (hf : O.fine) (hn : Fw O 16) (s : ByteArray) (i : Int) (l : List Nat) : clV O s i l < 18446744073709551616 := by
  unfold clV
  split
  · rename_i hc
    have h1 := hn.rows
    have h2 := Or.len_ask (O := O) (qh (leafT s))
    have h3 := hc.1
    exact (Or.fine_climb l _ _ _ (Or.fine_ask hf (by omega) _) (Or.val_lt hf (by omega) _) (by omega)).2
  · decide
theorem climb_uni {L : Lay} {O : Or} {w : World} (h : Orc w L O) (hn : Fw O 16) (s : ByteArray) (hs : s.size + 4 ≤ maxLen) (i : Int) (l : List Nat) (hx : ∀ x ∈ l, x < 18446744073709551616) (v : Value) (hv : Kit.Off L.own w v (nums l)) :
    Calls Try.prog 21 #[ptr L, .string s, .int .i64 i, v] w fun e w' => e = .returned (.tuple #[.int .u64 (clV O s i l : Int), .bool (decide (Cin l i))]) ∧ Orc w' L (clO O s i l) ∧ Kit.But L.own w w' := by
  by_cases hc : Cin l i
  · obtain ⟨n, rfl⟩ : ∃ n : Nat, i = (n : Int) := ⟨i.toNat, by have := hc.2.1; omega⟩
    unfold clV clO
    rw [if_pos hc, if_pos hc, decide_eq_true hc]
    exact climb_yes h (by have := hn.rows; omega) s hs n l hc.1 (by have := hc.2.2; omega) hx v hv
  · refine (climb_no (L := L) s i l hc v w hv.rd).mono ?_
    rintro e w' ⟨rfl, b⟩
    unfold clV clO
    rw [if_neg hc, if_neg hc, decide_eq_false hc]
    exact ⟨rfl, h.below b, Kit.But.of_below b (Nat.le_refl _) _⟩
theorem rclimb_uni {K : Nat → Prop} {q : Nat} {w : World} {O : Or} (h : Ref K w q O) (hB : On K w) (hn : Fw O 16) (s : ByteArray) (hs : s.size + 4 ≤ maxLen) (i : Int) (l : List Nat) (hx : ∀ x ∈ l, x < 18446744073709551616) (v : Value) (hv : Kit.Off (fun i => ¬ K i) w v (nums l)) :
    Calls Try.prog 22 #[rptr q, .string s, .int .i64 i, v] w fun e w' => e = .returned (.tuple #[.int .u64 (clV O s i l : Int), .bool (decide (Cin l i))]) ∧ Ref K w' q (clO O s i l) ∧ Fr K w w' := by
  by_cases hc : Cin l i
  · obtain ⟨n, rfl⟩ : ∃ n : Nat, i = (n : Int) := ⟨i.toNat, by have := hc.2.1; omega⟩
    unfold clV clO
    rw [if_pos hc, if_pos hc, decide_eq_true hc]
    exact rclimb_yes h hB hn s hs n l hc.1 (by have := hc.2.2; omega) hx v hv
  · refine (rclimb_no (q := q) s i l hc v w hv.rd).mono ?_
    rintro e w' ⟨rfl, b⟩
    unfold clV clO
    rw [if_neg hc, if_neg hc, decide_eq_false hc]
    exact ⟨rfl, h.below b, fr_of b⟩

def stT (O : Or) (t : List (List Nat)) (i : Int) (s : ByteArray) : List (List Nat) := if In t i then setL O t i.toNat s else []
def stO (O : Or) (t : List (List Nat)) (i : Int) (s : ByteArray) : Or := if In t i then setO O t i.toNat s (t.length - 1) else O
theorem Fw.st {O : Or} {n : Nat} (h : Fw O (n + 9)) (t : List (List Nat)) (i : Int) (s : ByteArray) : Fw (stO O t i s) n := by
  unfold stO
  split
  · rename_i hc
    have h1 := (shaped_iff.1 hc.1).2.1
    unfold setO
    exact Fw.climb _ _ _ (Fw.ask (n := n + ((path t i.toNat).take (t.length - 1)).length) (h.less (by rw [List.length_take]; omega)) _)
  · exact h.less (by omega)
theorem set_uni {L : Lay} {O : Or} {w : World} (h : Orc w L O) (hn : Fw O 64) (t : List (List Nat)) (hx : ∀ k x, x ∈ t.getD k [] → x < 18446744073709551616) (i : Int) (s : ByteArray) (hsz : s.size + 4 ≤ maxLen) (v : Value) (hv : Kit.Tr L.own w v t) :
    Calls Try.prog 23 #[ptr L, v, .int .i64 i, .string s] w fun e w' => ∃ v', e = .returned (.tuple #[v', .bool (decide (In t i))]) ∧ Kit.Tr (· < w.heap.size) w' v' (stT O t i s) ∧ Orc w' L (stO O t i s) ∧ Kit.But L.own w w' := by
  by_cases hc : In t i
  · obtain ⟨n, rfl⟩ : ∃ n : Nat, i = (n : Int) := ⟨i.toNat, by have := hc.2.1; omega⟩
    unfold stT stO
    rw [if_pos hc, if_pos hc, decide_eq_true hc]
    exact set_yes h (by have := hn.rows; omega) t hc.1 hx n (by have := hc.2.2; omega) s hsz v hv
  · refine (set_no (L := L) t i hc s v w hv).mono ?_
    rintro e w' ⟨rfl, b⟩
    unfold stT stO
    rw [if_neg hc, if_neg hc, decide_eq_false hc]
    exact ⟨_, rfl, Kit.Tr.nil_ _ _, h.below b, Kit.But.of_below b (Nat.le_refl _) _⟩
theorem rset_uni {K : Nat → Prop} {q : Nat} {w : World} {O : Or} (h : Ref K w q O) (hB : On K w) (hn : Fw O 64) (t : List (List Nat)) (hx : ∀ k x, x ∈ t.getD k [] → x < 18446744073709551616) (i : Int) (s : ByteArray) (hsz : s.size + 4 ≤ maxLen) (v : Value) (hv : Kit.Tr (fun i => ¬ K i) w v t) :
    Calls Try.prog 24 #[rptr q, v, .int .i64 i, .string s] w fun e w' => ∃ (v' : Value) (K' : Nat → Prop), e = .returned (.tuple #[v', .bool (decide (In t i))]) ∧ (∀ j, K j → K' j) ∧ On K' w' ∧ Ref K' w' q (stO O t i s) ∧ Fr K w w' ∧ Kit.Tr (fun i => ¬ K' i ∨ i < w.heap.size) w' v' (stT O t i s) := by
  by_cases hc : In t i
  · obtain ⟨n, rfl⟩ : ∃ n : Nat, i = (n : Int) := ⟨i.toNat, by have := hc.2.1; omega⟩
    unfold stT stO
    rw [if_pos hc, if_pos hc, decide_eq_true hc]
    exact rset_yes h hB hn t hc.1 hx n (by have := hc.2.2; omega) s hsz v hv
  · refine (rset_no (q := q) t i hc s v w hv).mono ?_
    rintro e w' ⟨rfl, b⟩
    unfold stT stO
    rw [if_neg hc, if_neg hc, decide_eq_false hc]
    exact ⟨_, K, rfl, fun _ hj => hj, on_of hB b.size, h.below b, fr_of b, Kit.Tr.nil_ _ _⟩

/-! What moves along while two oracles go on: K: what the document's oracle keeps off; B: where the laws' own blocks begin. -/
def Zs (K : Nat → Prop) (B i : Nat) : Prop := ¬ K i ∨ i < B
theorem ref_but {K S : Nat → Prop} {w w' : World} {q : Nat} {O : Or} (h : Ref K w q O) (hS : ∀ i, S i → K i) (b : Kit.But S w w') : Ref K w' q O := h.kept (fun k hk hlt => b.block k hlt (fun hs => hk (hS k hs)))
theorem z_own {K : Nat → Prop} {B : Nat} {M : Lay} {w w' : World} (hM : ∀ i, M.own i → i < B) (b : Kit.But M.own w w') : Kit.But (Zs K B) w w' := b.wider (fun k _ hk => .inr (hM k hk))
theorem z_fr {K : Nat → Prop} {B : Nat} {w w' : World} (f : Fr K w w') : Kit.But (Zs K B) w w' := f.wider (fun _ _ hk => .inl hk)
theorem z_below {K : Nat → Prop} {B : Nat} {w w' : World} (hB : ∀ i, i < B → K i) (hs : B ≤ w.heap.size) (f : Fr K w w') : Below B w w' := f.below hs (fun k hn => by
  rcases Nat.lt_or_ge k B with h | h
  · exact absurd (hB k h) hn
  · exact h)
theorem z_new {K : Nat → Prop} {B i : Nat} {w w' : World} (hB : B ≤ w.heap.size) (hi : i < w'.heap.size) (hz : Zs (And' K w w') B i) : i < w.heap.size := by
  rcases hz with hz | hz
  · rcases Nat.lt_or_ge i w.heap.size with h | h
    · exact h
    · exact absurd (.inr ⟨h, hi⟩) hz
  · omega
theorem z_sub {K K' : Nat → Prop} {B i : Nat} (h : ∀ j, K j → K' j) (hz : Zs K' B i) : Zs K B i := hz.imp (fun hn hk => hn (h i hk)) id
theorem Fw.fits {O : Or} {n : Nat} (h : Fw O (n + 3000)) (t : List (List Nat)) : Fw (O.fits t).2 n := by
  unfold Or.fits
  split
  · rename_i hs
    have h1 := fitL_len hs (t.length - 1) (Nat.le_refl _)
    have h2 := (shaped_iff.1 hs).2.1
    exact Fw.cmp _ (h.less (by omega))
  · exact h.less (by omega)
end Go.Proofs.Ytllbcnficlbobaa.Mr
