/-
  Mr2: MrE, MrF.
-/
import Derived.Test.YtllbcnficlbobaaMr1
import Derived.Test.YtllbcnficlbobaaIRefD
/-! The document's own layer 6: rows of the call's own while its oracle goes on. -/
namespace Go.Proofs.Ytllbcnficlbobaa.Mr
open Go.RowKit
open Ideal Ida Mer Mera Ref3

section
variable {P : Program} {W : World} {ops : Array Oper} {rest : List Oper} {o : Oper} {a : Act} {Q : Exit → Act → World → Prop} {K : Act → World → Prop} {E : Prop}
/-- One value appended: the row's block is the old one, or a new one. -/
theorem wp_append_at (s x : Operand) (t : TypeId) (ho : o.op = .call { callee := .builtin .append, args := #[s, x], argTypes := #[t, t] })
    (base : Nat) (e : TypeId) (i : TypeInfo) (z : Value) (bytes : Nat) (ht : P.underlying t = some (.slice e)) (hi : P.info? e = some i) (hz : i.zero = some z) (hsize : i.size = 1) (hby : i.bytes = bytes) (hzs : z.cells.size = 1)
    (v : Value) (n : Nat) (xs : List Value) (hs : a.eval s = v) (hown : W.ownsRow base e 1 v n xs) (u : Value) (T : TypeId) (hx : a.eval x = .slice (some ⟨W.heap.size, 0, none⟩) 1 1) (h1 : u.oneCell' = true)
    (h63 : n + 1 ≤ maxLen) (hbytes : (n + 1) * bytes ≤ 140737488355328) (hbase : base ≤ W.heap.size)
    (h : ∀ g cap w', w'.ownsRow base e 1 (.slice (some ⟨g, 0, none⟩) (n + 1) cap) (n + 1) (xs ++ [u]) → Below base W w' → (W.alloc (.cells #[u] T)).grownBy w' v.ownBlock → (v.ownBlock = some g ∨ g = W.heap.size + 1) → g < w'.heap.size → K (a.put o.dst (.slice (some ⟨g, 0, none⟩) (n + 1) cap)) w') : Oper.wp P o a (W.alloc (.cells #[u] T)) K Q :=
  wp_append_lies (W.alloc (.cells #[u] T)) s x t ho base e i z 1 bytes ht hi hz hsize hby hzs (by decide) v n xs hs (hown.alloc _) ⟨W.heap.size, 0, none⟩ 1 1 [u] hx rfl (World.news_of_block (cs := #[u]) (t := T) (fr := (0, 0)) (MapKept.heap_alloc W _).1) (by simpa using h1) (by decide) h63 hbytes (by simp; omega) (W.heap.size + 1) (by simp) fun g cap w' h2 h3 h4 h5 =>
    h g cap w' h2 (((Below.refl base W).alloc hbase _).grown h3 (by simp; omega) (fun k hk => (hown.lt k hk).1)) h3 h4 h5
theorem wpList_append_at (hgd : o.guard = none) (s x : Operand) (t : TypeId) (ho : o.op = .call { callee := .builtin .append, args := #[s, x], argTypes := #[t, t] })
    (base : Nat) (e : TypeId) (i : TypeInfo) (z : Value) (bytes : Nat) (ht : P.underlying t = some (.slice e)) (hi : P.info? e = some i) (hz : i.zero = some z) (hsize : i.size = 1) (hby : i.bytes = bytes) (hzs : z.cells.size = 1)
    (v : Value) (n : Nat) (xs : List Value) (hs : a.eval s = v) (hown : W.ownsRow base e 1 v n xs) (u : Value) (T : TypeId) (hx : a.eval x = .slice (some ⟨W.heap.size, 0, none⟩) 1 1) (h1 : u.oneCell' = true)
    (h63 : n + 1 ≤ maxLen) (hbytes : (n + 1) * bytes ≤ 140737488355328) (hbase : base ≤ W.heap.size)
    (h : ∀ g cap w', w'.ownsRow base e 1 (.slice (some ⟨g, 0, none⟩) (n + 1) cap) (n + 1) (xs ++ [u]) → Below base W w' → (W.alloc (.cells #[u] T)).grownBy w' v.ownBlock → (v.ownBlock = some g ∨ g = W.heap.size + 1) → g < w'.heap.size → wpList P ops Q rest (a.put o.dst (.slice (some ⟨g, 0, none⟩) (n + 1) cap)) w') : wpList P ops Q (o :: rest) a (W.alloc (.cells #[u] T)) :=
  wpList_plain hgd fun _ hK => wp_append_at s x t ho base e i z bytes ht hi hz hsize hby hzs v n xs hs hown u T hx h1 h63 hbytes hbase fun g cap w' h2 h3 h4 h5 h6 => hK _ _ (h g cap w' h2 h3 h4 h5 h6)
theorem step_append_at (hgd : o.guard = none) (s x : Operand) (t : TypeId) (ho : o.op = .call { callee := .builtin .append, args := #[s, x], argTypes := #[t, t] })
    (base : Nat) (e : TypeId) (i : TypeInfo) (z : Value) (bytes : Nat) (ht : P.underlying t = some (.slice e)) (hi : P.info? e = some i) (hz : i.zero = some z) (hsize : i.size = 1) (hby : i.bytes = bytes) (hzs : z.cells.size = 1)
    (v : Value) (n : Nat) (xs : List Value) (hs : a.eval s = v) (hown : W.ownsRow base e 1 v n xs) (u : Value) (T : TypeId) (hx : a.eval x = .slice (some ⟨W.heap.size, 0, none⟩) 1 1) (h1 : u.oneCell' = true)
    (h63 : n + 1 ≤ maxLen) (hbytes : (n + 1) * bytes ≤ 140737488355328) (hbase : base ≤ W.heap.size)
    (h : ∀ g cap w', w'.ownsRow base e 1 (.slice (some ⟨g, 0, none⟩) (n + 1) cap) (n + 1) (xs ++ [u]) → Below base W w' → (W.alloc (.cells #[u] T)).grownBy w' v.ownBlock → (v.ownBlock = some g ∨ g = W.heap.size + 1) → g < w'.heap.size → K (a.put o.dst (.slice (some ⟨g, 0, none⟩) (n + 1) cap)) w') : if Region.wanted o (yielded ops a.tmps) = true then Oper.wp P o a (W.alloc (.cells #[u] T)) K Q else E := by
  have hw : Region.wanted o (yielded ops a.tmps) = true := by simp [Region.wanted, hgd]
  rw [if_pos hw]
  exact wp_append_at s x t ho base e i z bytes ht hi hz hsize hby hzs v n xs hs hown u T hx h1 h63 hbytes hbase h
end

/-- A row of numbers of the call's own, and the oracle beside it. -/
structure Bs (K : Nat → Prop) (w : World) (q : Nat) (K' : Nat → Prop) (v : Value) (n : Nat) (xs : List Nat) (O : Or) (w' : World) : Prop where
  sub : ∀ j, K j → K' j
  row : w'.ownsRow w.heap.size 42 1 v n (nums xs)
  own : ∀ g, v.ownBlock = some g → K' g
  ref : Ref K' w' q O
  on : On K' w'
  fr : Fr K w w'
section
variable {K K' : Nat → Prop} {w w' w'' : World} {q n : Nat} {v : Value} {xs : List Nat} {O O' : Or}
theorem row_fr {B : Nat} {e : TypeId} {ys : List Value} (h : w'.ownsRow B e 1 v n ys) (ho : ∀ g, v.ownBlock = some g → K' g) (f : Fr K' w' w'') : w''.ownsRow B e 1 v n ys :=
  own_kept h (fun k hk hlt => f.block k hlt (fun hn => hn (ho k hk)))
theorem fr_sub (f : Fr K' w' w'') (h : ∀ j, K j → K' j) : Fr K w' w'' := f.wider (fun k _ hn hk => hn (h k hk))
theorem Bs.call (h : Bs K w q K' v n xs O w') (r : Ref K' w'' q O') (f : Fr K' w' w'') : Bs K w q K' v n xs O' w'' :=
  ⟨h.sub, row_fr h.row h.own f, h.own, r, on_of h.on f.size, h.fr.trans (fr_sub f h.sub)⟩
theorem Bs.below (h : Bs K w q K' v n xs O w') (b : Below w'.heap.size w' w'') : Bs K w q K' v n xs O w'' := h.call (h.ref.below b) (fr_of b)
theorem Bs.more (h : Bs K w q K' v n xs O w') {x g cap : Nat} {lit : Obj} (hrow : w''.ownsRow w.heap.size 42 1 (.slice (some ⟨g, 0, none⟩) (n + 1) cap) (n + 1) (nums xs ++ [.int .u64 (x : Int)])) (b : Below w.heap.size w' w'') (hg : (w'.alloc lit).grownBy w'' v.ownBlock) (hat : v.ownBlock = some g ∨ g = w'.heap.size + 1) (hlt : g < w''.heap.size) :
    Bs K w q (And' K' w' w'') (.slice (some ⟨g, 0, none⟩) (n + 1) cap) (n + 1) (xs ++ [x]) O w'' := by
  have hs : w'.heap.size + 1 ≤ w''.heap.size := by
    have := hg.size
    rwa [World.size_alloc] at this
  refine ⟨fun j hj => .inl (h.sub j hj), by rw [nums_snoc1]; exact hrow, fun k hk => ?_, and_grown h.ref (fun r hr => h.own r hr) hg, and_on h.on (by omega), h.fr.low b⟩
  obtain rfl : k = g := by simpa [Value.ownBlock] using hk.symm
  rcases hat with e | e
  · exact .inl (h.own _ e)
  · exact .inr ⟨by omega, hlt⟩
/-- A row is begun. -/
theorem Bs.begin (hs : ∀ j, K j → K' j) (h : Ref K' w' q O) (on : On K' w') (f : Fr K w w') : Bs K w q (And' K' w' (w'.alloc (.cells #[] 42))) (.slice (some ⟨w'.heap.size, 0, none⟩) 0 0) 0 [] O (w'.alloc (.cells #[] 42)) := by
  have b : Below w'.heap.size w' (w'.alloc (.cells #[] 42)) := (Below.refl _ _).alloc (Nat.le_refl _) _
  refine ⟨fun j hj => .inl (hs j hj), World.ownsRow_made w' #[] 0 f.size (by unfold maxLen; omega) rfl, fun k hk => ?_, and_below h b, and_on on b.size, f.trans (fr_of b)⟩
  obtain rfl : k = w'.heap.size := by simpa [Value.ownBlock] using hk.symm
  exact .inr ⟨Nat.le_refl _, by simp⟩
theorem Bs.off (h : Bs K w q K' v n xs O w') : Kit.Off (fun i => ¬ K' i) w' v (nums xs) := off_row h.row (fun g hg hn => hn (h.own g hg))
end
/-- A tree of the call's own, its newest level at hand, and the oracle beside it. -/
structure Es (K : Nat → Prop) (w : World) (q : Nat) (O : Or) (ls : List ByteArray) (d : Nat) (K' : Nat → Prop) (vl vt : Value) (vs : List Value) (k : Nat) (w' : World) : Prop where
  sub : ∀ j, K j → K' j
  lvl : w'.ownsRow w.heap.size 42 1 vl (2 ^ (d - k)) (nums (O.lv ls d k).2)
  ownl : ∀ g, vl.ownBlock = some g → K' g
  tr : w'.ownsRow w.heap.size 22 1 vt (k + 1) vs
  ownt : ∀ g, vt.ownBlock = some g → K' g
  len : vs.length = k + 1
  lvs : Lvs w.heap.size O ls d vs w'
  ownv : ∀ x ∈ vs, ∀ g, x.ownBlock = some g → K' g
  ref : Ref K' w' q (O.lv ls d k).1
  on : On K' w'
  fr : Fr K w w'
section
variable {K K' : Nat → Prop} {w w' w'' : World} {q k d : Nat} {vl vt : Value} {vs : List Value} {ls : List ByteArray} {O : Or}
theorem Es.first (h : Bs K w q K' vl (2 ^ d) (O.lv ls d 0).2 (O.lv ls d 0).1 w') : Es K w q O ls d (And' K' w' (w'.alloc (.cells #[vl] 22))) vl (.slice (some ⟨w'.heap.size, 0, none⟩) 1 1) [vl] 0 (w'.alloc (.cells #[vl] 22)) := by
  have b : Below w'.heap.size w' (w'.alloc (.cells #[vl] 22)) := (Below.refl _ _).alloc (Nat.le_refl _) _
  have hr : (w'.alloc (.cells #[vl] 22)).ownsRow w.heap.size 42 1 vl (2 ^ (d - 0)) (nums (O.lv ls d 0).2) := by
    rw [Nat.sub_zero]
    exact h.row.alloc _
  refine ⟨fun j hj => .inl (h.sub j hj), hr, fun g hg => .inl (h.own g hg), World.ownsRow_lit w' #[vl] 1 h.fr.size (by decide) rfl, fun g hg => ?_, rfl, fun j x hx => ?_, fun x hx g hg => ?_, and_below h.ref b, and_on h.on b.size, h.fr.trans (fr_of b)⟩
  · obtain rfl : g = w'.heap.size := by simpa [Value.ownBlock] using hg.symm
    exact .inr ⟨Nat.le_refl _, by simp⟩
  · match j, hx with
    | 0, hx =>
      simp at hx
      subst hx
      exact hr
    | j + 1, hx => simp at hx
  · rw [List.mem_singleton.1 hx] at hg
    exact .inl (h.own g hg)
/-- Another level comes up. -/
theorem Es.more {W : World} {K2 : Nat → Prop} {vu : Value} {g cap : Nat} {lit : Obj} (h : Es K w q O ls d K' vl vt vs k w') (hB : Bs K' w' q K2 vu (2 ^ (d - (k + 1))) (O.lv ls d (k + 1)).2 (O.lv ls d (k + 1)).1 W)
    (hrow : w''.ownsRow w.heap.size 22 1 (.slice (some ⟨g, 0, none⟩) (k + 1 + 1) cap) (k + 1 + 1) (vs ++ [vu])) (b : Below w.heap.size W w'') (hg : (W.alloc lit).grownBy w'' vt.ownBlock) (hat : vt.ownBlock = some g ∨ g = W.heap.size + 1) (hlt : g < w''.heap.size) :
    Es K w q O ls d (And' K2 W w'') vu (.slice (some ⟨g, 0, none⟩) (k + 1 + 1) cap) (vs ++ [vu]) (k + 1) w'' := by
  have hs : W.heap.size + 1 ≤ w''.heap.size := by
    have := hg.size
    rwa [World.size_alloc] at this
  have htW : W.ownsRow w.heap.size 22 1 vt (k + 1) vs := row_fr h.tr h.ownt hB.fr
  have hlW : Lvs w.heap.size O ls d vs W := fun j x hx => row_fr (h.lvs j x hx) (h.ownv x (List.mem_of_getElem? hx)) hB.fr
  have huW : W.ownsRow w.heap.size 42 1 vu (2 ^ (d - (k + 1))) (nums (O.lv ls d (k + 1)).2) := own_mono hB.row h.fr.size
  have hu : w''.ownsRow w.heap.size 42 1 vu (2 ^ (d - (k + 1))) (nums (O.lv ls d (k + 1)).2) := (huW.alloc lit).kept hg (Kit.rows_ne huW htW (by decide))
  refine ⟨fun j hj => .inl (hB.sub j (h.sub j hj)), hu, fun g hg => .inl (hB.own g hg), hrow, fun g' hg' => ?_, by simp [h.len], (hlW.grown htW hg).snoc h.len hu, fun x hx g hg => ?_, and_grown hB.ref (fun r hr => hB.sub r (h.ownt r hr)) hg, and_on hB.on (by omega), (h.fr.trans (fr_sub hB.fr h.sub)).low b⟩
  · obtain rfl : g' = g := by simpa [Value.ownBlock] using hg'.symm
    rcases hat with e | e
    · exact .inl (hB.sub _ (h.ownt _ e))
    · exact .inr ⟨by omega, hlt⟩
  · rcases List.mem_append.1 hx with hx | hx
    · exact .inl (hB.sub _ (h.ownv x hx g hg))
    · rw [List.mem_singleton.1 hx] at hg
      exact .inl (hB.own g hg)
theorem Es.fin (h : Es K w q O ls d K' vl vt vs d w') : Kit.Tr (· < w.heap.size) w' vt (O.tree ls d) ∧ Ref K w' q (O.built ls d) ∧ Fr K w w' :=
  ⟨h.lvs.tree h.len h.tr, h.ref.widen (fun k hk _ => h.sub k hk), h.fr⟩
end
end Go.Proofs.Ytllbcnficlbobaa.Mr
/-! The document's own layer 6: Build. -/
namespace Go.Proofs.Ytllbcnficlbobaa.Mr
open Go.RowKit
open Ideal Ida Mer Mera Ref3

set_option maxRecDepth 100000 in
set_option maxHeartbeats 4000000 in
theorem rbuild_no {q : Nat} {w : World} (d : Int) (hd1 : -9223372036854775808 ≤ d) (hd2 : d ≤ 9223372036854775807) (ls : List ByteArray) (hd : ¬ (0 ≤ d ∧ d ≤ 8 ∧ ls.length ≤ 2 ^ d.toNat)) (v : Value) (hv : Kit.Rd w v (strs ls)) :
    Calls Try.prog 12 #[rptr q, .int .i64 d, v] w fun e w' => e = .returned (.tuple #[.slice none 0 0, .bool false]) ∧ Below w.heap.size w w' := by
  obtain ⟨a, cap, rfl⟩ := hv.form
  rw [show (strs ls).length = ls.length by simp [strs]]
  clear hv
  by_cases h0 : d < 0
  · have e1 : decide (d < 0) = true := decide_eq_true h0
    clear hd hd1 hd2 h0
    go_enter Try.func12, Try.ntmps12
    go_wp2
    go_ret2
    exact ⟨rfl, Below.refl _ _⟩
  · by_cases h8 : d > 8
    · have e1 : decide (d < 0) = false := decide_eq_false h0
      have e2 : decide (d > 8) = true := decide_eq_true h8
      clear hd hd1 hd2 h0 h8
      go_enter Try.func12, Try.ntmps12
      go_wp2
      go_ret2
      exact ⟨rfl, Below.refl _ _⟩
    · obtain ⟨n, rfl⟩ : ∃ n : Nat, d = (n : Int) := ⟨d.toNat, by omega⟩
      have hn : n ≤ 8 := by omega
      have hl : 2 ^ n < ls.length := by
        rcases Nat.lt_or_ge (2 ^ n) ls.length with h | h
        · exact h
        · exact absurd ⟨by omega, by omega, by simpa using h⟩ hd
      have HP := fun w => power_any n hn w
      have e1 : decide ((n : Int) < 0) = false := decide_eq_false (by omega)
      have e2 : decide ((n : Int) > 8) = false := decide_eq_false (by omega)
      have e3 : decide (8 < n) = false := decide_eq_false (by omega)
      generalize 2 ^ n = z at *
      have e4 : decide ((ls.length : Int) > (z : Int)) = true := by rw [decide_eq_true_iff]; omega
      have e5 : decide (z < ls.length) = true := decide_eq_true hl
      clear hd hd1 hd2 h0 h8 hl hn
      go_enter Try.func12, Try.ntmps12
      go_wp2_with fail
      refine (HP _).mono ?_
      rintro e w1 ⟨rfl, b⟩
      go_wp2
      go_ret2
      exact ⟨rfl, b⟩

theorem bot_snoc {ls : List ByteArray} {z i : Nat} (h : i < z) : (botT ls z).take (i + 1) = (botT ls z).take i ++ [leafT (ls.getD i .empty)] := by
  rw [List.take_succ_eq_append_getElem (by simpa using h), botT_at h]
theorem up_snoc {l : List Nat} {z i : Nat} (hz : l.length = 2 * z) (h : i < z) : (upT l).take (i + 1) = (upT l).take i ++ [nodeT (l.getD (2 * i) 0) (l.getD (2 * i + 1) 0)] := by
  rw [List.take_succ_eq_append_getElem (by rw [upT_length]; omega), upT_at (by omega)]
theorem asks_snoc (O : Or) (a : List ByteArray) (t : ByteArray) : O.asks (a ++ [t]) = (O.asks a).ask (qh t) := by rw [Or.asks_append]; rfl
theorem vals_snoc (O : Or) (a : List ByteArray) (t : ByteArray) : O.vals (a ++ [t]) = O.vals a ++ [(O.asks a).val (qh t)] := by rw [Or.vals_append]; rfl
theorem Fw.lv {O : Or} {n : Nat} (ls : List ByteArray) (d : Nat) (h : Fw O (n + 2 * 2 ^ d)) : ∀ k, k ≤ d → Fw (O.lv ls d k).1 (n + 2 ^ (d - k))
  | 0, _ => Fw.asks (n := n + 2 ^ d) _ (h.less (by rw [botT_length]; omega))
  | k + 1, hk => by
    have ih := Fw.lv ls d h k (by omega)
    have h2 := Or.lv_length (O := O) ls d k (by omega)
    have h3 := pow_even (n := d) (k := k) (by omega)
    exact Fw.asks (n := n + 2 ^ (d - (k + 1))) _ (ih.less (by rw [upT_length]; omega))
def lengthOf : Value → Nat
  | .slice _ n _ => n
  | _ => 0
set_option maxRecDepth 100000 in
set_option maxHeartbeats 8000000 in
theorem rbuild_yes {K : Nat → Prop} {q : Nat} {w : World} {O : Or} (h : Ref K w q O) (hB : On K w) (hf : Fw O 2048) (d : Nat) (hd : d ≤ 8) (ls : List ByteArray) (hls : ∀ t ∈ ls, t.size + 4 ≤ maxLen) (hl : ls.length ≤ 2 ^ d) (v : Value) (hv : Kit.Off (fun i => ¬ K i) w v (strs ls)) :
    Calls Try.prog 12 #[rptr q, .int .i64 (d : Int), v] w fun e w' => ∃ v', e = .returned (.tuple #[v', .bool true]) ∧ Kit.Tr (· < w.heap.size) w' v' (O.tree ls d) ∧ Ref K w' q (O.built ls d) ∧ Fr K w w' := by
  obtain ⟨a, cap, rfl, -, -⟩ := hv.form
  rw [show (strs ls).length = ls.length by simp [strs]] at hv ⊢
  obtain ⟨i0, hi, hz0, hz1, hz2⟩ := info_parts infoU64
  obtain ⟨i1, hi1, hy0, hy1, hy2⟩ := info_parts infoNums
  have HP := fun w => power_any d hd w
  have hfi := ref_fine h
  have e1 : decide ((d : Int) < 0) = false := decide_eq_false (by omega)
  have e2 : decide ((d : Int) > 8) = false := decide_eq_false (by omega)
  have e3 : decide (8 < d) = false := decide_eq_false (by omega)
  obtain ⟨z, hz⟩ : ∃ z, z = 2 ^ d := ⟨_, rfl⟩
  have hz256 : z ≤ 256 := by rw [hz]; exact Or.pow_le hd
  rw [← hz] at HP hl
  have e4 : decide ((ls.length : Int) > (z : Int)) = false := by rw [decide_eq_false_iff_not]; omega
  have e5 : decide (z < ls.length) = false := by rw [decide_eq_false_iff_not]; omega
  have Hz := Lib.hid hz
  have Hf := Lib.hid hf
  have Hfi := Lib.hid hfi
  have Hls := Lib.hid hls
  have Hd := Lib.hid hd
  clear hz hf hfi hls hd
  go_enter Try.func12, Try.ntmps12
  go_wp2_with fail
  refine (HP _).mono ?_
  rintro e w1 ⟨rfl, b⟩
  have hb0 := Bs.begin (fun _ hj => hj) (h.below b) (on_of hB b.size) (fr_of b)
  clear h hB b
  go_wp2
  go_loopw [8, 9] (fun vl vi wr => ∃ (i : Nat) (K' : Nat → Prop), i ≤ z ∧ vi = .int .i64 (i : Int) ∧ Bs K w q K' vl i (O.vals ((botT ls z).take i)) (O.asks ((botT ls z).take i)) wr) (fun _ vi _ => z - (intOf vi).toNat)
  case atStart => exact ⟨0, _, Nat.zero_le _, rfl, hb0⟩
  case round =>
    clear hb0
    obtain ⟨i, K', hiz, rfl, hb⟩ := hrel
    obtain ⟨vla, vlc, rfl⟩ := Kit.own_form hb.row
    clear e1 e2 e3 e4 e5
    by_cases hlt : i < z
    · have hlt2 : (i : Int) < (z : Int) := by omega
      have h0 : (0 : Int) ≤ (i : Int) := by omega
      have hm : maxLen = 9223372036854775807 := rfl
      have hl1 : i + 1 ≤ maxLen := by omega
      have hl2 : (i + 1) * 8 ≤ 140737488355328 := by omega
      have hi512 : i < 512 := by omega
      have hfw : Fw (O.asks ((botT ls z).take i)) 1 := Fw.asks (n := 1) _ (Hf.out.less (by rw [List.length_take, botT_length]; omega))
      have hsn := bot_snoc (ls := ls) (z := z) (i := i) hlt
      have hHn := fun t (ht : t = leafT (ls.getD i .empty)) => congrArg (fun a => (O.vals a, O.asks a)) (hsn.trans (by rw [← ht]))
      have Hsn1 := Lib.hid (show O.vals ((botT ls z).take (i + 1)) = O.vals ((botT ls z).take i) ++ [(O.asks ((botT ls z).take i)).val (qh (leafT (ls.getD i .empty)))] by rw [hsn, vals_snoc])
      have Hsn2 := Lib.hid (show O.asks ((botT ls z).take (i + 1)) = (O.asks ((botT ls z).take i)).ask (qh (leafT (ls.getD i .empty))) by rw [hsn, asks_snoc])
      clear hHn hsn hm
      go_wp2_with fail
      refine (HP _).mono ?_
      rintro e w2 ⟨rfl, b⟩
      replace hb := hb.below b
      clear b
      by_cases hil : i < ls.length
      · have hil2 : (i : Int) < (ls.length : Int) := by omega
        obtain ⟨al, rfl, hca⟩ := (hv.but hb.fr).at_ (k := i) (u := .string (ls.getD i .empty)) (by simp [strs, hil])
        have hti : (ls.getD i .empty).size + 4 ≤ maxLen := Hls.out _ (by rw [List.getD_eq_getElem?_getD, List.getElem?_eq_getElem hil]; exact List.getElem_mem hil)
        have HL := rleaf_any hb.ref hb.on hfw.few (ls.getD i .empty) hti
        generalize ls.getD i .empty = s at *
        clear hil hti
        clear hfw
        go_wp2_with fail
        refine HL.mono ?_
        rintro e w3 ⟨rfl, hr, f⟩
        replace hb := hb.call hr f
        have hz9 := hb.fr.size
        clear HL hr f
        go_wp2_with (at_builtin; refine wpList_append_at rfl _ _ 22 rfl w.heap.size 42 i0 (.int .u64 0) 8 Try.underlying22 hi hz0 hz1 hz2 rfl _ _ _ rfl hb.row (.int .u64 _) 42 rfl rfl hl1 hl2 hz9 ?_)
        intro g cap2 w4 hrow b hg hat hglt
        have hb4 := hb.more hrow b hg hat hglt
        rw [← Hsn1.out, ← Hsn2.out] at hb4
        clear hb hrow b hg hat hglt
        go_wp2
        go_roundw
        case rel => exact ⟨i + 1, _, hlt, by go_num, hb4⟩
        case measure => simp [intOf]; omega
      · have hil2 : decide ((i : Int) < (ls.length : Int)) = false := by rw [decide_eq_false_iff_not]; omega
        have hil3 : decide (i < ls.length) = false := by rw [decide_eq_false_iff_not]; omega
        have hge : ls.getD i .empty = (⟨#[]⟩ : ByteArray) := by rw [List.getD_eq_getElem?_getD, List.getElem?_eq_none (by omega)]; rfl
        rw [hge] at Hsn1 Hsn2
        have HL := rleaf_any hb.ref hb.on hfw.few (⟨#[]⟩ : ByteArray) (by decide)
        clear hil hge
        clear hfw
        go_wp2_with fail
        refine HL.mono ?_
        rintro e w3 ⟨rfl, hr, f⟩
        replace hb := hb.call hr f
        have hz9 := hb.fr.size
        clear HL hr f
        go_wp2_with (at_builtin; refine wpList_append_at rfl _ _ 22 rfl w.heap.size 42 i0 (.int .u64 0) 8 Try.underlying22 hi hz0 hz1 hz2 rfl _ _ _ rfl hb.row (.int .u64 _) 42 rfl rfl hl1 hl2 hz9 ?_)
        intro g cap2 w4 hrow b hg hat hglt
        have hb4 := hb.more hrow b hg hat hglt
        rw [← Hsn1.out, ← Hsn2.out] at hb4
        clear hb hrow b hg hat hglt
        go_wp2
        go_roundw
        case rel => exact ⟨i + 1, _, hlt, by go_num, hb4⟩
        case measure => simp [intOf]; omega
    · obtain rfl : i = z := by omega
      have hd1 : decide ((i : Int) < (i : Int)) = false := by rw [decide_eq_false_iff_not]; omega
      rw [List.take_of_length_le (by rw [botT_length]; omega)] at hb
      go_wp2_with fail
      refine (HP _).mono ?_
      rintro e w2 ⟨rfl, b⟩
      replace hb := hb.below b
      have e0 : (O.lv ls d 0).2 = O.vals (botT ls i) := by rw [Hz.out]; rfl
      have e1 : (O.lv ls d 0).1 = O.asks (botT ls i) := by rw [Hz.out]; rfl
      have hlv0 : Bs K w q K' (.slice vla i vlc) (2 ^ d) (O.lv ls d 0).2 (O.lv ls d 0).1 w2 := by rw [e0, e1, ← Hz.out]; exact hb
      have hE0 := Es.first hlv0
      clear hb hlv0 hlt hiz hl hv HP Hls e0 e1 b
      go_wp2
      go_loopw [8, 10] (fun vl vt wz => ∃ (k : Nat) (K' : Nat → Prop) (vs : List Value), k ≤ d ∧ Es K w q O ls d K' vl vt vs k wz) (fun _ vt _ => d + 1 - lengthOf vt)
      case atStart => exact ⟨0, _, _, Nat.zero_le _, hE0⟩
      case round =>
        clear hE0
        obtain ⟨k, K2, vs, hk, hE⟩ := hrel
        obtain ⟨la, lc, rfl⟩ := Kit.own_form hE.lvl
        obtain ⟨ta, tc, rfl⟩ := Kit.own_form hE.tr
        by_cases hlt : k < d
        · obtain ⟨p, hp⟩ : ∃ p, p = 2 ^ (d - (k + 1)) := ⟨_, rfl⟩
          have hpe := pow_even hlt
          rw [← hp] at hpe
          have ho := off_row hE.lvl (S := fun i => ¬ K2 i) (fun g hg hn => hn (hE.ownl g hg))
          have hLl := Or.lv_length (O := O) ls d k hk
          have hp1 : 1 ≤ p := by rw [hp]; exact Nat.one_le_two_pow
          have hp256 : p ≤ 256 := by rw [hp]; exact Or.pow_le (by have := Hd.out; omega)
          have hLx := (Or.lv_fine Hfi.out ls Hd.out (by have := Hf.out.rows; omega) k hk).2
          have hLf := Fw.lv (n := 4) ls d (Hf.out.less (by have := Or.pow_le Hd.out; omega)) k hk
          rw [hpe] at ho hLl hLf
          have hb0 := Bs.begin (K := K2) (fun _ hj => hj) hE.ref hE.on (Kit.But.refl _ _)
          obtain ⟨L, hL⟩ : ∃ L, L = (O.lv ls d k).2 := ⟨_, rfl⟩
          obtain ⟨Ok, hOk⟩ : ∃ Ok, Ok = (O.lv ls d k).1 := ⟨_, rfl⟩
          have hn1 : (O.lv ls d (k + 1)).1 = Ok.asks (upT L) := by rw [hL, hOk]; rfl
          have hn2 : (O.lv ls d (k + 1)).2 = Ok.vals (upT L) := by rw [hL, hOk]; rfl
          rw [← hL] at ho hLl hLx
          rw [← hOk] at hLf hb0
          have HE := Lib.hid hE
          have Hn1 := Lib.hid hn1
          have Hn2 := Lib.hid hn2
          have Hp := Lib.hid hp
          have HLl := Lib.hid hLl
          have HLx := Lib.hid hLx
          have HLf := Lib.hid hLf
          have hk512 : k < 512 := by have := Hd.out; omega
          rw [hpe]
          have hgt : 2 * (p : Int) > 1 := by omega
          have hgt2 : (1 : Int) < 2 * (p : Int) := by omega
          obtain ⟨al, rfl, -⟩ := ho.at_ (nums_at (k := 0) (by omega))
          obtain ⟨wm, hwm⟩ : ∃ x : World, x = wr := ⟨_, rfl⟩
          subst hwm
          clear hE hL hOk hn1 hn2 hp hLl hLx hLf hpe
          go_wp2
          go_loopw [11, 12] (fun vu vi wz => ∃ (j : Nat) (K3 : Nat → Prop), j ≤ p ∧ vi = .int .i64 (2 * (j : Int)) ∧ Bs K2 wm q K3 vu j (Ok.vals ((upT L).take j)) (Ok.asks ((upT L).take j)) wz) (fun _ vi _ => 2 * p - (intOf vi).toNat)
          case atStart => exact ⟨0, _, Nat.zero_le _, rfl, hb0⟩
          case round =>
            clear hb0
            obtain ⟨j, K3, hjp, rfl, hb⟩ := hrel
            obtain ⟨va, vc, rfl⟩ := Kit.own_form hb.row
            by_cases hjl : j < p
            · have hj0 : (0 : Int) ≤ 2 * (j : Int) := by omega
              have hj1 : 2 * (j : Int) < 2 * (p : Int) := by omega
              have hj2 : (0 : Int) ≤ 2 * (j : Int) + 1 := by omega
              have hj3 : 2 * (j : Int) + 1 < 2 * (p : Int) := by omega
              have hj256 : j < 256 := by omega
              have w2 : IntKind.i64.wrap (2 * (j : Int) + 1) = 2 * (j : Int) + 1 := by rw [IntKind.wrap_i64]; omega
              have w3 : (2 * (j : Int)).toNat = 2 * j := by omega
              have w4 : (2 * (j : Int) + 1).toNat = 2 * j + 1 := by omega
              have hm : maxLen = 9223372036854775807 := rfl
              have hl1 : j + 1 ≤ maxLen := by omega
              have hl2 : (j + 1) * 8 ≤ 140737488355328 := by omega
              have hsn := up_snoc (l := L) (z := p) HLl.out hjl
              have Hsn1 := Lib.hid (show Ok.vals ((upT L).take (j + 1)) = Ok.vals ((upT L).take j) ++ [(Ok.asks ((upT L).take j)).val (qh (nodeT (L.getD (2 * j) 0) (L.getD (2 * j + 1) 0)))] by rw [hsn, vals_snoc])
              have Hsn2 := Lib.hid (show Ok.asks ((upT L).take (j + 1)) = (Ok.asks ((upT L).take j)).ask (qh (nodeT (L.getD (2 * j) 0) (L.getD (2 * j + 1) 0))) by rw [hsn, asks_snoc])
              have hfw : Fw (Ok.asks ((upT L).take j)) 1 := Fw.asks (n := 1) _ (HLf.out.less (by rw [List.length_take, upT_length]; have := HLl.out; omega))
              have hp1' : L.getD (2 * j) 0 < 18446744073709551616 := by rw [getD_at (by rw [HLl.out]; omega)]; exact HLx.out _ (List.getElem_mem _)
              have hp2' : L.getD (2 * j + 1) 0 < 18446744073709551616 := by rw [getD_at (by rw [HLl.out]; omega)]; exact HLx.out _ (List.getElem_mem _)
              have hcl : ∀ w', Fr K2 wm w' → w'.cell? (al.add (2 * j)) = some (.int .u64 (L.getD (2 * j) 0 : Nat)) ∧ w'.cell? ⟨al.block, al.off + (2 * j + 1), none⟩ = some (.int .u64 (L.getD (2 * j + 1) 0 : Nat)) := fun w' b => by
                obtain ⟨a1, e1, k1⟩ := (ho.but b).at_ (nums_at (k := 2 * j) (by rw [HLl.out]; omega))
                obtain ⟨a2, e2, k2⟩ := (ho.but b).at_ (nums_at (k := 2 * j + 1) (by rw [HLl.out]; omega))
                cases e1
                cases e2
                rw [show al.add (2 * j + 1) = ⟨al.block, al.off + (2 * j + 1), none⟩ by unfold Addr.add; simp] at k2
                exact ⟨k1, k2⟩
              have hbd := hb.below ((Below.refl _ _).drew)
              have HQ := rnode_any hbd.ref hbd.on hfw.few (L.getD (2 * j) 0) (L.getD (2 * j + 1) 0) hp1' hp2'
              clear hsn hm hfw hp1' hp2'
              generalize L.getD (2 * j) 0 = x at *
              generalize L.getD (2 * j + 1) 0 = y at *
              go_wp2
              refine wp_region_noPanic ?_
              refine wp_region_held_drew (S := Fr K2 wm) (by kernel_rfl) ?_ (fun hHeld => ?_)
              · exact hb.fr.drew
              refine wpAnyH_take (i := 0) (oi := ⟨some 63, _, _, _, _, _⟩) (v := ?_) rfl (by kernel_rfl) (by kernel_rfl) (by kernel_rfl) (fun _ _ _ h => h) (Or.inl ⟨by rfl, ?_⟩) (by assumption) ?_
              rotate_left
              · (intro w' hSw; obtain ⟨k0, k1⟩ := hcl _ hSw; go_simp; try with_reducible rfl)
              simp only [Act.put, List.setIfInBounds_toArray, List.set_cons_zero, List.set_cons_succ]
              refine wpAnyH_take (i := 1) (oi := ⟨some 64, _, _, _, _, _⟩) (v := ?_) rfl (by kernel_rfl) (by kernel_rfl) (by kernel_rfl) (fun _ _ _ h => h) (Or.inl ⟨by rfl, ?_⟩) (by assumption) ?_
              rotate_left
              · (intro w' hSw; obtain ⟨k0, k1⟩ := hcl _ hSw; go_simp; try with_reducible rfl)
              simp only [Act.put, List.setIfInBounds_toArray, List.set_cons_zero, List.set_cons_succ]
              refine wpAnyH_take (i := 2) (oi := ⟨some 65, _, _, _, _, _⟩) (v := ?_) rfl (by kernel_rfl) (by kernel_rfl) (by kernel_rfl) (fun _ _ _ h => h) (Or.inl ⟨by rfl, ?_⟩) (by assumption) ?_
              rotate_left
              · (intro w' hSw; obtain ⟨k0, k1⟩ := hcl _ hSw; go_simp; try with_reducible rfl)
              simp only [Act.put, List.setIfInBounds_toArray, List.set_cons_zero, List.set_cons_succ]
              refine wpAnyH_take (i := 3) (oi := ⟨some 66, _, _, _, _, _⟩) (v := ?_) rfl (by kernel_rfl) (by kernel_rfl) (by kernel_rfl) (fun _ _ _ h => h) (Or.inl ⟨by rfl, ?_⟩) (by assumption) ?_
              rotate_left
              · (intro w' hSw; obtain ⟨k0, k1⟩ := hcl _ hSw; go_simp; try with_reducible rfl)
              simp only [Act.put, List.setIfInBounds_toArray, List.set_cons_zero, List.set_cons_succ]
              refine wpAnyH_take (i := 4) (oi := ⟨some 67, _, _, _, _, _⟩) (v := ?_) rfl (by kernel_rfl) (by kernel_rfl) (by kernel_rfl) (fun _ _ _ h => h) (Or.inl ⟨by rfl, ?_⟩) (by assumption) ?_
              rotate_left
              · (intro w' hSw; obtain ⟨k0, k1⟩ := hcl _ hSw; go_simp; try with_reducible rfl)
              simp only [Act.put, List.setIfInBounds_toArray, List.set_cons_zero, List.set_cons_succ]
              refine wpAnyH_take (i := 5) (oi := ⟨some 68, _, _, _, _, _⟩) (v := ?_) rfl (by kernel_rfl) (by kernel_rfl) (by kernel_rfl) (fun _ _ _ h => h) (Or.inl ⟨by rfl, ?_⟩) (by assumption) ?_
              rotate_left
              · (intro w' hSw; obtain ⟨k0, k1⟩ := hcl _ hSw; go_simp; try with_reducible rfl)
              simp only [Act.put, List.setIfInBounds_toArray, List.set_cons_zero, List.set_cons_succ]
              refine wpAnyH_take (i := 6) (oi := ⟨some 69, _, _, _, _, _⟩) (v := ?_) rfl (by kernel_rfl) (by kernel_rfl) (by kernel_rfl) (fun _ _ _ h => h) (Or.inl ⟨by rfl, ?_⟩) (by assumption) ?_
              rotate_left
              · (intro w' hSw; obtain ⟨k0, k1⟩ := hcl _ hSw; go_simp; try with_reducible rfl)
              simp only [Act.put, List.setIfInBounds_toArray, List.set_cons_zero, List.set_cons_succ]
              refine wpAnyH_take (i := 7) (oi := ⟨some 70, _, _, _, _, _⟩) (v := ?_) rfl (by kernel_rfl) (by kernel_rfl) (by kernel_rfl) (fun _ _ _ h => h) (Or.inl ⟨by rfl, ?_⟩) (by assumption) ?_
              rotate_left
              · (intro w' hSw; obtain ⟨k0, k1⟩ := hcl _ hSw; go_simp; try with_reducible rfl)
              simp only [Act.put, List.setIfInBounds_toArray, List.set_cons_zero, List.set_cons_succ]
              refine wpAnyH_take (i := 8) (oi := ⟨some 71, _, _, _, _, _⟩) (v := ?_) rfl (by kernel_rfl) (by kernel_rfl) (by kernel_rfl) (fun _ _ _ h => h) (Or.inl ⟨by rfl, ?_⟩) (by assumption) ?_
              rotate_left
              · (intro w' hSw; obtain ⟨k0, k1⟩ := hcl _ hSw; go_simp; try with_reducible rfl)
              simp only [Act.put, List.setIfInBounds_toArray, List.set_cons_zero, List.set_cons_succ]
              refine wpAnyH_take (i := 9) (oi := ⟨some 72, _, _, _, _, _⟩) (v := ?_) rfl (by kernel_rfl) (by kernel_rfl) (by kernel_rfl) (fun _ _ _ h => h) (Or.inl ⟨by rfl, ?_⟩) (by assumption) ?_
              rotate_left
              · (intro w' hSw; obtain ⟨k0, k1⟩ := hcl _ hSw; go_simp; try with_reducible rfl)
              simp only [Act.put, List.setIfInBounds_toArray, List.set_cons_zero, List.set_cons_succ]
              refine wpAnyH_take (i := 10) (oi := ⟨some 73, _, _, _, _, _⟩) (v := ?_) rfl (by kernel_rfl) (by kernel_rfl) (by kernel_rfl) (fun _ _ _ h => h) (Or.inl ⟨by rfl, ?_⟩) (by assumption) ?_
              rotate_left
              · (intro w' hSw; obtain ⟨k0, k1⟩ := hcl _ hSw; go_simp; try with_reducible rfl)
              simp only [Act.put, List.setIfInBounds_toArray, List.set_cons_zero, List.set_cons_succ]
              refine wpAnyH_ready (rs := [11]) (by kernel_rfl) (by simp) ?_
              refine AllReadyH.cons (o := ⟨some 74, _, _, _, _, _⟩) rfl (fun K hK => ?_) AllReadyH.nil
              go_simp
              go_at_call 30
              refine (HQ).mono ?_
              rintro e wc11 ⟨rfl, hr11, hb11⟩
              have hb5 := hbd.call hr11 hb11
              go_wp2_with fail
              refine hK.out _ _ (hb5.fr) (fun hHeld11 => ?_)
              clear hK K
              try simp only [Act.put, List.setIfInBounds_toArray, List.set_cons_zero, List.set_cons_succ]
              refine wpAnyH_ready (rs := [12]) (by kernel_rfl) (by simp) ?_
              refine AllReadyH.cons (o := ⟨some 75, _, _, _, _, _⟩) rfl (fun K hK => ?_) AllReadyH.nil
              go_simp
              refine hK.out _ _ (hb5.fr.alloc _) (fun hHeld12 => ?_)
              clear hK K
              try simp only [Act.put, List.setIfInBounds_toArray, List.set_cons_zero, List.set_cons_succ]
              refine wpAnyH_ready (rs := [13]) (by kernel_rfl) (by simp) ?_
              refine AllReadyH.cons (o := ⟨some 76, _, _, _, _, _⟩) rfl (fun K hK => ?_) AllReadyH.nil
              refine step_append_at rfl _ _ 22 rfl wm.heap.size 42 i0 (.int .u64 0) 8 Try.underlying22 hi hz0 hz1 hz2 rfl _ _ _ rfl hb5.row (.int .u64 _) 42 rfl rfl hl1 hl2 hb5.fr.size ?_
              intro g cap2 w6 hrow b hg hat hglt
              have hb6 := hb5.more hrow b hg hat hglt
              rw [← Hsn1.out, ← Hsn2.out] at hb6
              clear hrow b hg hat hglt
              refine hK.out _ _ hb6.fr (fun hHeld13 => ?_)
              clear hK K
              try simp only [Act.put, List.setIfInBounds_toArray, List.set_cons_zero, List.set_cons_succ]
              refine wpAnyH_take (i := 14) (oi := ⟨some 11, _, _, _, _, _⟩) (v := ?_) rfl (by kernel_rfl) (by kernel_rfl) (by kernel_rfl) (fun _ _ _ h => h) (Or.inl ⟨by rfl, ?_⟩) (by assumption) ?_
              rotate_left
              · (intro w' hSw; obtain ⟨k0, k1⟩ := hcl _ hSw; go_simp; try with_reducible rfl)
              simp only [Act.put, List.setIfInBounds_toArray, List.set_cons_zero, List.set_cons_succ]
              refine wpAnyH_done (by kernel_rfl) ?_ _
              refine NoPanic.normal ?_
              clear hb hbd hb5 hcl w2 w3 w4
              go_wp2
              go_roundw
              case rel => exact ⟨j + 1, _, hjl, by push_cast; congr 1, hb6⟩
              case measure => simp [intOf]; omega
            · obtain rfl : j = p := by omega
              have hd1 : decide (2 * (j : Int) < 2 * (j : Int)) = false := by rw [decide_eq_false_iff_not]; omega
              rw [List.take_of_length_le (by rw [upT_length, HLl.out]; omega), ← Hn1.out, ← Hn2.out] at hb
              have hone := own_one hb.row
              have htr := row_fr HE.out.tr HE.out.ownt hb.fr
              have hm : maxLen = 9223372036854775807 := rfl
              have hl1 : (k + 1) + 1 ≤ maxLen := by omega
              have hl2 : ((k + 1) + 1) * 24 ≤ 140737488355328 := by omega
              have hz9 := Nat.le_trans HE.out.fr.size hb.fr.size
              clear hm hjl
              go_wp2_with (at_builtin; refine wpList_append_at rfl _ _ 30 rfl w.heap.size 22 i1 (.slice none 0 0) 24 Try.underlying30 hi1 hy0 hy1 hy2 rfl _ _ _ rfl htr (.slice va j vc) 22 rfl hone hl1 hl2 hz9 ?_)
              intro g cap2 w4 hrow b hg hat hglt
              have hE2 := HE.out.more (by rw [← Hp.out]; exact hb) hrow b hg hat hglt
              clear hb hrow b hg hat hglt htr
              go_wp2
              go_roundw
              case rel => exact ⟨k + 1, _, _, hlt, hE2⟩
              case measure => simp [lengthOf]; omega
        · obtain rfl : k = d := by omega
          have hpe : 2 ^ (k - k) = 1 := by rw [Nat.sub_self, Nat.pow_zero]
          have hfin := hE.fin
          rw [hpe]
          clear hE hlt hpe
          go_wp2
          go_ret2
          exact ⟨_, rfl, hfin⟩
end Go.Proofs.Ytllbcnficlbobaa.Mr
