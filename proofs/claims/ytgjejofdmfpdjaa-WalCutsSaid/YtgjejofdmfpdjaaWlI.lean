/-
  WlI: WlI, WlJ.
-/
import Derived.Test.YtgjejofdmfpdjaaWlG
/-! Package wal: Cut, Drop. -/
namespace Go.Proofs.Ytgjejofdmfpdjaa
open Go.RowKit
namespace Wal
open Dsk Slt

theorem flat_take : ∀ (l : List Rc) (k : Nat), (l.flatMap cellsR).take (k * 2) = (l.take k).flatMap cellsR
  | [], k => by simp
  | r :: l, 0 => by simp
  | r :: l, k + 1 => by
    have ih := flat_take l k
    rw [List.take_succ_cons, List.flatMap_cons, List.flatMap_cons, ← ih, show (k + 1) * 2 = k * 2 + 2 by omega]
    rfl
theorem flat_drop : ∀ (l : List Rc) (k : Nat), (l.flatMap cellsR).drop (k * 2) = (l.drop k).flatMap cellsR
  | [], k => by simp
  | r :: l, 0 => by simp
  | r :: l, k + 1 => by
    have ih := flat_drop l k
    rw [List.drop_succ_cons, List.flatMap_cons, ← ih, show (k + 1) * 2 = k * 2 + 2 by omega]
    rfl
theorem flat_one (l : List Rc) : ∀ u ∈ l.flatMap cellsR, u.oneCell' = true := by
  intro u hu
  obtain ⟨r, _, h⟩ := List.mem_flatMap.1 hu
  exact cellsR_one r u h
theorem flat_all (l : List Rc) : (l.flatMap cellsR).drop (l.length * 2) = [] := by
  rw [flat_drop, List.drop_length]
  rfl
theorem held_nil {w : World} {p q : Nat} {K : Nat → Prop} {L : Lg} {n cap : Nat} (h : LAt w p K L q (.slice none n cap)) : n = 0 ∧ cap = 0 := by
  rcases h.row.2 with ⟨e, _⟩ | ⟨g, _, _, e, _⟩
  · cases e; exact ⟨rfl, rfl⟩
  · cases e

theorem ok_held {L : Lg} (h : L.ok) {l : List Rc} (hl : l.length ≤ L.held.length) (hm : ∀ r ∈ l, r ∈ L.held) : (Lg.mk L.from_ L.many L.base L.mark L.next l).ok := by
  refine ⟨h.from_, h.m1, h.m2, ?_, Nat.le_trans hl h.held, h.mark, h.next, fun r hr => h.marks r (hm r hr)⟩
  have := h.last
  have e : L.last = L.base + L.held.length := rfl
  show L.base + l.length < _
  omega
/-- Other records in the same row. -/
theorem LAt.deleted {w w2 : World} {p q g n cap : Nat} {K : Nat → Prop} {L : Lg} (h : LAt w p K L q (.slice (some ⟨g, 0, none⟩) n cap)) {l : List Rc} (ho : (Lg.mk L.from_ L.many L.base L.mark L.next l).ok) {m : Nat} (hm : l.length = m)
    (hown : w2.ownsRow 0 58 2 (.slice (some ⟨g, 0, none⟩) m cap) m (l.flatMap cellsR)) (hg : w.grownBy w2 (some g)) :
    LAt (w2.setCell ⟨p, 5, none⟩ (.slice (some ⟨g, 0, none⟩) m cap)) p K ⟨L.from_, L.many, L.base, L.mark, L.next, l⟩ q (.slice (some ⟨g, 0, none⟩) m cap) := by
  have hb2 := h.box.grown hg (fun k hk => row_ne_box h.row h.box (by decide) hk)
  have hpg : p ≠ g := row_ne_box hown hb2 (by decide) rfl
  subst hm
  refine ⟨hb2.set 5 _, ?_, h.kp, h.kv, ?_, ho⟩
  · refine row_kept hown fun i hi _ => ?_
    cases hi
    exact heap_setCell_other w2 ⟨p, 5, none⟩ g _ (fun e => hpg e.symm)
  · intro i hi
    have := h.lt i hi
    have := hg.size
    simp only [World.setCell, Array.size_modify]
    omega
theorem LAt.again {w : World} {p q : Nat} {K : Nat → Prop} {L : Lg} {hv : Value} (h : LAt w p K L q hv) : LAt (w.setCell ⟨p, 5, none⟩ hv) p K L q hv := by
  refine ⟨h.box.set 5 hv, row_kept h.row fun i hi _ => heap_setCell_other w ⟨p, 5, none⟩ i _ (fun e => row_ne_box h.row h.box (by decide) hi e.symm), h.kp, h.kv, fun i hi => by have := h.lt i hi; simpa [World.setCell] using this, h.ok⟩
theorem step_del {K : Nat → Prop} {w w2 w3 : World} {p g : Nat} {v : Value} (hb : Kit.But K w w2) (hg : w2.grownBy w3 (some g)) (hr : K g) (kp : K p) : Kit.But K w (w3.setCell ⟨p, 5, none⟩ v) :=
  (hb.trans (Kit.But.of_grown hg (fun k hk _ => by cases hk; exact hr))).setCell (fun _ => kp) v

set_option maxRecDepth 100000 in
set_option maxHeartbeats 4000000 in
theorem cut_no {w : World} {p q : Nat} {K : Nat → Prop} {L : Lg} (h : LHas w p K L q) (n : Nat) (hn : ¬ (L.base ≤ n ∧ n ≤ L.last)) :
    Calls Try.prog 16 #[.pointer (some ⟨p, 0, none⟩), .int .u64 (n : Int)] w fun e w' => e = .returned (.bool false) ∧ Below w.heap.size w w' := by
  have HH := has_any h n
  rw [decide_eq_false hn] at HH
  clear h hn
  go_enter Try.func16, Try.ntmps16
  go_wp2_with fail
  refine HH.mono ?_
  rintro e w1 ⟨rfl, b1⟩
  go_wp2
  go_ret
  exact ⟨rfl, b1⟩

set_option maxRecDepth 100000 in
set_option maxHeartbeats 4000000 in
theorem cut_all {w : World} {p q : Nat} {K : Nat → Prop} {L : Lg} (h : LHas w p K L q) (n : Nat) (hn : n = L.base + L.held.length) :
    Calls Try.prog 16 #[.pointer (some ⟨p, 0, none⟩), .int .u64 (n : Int)] w fun e w' => e = .returned (.bool true) ∧ LHas w' p K L q ∧ Kit.But K w w' := by
  have HH := has_any h n
  have e : L.last = L.base + L.held.length := rfl
  have hlast := h.ok.last
  have o2 : L.held.length ≤ 128 := Nat.le_trans h.ok.held h.ok.m2
  rw [decide_eq_true (show L.base ≤ n ∧ n ≤ L.last by omega)] at HH
  have FH := Lib.hid h
  have e1 : IntKind.u64.wrap ((n : Int) - (L.base : Int)) = (L.held.length : Int) := by rw [IntKind.wrap_u64]; omega
  have e2 : IntKind.i64.wrap (L.held.length : Int) = (L.held.length : Int) := by rw [IntKind.wrap_i64]; omega
  clear h hn e hlast
  go_enter Try.func16, Try.ntmps16
  go_wp2_with fail
  refine HH.mono ?_
  rintro e w1 ⟨rfl, b1⟩
  obtain ⟨hv, h1⟩ := FH.out.below b1
  clear FH HH
  obtain ⟨a, cap, rfl, hc1, hc2⟩ := h1.form
  have hd := h1.drew
  have c3 := hd.c3
  have c5 := hd.c5
  have f5 := hd.free 5
  have HD := Lib.hid (And.intro hd.again ((Kit.But.of_below b1 (Nat.le_refl _) K).drew.setCell (p := ⟨p, 5, none⟩) (fun _ => hd.kp) (.slice a L.held.length cap)))
  have hN := delete_none (w := w1.drew) (a := a) (n := L.held.length) (cap := cap) (i := L.held.length) (Nat.le_refl _) hc1 hc2 (fun ha => by subst ha; exact held_nil hd)
  clear h1 hd hc1 hc2 b1
  go_upto_region 3 with (fail)
  go_region_law (go_simp; go_at_call 36; refine hN.mono ?_; rintro r w2 ⟨rfl, rfl⟩; go_wp2_with fail)
  all_goals clear c3 c5 f5 hN
  all_goals go_wp2
  all_goals go_ret
  all_goals exact ⟨rfl, ⟨_, HD.out.1⟩, HD.out.2⟩

set_option maxRecDepth 100000 in
set_option maxHeartbeats 4000000 in
theorem cut_some {w : World} {p q : Nat} {K : Nat → Prop} {L : Lg} (h : LHas w p K L q) {k : Nat} (hk : k < L.held.length) (n : Nat) (hn : n = L.base + k) :
    Calls Try.prog 16 #[.pointer (some ⟨p, 0, none⟩), .int .u64 (n : Int)] w fun e w' => e = .returned (.bool true) ∧ LHas w' p K (L.cut k) q ∧ Kit.But K w w' := by
  have HH := has_any h n
  have e : L.last = L.base + L.held.length := rfl
  have hlast := h.ok.last
  have o2 : L.held.length ≤ 128 := Nat.le_trans h.ok.held h.ok.m2
  rw [decide_eq_true (show L.base ≤ n ∧ n ≤ L.last by omega)] at HH
  have FH := Lib.hid h
  have e1 : IntKind.u64.wrap ((n : Int) - (L.base : Int)) = (k : Int) := by rw [IntKind.wrap_u64]; omega
  have e2 : IntKind.i64.wrap (k : Int) = (k : Int) := by rw [IntKind.wrap_i64]; omega
  clear h hn e hlast
  go_enter Try.func16, Try.ntmps16
  go_wp2_with fail
  refine HH.mono ?_
  rintro e w1 ⟨rfl, b1⟩
  obtain ⟨hv, h1⟩ := FH.out.below b1
  clear FH HH
  obtain ⟨g, cap, rfl, -, -⟩ := h1.row.form (by omega)
  have hd := h1.drew
  have c3 := hd.c3
  have c5 := hd.c5
  have HD := Lib.hid (And.intro hd b1)
  have hN := delete_some (w := w1.drew) (i := k) hd.row (flat_one _) hk (Nat.le_refl _)
  rw [flat_take, flat_all, List.append_nil, Nat.sub_self, Nat.add_zero] at hN
  clear h1 hd b1
  go_upto_region 3 with (fail)
  go_region_law (go_simp; go_at_call 36; refine hN.mono ?_; rintro r w2 ⟨rfl, hown, hg⟩; have k5 := (HD.out.1.box.grown hg (fun k hk => row_ne_box HD.out.1.row HD.out.1.box (by decide) hk)).cell (j := 5) rfl; have f5 := (HD.out.1.box.grown hg (fun k hk => row_ne_box HD.out.1.row HD.out.1.box (by decide) hk)).frozen 5; go_wp2_with fail)
  all_goals (have hl : (L.held.take k).length = k := by rw [List.length_take]; omega)
  all_goals (have fin := HD.out.1.deleted (ok_held HD.out.1.ok (l := L.held.take k) (by rw [hl]; omega) (fun r hr => List.mem_of_mem_take hr)) hl hown hg)
  all_goals (have stp := step_del (v := .slice (some ⟨g, 0, none⟩) k cap) (Kit.But.of_below HD.out.2 (Nat.le_refl _) K).drew hg (HD.out.1.kv g rfl) HD.out.1.kp)
  all_goals (have FIN := Lib.hid (And.intro fin stp))
  all_goals clear c3 c5 k5 f5 hN fin stp hl hown hg HD
  all_goals go_wp2
  all_goals go_ret
  all_goals exact ⟨rfl, ⟨_, FIN.out.1⟩, FIN.out.2⟩
theorem cut_yes {w : World} {p q : Nat} {K : Nat → Prop} {L : Lg} (h : LHas w p K L q) {k : Nat} (hk : k ≤ L.held.length) (n : Nat) (hn : n = L.base + k) :
    Calls Try.prog 16 #[.pointer (some ⟨p, 0, none⟩), .int .u64 (n : Int)] w fun e w' => e = .returned (.bool true) ∧ LHas w' p K (L.cut k) q ∧ Kit.But K w w' := by
  by_cases hkl : k = L.held.length
  · subst hkl
    have ec : L.cut L.held.length = L := by unfold Lg.cut; rw [List.take_length]
    rw [ec]
    exact cut_all h n hn
  · exact cut_some h (by omega) n hn
end Wal
end Go.Proofs.Ytgjejofdmfpdjaa
/-! Package wal: Drop. -/
namespace Go.Proofs.Ytgjejofdmfpdjaa
open Go.RowKit
namespace Wal
open Dsk Slt

theorem ok_drop {L : Lg} (h : L.ok) {k : Nat} (hk : k ≤ L.held.length) : (L.drop k).ok := by
  have hl : (L.held.drop k).length = L.held.length - k := List.length_drop
  refine ⟨h.from_, h.m1, h.m2, ?_, ?_, h.markAt k, h.next, fun r hr => h.marks r (List.mem_of_mem_drop hr)⟩
  · have := h.last
    have e : L.last = L.base + L.held.length := rfl
    show L.base + k + (L.held.drop k).length < _
    omega
  · have := h.held
    show (L.held.drop k).length ≤ L.many
    omega
/-- Base and mark stored. -/
theorem LAt.based {w : World} {p q : Nat} {K : Nat → Prop} {L : Lg} {l : List Rc} {hv : Value} (h : LAt w p K ⟨L.from_, L.many, L.base, L.mark, L.next, l⟩ q hv) {b m : Nat} (ho : (Lg.mk L.from_ L.many b m L.next l).ok) :
    LAt ((w.setCell ⟨p, 3, none⟩ (.int .u64 (b : Int))).setCell ⟨p, 4, none⟩ (.int .u64 (m : Int))) p K ⟨L.from_, L.many, b, m, L.next, l⟩ q hv := by
  have hne : ∀ i, hv.ownBlock = some i → i ≠ p := fun i hi e => row_ne_box h.row h.box (by decide) hi e.symm
  refine ⟨(h.box.set 3 _).set 4 _, row_kept (row_kept h.row fun i hi _ => heap_setCell_other w ⟨p, 3, none⟩ i _ (hne i hi)) fun i hi _ => heap_setCell_other _ ⟨p, 4, none⟩ i _ (hne i hi), h.kp, h.kv, fun i hi => by have := h.lt i hi; simpa [World.setCell] using this, ho⟩

set_option maxRecDepth 100000 in
set_option maxHeartbeats 4000000 in
theorem drop_none {w : World} {p q : Nat} {K : Nat → Prop} {L : Lg} (h : LHas w p K L q) :
    Calls Try.prog 19 #[.pointer (some ⟨p, 0, none⟩), .int .u64 (L.base : Int)] w fun e w' => e = .returned (.bool true) ∧ LHas w' p K L q ∧ Kit.But K w w' := by
  have HH := has_any h L.base
  have HO := fun w (h : LHas w p K L q) => markOf_zero h
  have e : L.last = L.base + L.held.length := rfl
  rw [decide_eq_true (show L.base ≤ L.base ∧ L.base ≤ L.last by omega)] at HH
  have hlast := h.ok.last
  have FH := Lib.hid h
  have e1 : IntKind.u64.wrap ((L.base : Int) - (L.base : Int)) = 0 := by rw [IntKind.wrap_u64]; omega
  have e2 : IntKind.i64.wrap 0 = 0 := by rw [IntKind.wrap_i64]; omega
  have e3 : (L.base : Int) - (L.base : Int) = 0 := by omega
  clear h e hlast
  go_enter Try.func19, Try.ntmps19
  go_wp2_with fail
  refine HH.mono ?_
  rintro e w1 ⟨rfl, b1⟩
  go_wp2_with fail
  refine (HO _ (FH.out.below b1)).mono ?_
  rintro e w2 ⟨rfl, b2⟩
  have c2 := b1.trans (b2.mono b1.size)
  obtain ⟨hv, h1⟩ := FH.out.below c2
  clear FH HH HO b1 b2
  obtain ⟨a, cap, rfl, hc1, hc2⟩ := h1.form
  have hN := delete_none (w := w2.drew) (a := a) (n := L.held.length) (cap := cap) (i := 0) (Nat.zero_le _) hc1 hc2 (fun ha => by subst ha; exact held_nil h1)
  have hd := h1.drew
  have c3 := hd.c3
  have c5 := hd.c5
  have f5 := hd.free 5
  have fa := h1.again.drew
  have bs := ((Kit.But.of_below c2 (Nat.le_refl _) K).setCell (p := ⟨p, 5, none⟩) (fun _ => hd.kp) (.slice a L.held.length cap)).drew
  have FIN := Lib.hid (And.intro fa bs)
  clear hd fa bs h1 hc1 hc2 c2
  go_upto_region 4 with (fail)
  go_region_law (go_simp; go_at_call 36; refine hN.mono ?_; rintro r w3 ⟨rfl, rfl⟩; go_wp2_with fail)
  all_goals clear c3 c5 f5 hN
  all_goals (obtain ⟨fa, bs⟩ := FIN.out)
  all_goals clear FIN
  all_goals (generalize (w2.setCell ⟨p, 5, none⟩ (.slice a L.held.length cap)).drew = w4 at *)
  all_goals (have k3 := fa.c3; have f3 := fa.free 3; have hk4 := fa.box.set 3 (.int .u64 (L.base : Int)); have k4 := hk4.cell (j := 4) rfl; have f4 := hk4.frozen 4)
  all_goals (have FB := Lib.hid (And.intro (fa.based (L := L) (l := L.held) (b := L.base) (m := L.mark) fa.ok) ((bs.setCell (p := ⟨p, 3, none⟩) (fun _ => fa.kp) (.int .u64 (L.base : Int))).setCell (p := ⟨p, 4, none⟩) (fun _ => fa.kp) (.int .u64 (L.mark : Int)))))
  all_goals clear fa bs hk4
  all_goals go_wp2
  all_goals go_ret
  all_goals exact ⟨rfl, ⟨_, FB.out.1⟩, FB.out.2⟩

set_option maxRecDepth 100000 in
set_option maxHeartbeats 8000000 in
theorem drop_some {w : World} {p q : Nat} {K : Nat → Prop} {L : Lg} (h : LHas w p K L q) {k : Nat} (h0 : 0 < k) (hk : k ≤ L.held.length) (n : Nat) (hn : n = L.base + k) :
    Calls Try.prog 19 #[.pointer (some ⟨p, 0, none⟩), .int .u64 (n : Int)] w fun e w' => e = .returned (.bool true) ∧ LHas w' p K (L.drop k) q ∧ Kit.But K w w' := by
  have HH := has_any h n
  have HO := fun w (h : LHas w p K L q) => markOf_any h hk n hn
  have e : L.last = L.base + L.held.length := rfl
  have hlast := h.ok.last
  have o2 : L.held.length ≤ 128 := Nat.le_trans h.ok.held h.ok.m2
  rw [decide_eq_true (show L.base ≤ n ∧ n ≤ L.last by omega)] at HH
  have hod := ok_drop h.ok hk
  have FH := Lib.hid h
  have e1 : IntKind.u64.wrap ((n : Int) - (L.base : Int)) = (k : Int) := by rw [IntKind.wrap_u64]; omega
  have e2 : IntKind.i64.wrap (k : Int) = (k : Int) := by rw [IntKind.wrap_i64]; omega
  have ed : L.drop k = ⟨L.from_, L.many, n, L.markAt k, L.next, L.held.drop k⟩ := by rw [hn]; rfl
  rw [ed] at hod ⊢
  clear h e hlast hn ed
  generalize L.markAt k = mk at *
  go_enter Try.func19, Try.ntmps19
  go_wp2_with fail
  refine HH.mono ?_
  rintro e w1 ⟨rfl, b1⟩
  go_wp2_with fail
  refine (HO _ (FH.out.below b1)).mono ?_
  rintro e w2 ⟨rfl, b2⟩
  have c2 := b1.trans (b2.mono b1.size)
  obtain ⟨hv, h1⟩ := FH.out.below c2
  clear FH HH HO b1 b2
  obtain ⟨g, cap, rfl, -, -⟩ := h1.row.form (by omega)
  have hd := h1.drew
  have c3 := hd.c3
  have c5 := hd.c5
  have HD := Lib.hid (And.intro hd c2)
  have hN := delete_some (w := w2.drew) (i := 0) (j := k) hd.row (flat_one _) h0 hk
  rw [flat_drop, Nat.zero_mul, List.take_zero, List.nil_append, Nat.zero_add] at hN
  clear h1 hd c2
  go_upto_region 4 with (fail)
  go_region_law (go_simp; go_at_call 36; refine hN.mono ?_; rintro r w3 ⟨rfl, hown, hg⟩; have k5 := (HD.out.1.box.grown hg (fun k hk => row_ne_box HD.out.1.row HD.out.1.box (by decide) hk)).cell (j := 5) rfl; have f5 := (HD.out.1.box.grown hg (fun k hk => row_ne_box HD.out.1.row HD.out.1.box (by decide) hk)).frozen 5; go_wp2_with fail)
  all_goals (have hl : (L.held.drop k).length = L.held.length - k := List.length_drop)
  all_goals (have fa := HD.out.1.deleted (ok_held HD.out.1.ok (l := L.held.drop k) (by rw [hl]; omega) (fun r hr => List.mem_of_mem_drop hr)) hl hown hg)
  all_goals (have bs := step_del (v := .slice (some ⟨g, 0, none⟩) (L.held.length - k) cap) (Kit.But.of_below HD.out.2 (Nat.le_refl _) K).drew hg (HD.out.1.kv g rfl) HD.out.1.kp)
  all_goals clear c3 c5 f5 k5 hN hl hown hg HD
  all_goals (generalize w3.setCell ⟨p, 5, none⟩ (.slice (some ⟨g, 0, none⟩) (L.held.length - k) cap) = w4 at *)
  all_goals (have k3 := fa.c3; have f3 := fa.free 3; have hk4 := fa.box.set 3 (.int .u64 (n : Int)); have k4 := hk4.cell (j := 4) rfl; have f4 := hk4.frozen 4)
  all_goals (have FB := Lib.hid (And.intro (fa.based (L := L) (l := L.held.drop k) (b := n) (m := mk) hod) ((bs.setCell (p := ⟨p, 3, none⟩) (fun _ => fa.kp) (.int .u64 (n : Int))).setCell (p := ⟨p, 4, none⟩) (fun _ => fa.kp) (.int .u64 (mk : Int)))))
  all_goals clear fa bs hk4
  all_goals go_wp2
  all_goals go_ret
  all_goals exact ⟨rfl, ⟨_, FB.out.1⟩, FB.out.2⟩
theorem drop_yes {w : World} {p q : Nat} {K : Nat → Prop} {L : Lg} (h : LHas w p K L q) {k : Nat} (hk : k ≤ L.held.length) (n : Nat) (hn : n = L.base + k) :
    Calls Try.prog 19 #[.pointer (some ⟨p, 0, none⟩), .int .u64 (n : Int)] w fun e w' => e = .returned (.bool true) ∧ LHas w' p K (L.drop k) q ∧ Kit.But K w w' := by
  rcases Nat.eq_zero_or_pos k with h0 | h0
  · subst h0
    obtain rfl : n = L.base := hn
    exact drop_none h
  · exact drop_some h h0 hk n hn
end Wal
end Go.Proofs.Ytgjejofdmfpdjaa
