/-
  The laws' arguments, opened: acts, a play, a torn write, a list of ints.
-/
import Derived.Test.YtolanlnabdbolaaOpn
import Derived.Test.YtolanlnabdbolaaDskV
import Derived.Test.YtolanlnabdbolaaDskJ
namespace Go.Proofs.Ytolanlnabdbolaa
open Go.RowKit Go.ChangeShapes Go.WideShapes Go.ChangeAt

namespace Dsk
/-- A slice value that reads as these acts. -/
def Acts (w : World) (v : Value) (l : List Ac) : Prop :=
  ∃ a cap, v = .slice a l.length cap ∧ ∀ i c, l[i]? = some c → ∃ (ad : Addr) (ka : Option Addr) (kc : Nat), a = some ad ∧ w.cell? (ad.add (i * 4)) = some (.int .i64 c.what) ∧ w.cell? ⟨(ad.add (i * 4)).block, (ad.add (i * 4)).off + 1, none⟩ = some (.int .i64 c.at_) ∧
    w.cell? ⟨(ad.add (i * 4)).block, (ad.add (i * 4)).off + 2, none⟩ = some (.string c.text) ∧ w.cell? ⟨(ad.add (i * 4)).block, (ad.add (i * 4)).off + 3, none⟩ = some (.slice ka (ints c.keep).length kc) ∧ Kit.Rd w (.slice ka (ints c.keep).length kc) (ints c.keep)
theorem Acts.form {w : World} {v : Value} {l : List Ac} (h : Acts w v l) : ∃ a cap, v = .slice a l.length cap := by
  obtain ⟨a, cap, rfl, _⟩ := h
  exact ⟨a, cap, rfl⟩
theorem Acts.below {w w' : World} {v : Value} {l : List Ac} (h : Acts w v l) (hb : Below w.heap.size w w') : Acts w' v l := by
  obtain ⟨a, cap, rfl, h⟩ := h
  refine ⟨a, cap, rfl, fun i c hi => ?_⟩
  obtain ⟨ad, ka, kc, e, h0, h1, h2, h3, h4⟩ := h i c hi
  have k : ∀ {p : Addr} {u : Value}, w.cell? p = some u → w'.cell? p = some u := fun hp => by rw [hb.cell (World.block_lt_of_cell? _ _ hp)]; exact hp
  exact ⟨ad, ka, kc, e, k h0, k h1, k h2, k h3, h4.below hb⟩
/-- An act as a walk meets it, behind what has come since. -/
theorem Acts.at_ {w w' : World} {a : Option Addr} {n cap : Nat} {l : List Ac} (h : Acts w (.slice a n cap) l) (hb : Below w.heap.size w w') {K : Nat → Prop} (hK : ∀ i, K i → w.heap.size ≤ i) {i : Nat} {c : Ac} (hi : l[i]? = some c) :
    ∃ (ad : Addr) (ka : Option Addr) (kc : Nat), a = some ad ∧ w'.cell? (ad.add (i * 4)) = some (.int .i64 c.what) ∧ w'.cell? ⟨(ad.add (i * 4)).block, (ad.add (i * 4)).off + 1, none⟩ = some (.int .i64 c.at_) ∧
    w'.cell? ⟨(ad.add (i * 4)).block, (ad.add (i * 4)).off + 2, none⟩ = some (.string c.text) ∧ w'.cell? ⟨(ad.add (i * 4)).block, (ad.add (i * 4)).off + 3, none⟩ = some (.slice ka (ints c.keep).length kc) ∧ RdK K w' (.slice ka (ints c.keep).length kc) (ints c.keep) := by
  obtain ⟨a', cap', e, h⟩ := h
  injection e with e1 e2 e3
  subst e1
  obtain ⟨ad, ka, kc, e, h0, h1, h2, h3, h4⟩ := h i c hi
  have k : ∀ {p : Addr} {u : Value}, w.cell? p = some u → w'.cell? p = some u := fun hp => by rw [hb.cell (World.block_lt_of_cell? _ _ hp)]; exact hp
  exact ⟨ad, ka, kc, e, k h0, k h1, k h2, k h3, (RdK.of_rd h4 hK).below hb⟩

section
variable {H : Type} {enc : TypeId × Value → H} {w : World}
theorem one_i : Try.prog.cellsOf 3 = 1 := by kernel_rfl
theorem one_s : Try.prog.cellsOf 9 = 1 := by kernel_rfl
theorem one_l : Try.prog.cellsOf 42 = 1 := by kernel_rfl
theorem one_a : Try.prog.cellsOf 33 = 1 := by kernel_rfl
theorem cells_act : Try.prog.cellsOf 44 = 4 := by kernel_rfl
set_option maxRecDepth 100000 in
theorem open_keep {fuel : Nat} {cs : List Value} {x : DataW H × List MemPlace} (h : DataW.trod enc Try.prog w 0 (fun _ => true) true fuel 42 cs = some x) :
    ∃ (a : Option Addr) (cap : Nat) (l : List Int), cs = [.slice a (ints l).length cap] ∧ Kit.Rd w (.slice a (ints l).length cap) (ints l) := by
  rcases _root_.Go.ChangeShapes.open_ints Try.underlying42 Try.underlying3 one_i h with ⟨rfl, rfl⟩ | ⟨a, len, cap, zs, rfl, _, hl, hm, hz, rfl, hc, hwz⟩
  · exact ⟨none, 0, [], rfl, Kit.Rd.nil_ w⟩
  · simp only [if_true] at hz
    have hln : (ints (zs.take len)).length = len := by rw [ints_len, List.length_take]; omega
    refine ⟨some a, cap, zs.take len, by rw [hln], some a, cap, rfl, .inr ⟨a, rfl, fun j u hj => ?_⟩⟩
    have hjl : j < len := by
      have := (List.getElem?_eq_some_iff.1 hj).1
      rwa [hln] at this
    have hjz : j < zs.length := by omega
    rw [hc j hjz]
    simp [ints, List.getElem?_take_of_lt hjl, List.getElem?_eq_getElem hjz] at hj
    subst hj
    simp [List.getD, List.getElem?_eq_getElem hjz]
set_option maxRecDepth 100000 in
theorem trod_act {fuel : Nat} {cs : List Value} {x : DataW H × List MemPlace} (h : DataW.trod enc Try.prog w 0 (fun _ => true) true fuel 44 cs = some x) :
    ∃ (c : Ac) (ka : Option Addr) (kc : Nat), cs = [.int .i64 c.what, .int .i64 c.at_, .string c.text, .slice ka (ints c.keep).length kc] ∧ Kit.Rd w (.slice ka (ints c.keep).length kc) (ints c.keep) := by
  obtain ⟨ys, m, _, hx, hl, hyl, hgf⟩ := DataW.trod_struct Try.underlying44 h
  rw [cells_act] at hl
  match cs, hl with
  | [c0, c1, c2, c3], _ =>
    match ys, hyl with
    | [y0, y1, y2, y3], _ =>
      have t0 : DataW.trod enc Try.prog w 0 (fun _ => true) true m 3 (([c0, c1, c2, c3].drop 0).take (Try.prog.cellsOf 3)) = some y0 := hgf 0 _ rfl
      rw [one_i] at t0
      have t1 : DataW.trod enc Try.prog w 0 (fun _ => true) true m 3 (([c0, c1, c2, c3].drop 1).take (Try.prog.cellsOf 3)) = some y1 := hgf 1 _ rfl
      rw [one_i] at t1
      have t2 : DataW.trod enc Try.prog w 0 (fun _ => true) true m 9 (([c0, c1, c2, c3].drop 2).take (Try.prog.cellsOf 9)) = some y2 := hgf 2 _ rfl
      rw [one_s] at t2
      have t3 : DataW.trod enc Try.prog w 0 (fun _ => true) true m 42 (([c0, c1, c2, c3].drop 3).take (Try.prog.cellsOf 42)) = some y3 := hgf 3 _ rfl
      rw [one_l] at t3
      obtain ⟨a, r0, -, -⟩ := DataW.trod_int Try.underlying3 t0
      obtain ⟨b, r1, -, -⟩ := DataW.trod_int Try.underlying3 t1
      obtain ⟨s, r2, -, -⟩ := DataW.trod_string Try.underlying9 t2
      obtain ⟨ka, kc, l, r3, hr⟩ := open_keep t3
      simp at r0 r1 r2 r3
      subst r0
      subst r1
      subst r2
      subst r3
      exact ⟨⟨a, b, s, l⟩, ka, kc, by simp, hr⟩
set_option maxRecDepth 100000 in
theorem open_acts {fuel : Nat} {cs : List Value} {x : DataW H × List MemPlace} (h : DataW.trod enc Try.prog w 0 (fun _ => true) true fuel 33 cs = some x) :
    ∃ (v : Value) (l : List Ac), cs = [v] ∧ Acts w v l := by
  rcases Deep.open_slice Try.underlying33 h with ⟨rfl, _⟩ | ⟨a, len, cap, m, n, D, Pl, rfl, _, _, _, hm, _, hi⟩
  · exact ⟨_, [], rfl, none, 0, rfl, fun i c hc => by cases hc⟩
  · have hmle : len ≤ m := by simp only [if_true] at hm; omega
    obtain ⟨cl, hl, hcl⟩ := Ida.list_of (P := fun (i : Nat) (c : Ac) => ∃ (ka : Option Addr) (kc : Nat), w.cell? (a.add (i * 4)) = some (.int .i64 c.what) ∧ w.cell? ⟨(a.add (i * 4)).block, (a.add (i * 4)).off + 1, none⟩ = some (.int .i64 c.at_) ∧
        w.cell? ⟨(a.add (i * 4)).block, (a.add (i * 4)).off + 2, none⟩ = some (.string c.text) ∧ w.cell? ⟨(a.add (i * 4)).block, (a.add (i * 4)).off + 3, none⟩ = some (.slice ka (ints c.keep).length kc) ∧ Kit.Rd w (.slice ka (ints c.keep).length kc) (ints c.keep)) len (fun i hil => by
      obtain ⟨cs', hc, ht⟩ := hi i (by omega)
      obtain ⟨c, ka, kc, rfl, hr⟩ := trod_act ht
      rw [cells_act] at hc
      obtain ⟨_, _, hat⟩ := World.cells?_some hc
      exact ⟨c, ka, kc, hat 0 (by decide), hat 1 (by decide), hat 2 (by decide), hat 3 (by decide), hr⟩)
    refine ⟨_, cl, rfl, some a, cap, by rw [hl], fun i c hic => ?_⟩
    obtain ⟨ka, kc, h0, h1, h2, h3, h4⟩ := hcl i c hic
    exact ⟨a, ka, kc, rfl, h0, h1, h2, h3, h4⟩
end
end Dsk
end Go.Proofs.Ytolanlnabdbolaa
