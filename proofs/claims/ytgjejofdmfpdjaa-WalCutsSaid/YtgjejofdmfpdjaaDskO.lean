/-
  The laws' arguments, opened: acts, a play, a torn write, a list of ints.
-/
import Derived.Test.YtgjejofdmfpdjaaOpn
import Derived.Test.YtgjejofdmfpdjaaDskS
import Derived.Test.YtgjejofdmfpdjaaDskJ
namespace Go.Proofs.Ytgjejofdmfpdjaa
open Go.RowKit Go.ChangeShapes Go.WideShapes Go.ChangeAt

namespace Dsk
/-- A slice value that reads as these acts. -/
def Acts (w : World) (v : Value) (l : List Ac) : Prop :=
  ∃ a cap, v = .slice a l.length cap ∧ ∀ i c, l[i]? = some c → ∃ (ad : Addr) (ka : Option Addr) (kc : Nat), a = some ad ∧ w.cell? (ad.add (i * 4)) = some (.int .i64 c.what) ∧ w.cell? ⟨(ad.add (i * 4)).block, (ad.add (i * 4)).off + 1, none⟩ = some (.int .i64 c.at_) ∧
    w.cell? ⟨(ad.add (i * 4)).block, (ad.add (i * 4)).off + 2, none⟩ = some (.string c.text) ∧ w.cell? ⟨(ad.add (i * 4)).block, (ad.add (i * 4)).off + 3, none⟩ = some (.slice ka (ints c.keep).length kc) ∧ Kit.Rd w (.slice ka (ints c.keep).length kc) (ints c.keep)
theorem Acts.form {w : World} {v : Value} {l : List Ac} (h : Acts w v l) : ∃ a cap, v = .slice a l.length cap := by
  obtain ⟨a, cap, rfl, _⟩ := h
  exact ⟨a, cap, rfl⟩
theorem Acts.below {w w' : World} {v : Value} {l : List Ac} (h : Acts w v l) (hb : Below w.heap.size w w') : Acts w' v l := by
  obtain ⟨a, cap, rfl, h⟩ := h
  refine ⟨a, cap, rfl, fun i c hi => ?_⟩
  obtain ⟨ad, ka, kc, e, h0, h1, h2, h3, h4⟩ := h i c hi
  have k : ∀ {p : Addr} {u : Value}, w.cell? p = some u → w'.cell? p = some u := fun hp => by rw [hb.cell (World.block_lt_of_cell? _ _ hp)]; exact hp
  exact ⟨ad, ka, kc, e, k h0, k h1, k h2, k h3, h4.below hb⟩
/-- An act as a walk meets it, behind what has come since. -/
theorem Acts.at_ {w w' : World} {a : Option Addr} {n cap : Nat} {l : List Ac} (h : Acts w (.slice a n cap) l) (hb : Below w.heap.size w w') {K : Nat → Prop} (hK : ∀ i, K i → w.heap.size ≤ i) {i : Nat} {c : Ac} (hi : l[i]? = some c) :
    ∃ (ad : Addr) (ka : Option Addr) (kc : Nat), a = some ad ∧ w'.cell? (ad.add (i * 4)) = some (.int .i64 c.what) ∧ w'.cell? ⟨(ad.add (i * 4)).block, (ad.add (i * 4)).off + 1, none⟩ = some (.int .i64 c.at_) ∧
    w'.cell? ⟨(ad.add (i * 4)).block, (ad.add (i * 4)).off + 2, none⟩ = some (.string c.text) ∧ w'.cell? ⟨(ad.add (i * 4)).block, (ad.add (i * 4)).off + 3, none⟩ = some (.slice ka (ints c.keep).length kc) ∧ RdK K w' (.slice ka (ints c.keep).length kc) (ints c.keep) := by
  obtain ⟨a', cap', e, h⟩ := h
  injection e with e1 e2 e3
  subst e1
  obtain ⟨ad, ka, kc, e, h0, h1, h2, h3, h4⟩ := h i c hi
  have k : ∀ {p : Addr} {u : Value}, w.cell? p = some u → w'.cell? p = some u := fun hp => by rw [hb.cell (World.block_lt_of_cell? _ _ hp)]; exact hp
  exact ⟨ad, ka, kc, e, k h0, k h1, k h2, k h3, (RdK.of_rd h4 hK).below hb⟩

section
variable {H : Type} {enc : TypeId × Value → H} {w : World}
theorem one_i : Try.prog.cellsOf 3 = 1 := by kernel_rfl
theorem one_s : Try.prog.cellsOf 9 = 1 := by kernel_rfl
theorem one_l : Try.prog.cellsOf 23 = 1 := by kernel_rfl
set_option maxRecDepth 100000 in
theorem open_keep {fuel : Nat} {cs : List Value} {x : DataW H × List MemPlace} (h : DataW.trod enc Try.prog w 0 (fun _ => true) true fuel 23 cs = some x) :
    ∃ (a : Option Addr) (cap : Nat) (l : List Int), cs = [.slice a (ints l).length cap] ∧ Kit.Rd w (.slice a (ints l).length cap) (ints l) := by
  rcases _root_.Go.ChangeShapes.open_ints Try.underlying23 Try.underlying3 one_i h with ⟨rfl, rfl⟩ | ⟨a, len, cap, zs, rfl, _, hl, hm, hz, rfl, hc, hwz⟩
  · exact ⟨none, 0, [], rfl, Kit.Rd.nil_ w⟩
  · simp only [if_true] at hz
    have hln : (ints (zs.take len)).length = len := by rw [ints_len, List.length_take]; omega
    refine ⟨some a, cap, zs.take len, by rw [hln], some a, cap, rfl, .inr ⟨a, rfl, fun j u hj => ?_⟩⟩
    have hjl : j < len := by
      have := (List.getElem?_eq_some_iff.1 hj).1
      rwa [hln] at this
    have hjz : j < zs.length := by omega
    rw [hc j hjz]
    simp [ints, List.getElem?_take_of_lt hjl, List.getElem?_eq_getElem hjz] at hj
    subst hj
    simp [List.getD, List.getElem?_eq_getElem hjz]
end
end Dsk
end Go.Proofs.Ytgjejofdmfpdjaa
