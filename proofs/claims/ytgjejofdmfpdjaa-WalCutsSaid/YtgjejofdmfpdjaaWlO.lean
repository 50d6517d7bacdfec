/-
  The laws' arguments, opened: texts with their sizes, two slices of texts, numbers, what a crash keeps.
-/
import Derived.Test.YtgjejofdmfpdjaaOpn
import Derived.Test.YtgjejofdmfpdjaaDskO
import Derived.OpenShut
namespace Go.Proofs.Ytgjejofdmfpdjaa
open Go.RowKit Go.ChangeShapes Go.WideShapes Go.ChangeAt
namespace Wal
open Dsk

section
variable {H : Type} {enc : TypeId × Value → H} {w : World}
theorem one_t : Try.prog.cellsOf 22 = 1 := by kernel_rfl
theorem cells_two : Try.prog.cellsOf 37 = 2 := by kernel_rfl
theorem texts_weigh : ∀ (ss : List ByteArray) (s : ByteArray), s ∈ ss → s.data.toList.length ∈ DataW.weightsAll Try.prog 9 (_root_.Go.ChangeShapes.strs (H := H) ss)
  | t :: ss, s, h => by
    simp only [_root_.Go.ChangeShapes.strs, List.map_cons, DataW.weightsAll, List.mem_append]
    rcases List.mem_cons.1 h with rfl | h
    · left
      simp [DataW.weights]
    · exact .inr (texts_weigh ss s h)
set_option maxRecDepth 100000 in
theorem open_texts {fuel : Nat} {cs : List Value} {x : DataW H × List MemPlace} (h : DataW.trod enc Try.prog w 0 (fun _ => true) true fuel 22 cs = some x) :
    ∃ (a : Option Addr) (cap : Nat) (l : List ByteArray), cs = [.slice a l.length cap] ∧ Kit.Rd w (.slice a l.length cap) (Dsk.strs l) ∧ ((∀ n ∈ DataW.weights Try.prog 22 x.1, n ≤ reachBytes) → ∀ t ∈ l, t.size ≤ reachBytes) := by
  rcases _root_.Go.ChangeShapes.open_strings Try.underlying22 Try.underlying9 cellsStr h with ⟨rfl, rfl⟩ | ⟨a, len, cap, ss, rfl, _, hl, hm, hz, rfl, hc, hws⟩
  · exact ⟨none, 0, [], rfl, Kit.Rd.nil_ w, by simp⟩
  · simp only [if_true] at hz
    have hln : (ss.take len).length = len := by rw [List.length_take]; omega
    have hls : (Dsk.strs (ss.take len)).length = len := by rw [Dsk.strs_len, hln]
    refine ⟨some a, cap, ss.take len, by rw [hln], ⟨some a, cap, by rw [Dsk.strs_len], .inr ⟨a, rfl, fun j u hj => ?_⟩⟩, ?_⟩
    · have hjl : j < len := by
        have := (List.getElem?_eq_some_iff.1 hj).1
        rwa [hls] at this
      have hjz : j < ss.length := by omega
      rw [hc j hjz]
      simp [Dsk.strs, List.getElem?_take_of_lt hjl, List.getElem?_eq_getElem hjz] at hj
      subst hj
      simp [List.getD, List.getElem?_eq_getElem hjz]
    · intro hw t ht
      have := hw t.data.toList.length (by
        simp only [DataW.weights, Try.underlying22, List.mem_cons, List.mem_append]
        exact .inr (.inl (texts_weigh _ t ht)))
      rw [Kit.size_list] at this
      exact this
set_option maxRecDepth 100000 in
theorem arg_texts {v0 : Value} {d : DataW H} {pl : List MemPlace} {rc : Reach} {bs : Nat} (hv : Value.okWide Try.prog w rc bs 22 v0) (h : DataW.Trod enc Try.prog w 0 (fun _ => true) true 22 v0 d pl) :
    ∃ (a : Option Addr) (cap : Nat) (l : List ByteArray), v0 = .slice a l.length cap ∧ Kit.Rd w (.slice a l.length cap) (Dsk.strs l) ∧ ((∀ n ∈ DataW.weights Try.prog 22 d, n ≤ reachBytes) → ∀ t ∈ l, t.size ≤ reachBytes) := by
  obtain ⟨fuel, hf⟩ := h
  obtain ⟨a, len, cap, rfl⟩ := okWide_slice Try.underlying22 hv
  obtain ⟨la, lc, l, hu, hr, hb⟩ := open_texts hf
  simp only [Value.cells] at hu
  have ek : Value.slice a len cap = .slice la l.length lc := by simpa using hu
  exact ⟨la, lc, l, ek, hr, hb⟩
set_option maxRecDepth 100000 in
theorem arg_two {v0 : Value} {d : DataW H} {pl : List MemPlace} {rc : Reach} {bs : Nat} (hv : Value.okWide Try.prog w rc bs 37 v0) (h : DataW.Trod enc Try.prog w 0 (fun _ => true) true 37 v0 d pl) :
    ∃ (a : Option Addr) (ca : Nat) (l : List ByteArray) (b : Option Addr) (cb : Nat) (m : List ByteArray), v0 = .agg #[.slice a l.length ca, .slice b m.length cb] ∧ Kit.Rd w (.slice a l.length ca) (Dsk.strs l) ∧ Kit.Rd w (.slice b m.length cb) (Dsk.strs m) ∧
      ((∀ n ∈ DataW.weights Try.prog 37 d, n ≤ reachBytes) → (∀ t ∈ l, t.size ≤ reachBytes) ∧ ∀ t ∈ m, t.size ≤ reachBytes) := by
  simp only [Value.okWide, Try.underlying37] at hv
  obtain ⟨cs, rfl, hsz, _⟩ := hv
  rw [cells_two] at hsz
  obtain ⟨cs⟩ := cs
  match cs, hsz with
  | [c0, c1], _ =>
    obtain ⟨fuel, hf⟩ := h
    obtain ⟨ys, m, _, hx, _, hyl, hg⟩ := DataW.trod_array Try.underlying37 hf
    match ys, hyl with
    | [y0, y1], _ =>
      have t0 := hg 0 (by omega)
      have t1 := hg 1 (by omega)
      rw [one_t] at t0 t1
      obtain ⟨a, ca, l, r0, q0, b0⟩ := open_texts t0
      obtain ⟨b, cb, m, r1, q1, b1⟩ := open_texts t1
      simp [Value.cells] at r0 r1
      subst r0 r1
      refine ⟨a, ca, l, b, cb, m, rfl, q0, q1, fun hw => ⟨b0 fun n hn => hw n ?_, b1 fun n hn => hw n ?_⟩⟩
      all_goals (injection hx with hx1 hx2; subst hx1; simp only [DataW.weights, Try.underlying37, List.map_cons, List.map_nil, DataW.weightsAll, List.mem_append])
      · exact .inl hn
      · exact .inr (.inl hn)
set_option maxRecDepth 100000 in
theorem arg_keep {v0 : Value} {d : DataW H} {pl : List MemPlace} {rc : Reach} {bs : Nat} (hv : Value.okWide Try.prog w rc bs 23 v0) (h : DataW.Trod enc Try.prog w 0 (fun _ => true) true 23 v0 d pl) :
    ∃ (a : Option Addr) (cap : Nat) (l : List Int), v0 = .slice a (ints l).length cap ∧ Kit.Rd w (.slice a (ints l).length cap) (ints l) := by
  obtain ⟨fuel, hf⟩ := h
  obtain ⟨a, len, cap, rfl⟩ := okWide_slice Try.underlying23 hv
  obtain ⟨la, lc, l, hu, hr⟩ := Dsk.open_keep hf
  simp only [Value.cells] at hu
  have ek : Value.slice a len cap = .slice la (ints l).length lc := by simpa using hu
  exact ⟨la, lc, l, ek, hr⟩
set_option maxRecDepth 100000 in
theorem arg_nums {v0 : Value} {d : DataW H} {pl : List MemPlace} {rc : Reach} {bs : Nat} (hv : Value.okWide Try.prog w rc bs 40 v0) (h : DataW.Trod enc Try.prog w 0 (fun _ => true) true 40 v0 d pl) :
    ∃ (a : Option Addr) (cap : Nat) (l : List Nat), v0 = .slice a l.length cap ∧ Kit.Rd w (.slice a l.length cap) (nums l) := by
  obtain ⟨fuel, hf⟩ := h
  obtain ⟨a0, len0, cap0, rfl⟩ := okWide_slice Try.underlying40 hv
  rcases _root_.Go.ChangeShapes.open_ints Try.underlying40 Try.underlying35 cellsU64 hf with ⟨e, -⟩ | ⟨a, len, cap, zs, e, _, hl, hm, hz, -, hc, hwz⟩
  · simp [Value.cells] at e
    obtain ⟨rfl, rfl, rfl⟩ := e
    exact ⟨none, 0, [], rfl, Kit.Rd.nil_ w⟩
  · simp [Value.cells] at e
    obtain ⟨rfl, rfl, rfl⟩ := e
    simp only [if_true] at hz
    have hwz' : ∀ n ∈ zs, 0 ≤ n ∧ n ≤ 18446744073709551615 := fun n hn => bounds_u64 (hwz n hn)
    have hln : ((zs.take len0).map Int.toNat).length = len0 := by rw [List.length_map, List.length_take]; omega
    have hlen : (nums ((zs.take len0).map Int.toNat)).length = len0 := by simp [nums]; omega
    refine ⟨some a, cap0, (zs.take len0).map Int.toNat, by rw [hln], some a, cap0, by rw [hln, hlen], .inr ⟨a, rfl, ?_⟩⟩
    intro j u hj
    have hjl : j < len0 := by
      have := (List.getElem?_eq_some_iff.1 hj).1
      rwa [hlen] at this
    rw [hc j (by omega)]
    have hjz : j < zs.length := by omega
    have hw := hwz' zs[j] (List.getElem_mem hjz)
    simp [nums, List.getElem?_take_of_lt hjl, List.getElem?_eq_getElem hjz] at hj
    subst hj
    simp only [List.getD, List.getElem?_eq_getElem hjz, Option.getD_some]
    congr 2
    omega
end
end Wal
end Go.Proofs.Ytgjejofdmfpdjaa
