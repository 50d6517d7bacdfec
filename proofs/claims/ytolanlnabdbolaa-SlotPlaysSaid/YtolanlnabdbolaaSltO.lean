/-
  The laws' arguments, opened: a number with a text and a size, a play, two texts, a slice of texts.
-/
import Derived.Test.YtolanlnabdbolaaOpn
import Derived.Test.YtolanlnabdbolaaDskO
import Derived.OpenShut
namespace Go.Proofs.Ytolanlnabdbolaa
open Go.RowKit Go.ChangeShapes Go.WideShapes Go.ChangeAt
namespace Slt
open Dsk

section
variable {H : Type} {enc : TypeId × Value → H} {w : World}
theorem one_i : Try.prog.cellsOf 3 = 1 := by kernel_rfl
theorem one_s : Try.prog.cellsOf 9 = 1 := by kernel_rfl
theorem one_n : Try.prog.cellsOf 22 = 1 := by kernel_rfl
theorem one_a : Try.prog.cellsOf 33 = 1 := by kernel_rfl
theorem cells_framed : Try.prog.cellsOf 24 = 3 := by kernel_rfl
theorem cells_play : Try.prog.cellsOf 35 = 5 := by kernel_rfl
theorem cells_two : Try.prog.cellsOf 56 = 2 := by kernel_rfl
set_option maxRecDepth 100000 in
theorem open_framed {v0 : Value} {d : DataW H} {pl : List MemPlace} {rc : Reach} {bs : Nat} (hv : Value.okWide Try.prog w rc bs 24 v0) (h : DataW.Trod enc Try.prog w 0 (fun _ => true) true 24 v0 d pl) :
    ∃ (n : Nat) (t : ByteArray) (z : Int), v0 = .agg #[.int .u64 (n : Int), .string t, .int .i64 z] ∧ n < 18446744073709551616 := by
  obtain ⟨cs, rfl, hsz⟩ := okWide_struct Try.underlying24 hv
  obtain ⟨fuel, hf⟩ := h
  obtain ⟨ys, m, _, hx, hl, hyl, hgf⟩ := DataW.trod_struct Try.underlying24 hf
  rw [cells_framed] at hl
  obtain ⟨cs⟩ := cs
  simp only [Value.cells] at hl hgf
  match cs, hl with
  | [c0, c1, c2], _ =>
    match ys, hyl with
    | [y0, y1, y2], _ =>
      have t0 : DataW.trod enc Try.prog w 0 (fun _ => true) true m 22 (([c0, c1, c2].drop 0).take (Try.prog.cellsOf 22)) = some y0 := hgf 0 _ rfl
      rw [one_n] at t0
      have t1 : DataW.trod enc Try.prog w 0 (fun _ => true) true m 9 (([c0, c1, c2].drop 1).take (Try.prog.cellsOf 9)) = some y1 := hgf 1 _ rfl
      rw [one_s] at t1
      have t2 : DataW.trod enc Try.prog w 0 (fun _ => true) true m 3 (([c0, c1, c2].drop 2).take (Try.prog.cellsOf 3)) = some y2 := hgf 2 _ rfl
      rw [one_i] at t2
      obtain ⟨a, r0, -, w0⟩ := DataW.trod_int Try.underlying22 t0
      obtain ⟨a, rfl, ha⟩ := Ida.nat_of (bounds_u64 w0)
      obtain ⟨t, r1, -, -⟩ := DataW.trod_string Try.underlying9 t1
      obtain ⟨z, r2, -, -⟩ := DataW.trod_int Try.underlying3 t2
      simp at r0 r1 r2
      subst r0
      subst r1
      subst r2
      exact ⟨a, t, z, rfl, ha⟩
set_option maxRecDepth 100000 in
theorem open_play {v0 : Value} {d : DataW H} {pl : List MemPlace} {rc : Reach} {bs : Nat} (hv : Value.okWide Try.prog w rc bs 35 v0) (h : DataW.Trod enc Try.prog w 0 (fun _ => true) true 35 v0 d pl) :
    ∃ (n s a b : Int) (v : Value) (l : List Ac), v0 = .agg #[.int .i64 n, .int .i64 s, .int .i64 a, .int .i64 b, v] ∧ Acts w v l := by
  obtain ⟨cs, rfl, hsz⟩ := okWide_struct Try.underlying35 hv
  obtain ⟨fuel, hf⟩ := h
  obtain ⟨ys, m, _, hx, hl, hyl, hgf⟩ := DataW.trod_struct Try.underlying35 hf
  rw [cells_play] at hl
  obtain ⟨cs⟩ := cs
  simp only [Value.cells] at hl hgf
  match cs, hl with
  | [c0, c1, c2, c3, c4], _ =>
    match ys, hyl with
    | [y0, y1, y2, y3, y4], _ =>
      have t0 : DataW.trod enc Try.prog w 0 (fun _ => true) true m 3 (([c0, c1, c2, c3, c4].drop 0).take (Try.prog.cellsOf 3)) = some y0 := hgf 0 _ rfl
      rw [one_i] at t0
      have t1 : DataW.trod enc Try.prog w 0 (fun _ => true) true m 3 (([c0, c1, c2, c3, c4].drop 1).take (Try.prog.cellsOf 3)) = some y1 := hgf 1 _ rfl
      rw [one_i] at t1
      have t2 : DataW.trod enc Try.prog w 0 (fun _ => true) true m 3 (([c0, c1, c2, c3, c4].drop 2).take (Try.prog.cellsOf 3)) = some y2 := hgf 2 _ rfl
      rw [one_i] at t2
      have t3 : DataW.trod enc Try.prog w 0 (fun _ => true) true m 3 (([c0, c1, c2, c3, c4].drop 3).take (Try.prog.cellsOf 3)) = some y3 := hgf 3 _ rfl
      rw [one_i] at t3
      have t4 : DataW.trod enc Try.prog w 0 (fun _ => true) true m 33 (([c0, c1, c2, c3, c4].drop 4).take (Try.prog.cellsOf 33)) = some y4 := hgf 4 _ rfl
      rw [one_a] at t4
      obtain ⟨n, r0, -, -⟩ := DataW.trod_int Try.underlying3 t0
      obtain ⟨s, r1, -, -⟩ := DataW.trod_int Try.underlying3 t1
      obtain ⟨a, r2, -, -⟩ := DataW.trod_int Try.underlying3 t2
      obtain ⟨b, r3, -, -⟩ := DataW.trod_int Try.underlying3 t3
      obtain ⟨v, l, r4, hr⟩ := open_acts t4
      simp at r0 r1 r2 r3 r4
      subst r0
      subst r1
      subst r2
      subst r3
      subst r4
      exact ⟨n, s, a, b, _, l, rfl, hr⟩
set_option maxRecDepth 100000 in
theorem open_two {v0 : Value} {d : DataW H} {pl : List MemPlace} {rc : Reach} {bs : Nat} (hv : Value.okWide Try.prog w rc bs 56 v0) (h : DataW.Trod enc Try.prog w 0 (fun _ => true) true 56 v0 d pl) :
    ∃ (a b : ByteArray), v0 = .agg #[.string a, .string b] := by
  simp only [Value.okWide, Try.underlying56] at hv
  obtain ⟨cs, rfl, hsz, _⟩ := hv
  rw [cells_two] at hsz
  obtain ⟨cs⟩ := cs
  match cs, hsz with
  | [c0, c1], _ =>
    obtain ⟨fuel, hf⟩ := h
    obtain ⟨ys, m, _, hx, _, hyl, hg⟩ := DataW.trod_array Try.underlying56 hf
    match ys, hyl with
    | [y0, y1], _ =>
      have t0 := hg 0 (by omega)
      have t1 := hg 1 (by omega)
      rw [one_s] at t0 t1
      obtain ⟨a, r0, -, -⟩ := DataW.trod_string Try.underlying9 t0
      obtain ⟨b, r1, -, -⟩ := DataW.trod_string Try.underlying9 t1
      simp [Value.cells] at r0 r1
      subst r0 r1
      exact ⟨a, b, rfl⟩
set_option maxRecDepth 100000 in
theorem open_texts {fuel : Nat} {cs : List Value} {x : DataW H × List MemPlace} (h : DataW.trod enc Try.prog w 0 (fun _ => true) true fuel 52 cs = some x) :
    ∃ (a : Option Addr) (cap : Nat) (l : List ByteArray), cs = [.slice a l.length cap] ∧ Kit.Rd w (.slice a l.length cap) (Dsk.strs l) := by
  rcases _root_.Go.ChangeShapes.open_strings Try.underlying52 Try.underlying9 one_s h with ⟨rfl, rfl⟩ | ⟨a, len, cap, ss, rfl, _, hl, hm, hz, rfl, hc, hws⟩
  · exact ⟨none, 0, [], rfl, Kit.Rd.nil_ w⟩
  · simp only [if_true] at hz
    have hln : (ss.take len).length = len := by rw [List.length_take]; omega
    have hls : (Dsk.strs (ss.take len)).length = len := by rw [Dsk.strs_len, hln]
    refine ⟨some a, cap, ss.take len, by rw [hln], some a, cap, by rw [Dsk.strs_len], .inr ⟨a, rfl, fun j u hj => ?_⟩⟩
    have hjl : j < len := by
      have := (List.getElem?_eq_some_iff.1 hj).1
      rwa [hls] at this
    have hjz : j < ss.length := by omega
    rw [hc j hjz]
    simp [Dsk.strs, List.getElem?_take_of_lt hjl, List.getElem?_eq_getElem hjz] at hj
    subst hj
    simp [List.getD, List.getElem?_eq_getElem hjz]
end
end Slt
end Go.Proofs.Ytolanlnabdbolaa
