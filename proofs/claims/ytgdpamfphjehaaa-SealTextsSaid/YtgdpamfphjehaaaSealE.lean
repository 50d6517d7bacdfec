/-
  The laws' arguments, opened: a case, a leaf, a case and another place, texts.
-/
import Derived.Test.YtgdpamfphjehaaaIdH
namespace Go.Proofs.Ytgdpamfphjehaaa
open Go.RowKit Go.ChangeShapes Go.WideShapes Go.ChangeAt

namespace Sea
section
variable {H : Type} {enc : TypeId × Value → H} {w : World}
theorem one_draws : Try.prog.cellsOf 30 = 1 := by kernel_rfl
theorem cells_case : Try.prog.cellsOf 32 = 7 := by kernel_rfl
theorem trod_case {fuel : Nat} {cs : List Value} {x : DataW H × List MemPlace} (h : DataW.trod enc Try.prog w 0 (fun _ => true) true fuel 32 cs = some x) :
    ∃ (dv : Value) (l : List Nat) (k : Nat) (v : Nat) (s : Nat) (r : Nat) (e : Nat) (p : ByteArray), cs = [dv, .int .u64 (k : Int), .int .u64 (v : Int), .int .u64 (s : Int), .int .u64 (r : Int), .int .u64 (e : Int), .string p] ∧ Kit.Sl w dv (nums l) ∧ (∀ x ∈ l, x < 18446744073709551616) ∧ k < 18446744073709551616 ∧ v < 18446744073709551616 ∧ s < 18446744073709551616 ∧ r < 18446744073709551616 ∧ e < 18446744073709551616 ∧ p.size ≤ maxLen ∧ ((∀ n ∈ DataW.weights Try.prog 32 x.1, n ≤ reachBytes) → l.length * 8 ≤ reachBytes) := by
  obtain ⟨ys, m, _, hx, hl, hyl, hgf⟩ := DataW.trod_struct Try.underlying32 h
  rw [cells_case] at hl
  match cs, hl with
  | [c0, c1, c2, c3, c4, c5, c6], _ =>
    match ys, hyl with
    | [y0, y1, y2, y3, y4, y5, y6], _ =>
      have t0 : DataW.trod enc Try.prog w 0 (fun _ => true) true m 30 (([c0, c1, c2, c3, c4, c5, c6].drop 0).take (Try.prog.cellsOf 30)) = some y0 := hgf 0 _ rfl
      rw [one_draws] at t0
      have t1 : DataW.trod enc Try.prog w 0 (fun _ => true) true m 22 (([c0, c1, c2, c3, c4, c5, c6].drop 1).take (Try.prog.cellsOf 22)) = some y1 := hgf 1 _ rfl
      rw [Ida.one_num] at t1
      have t2 : DataW.trod enc Try.prog w 0 (fun _ => true) true m 22 (([c0, c1, c2, c3, c4, c5, c6].drop 2).take (Try.prog.cellsOf 22)) = some y2 := hgf 2 _ rfl
      rw [Ida.one_num] at t2
      have t3 : DataW.trod enc Try.prog w 0 (fun _ => true) true m 22 (([c0, c1, c2, c3, c4, c5, c6].drop 3).take (Try.prog.cellsOf 22)) = some y3 := hgf 3 _ rfl
      rw [Ida.one_num] at t3
      have t4 : DataW.trod enc Try.prog w 0 (fun _ => true) true m 22 (([c0, c1, c2, c3, c4, c5, c6].drop 4).take (Try.prog.cellsOf 22)) = some y4 := hgf 4 _ rfl
      rw [Ida.one_num] at t4
      have t5 : DataW.trod enc Try.prog w 0 (fun _ => true) true m 22 (([c0, c1, c2, c3, c4, c5, c6].drop 5).take (Try.prog.cellsOf 22)) = some y5 := hgf 5 _ rfl
      rw [Ida.one_num] at t5
      have t6 : DataW.trod enc Try.prog w 0 (fun _ => true) true m 9 (([c0, c1, c2, c3, c4, c5, c6].drop 6).take (Try.prog.cellsOf 9)) = some y6 := hgf 6 _ rfl
      rw [Ida.one_str] at t6
      obtain ⟨dv, l, r0, s0, x0, b0, -⟩ := Ida.open_draws2 t0
      obtain ⟨k, r1, -, w1⟩ := DataW.trod_int Try.underlying22 t1
      obtain ⟨k, rfl, hk⟩ := Ida.nat_of (bounds_u64 w1)
      obtain ⟨v, r2, -, w2⟩ := DataW.trod_int Try.underlying22 t2
      obtain ⟨v, rfl, hv⟩ := Ida.nat_of (bounds_u64 w2)
      obtain ⟨s, r3, -, w3⟩ := DataW.trod_int Try.underlying22 t3
      obtain ⟨s, rfl, hs⟩ := Ida.nat_of (bounds_u64 w3)
      obtain ⟨r, r4, -, w4⟩ := DataW.trod_int Try.underlying22 t4
      obtain ⟨r, rfl, hr⟩ := Ida.nat_of (bounds_u64 w4)
      obtain ⟨e, r5, -, w5⟩ := DataW.trod_int Try.underlying22 t5
      obtain ⟨e, rfl, he⟩ := Ida.nat_of (bounds_u64 w5)
      obtain ⟨p, r6, -, w6⟩ := DataW.trod_string Try.underlying9 t6
      simp at r0 r1 r2 r3 r4 r5 r6
      subst r0
      subst r1
      subst r2
      subst r3
      subst r4
      subst r5
      subst r6
      subst hx
      exact ⟨_, l, k, v, s, r, e, p, rfl, s0, x0, hk, hv, hs, hr, he, w6, fun hw => b0 fun n hn => hw n (by simp only [DataW.weights, Try.underlying32, List.map_cons, List.map_nil, DataW.weightsEach, List.mem_append]; exact .inl hn)⟩
theorem open_case {v0 : Value} {d : DataW H} {pl : List MemPlace} {rc : Reach} {bs : Nat} (hv : Value.okWide Try.prog w rc bs 32 v0) (h : DataW.Trod enc Try.prog w 0 (fun _ => true) true 32 v0 d pl) :
    ∃ (dv : Value) (l : List Nat) (k : Nat) (v : Nat) (s : Nat) (r : Nat) (e : Nat) (p : ByteArray), v0 = .agg #[dv, .int .u64 (k : Int), .int .u64 (v : Int), .int .u64 (s : Int), .int .u64 (r : Int), .int .u64 (e : Int), .string p] ∧ Kit.Sl w dv (nums l) ∧ (∀ x ∈ l, x < 18446744073709551616) ∧ k < 18446744073709551616 ∧ v < 18446744073709551616 ∧ s < 18446744073709551616 ∧ r < 18446744073709551616 ∧ e < 18446744073709551616 ∧ p.size ≤ maxLen ∧ ((∀ n ∈ DataW.weights Try.prog 32 d, n ≤ reachBytes) → l.length * 8 ≤ reachBytes) := by
  obtain ⟨cs, rfl, hsz⟩ := okWide_struct Try.underlying32 hv
  obtain ⟨fuel, hf⟩ := h
  obtain ⟨dv, l, k, v, s, r, e, p, e1, hr⟩ := trod_case hf
  obtain ⟨cs⟩ := cs
  simp only [Value.cells] at e1
  subst e1
  exact ⟨dv, l, k, v, s, r, e, p, rfl, hr⟩
theorem cells_leaf : Try.prog.cellsOf 24 = 4 := by kernel_rfl
theorem trod_leaf {fuel : Nat} {cs : List Value} {x : DataW H × List MemPlace} (h : DataW.trod enc Try.prog w 0 (fun _ => true) true fuel 24 cs = some x) :
    ∃ (a : Nat) (b : Nat) (c : Nat) (g : Nat), cs = [.int .u64 (a : Int), .int .u64 (b : Int), .int .u64 (c : Int), .int .u64 (g : Int)] ∧ a < 18446744073709551616 ∧ b < 18446744073709551616 ∧ c < 18446744073709551616 ∧ g < 18446744073709551616 ∧ True := by
  obtain ⟨ys, m, _, hx, hl, hyl, hgf⟩ := DataW.trod_struct Try.underlying24 h
  rw [cells_leaf] at hl
  match cs, hl with
  | [c0, c1, c2, c3], _ =>
    match ys, hyl with
    | [y0, y1, y2, y3], _ =>
      have t0 : DataW.trod enc Try.prog w 0 (fun _ => true) true m 22 (([c0, c1, c2, c3].drop 0).take (Try.prog.cellsOf 22)) = some y0 := hgf 0 _ rfl
      rw [Ida.one_num] at t0
      have t1 : DataW.trod enc Try.prog w 0 (fun _ => true) true m 22 (([c0, c1, c2, c3].drop 1).take (Try.prog.cellsOf 22)) = some y1 := hgf 1 _ rfl
      rw [Ida.one_num] at t1
      have t2 : DataW.trod enc Try.prog w 0 (fun _ => true) true m 22 (([c0, c1, c2, c3].drop 2).take (Try.prog.cellsOf 22)) = some y2 := hgf 2 _ rfl
      rw [Ida.one_num] at t2
      have t3 : DataW.trod enc Try.prog w 0 (fun _ => true) true m 22 (([c0, c1, c2, c3].drop 3).take (Try.prog.cellsOf 22)) = some y3 := hgf 3 _ rfl
      rw [Ida.one_num] at t3
      obtain ⟨a, r0, -, w0⟩ := DataW.trod_int Try.underlying22 t0
      obtain ⟨a, rfl, ha⟩ := Ida.nat_of (bounds_u64 w0)
      obtain ⟨b, r1, -, w1⟩ := DataW.trod_int Try.underlying22 t1
      obtain ⟨b, rfl, hb⟩ := Ida.nat_of (bounds_u64 w1)
      obtain ⟨c, r2, -, w2⟩ := DataW.trod_int Try.underlying22 t2
      obtain ⟨c, rfl, hc⟩ := Ida.nat_of (bounds_u64 w2)
      obtain ⟨g, r3, -, w3⟩ := DataW.trod_int Try.underlying22 t3
      obtain ⟨g, rfl, hg⟩ := Ida.nat_of (bounds_u64 w3)
      simp at r0 r1 r2 r3
      subst r0
      subst r1
      subst r2
      subst r3
      subst hx
      exact ⟨a, b, c, g, rfl, ha, hb, hc, hg, trivial⟩
theorem open_leaf {v0 : Value} {d : DataW H} {pl : List MemPlace} {rc : Reach} {bs : Nat} (hv : Value.okWide Try.prog w rc bs 24 v0) (h : DataW.Trod enc Try.prog w 0 (fun _ => true) true 24 v0 d pl) :
    ∃ (a : Nat) (b : Nat) (c : Nat) (g : Nat), v0 = .agg #[.int .u64 (a : Int), .int .u64 (b : Int), .int .u64 (c : Int), .int .u64 (g : Int)] ∧ a < 18446744073709551616 ∧ b < 18446744073709551616 ∧ c < 18446744073709551616 ∧ g < 18446744073709551616 ∧ True := by
  obtain ⟨cs, rfl, hsz⟩ := okWide_struct Try.underlying24 hv
  obtain ⟨fuel, hf⟩ := h
  obtain ⟨a, b, c, g, e1, hr⟩ := trod_leaf hf
  obtain ⟨cs⟩ := cs
  simp only [Value.cells] at e1
  subst e1
  exact ⟨a, b, c, g, rfl, hr⟩
theorem cells_other : Try.prog.cellsOf 47 = 10 := by kernel_rfl
theorem trod_other {fuel : Nat} {cs : List Value} {x : DataW H × List MemPlace} (h : DataW.trod enc Try.prog w 0 (fun _ => true) true fuel 47 cs = some x) :
    ∃ (dv : Value) (l : List Nat) (k : Nat) (v : Nat) (s : Nat) (r : Nat) (e : Nat) (p : ByteArray) (k2 : Nat) (v2 : Nat) (s2 : Nat), cs = [dv, .int .u64 (k : Int), .int .u64 (v : Int), .int .u64 (s : Int), .int .u64 (r : Int), .int .u64 (e : Int), .string p, .int .u64 (k2 : Int), .int .u64 (v2 : Int), .int .u64 (s2 : Int)] ∧ Kit.Sl w dv (nums l) ∧ (∀ x ∈ l, x < 18446744073709551616) ∧ k < 18446744073709551616 ∧ v < 18446744073709551616 ∧ s < 18446744073709551616 ∧ r < 18446744073709551616 ∧ e < 18446744073709551616 ∧ p.size ≤ maxLen ∧ k2 < 18446744073709551616 ∧ v2 < 18446744073709551616 ∧ s2 < 18446744073709551616 ∧ ((∀ n ∈ DataW.weights Try.prog 47 x.1, n ≤ reachBytes) → l.length * 8 ≤ reachBytes) := by
  obtain ⟨ys, m, _, hx, hl, hyl, hgf⟩ := DataW.trod_struct Try.underlying47 h
  rw [cells_other] at hl
  match cs, hl with
  | [c0, c1, c2, c3, c4, c5, c6, c7, c8, c9], _ =>
    match ys, hyl with
    | [y0, y1, y2, y3], _ =>
      have t0 : DataW.trod enc Try.prog w 0 (fun _ => true) true m 32 (([c0, c1, c2, c3, c4, c5, c6, c7, c8, c9].drop 0).take (Try.prog.cellsOf 32)) = some y0 := hgf 0 _ rfl
      rw [cells_case] at t0
      have t1 : DataW.trod enc Try.prog w 0 (fun _ => true) true m 22 (([c0, c1, c2, c3, c4, c5, c6, c7, c8, c9].drop 7).take (Try.prog.cellsOf 22)) = some y1 := hgf 1 _ rfl
      rw [Ida.one_num] at t1
      have t2 : DataW.trod enc Try.prog w 0 (fun _ => true) true m 22 (([c0, c1, c2, c3, c4, c5, c6, c7, c8, c9].drop 8).take (Try.prog.cellsOf 22)) = some y2 := hgf 2 _ rfl
      rw [Ida.one_num] at t2
      have t3 : DataW.trod enc Try.prog w 0 (fun _ => true) true m 22 (([c0, c1, c2, c3, c4, c5, c6, c7, c8, c9].drop 9).take (Try.prog.cellsOf 22)) = some y3 := hgf 3 _ rfl
      rw [Ida.one_num] at t3
      obtain ⟨dv, l, k, v, s, r, e, p, r0, qcase0, qcase1, qcase2, qcase3, qcase4, qcase5, qcase6, qcase7, b0⟩ := trod_case t0
      obtain ⟨k2, r1, -, w1⟩ := DataW.trod_int Try.underlying22 t1
      obtain ⟨k2, rfl, hk2⟩ := Ida.nat_of (bounds_u64 w1)
      obtain ⟨v2, r2, -, w2⟩ := DataW.trod_int Try.underlying22 t2
      obtain ⟨v2, rfl, hv2⟩ := Ida.nat_of (bounds_u64 w2)
      obtain ⟨s2, r3, -, w3⟩ := DataW.trod_int Try.underlying22 t3
      obtain ⟨s2, rfl, hs2⟩ := Ida.nat_of (bounds_u64 w3)
      simp at r0 r1 r2 r3
      obtain ⟨rfl, rfl, rfl, rfl, rfl, rfl, rfl⟩ := r0
      subst r1
      subst r2
      subst r3
      subst hx
      exact ⟨_, l, k, v, s, r, e, p, k2, v2, s2, rfl, qcase0, qcase1, qcase2, qcase3, qcase4, qcase5, qcase6, qcase7, hk2, hv2, hs2, fun hw => b0 fun n hn => hw n (by simp only [DataW.weights, Try.underlying47, List.map_cons, List.map_nil, DataW.weightsEach, List.mem_append]; exact .inl hn)⟩
theorem open_other {v0 : Value} {d : DataW H} {pl : List MemPlace} {rc : Reach} {bs : Nat} (hv : Value.okWide Try.prog w rc bs 47 v0) (h : DataW.Trod enc Try.prog w 0 (fun _ => true) true 47 v0 d pl) :
    ∃ (dv : Value) (l : List Nat) (k : Nat) (v : Nat) (s : Nat) (r : Nat) (e : Nat) (p : ByteArray) (k2 : Nat) (v2 : Nat) (s2 : Nat), v0 = .agg #[dv, .int .u64 (k : Int), .int .u64 (v : Int), .int .u64 (s : Int), .int .u64 (r : Int), .int .u64 (e : Int), .string p, .int .u64 (k2 : Int), .int .u64 (v2 : Int), .int .u64 (s2 : Int)] ∧ Kit.Sl w dv (nums l) ∧ (∀ x ∈ l, x < 18446744073709551616) ∧ k < 18446744073709551616 ∧ v < 18446744073709551616 ∧ s < 18446744073709551616 ∧ r < 18446744073709551616 ∧ e < 18446744073709551616 ∧ p.size ≤ maxLen ∧ k2 < 18446744073709551616 ∧ v2 < 18446744073709551616 ∧ s2 < 18446744073709551616 ∧ ((∀ n ∈ DataW.weights Try.prog 47 d, n ≤ reachBytes) → l.length * 8 ≤ reachBytes) := by
  obtain ⟨cs, rfl, hsz⟩ := okWide_struct Try.underlying47 hv
  obtain ⟨fuel, hf⟩ := h
  obtain ⟨dv, l, k, v, s, r, e, p, k2, v2, s2, e1, hr⟩ := trod_other hf
  obtain ⟨cs⟩ := cs
  simp only [Value.cells] at e1
  subst e1
  exact ⟨dv, l, k, v, s, r, e, p, k2, v2, s2, rfl, hr⟩
theorem open_strs {fuel : Nat} {cs : List Value} {x : DataW H × List MemPlace} (h : DataW.trod enc Try.prog w 0 (fun _ => true) true fuel 51 cs = some x) :
    ∃ (v : Value) (l : List ByteArray), cs = [v] ∧ Kit.Rd w v (strs l) ∧ ∀ t ∈ l, t.size ≤ maxLen := by
  rcases _root_.Go.ChangeShapes.open_strings Try.underlying51 Try.underlying9 cellsStr h with ⟨rfl, rfl⟩ | ⟨a, len, cap, ss, rfl, _, hl, hm, hz, rfl, hc, hws⟩
  · exact ⟨_, [], rfl, Kit.Rd.nil_ w, by simp⟩
  · simp only [if_true] at hz
    refine ⟨_, ss.take len, rfl, ⟨some a, cap, ?_, .inr ⟨a, rfl, ?_⟩⟩, ?_⟩
    · have : (strs (ss.take len)).length = len := by simp [strs]; omega
      rw [this]
    · intro j u hj
      have hjl : j < len := by
        have := (List.getElem?_eq_some_iff.1 hj).1
        simp [strs] at this
        omega
      have hjs : j < ss.length := by omega
      rw [hc j (by omega)]
      simp [strs, List.getElem?_take_of_lt hjl, List.getElem?_eq_getElem hjs] at hj
      subst hj
      simp [List.getD, List.getElem?_eq_getElem hjs]
    · intro t ht
      exact hws t (List.mem_of_mem_take ht)
end
end Sea
end Go.Proofs.Ytgdpamfphjehaaa
