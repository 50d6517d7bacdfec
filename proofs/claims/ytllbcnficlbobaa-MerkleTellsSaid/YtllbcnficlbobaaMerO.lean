/-
  The laws' arguments, opened: a tree's case, a step, slices of numbers, texts, ints, and of slices.
-/
import Derived.Test.YtllbcnficlbobaaIdH
import Derived.Test.YtllbcnficlbobaaMerK
namespace Go.Proofs.Ytllbcnficlbobaa
open Go.RowKit Go.ChangeShapes Go.WideShapes Go.ChangeAt

namespace Mero
def ints (l : List Int) : List Value := l.map fun z => Value.int .i64 z
section
variable {H : Type} {enc : TypeId × Value → H} {w : World}
theorem one_draws : Try.prog.cellsOf 22 = 1 := by kernel_rfl
theorem one_texts : Try.prog.cellsOf 23 = 1 := by kernel_rfl
theorem open_offn {fuel : Nat} {cs : List Value} {x : DataW H × List MemPlace} (h : DataW.trod enc Try.prog w 0 (fun _ => true) true fuel 22 cs = some x) :
    ∃ (v : Value) (l : List Nat), cs = [v] ∧ Kit.Off (fun _ => False) w v (nums l) ∧ (∀ x ∈ l, x < 18446744073709551616) := by
  rcases _root_.Go.ChangeShapes.open_ints Try.underlying22 Try.underlying42 cellsU64 h with ⟨rfl, rfl⟩ | ⟨a, len, cap, zs, rfl, _, hl, hm, hz, rfl, hc, hwz⟩
  · exact ⟨_, [], rfl, Kit.Off.nil_ _ w, by simp⟩
  · simp only [if_true] at hz
    have hwz' : ∀ n ∈ zs, 0 ≤ n ∧ n ≤ 18446744073709551615 := fun n hn => bounds_u64 (hwz n hn)
    have hlen : (nums ((zs.take len).map Int.toNat)).length = len := by simp [nums]; omega
    refine ⟨_, (zs.take len).map Int.toNat, rfl, ⟨some a, cap, by rw [hlen], ⟨by rw [hlen]; exact hl, hm⟩, .inr ⟨a, rfl, fun hf => hf, ?_⟩⟩, ?_⟩
    · intro j u hj
      have hjl : j < len := by
        have := (List.getElem?_eq_some_iff.1 hj).1
        simp [nums] at this
        omega
      rw [hc j (by omega)]
      have hjz : j < zs.length := by omega
      have hw := hwz' zs[j] (List.getElem_mem hjz)
      simp [nums, List.getElem?_take_of_lt hjl, List.getElem?_eq_getElem hjz] at hj
      subst hj
      simp only [List.getD, List.getElem?_eq_getElem hjz, Option.getD_some]
      congr 2
      omega
    · intro n hn
      obtain ⟨z, hz1, rfl⟩ := List.mem_map.1 hn
      have := hwz' z (List.mem_of_mem_take hz1)
      omega
theorem open_offi {fuel : Nat} {cs : List Value} {x : DataW H × List MemPlace} (h : DataW.trod enc Try.prog w 0 (fun _ => true) true fuel 58 cs = some x) :
    ∃ (v : Value) (l : List Int), cs = [v] ∧ Kit.Off (fun _ => False) w v (ints l) ∧ (∀ x ∈ l, -9223372036854775808 ≤ x ∧ x ≤ 9223372036854775807) := by
  rcases _root_.Go.ChangeShapes.open_ints Try.underlying58 Try.underlying3 Ida.one_int h with ⟨rfl, rfl⟩ | ⟨a, len, cap, zs, rfl, _, hl, hm, hz, rfl, hc, hwz⟩
  · exact ⟨_, [], rfl, Kit.Off.nil_ _ w, by simp⟩
  · simp only [if_true] at hz
    have hlen : (ints (zs.take len)).length = len := by simp [ints]; omega
    refine ⟨_, zs.take len, rfl, ⟨some a, cap, by rw [hlen], ⟨by rw [hlen]; exact hl, hm⟩, .inr ⟨a, rfl, fun hf => hf, ?_⟩⟩, ?_⟩
    · intro j u hj
      have hjl : j < len := by
        have := (List.getElem?_eq_some_iff.1 hj).1
        simp [ints] at this
        omega
      rw [hc j (by omega)]
      have hjz : j < zs.length := by omega
      simp [ints, List.getElem?_take_of_lt hjl, List.getElem?_eq_getElem hjz] at hj
      subst hj
      simp only [List.getD, List.getElem?_eq_getElem hjz, Option.getD_some]
    · intro n hn
      exact bounds_i64 (hwz n (List.mem_of_mem_take hn))
theorem texts_weigh : ∀ (ss : List ByteArray) (s : ByteArray), s ∈ ss → s.data.toList.length ∈ DataW.weightsAll Try.prog 9 (_root_.Go.ChangeShapes.strs (H := H) ss)
  | t :: ss, s, h => by
    simp only [_root_.Go.ChangeShapes.strs, List.map_cons, DataW.weightsAll, List.mem_append]
    rcases List.mem_cons.1 h with rfl | h
    · left
      simp [DataW.weights]
    · exact .inr (texts_weigh ss s h)
theorem open_offs {fuel : Nat} {cs : List Value} {x : DataW H × List MemPlace} (h : DataW.trod enc Try.prog w 0 (fun _ => true) true fuel 23 cs = some x) :
    ∃ (v : Value) (l : List ByteArray), cs = [v] ∧ Kit.Off (fun _ => False) w v (strs l) ∧ ((∀ n ∈ DataW.weights Try.prog 23 x.1, n ≤ reachBytes) → ∀ t ∈ l, t.size ≤ reachBytes) := by
  rcases _root_.Go.ChangeShapes.open_strings Try.underlying23 Try.underlying9 cellsStr h with ⟨rfl, rfl⟩ | ⟨a, len, cap, ss, rfl, _, hl, hm, hz, rfl, hc, hws⟩
  · exact ⟨_, [], rfl, Kit.Off.nil_ _ w, by simp⟩
  · simp only [if_true] at hz
    have hlen : (strs (ss.take len)).length = len := by simp [strs]; omega
    refine ⟨_, ss.take len, rfl, ⟨some a, cap, by rw [hlen], ⟨by rw [hlen]; exact hl, hm⟩, .inr ⟨a, rfl, fun hf => hf, ?_⟩⟩, ?_⟩
    · intro j u hj
      have hjl : j < len := by
        have := (List.getElem?_eq_some_iff.1 hj).1
        simp [strs] at this
        omega
      rw [hc j (by omega)]
      have hjz : j < ss.length := by omega
      simp [strs, List.getElem?_take_of_lt hjl, List.getElem?_eq_getElem hjz] at hj
      subst hj
      simp [List.getD, List.getElem?_eq_getElem hjz]
    · intro hw t ht
      have := hw t.data.toList.length (by
        simp only [DataW.weights, Try.underlying23, List.mem_cons, List.mem_append]
        exact .inr (.inl (texts_weigh _ t ht)))
      rw [Kit.size_list] at this
      exact this
theorem open_offt {fuel : Nat} {cs : List Value} {x : DataW H × List MemPlace} (h : DataW.trod enc Try.prog w 0 (fun _ => true) true fuel 30 cs = some x) :
    ∃ (v : Value) (t : List (List Nat)), cs = [v] ∧ Kit.Tr (fun _ => False) w v t ∧ (∀ k x, x ∈ t.getD k [] → x < 18446744073709551616) := by
  rcases DataW.trod_slice Try.underlying30 h with ⟨rfl, rfl⟩ | ⟨a, len, cap, elems, rest, n, _, rfl, rfl, hb, hl, hm, hlen, hel, hsp, hns⟩
  · exact ⟨_, [], rfl, Kit.Tr.nil_ _ w, by simp⟩
  · have each : ∀ i, i < len → ∃ p : Value × List Nat, w.cell? (a.add i) = some p.1 ∧ Kit.Off (fun _ => False) w p.1 (nums p.2) ∧ (∀ x ∈ p.2, x < 18446744073709551616) := by
      intro i hi
      have h1 := hel i hi
      rw [one_draws, Nat.mul_one, List.getElem?_eq_getElem (by omega), Option.bind_eq_some_iff] at h1
      obtain ⟨cs', hcs, hy⟩ := h1
      obtain ⟨v, l, rfl, ho, hx⟩ := open_offn hy
      exact ⟨(v, l), cell_of_cells?_one hcs, ho, hx⟩
    obtain ⟨ps, hpl, hps⟩ := Ida.list_of len each
    refine ⟨_, ps.map (·.2), rfl, ⟨ps.map (·.1), ⟨some a, cap, by rw [List.length_map, hpl], ⟨by rw [List.length_map, hpl]; exact hl, hm⟩, .inr ⟨a, rfl, fun hf => hf, ?_⟩⟩, by simp, ?_⟩, ?_⟩
    · intro j u hj
      rw [List.getElem?_map, Option.map_eq_some_iff] at hj
      obtain ⟨p, hp, rfl⟩ := hj
      exact (hps j p hp).1
    · intro k x l hx hl2
      rw [List.getElem?_map, Option.map_eq_some_iff] at hx hl2
      obtain ⟨p, hp, rfl⟩ := hx
      obtain ⟨p', hp', rfl⟩ := hl2
      rw [hp] at hp'
      cases hp'
      exact (hps k p hp).2.1
    · intro k x hx
      rw [List.getD_eq_getElem?_getD, List.getElem?_map] at hx
      cases hp : ps[k]? with
      | none => rw [hp] at hx; simp at hx
      | some p =>
        rw [hp] at hx
        exact (hps k p hp).2.2 x hx
theorem cells_tree : Try.prog.cellsOf 25 = 3 := by kernel_rfl
set_option maxRecDepth 100000 in
theorem trod_tree {fuel : Nat} {cs : List Value} {x : DataW H × List MemPlace} (h : DataW.trod enc Try.prog w 0 (fun _ => true) true fuel 25 cs = some x) :
    ∃ (dv : Value) (l : List Nat) (dd : Int) (lv : Value) (ls : List ByteArray), cs = [dv, .int .i64 dd, lv] ∧ Kit.Sl w dv (nums l) ∧ (∀ x ∈ l, x < 18446744073709551616) ∧ (-9223372036854775808 ≤ dd ∧ dd ≤ 9223372036854775807) ∧ Kit.Off (fun _ => False) w lv (strs ls) ∧ ((∀ n ∈ DataW.weights Try.prog 25 x.1, n ≤ reachBytes) → l.length * 8 ≤ reachBytes) ∧ ((∀ n ∈ DataW.weights Try.prog 25 x.1, n ≤ reachBytes) → (∀ t ∈ ls, t.size ≤ reachBytes)) := by
  obtain ⟨ys, m, _, hx, hl, hyl, hgf⟩ := DataW.trod_struct Try.underlying25 h
  rw [cells_tree] at hl
  match cs, hl with
  | [c0, c1, c2], _ =>
    match ys, hyl with
    | [y0, y1, y2], _ =>
      have t0 : DataW.trod enc Try.prog w 0 (fun _ => true) true m 22 (([c0, c1, c2].drop 0).take (Try.prog.cellsOf 22)) = some y0 := hgf 0 _ rfl
      rw [one_draws] at t0
      have t1 : DataW.trod enc Try.prog w 0 (fun _ => true) true m 3 (([c0, c1, c2].drop 1).take (Try.prog.cellsOf 3)) = some y1 := hgf 1 _ rfl
      rw [Ida.one_int] at t1
      have t2 : DataW.trod enc Try.prog w 0 (fun _ => true) true m 23 (([c0, c1, c2].drop 2).take (Try.prog.cellsOf 23)) = some y2 := hgf 2 _ rfl
      rw [one_texts] at t2
      obtain ⟨dv, l, r0, s0, x0, b0, -⟩ := Ida.open_draws2 t0
      obtain ⟨dd, r1, -, w1⟩ := DataW.trod_int Try.underlying3 t1
      have q1 := bounds_i64 w1
      obtain ⟨lv, ls, r2, s2, b2⟩ := open_offs t2
      simp at r0 r1 r2
      subst r0
      subst r1
      subst r2
      subst hx
      exact ⟨_, l, dd, _, ls, rfl, s0, x0, q1, s2, fun hw => b0 fun n hn => hw n (by simp only [DataW.weights, Try.underlying25, List.map_cons, List.map_nil, DataW.weightsEach, List.mem_append]; exact .inl hn), fun hw => b2 fun n hn => hw n (by simp only [DataW.weights, Try.underlying25, List.map_cons, List.map_nil, DataW.weightsEach, List.mem_append]; exact .inr (.inr (.inl hn)))⟩
theorem open_tree {v0 : Value} {d : DataW H} {pl : List MemPlace} {rc : Reach} {bs : Nat} (hv : Value.okWide Try.prog w rc bs 25 v0) (h : DataW.Trod enc Try.prog w 0 (fun _ => true) true 25 v0 d pl) :
    ∃ (dv : Value) (l : List Nat) (dd : Int) (lv : Value) (ls : List ByteArray), v0 = .agg #[dv, .int .i64 dd, lv] ∧ Kit.Sl w dv (nums l) ∧ (∀ x ∈ l, x < 18446744073709551616) ∧ (-9223372036854775808 ≤ dd ∧ dd ≤ 9223372036854775807) ∧ Kit.Off (fun _ => False) w lv (strs ls) ∧ ((∀ n ∈ DataW.weights Try.prog 25 d, n ≤ reachBytes) → l.length * 8 ≤ reachBytes) ∧ ((∀ n ∈ DataW.weights Try.prog 25 d, n ≤ reachBytes) → (∀ t ∈ ls, t.size ≤ reachBytes)) := by
  obtain ⟨cs, rfl, hsz⟩ := okWide_struct Try.underlying25 hv
  obtain ⟨fuel, hf⟩ := h
  obtain ⟨dv, l, dd, lv, ls, e1, hr⟩ := trod_tree hf
  obtain ⟨cs⟩ := cs
  simp only [Value.cells] at e1
  subst e1
  exact ⟨dv, l, dd, lv, ls, rfl, hr⟩
theorem cells_step : Try.prog.cellsOf 39 = 3 := by kernel_rfl
set_option maxRecDepth 100000 in
theorem trod_step {fuel : Nat} {cs : List Value} {x : DataW H × List MemPlace} (h : DataW.trod enc Try.prog w 0 (fun _ => true) true fuel 39 cs = some x) :
    ∃ (ii : Int) (s : ByteArray) (pv : Value) (p : List Nat), cs = [.int .i64 ii, .string s, pv] ∧ (-9223372036854775808 ≤ ii ∧ ii ≤ 9223372036854775807) ∧ Kit.Off (fun _ => False) w pv (nums p) ∧ (∀ x ∈ p, x < 18446744073709551616) ∧ ((∀ n ∈ DataW.weights Try.prog 39 x.1, n ≤ reachBytes) → s.size ≤ reachBytes) := by
  obtain ⟨ys, m, _, hx, hl, hyl, hgf⟩ := DataW.trod_struct Try.underlying39 h
  rw [cells_step] at hl
  match cs, hl with
  | [c0, c1, c2], _ =>
    match ys, hyl with
    | [y0, y1, y2], _ =>
      have t0 : DataW.trod enc Try.prog w 0 (fun _ => true) true m 3 (([c0, c1, c2].drop 0).take (Try.prog.cellsOf 3)) = some y0 := hgf 0 _ rfl
      rw [Ida.one_int] at t0
      have t1 : DataW.trod enc Try.prog w 0 (fun _ => true) true m 9 (([c0, c1, c2].drop 1).take (Try.prog.cellsOf 9)) = some y1 := hgf 1 _ rfl
      rw [Ida.one_str] at t1
      have t2 : DataW.trod enc Try.prog w 0 (fun _ => true) true m 22 (([c0, c1, c2].drop 2).take (Try.prog.cellsOf 22)) = some y2 := hgf 2 _ rfl
      rw [one_draws] at t2
      obtain ⟨ii, r0, -, w0⟩ := DataW.trod_int Try.underlying3 t0
      have q0 := bounds_i64 w0
      obtain ⟨s, r1, e1, w1⟩ := DataW.trod_string Try.underlying9 t1
      have b1 : (∀ n ∈ DataW.weights Try.prog 9 y1.1, n ≤ reachBytes) → s.size ≤ reachBytes := fun hw => by
        have := hw s.data.toList.length (by rw [e1]; simp [DataW.weights])
        rw [Kit.size_list] at this
        exact this
      obtain ⟨pv, p, r2, s2, x2⟩ := open_offn t2
      simp at r0 r1 r2
      subst r0
      subst r1
      subst r2
      subst hx
      exact ⟨ii, s, _, p, rfl, q0, s2, x2, fun hw => b1 fun n hn => hw n (by simp only [DataW.weights, Try.underlying39, List.map_cons, List.map_nil, DataW.weightsEach, List.mem_append]; exact .inr (.inl hn))⟩
theorem open_step {v0 : Value} {d : DataW H} {pl : List MemPlace} {rc : Reach} {bs : Nat} (hv : Value.okWide Try.prog w rc bs 39 v0) (h : DataW.Trod enc Try.prog w 0 (fun _ => true) true 39 v0 d pl) :
    ∃ (ii : Int) (s : ByteArray) (pv : Value) (p : List Nat), v0 = .agg #[.int .i64 ii, .string s, pv] ∧ (-9223372036854775808 ≤ ii ∧ ii ≤ 9223372036854775807) ∧ Kit.Off (fun _ => False) w pv (nums p) ∧ (∀ x ∈ p, x < 18446744073709551616) ∧ ((∀ n ∈ DataW.weights Try.prog 39 d, n ≤ reachBytes) → s.size ≤ reachBytes) := by
  obtain ⟨cs, rfl, hsz⟩ := okWide_struct Try.underlying39 hv
  obtain ⟨fuel, hf⟩ := h
  obtain ⟨ii, s, pv, p, e1, hr⟩ := trod_step hf
  obtain ⟨cs⟩ := cs
  simp only [Value.cells] at e1
  subst e1
  exact ⟨ii, s, pv, p, rfl, hr⟩
theorem arg_nums {v0 : Value} {d : DataW H} {pl : List MemPlace} {rc : Reach} {bs : Nat} (hv : Value.okWide Try.prog w rc bs 22 v0) (h : DataW.Trod enc Try.prog w 0 (fun _ => true) true 22 v0 d pl) :
    ∃ l : List Nat, Kit.Off (fun _ => False) w v0 (nums l) ∧ (∀ x ∈ l, x < 18446744073709551616) := by
  obtain ⟨fuel, hf⟩ := h
  obtain ⟨a, len, cap, rfl⟩ := okWide_slice Try.underlying22 hv
  obtain ⟨v, l, hu, hr⟩ := open_offn hf
  simp only [Value.cells] at hu
  obtain rfl : Value.slice a len cap = v := by simpa using hu
  exact ⟨l, hr⟩
theorem arg_ints {v0 : Value} {d : DataW H} {pl : List MemPlace} {rc : Reach} {bs : Nat} (hv : Value.okWide Try.prog w rc bs 58 v0) (h : DataW.Trod enc Try.prog w 0 (fun _ => true) true 58 v0 d pl) :
    ∃ l : List Int, Kit.Off (fun _ => False) w v0 (ints l) ∧ (∀ x ∈ l, -9223372036854775808 ≤ x ∧ x ≤ 9223372036854775807) := by
  obtain ⟨fuel, hf⟩ := h
  obtain ⟨a, len, cap, rfl⟩ := okWide_slice Try.underlying58 hv
  obtain ⟨v, l, hu, hr⟩ := open_offi hf
  simp only [Value.cells] at hu
  obtain rfl : Value.slice a len cap = v := by simpa using hu
  exact ⟨l, hr⟩
theorem arg_tr {v0 : Value} {d : DataW H} {pl : List MemPlace} {rc : Reach} {bs : Nat} (hv : Value.okWide Try.prog w rc bs 30 v0) (h : DataW.Trod enc Try.prog w 0 (fun _ => true) true 30 v0 d pl) :
    ∃ l : List (List Nat), Kit.Tr (fun _ => False) w v0 l ∧ (∀ k x, x ∈ l.getD k [] → x < 18446744073709551616) := by
  obtain ⟨fuel, hf⟩ := h
  obtain ⟨a, len, cap, rfl⟩ := okWide_slice Try.underlying30 hv
  obtain ⟨v, l, hu, hr⟩ := open_offt hf
  simp only [Value.cells] at hu
  obtain rfl : Value.slice a len cap = v := by simpa using hu
  exact ⟨l, hr⟩
theorem arg_texts {v0 : Value} {d : DataW H} {pl : List MemPlace} {rc : Reach} {bs : Nat} (hv : Value.okWide Try.prog w rc bs 23 v0) (h : DataW.Trod enc Try.prog w 0 (fun _ => true) true 23 v0 d pl) :
    ∃ l : List ByteArray, Kit.Off (fun _ => False) w v0 (strs l) ∧ ((∀ n ∈ DataW.weights Try.prog 23 d, n ≤ reachBytes) → ∀ t ∈ l, t.size ≤ reachBytes) := by
  obtain ⟨fuel, hf⟩ := h
  obtain ⟨a, len, cap, rfl⟩ := okWide_slice Try.underlying23 hv
  obtain ⟨v, l, hu, hr⟩ := open_offs hf
  simp only [Value.cells] at hu
  obtain rfl : Value.slice a len cap = v := by simpa using hu
  exact ⟨l, hr⟩
end
end Mero
end Go.Proofs.Ytllbcnficlbobaa
