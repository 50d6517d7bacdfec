/-
  The laws' arguments, opened: a token, tokens, a use, an ask, and both with two numbers.
-/
import Derived.Test.YtbhdcocgghaifaaTokE
import Derived.Test.YtbhdcocgghaifaaIdH
namespace Go.Proofs.Ytbhdcocgghaifaa
open Go.RowKit Go.ChangeShapes Go.WideShapes Go.ChangeAt

namespace Cap
section
variable {H : Type} {enc : TypeId × Value → H} {w : World}
theorem one_draws : Try.prog.cellsOf 30 = 1 := by kernel_rfl
theorem one_toks : Try.prog.cellsOf 31 = 1 := by kernel_rfl
theorem cells_tok : Try.prog.cellsOf 24 = 5 := by kernel_rfl
theorem trod_tok {fuel : Nat} {cs : List Value} {x : DataW H × List MemPlace} (h : DataW.trod enc Try.prog w 0 (fun _ => true) true fuel 24 cs = some x) :
    ∃ (a : Nat) (b : Nat) (c : Nat) (y : Nat) (g : Nat), cs = [.int .u64 (a : Int), .int .u64 (b : Int), .int .u64 (c : Int), .int .u64 (y : Int), .int .u64 (g : Int)] ∧ a < 18446744073709551616 ∧ b < 18446744073709551616 ∧ c < 18446744073709551616 ∧ y < 18446744073709551616 ∧ g < 18446744073709551616 ∧ True := by
  obtain ⟨ys, m, _, hx, hl, hyl, hgf⟩ := DataW.trod_struct Try.underlying24 h
  rw [cells_tok] at hl
  match cs, hl with
  | [c0, c1, c2, c3, c4], _ =>
    match ys, hyl with
    | [y0, y1, y2, y3, y4], _ =>
      have t0 : DataW.trod enc Try.prog w 0 (fun _ => true) true m 22 (([c0, c1, c2, c3, c4].drop 0).take (Try.prog.cellsOf 22)) = some y0 := hgf 0 _ rfl
      rw [Ida.one_num] at t0
      have t1 : DataW.trod enc Try.prog w 0 (fun _ => true) true m 22 (([c0, c1, c2, c3, c4].drop 1).take (Try.prog.cellsOf 22)) = some y1 := hgf 1 _ rfl
      rw [Ida.one_num] at t1
      have t2 : DataW.trod enc Try.prog w 0 (fun _ => true) true m 22 (([c0, c1, c2, c3, c4].drop 2).take (Try.prog.cellsOf 22)) = some y2 := hgf 2 _ rfl
      rw [Ida.one_num] at t2
      have t3 : DataW.trod enc Try.prog w 0 (fun _ => true) true m 22 (([c0, c1, c2, c3, c4].drop 3).take (Try.prog.cellsOf 22)) = some y3 := hgf 3 _ rfl
      rw [Ida.one_num] at t3
      have t4 : DataW.trod enc Try.prog w 0 (fun _ => true) true m 22 (([c0, c1, c2, c3, c4].drop 4).take (Try.prog.cellsOf 22)) = some y4 := hgf 4 _ rfl
      rw [Ida.one_num] at t4
      obtain ⟨a, r0, -, w0⟩ := DataW.trod_int Try.underlying22 t0
      obtain ⟨a, rfl, ha⟩ := Ida.nat_of (bounds_u64 w0)
      obtain ⟨b, r1, -, w1⟩ := DataW.trod_int Try.underlying22 t1
      obtain ⟨b, rfl, hb⟩ := Ida.nat_of (bounds_u64 w1)
      obtain ⟨c, r2, -, w2⟩ := DataW.trod_int Try.underlying22 t2
      obtain ⟨c, rfl, hc⟩ := Ida.nat_of (bounds_u64 w2)
      obtain ⟨y, r3, -, w3⟩ := DataW.trod_int Try.underlying22 t3
      obtain ⟨y, rfl, hy⟩ := Ida.nat_of (bounds_u64 w3)
      obtain ⟨g, r4, -, w4⟩ := DataW.trod_int Try.underlying22 t4
      obtain ⟨g, rfl, hg⟩ := Ida.nat_of (bounds_u64 w4)
      simp at r0 r1 r2 r3 r4
      subst r0
      subst r1
      subst r2
      subst r3
      subst r4
      subst hx
      exact ⟨a, b, c, y, g, rfl, ha, hb, hc, hy, hg, trivial⟩
theorem open_tok {v0 : Value} {d : DataW H} {pl : List MemPlace} {rc : Reach} {bs : Nat} (hv : Value.okWide Try.prog w rc bs 24 v0) (h : DataW.Trod enc Try.prog w 0 (fun _ => true) true 24 v0 d pl) :
    ∃ (a : Nat) (b : Nat) (c : Nat) (y : Nat) (g : Nat), v0 = .agg #[.int .u64 (a : Int), .int .u64 (b : Int), .int .u64 (c : Int), .int .u64 (y : Int), .int .u64 (g : Int)] ∧ a < 18446744073709551616 ∧ b < 18446744073709551616 ∧ c < 18446744073709551616 ∧ y < 18446744073709551616 ∧ g < 18446744073709551616 ∧ True := by
  obtain ⟨cs, rfl, hsz⟩ := okWide_struct Try.underlying24 hv
  obtain ⟨fuel, hf⟩ := h
  obtain ⟨a, b, c, y, g, e1, hr⟩ := trod_tok hf
  obtain ⟨cs⟩ := cs
  simp only [Value.cells] at e1
  subst e1
  exact ⟨a, b, c, y, g, rfl, hr⟩
theorem open_toks {fuel : Nat} {cs : List Value} {x : DataW H × List MemPlace} (h : DataW.trod enc Try.prog w 0 (fun _ => true) true fuel 31 cs = some x) :
    ∃ (v : Value) (ts : List Tok), cs = [v] ∧ Toks w v ts ∧ ∀ t ∈ ts, fine t := by
  rcases Deep.open_slice Try.underlying31 h with ⟨rfl, _⟩ | ⟨a, len, cap, m, n, D, Pl, rfl, _, _, _, hm, _, hi⟩
  · exact ⟨_, [], rfl, Toks.nil_ w, by simp⟩
  · have hmle : len ≤ m := by simp only [if_true] at hm; omega
    obtain ⟨cl, hl, hcl⟩ := Ida.list_of (P := fun i t => fine t ∧ ∀ j u, (tokCells t)[j]? = some u → w.cell? (a.add (i * 5 + j)) = some u) len (fun i hil => by
      obtain ⟨cs', hc, ht⟩ := hi i (by omega)
      obtain ⟨p, q, r, s, g, e1, f0, f1, f2, f3, f4, -⟩ := trod_tok ht
      rw [cells_tok] at hc
      obtain ⟨_, _, hat⟩ := World.cells?_some hc
      refine ⟨⟨p, q, r, s, g⟩, ⟨f0, f1, f2, f3, f4⟩, fun j u hu => ?_⟩
      have hj : j < 5 := (List.getElem?_eq_some_iff.1 hu).1
      rw [← Go.Deep.add_add, hat j hj]
      rw [← hu]
      show _ = [_, _, _, _, _][j]?
      rw [← e1])
    refine ⟨_, cl, rfl, ⟨some a, cap, by rw [hl], .inr ⟨a, rfl, fun j u hu => ?_⟩⟩, fun c hc => ?_⟩
    · have hj : j < cl.length * 5 := by
        have := (List.getElem?_eq_some_iff.1 hu).1
        rwa [flat_len] at this
      have hd : j / 5 < cl.length := by omega
      have hg := List.getElem?_eq_getElem hd
      have hf := flat_at cl (j / 5) (j % 5) cl[j / 5] hg (by omega)
      have he : j / 5 * 5 + j % 5 = j := by omega
      rw [he, hu] at hf
      have := (hcl (j / 5) _ hg).2 (j % 5) u hf.symm
      rwa [he] at this
    · obtain ⟨i, hic⟩ := List.mem_iff_getElem?.1 hc
      exact (hcl i c hic).1
theorem cells_use : Try.prog.cellsOf 33 = 3 := by kernel_rfl
theorem trod_use {fuel : Nat} {cs : List Value} {x : DataW H × List MemPlace} (h : DataW.trod enc Try.prog w 0 (fun _ => true) true fuel 33 cs = some x) :
    ∃ (dv : Value) (l : List Nat) (k : Nat) (tv : Value) (ts : List Tok), cs = [dv, .int .u64 (k : Int), tv] ∧ Kit.Sl w dv (nums l) ∧ (∀ x ∈ l, x < 18446744073709551616) ∧ k < 18446744073709551616 ∧ Toks w tv ts ∧ (∀ t ∈ ts, fine t) ∧ ((∀ n ∈ DataW.weights Try.prog 33 x.1, n ≤ reachBytes) → l.length * 8 ≤ reachBytes) := by
  obtain ⟨ys, m, _, hx, hl, hyl, hgf⟩ := DataW.trod_struct Try.underlying33 h
  rw [cells_use] at hl
  match cs, hl with
  | [c0, c1, c2], _ =>
    match ys, hyl with
    | [y0, y1, y2], _ =>
      have t0 : DataW.trod enc Try.prog w 0 (fun _ => true) true m 30 (([c0, c1, c2].drop 0).take (Try.prog.cellsOf 30)) = some y0 := hgf 0 _ rfl
      rw [one_draws] at t0
      have t1 : DataW.trod enc Try.prog w 0 (fun _ => true) true m 22 (([c0, c1, c2].drop 1).take (Try.prog.cellsOf 22)) = some y1 := hgf 1 _ rfl
      rw [Ida.one_num] at t1
      have t2 : DataW.trod enc Try.prog w 0 (fun _ => true) true m 31 (([c0, c1, c2].drop 2).take (Try.prog.cellsOf 31)) = some y2 := hgf 2 _ rfl
      rw [one_toks] at t2
      obtain ⟨dv, l, r0, s0, x0, b0, -⟩ := Ida.open_draws2 t0
      obtain ⟨k, r1, -, w1⟩ := DataW.trod_int Try.underlying22 t1
      obtain ⟨k, rfl, hk⟩ := Ida.nat_of (bounds_u64 w1)
      obtain ⟨tv, ts, r2, s2, x2⟩ := open_toks t2
      simp at r0 r1 r2
      subst r0
      subst r1
      subst r2
      subst hx
      exact ⟨_, l, k, _, ts, rfl, s0, x0, hk, s2, x2, fun hw => b0 fun n hn => hw n (by simp only [DataW.weights, Try.underlying33, List.map_cons, List.map_nil, DataW.weightsEach, List.mem_append]; exact .inl hn)⟩
theorem open_use {v0 : Value} {d : DataW H} {pl : List MemPlace} {rc : Reach} {bs : Nat} (hv : Value.okWide Try.prog w rc bs 33 v0) (h : DataW.Trod enc Try.prog w 0 (fun _ => true) true 33 v0 d pl) :
    ∃ (dv : Value) (l : List Nat) (k : Nat) (tv : Value) (ts : List Tok), v0 = .agg #[dv, .int .u64 (k : Int), tv] ∧ Kit.Sl w dv (nums l) ∧ (∀ x ∈ l, x < 18446744073709551616) ∧ k < 18446744073709551616 ∧ Toks w tv ts ∧ (∀ t ∈ ts, fine t) ∧ ((∀ n ∈ DataW.weights Try.prog 33 d, n ≤ reachBytes) → l.length * 8 ≤ reachBytes) := by
  obtain ⟨cs, rfl, hsz⟩ := okWide_struct Try.underlying33 hv
  obtain ⟨fuel, hf⟩ := h
  obtain ⟨dv, l, k, tv, ts, e1, hr⟩ := trod_use hf
  obtain ⟨cs⟩ := cs
  simp only [Value.cells] at e1
  subst e1
  exact ⟨dv, l, k, tv, ts, rfl, hr⟩
theorem cells_ask : Try.prog.cellsOf 35 = 8 := by kernel_rfl
theorem trod_ask {fuel : Nat} {cs : List Value} {x : DataW H × List MemPlace} (h : DataW.trod enc Try.prog w 0 (fun _ => true) true fuel 35 cs = some x) :
    ∃ (a : Nat) (b : Nat) (c : Nat) (y : Nat) (g : Nat) (v : Nat) (e : Nat) (z : Nat), cs = [.int .u64 (a : Int), .int .u64 (b : Int), .int .u64 (c : Int), .int .u64 (y : Int), .int .u64 (g : Int), .int .u64 (v : Int), .int .u64 (e : Int), .int .u64 (z : Int)] ∧ a < 18446744073709551616 ∧ b < 18446744073709551616 ∧ c < 18446744073709551616 ∧ y < 18446744073709551616 ∧ g < 18446744073709551616 ∧ v < 18446744073709551616 ∧ e < 18446744073709551616 ∧ z < 18446744073709551616 ∧ True := by
  obtain ⟨ys, m, _, hx, hl, hyl, hgf⟩ := DataW.trod_struct Try.underlying35 h
  rw [cells_ask] at hl
  match cs, hl with
  | [c0, c1, c2, c3, c4, c5, c6, c7], _ =>
    match ys, hyl with
    | [y0, y1, y2, y3], _ =>
      have t0 : DataW.trod enc Try.prog w 0 (fun _ => true) true m 24 (([c0, c1, c2, c3, c4, c5, c6, c7].drop 0).take (Try.prog.cellsOf 24)) = some y0 := hgf 0 _ rfl
      rw [cells_tok] at t0
      have t1 : DataW.trod enc Try.prog w 0 (fun _ => true) true m 22 (([c0, c1, c2, c3, c4, c5, c6, c7].drop 5).take (Try.prog.cellsOf 22)) = some y1 := hgf 1 _ rfl
      rw [Ida.one_num] at t1
      have t2 : DataW.trod enc Try.prog w 0 (fun _ => true) true m 22 (([c0, c1, c2, c3, c4, c5, c6, c7].drop 6).take (Try.prog.cellsOf 22)) = some y2 := hgf 2 _ rfl
      rw [Ida.one_num] at t2
      have t3 : DataW.trod enc Try.prog w 0 (fun _ => true) true m 22 (([c0, c1, c2, c3, c4, c5, c6, c7].drop 7).take (Try.prog.cellsOf 22)) = some y3 := hgf 3 _ rfl
      rw [Ida.one_num] at t3
      obtain ⟨a, b, c, y, g, r0, qtok0, qtok1, qtok2, qtok3, qtok4, b0⟩ := trod_tok t0
      obtain ⟨v, r1, -, w1⟩ := DataW.trod_int Try.underlying22 t1
      obtain ⟨v, rfl, hv⟩ := Ida.nat_of (bounds_u64 w1)
      obtain ⟨e, r2, -, w2⟩ := DataW.trod_int Try.underlying22 t2
      obtain ⟨e, rfl, he⟩ := Ida.nat_of (bounds_u64 w2)
      obtain ⟨z, r3, -, w3⟩ := DataW.trod_int Try.underlying22 t3
      obtain ⟨z, rfl, hz⟩ := Ida.nat_of (bounds_u64 w3)
      simp at r0 r1 r2 r3
      obtain ⟨rfl, rfl, rfl, rfl, rfl⟩ := r0
      subst r1
      subst r2
      subst r3
      subst hx
      exact ⟨a, b, c, y, g, v, e, z, rfl, qtok0, qtok1, qtok2, qtok3, qtok4, hv, he, hz, trivial⟩
theorem open_ask {v0 : Value} {d : DataW H} {pl : List MemPlace} {rc : Reach} {bs : Nat} (hv : Value.okWide Try.prog w rc bs 35 v0) (h : DataW.Trod enc Try.prog w 0 (fun _ => true) true 35 v0 d pl) :
    ∃ (a : Nat) (b : Nat) (c : Nat) (y : Nat) (g : Nat) (v : Nat) (e : Nat) (z : Nat), v0 = .agg #[.int .u64 (a : Int), .int .u64 (b : Int), .int .u64 (c : Int), .int .u64 (y : Int), .int .u64 (g : Int), .int .u64 (v : Int), .int .u64 (e : Int), .int .u64 (z : Int)] ∧ a < 18446744073709551616 ∧ b < 18446744073709551616 ∧ c < 18446744073709551616 ∧ y < 18446744073709551616 ∧ g < 18446744073709551616 ∧ v < 18446744073709551616 ∧ e < 18446744073709551616 ∧ z < 18446744073709551616 ∧ True := by
  obtain ⟨cs, rfl, hsz⟩ := okWide_struct Try.underlying35 hv
  obtain ⟨fuel, hf⟩ := h
  obtain ⟨a, b, c, y, g, v, e, z, e1, hr⟩ := trod_ask hf
  obtain ⟨cs⟩ := cs
  simp only [Value.cells] at e1
  subst e1
  exact ⟨a, b, c, y, g, v, e, z, rfl, hr⟩
theorem cells_less : Try.prog.cellsOf 48 = 13 := by kernel_rfl
theorem trod_less {fuel : Nat} {cs : List Value} {x : DataW H × List MemPlace} (h : DataW.trod enc Try.prog w 0 (fun _ => true) true fuel 48 cs = some x) :
    ∃ (dv : Value) (l : List Nat) (k : Nat) (tv : Value) (ts : List Tok) (a : Nat) (b : Nat) (c : Nat) (y : Nat) (g : Nat) (v : Nat) (e : Nat) (z : Nat) (x1 : Nat) (x2 : Nat), cs = [dv, .int .u64 (k : Int), tv, .int .u64 (a : Int), .int .u64 (b : Int), .int .u64 (c : Int), .int .u64 (y : Int), .int .u64 (g : Int), .int .u64 (v : Int), .int .u64 (e : Int), .int .u64 (z : Int), .int .u64 (x1 : Int), .int .u64 (x2 : Int)] ∧ Kit.Sl w dv (nums l) ∧ (∀ x ∈ l, x < 18446744073709551616) ∧ k < 18446744073709551616 ∧ Toks w tv ts ∧ (∀ t ∈ ts, fine t) ∧ a < 18446744073709551616 ∧ b < 18446744073709551616 ∧ c < 18446744073709551616 ∧ y < 18446744073709551616 ∧ g < 18446744073709551616 ∧ v < 18446744073709551616 ∧ e < 18446744073709551616 ∧ z < 18446744073709551616 ∧ x1 < 18446744073709551616 ∧ x2 < 18446744073709551616 ∧ ((∀ n ∈ DataW.weights Try.prog 48 x.1, n ≤ reachBytes) → l.length * 8 ≤ reachBytes) := by
  obtain ⟨ys, m, _, hx, hl, hyl, hgf⟩ := DataW.trod_struct Try.underlying48 h
  rw [cells_less] at hl
  match cs, hl with
  | [c0, c1, c2, c3, c4, c5, c6, c7, c8, c9, c10, c11, c12], _ =>
    match ys, hyl with
    | [y0, y1, y2, y3], _ =>
      have t0 : DataW.trod enc Try.prog w 0 (fun _ => true) true m 33 (([c0, c1, c2, c3, c4, c5, c6, c7, c8, c9, c10, c11, c12].drop 0).take (Try.prog.cellsOf 33)) = some y0 := hgf 0 _ rfl
      rw [cells_use] at t0
      have t1 : DataW.trod enc Try.prog w 0 (fun _ => true) true m 35 (([c0, c1, c2, c3, c4, c5, c6, c7, c8, c9, c10, c11, c12].drop 3).take (Try.prog.cellsOf 35)) = some y1 := hgf 1 _ rfl
      rw [cells_ask] at t1
      have t2 : DataW.trod enc Try.prog w 0 (fun _ => true) true m 22 (([c0, c1, c2, c3, c4, c5, c6, c7, c8, c9, c10, c11, c12].drop 11).take (Try.prog.cellsOf 22)) = some y2 := hgf 2 _ rfl
      rw [Ida.one_num] at t2
      have t3 : DataW.trod enc Try.prog w 0 (fun _ => true) true m 22 (([c0, c1, c2, c3, c4, c5, c6, c7, c8, c9, c10, c11, c12].drop 12).take (Try.prog.cellsOf 22)) = some y3 := hgf 3 _ rfl
      rw [Ida.one_num] at t3
      obtain ⟨dv, l, k, tv, ts, r0, quse0, quse1, quse2, quse3, quse4, b0⟩ := trod_use t0
      obtain ⟨a, b, c, y, g, v, e, z, r1, qask0, qask1, qask2, qask3, qask4, qask5, qask6, qask7, b1⟩ := trod_ask t1
      obtain ⟨x1, r2, -, w2⟩ := DataW.trod_int Try.underlying22 t2
      obtain ⟨x1, rfl, hx1⟩ := Ida.nat_of (bounds_u64 w2)
      obtain ⟨x2, r3, -, w3⟩ := DataW.trod_int Try.underlying22 t3
      obtain ⟨x2, rfl, hx2⟩ := Ida.nat_of (bounds_u64 w3)
      simp at r0 r1 r2 r3
      obtain ⟨rfl, rfl, rfl⟩ := r0
      obtain ⟨rfl, rfl, rfl, rfl, rfl, rfl, rfl, rfl⟩ := r1
      subst r2
      subst r3
      subst hx
      exact ⟨_, l, k, _, ts, a, b, c, y, g, v, e, z, x1, x2, rfl, quse0, quse1, quse2, quse3, quse4, qask0, qask1, qask2, qask3, qask4, qask5, qask6, qask7, hx1, hx2, fun hw => b0 fun n hn => hw n (by simp only [DataW.weights, Try.underlying48, List.map_cons, List.map_nil, DataW.weightsEach, List.mem_append]; exact .inl hn)⟩
theorem open_less {v0 : Value} {d : DataW H} {pl : List MemPlace} {rc : Reach} {bs : Nat} (hv : Value.okWide Try.prog w rc bs 48 v0) (h : DataW.Trod enc Try.prog w 0 (fun _ => true) true 48 v0 d pl) :
    ∃ (dv : Value) (l : List Nat) (k : Nat) (tv : Value) (ts : List Tok) (a : Nat) (b : Nat) (c : Nat) (y : Nat) (g : Nat) (v : Nat) (e : Nat) (z : Nat) (x1 : Nat) (x2 : Nat), v0 = .agg #[dv, .int .u64 (k : Int), tv, .int .u64 (a : Int), .int .u64 (b : Int), .int .u64 (c : Int), .int .u64 (y : Int), .int .u64 (g : Int), .int .u64 (v : Int), .int .u64 (e : Int), .int .u64 (z : Int), .int .u64 (x1 : Int), .int .u64 (x2 : Int)] ∧ Kit.Sl w dv (nums l) ∧ (∀ x ∈ l, x < 18446744073709551616) ∧ k < 18446744073709551616 ∧ Toks w tv ts ∧ (∀ t ∈ ts, fine t) ∧ a < 18446744073709551616 ∧ b < 18446744073709551616 ∧ c < 18446744073709551616 ∧ y < 18446744073709551616 ∧ g < 18446744073709551616 ∧ v < 18446744073709551616 ∧ e < 18446744073709551616 ∧ z < 18446744073709551616 ∧ x1 < 18446744073709551616 ∧ x2 < 18446744073709551616 ∧ ((∀ n ∈ DataW.weights Try.prog 48 d, n ≤ reachBytes) → l.length * 8 ≤ reachBytes) := by
  obtain ⟨cs, rfl, hsz⟩ := okWide_struct Try.underlying48 hv
  obtain ⟨fuel, hf⟩ := h
  obtain ⟨dv, l, k, tv, ts, a, b, c, y, g, v, e, z, x1, x2, e1, hr⟩ := trod_less hf
  obtain ⟨cs⟩ := cs
  simp only [Value.cells] at e1
  subst e1
  exact ⟨dv, l, k, tv, ts, a, b, c, y, g, v, e, z, x1, x2, rfl, hr⟩
end
end Cap
end Go.Proofs.Ytbhdcocgghaifaa
