/-
  The laws' arguments, opened: a table.
-/
import Derived.Test.YtdiocnehejeldaaQuoK
import Derived.Test.YtdiocnehejeldaaOpn
import Derived.OpenShut
namespace Go.Proofs.Ytdiocnehejeldaa
open Go.RowKit Go.ChangeShapes Go.WideShapes Go.ChangeAt

namespace Quo
section
variable {H : Type} {enc : TypeId × Value → H} {w : World}
theorem one_num : Try.prog.cellsOf 23 = 1 := by kernel_rfl
theorem cells_row : Try.prog.cellsOf 39 = 3 := by kernel_rfl
theorem bytes_row : Try.prog.bytesOf 39 = 24 := by kernel_rfl
set_option maxRecDepth 100000 in
theorem trod_row {fuel : Nat} {cs : List Value} {x : DataW H × List MemPlace} (h : DataW.trod enc Try.prog w 0 (fun _ => true) true fuel 39 cs = some x) :
    ∃ r : Row, cs = rowC r ∧ fine r := by
  obtain ⟨ys, m, _, _, hl, hyl, hgf⟩ := DataW.trod_struct Try.underlying39 h
  rw [cells_row] at hl
  match cs, hl with
  | [c0, c1, c2], _ =>
    match ys, hyl with
    | [y0, y1, y2], _ =>
      have t0 : DataW.trod enc Try.prog w 0 (fun _ => true) true m 23 (([c0, c1, c2].drop 0).take (Try.prog.cellsOf 23)) = some y0 := hgf 0 _ rfl
      rw [one_num] at t0
      have t1 : DataW.trod enc Try.prog w 0 (fun _ => true) true m 23 (([c0, c1, c2].drop 1).take (Try.prog.cellsOf 23)) = some y1 := hgf 1 _ rfl
      rw [one_num] at t1
      have t2 : DataW.trod enc Try.prog w 0 (fun _ => true) true m 23 (([c0, c1, c2].drop 2).take (Try.prog.cellsOf 23)) = some y2 := hgf 2 _ rfl
      rw [one_num] at t2
      obtain ⟨a, r0, -, w0⟩ := DataW.trod_int Try.underlying23 t0
      obtain ⟨a, rfl, ha⟩ := Ida.nat_of (bounds_u64 w0)
      obtain ⟨b, r1, -, w1⟩ := DataW.trod_int Try.underlying23 t1
      obtain ⟨b, rfl, hb⟩ := Ida.nat_of (bounds_u64 w1)
      obtain ⟨c, r2, -, w2⟩ := DataW.trod_int Try.underlying23 t2
      obtain ⟨c, rfl, hc⟩ := Ida.nat_of (bounds_u64 w2)
      simp at r0 r1 r2
      subst r0
      subst r1
      subst r2
      exact ⟨⟨a, c, b⟩, rfl, ha, hc, hb⟩
set_option maxRecDepth 100000 in
theorem open_table {fuel : Nat} {cs : List Value} {x : DataW H × List MemPlace} (h : DataW.trod enc Try.prog w 0 (fun _ => true) true fuel 22 cs = some x) :
    ∃ (v : Value) (l : List Row), cs = [v] ∧ Tb w v l ∧ wide l ∧ ((∀ n ∈ DataW.weights Try.prog 22 x.1, n ≤ reachBytes) → l.length * 24 ≤ reachBytes) ∧ l.length ≤ Rows.uptoBulk x.1 := by
  rcases Deep.open_slice Try.underlying22 h with ⟨rfl, rfl⟩ | ⟨a, len, cap, m, n, D, Pl, rfl, _, _, _, hm, rfl, hi⟩
  · exact ⟨_, [], rfl, Tb.nil_ w, fun r hr => by simp at hr, fun _ => by simp, Nat.zero_le _⟩
  · have hmle : len ≤ m := by simp only [if_true] at hm; omega
    obtain ⟨cl, hl, hcl⟩ := Ida.list_of (P := fun i (r : Row) => fine r ∧ ∀ j u, (rowC r)[j]? = some u → w.cell? (a.add (i * 3 + j)) = some u) len (fun i hil => by
      obtain ⟨cs', hc, ht⟩ := hi i (by omega)
      obtain ⟨r, e1, hr⟩ := trod_row ht
      rw [cells_row] at hc
      obtain ⟨_, _, hat⟩ := World.cells?_some hc
      refine ⟨r, hr, fun j u hu => ?_⟩
      have hj : j < 3 := (List.getElem?_eq_some_iff.1 hu).1
      rw [← Go.Deep.add_add, hat j hj, ← hu, ← e1])
    refine ⟨_, cl, rfl, .inr ⟨a, cap, by rw [hl], fun j u hu => ?_⟩, fun r hr => ?_, fun hw => ?_, ?_⟩
    · have hj : j < cl.length * 3 := by
        have := (List.getElem?_eq_some_iff.1 hu).1
        rwa [flat_len] at this
      have hd : j / 3 < cl.length := by omega
      have hg := List.getElem?_eq_getElem hd
      have hf := flat_at (j := j % 3) hg (by omega)
      have he : j / 3 * 3 + j % 3 = j := by omega
      rw [he, hu] at hf
      have := (hcl (j / 3) _ hg).2 (j % 3) u hf.symm
      rwa [he] at this
    · obtain ⟨i, hic⟩ := List.mem_iff_getElem?.1 hr
      exact (hcl i r hic).1
    · have h1 := hw ((((List.range len).map D).length + ((List.range (m - len)).map fun j => D (len + j)).length) * 24) (by simp [DataW.weights, Try.underlying22, bytes_row])
      rw [hl]
      simp only [List.length_map, List.length_range] at h1
      have : len * 24 ≤ (len + (m - len)) * 24 := Nat.mul_le_mul_right 24 (Nat.le_add_right _ _)
      omega
    · have := bulk_length ((List.range len).map D)
      simp only [List.length_map, List.length_range] at this
      simp only [Rows.uptoBulk]
      omega
set_option maxRecDepth 100000 in
theorem arg_table {v0 : Value} {d : DataW H} {pl : List MemPlace} {rc : Reach} {bs : Nat} (hv : Value.okWide Try.prog w rc bs 22 v0) (h : DataW.Trod enc Try.prog w 0 (fun _ => true) true 22 v0 d pl) :
    ∃ l : List Row, Tb w v0 l ∧ wide l ∧ ((∀ n ∈ DataW.weights Try.prog 22 d, n ≤ reachBytes) → l.length * 24 ≤ reachBytes) ∧ l.length ≤ Rows.uptoBulk d := by
  obtain ⟨fuel, hf⟩ := h
  obtain ⟨a, len, cap, rfl⟩ := okWide_slice Try.underlying22 hv
  obtain ⟨v, l, hu, hr⟩ := open_table hf
  simp only [Value.cells] at hu
  have ek : Value.slice a len cap = v := by simpa using hu
  subst ek
  exact ⟨l, hr⟩
theorem cells_two : Try.prog.cellsOf 36 = 2 := by kernel_rfl
set_option maxRecDepth 100000 in
theorem arg_two {v0 : Value} {d : DataW H} {pl : List MemPlace} {rc : Reach} {bs : Nat} (hv : Value.okWide Try.prog w rc bs 36 v0) (h : DataW.Trod enc Try.prog w 0 (fun _ => true) true 36 v0 d pl) :
    ∃ n m : Nat, v0 = .agg #[.int .u64 (n : Int), .int .u64 (m : Int)] ∧ n < 18446744073709551616 ∧ m < 18446744073709551616 := by
  simp only [Value.okWide, Try.underlying36] at hv
  obtain ⟨cs, rfl, hsz, _⟩ := hv
  rw [cells_two] at hsz
  obtain ⟨cs⟩ := cs
  match cs, hsz with
  | [c0, c1], _ =>
    obtain ⟨fuel, hf⟩ := h
    obtain ⟨ys, m, _, _, _, hyl, hg⟩ := DataW.trod_array Try.underlying36 hf
    match ys, hyl with
    | [y0, y1], _ =>
      have t0 := hg 0 (by omega)
      have t1 := hg 1 (by omega)
      rw [one_num] at t0 t1
      obtain ⟨a, r0, -, w0⟩ := DataW.trod_int Try.underlying23 t0
      obtain ⟨b, r1, -, w1⟩ := DataW.trod_int Try.underlying23 t1
      obtain ⟨a, rfl, ha⟩ := Ida.nat_of (bounds_u64 w0)
      obtain ⟨b, rfl, hb⟩ := Ida.nat_of (bounds_u64 w1)
      simp [Value.cells] at r0 r1
      subst r0 r1
      exact ⟨a, b, rfl, ha, hb⟩
end
end Quo
end Go.Proofs.Ytdiocnehejeldaa
