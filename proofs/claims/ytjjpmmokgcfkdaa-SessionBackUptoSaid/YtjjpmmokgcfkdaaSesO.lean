/-
  The laws' arguments, opened: a table, a row.
-/
import Derived.Test.YtjjpmmokgcfkdaaSesK
import Derived.Test.YtjjpmmokgcfkdaaOpn
import Derived.OpenShut
namespace Go.Proofs.Ytjjpmmokgcfkdaa
open Go.RowKit Go.ChangeShapes Go.WideShapes Go.ChangeAt

namespace Ses
/-- The rows' letters, and one each. -/
def tweight : List Row → Nat
  | [] => 0
  | r :: l => r.ans.size + 1 + tweight l
theorem tweight_len : ∀ l : List Row, l.length ≤ tweight l
  | [] => Nat.le_refl _
  | r :: l => by
    have := tweight_len l
    rw [List.length_cons, tweight]
    omega
section
variable {H : Type} {enc : TypeId × Value → H} {w : World}
theorem one_num : Try.prog.cellsOf 23 = 1 := by kernel_rfl
theorem one_str : Try.prog.cellsOf 9 = 1 := by kernel_rfl
theorem cells_row : Try.prog.cellsOf 25 = 3 := by kernel_rfl
theorem bytes_row : Try.prog.bytesOf 25 = 32 := by kernel_rfl
theorem bulk_rows : ∀ (l : List Row) (L : List (DataW H)), l.length = L.length → (∀ (i : Nat) (r : Row) (d : DataW H), l[i]? = some r → L[i]? = some d → r.ans.size + 1 ≤ Rows.uptoBulk d) → tweight l ≤ Rows.uptoBulkAll L
  | [], _, _, _ => Nat.zero_le _
  | r :: l, [], h, _ => by simp at h
  | r :: l, d :: L, h, hi => by
    have h0 := hi 0 r d rfl rfl
    have ih := bulk_rows l L (by simpa using h) fun i x y hx hy => hi (i + 1) x y (by simpa using hx) (by simpa using hy)
    simp only [tweight, Rows.uptoBulkAll]
    omega
theorem weigh_rows {e : TypeId} : ∀ (L : List (DataW H)) (i : Nat) (d : DataW H) (n : Nat), L[i]? = some d → n ∈ DataW.weights Try.prog e d → n ∈ DataW.weightsAll Try.prog e L
  | [], i, d, n, h, _ => by simp at h
  | x :: L, 0, d, n, h, hn => by
    simp only [List.getElem?_cons_zero, Option.some.injEq] at h
    subst h
    simp only [DataW.weightsAll, List.mem_append]
    exact .inl hn
  | x :: L, i + 1, d, n, h, hn => by
    simp only [DataW.weightsAll, List.mem_append]
    exact .inr (weigh_rows L i d n (by simpa using h) hn)
set_option maxRecDepth 100000 in
theorem trod_row {fuel : Nat} {cs : List Value} {x : DataW H × List MemPlace} (h : DataW.trod enc Try.prog w 0 (fun _ => true) true fuel 25 cs = some x) :
    ∃ r : Row, cs = rowC r ∧ (r.id < 18446744073709551616 ∧ r.num < 18446744073709551616) ∧ ((∀ n ∈ DataW.weights Try.prog 25 x.1, n ≤ reachBytes) → r.ans.size ≤ reachBytes) ∧ r.ans.size + 1 ≤ Rows.uptoBulk x.1 := by
  obtain ⟨ys, m, _, hx, hl, hyl, hgf⟩ := DataW.trod_struct Try.underlying25 h
  rw [cells_row] at hl
  match cs, hl with
  | [c0, c1, c2], _ =>
    match ys, hyl with
    | [y0, y1, y2], _ =>
      have t0 : DataW.trod enc Try.prog w 0 (fun _ => true) true m 23 (([c0, c1, c2].drop 0).take (Try.prog.cellsOf 23)) = some y0 := hgf 0 _ rfl
      rw [one_num] at t0
      have t1 : DataW.trod enc Try.prog w 0 (fun _ => true) true m 23 (([c0, c1, c2].drop 1).take (Try.prog.cellsOf 23)) = some y1 := hgf 1 _ rfl
      rw [one_num] at t1
      have t2 : DataW.trod enc Try.prog w 0 (fun _ => true) true m 9 (([c0, c1, c2].drop 2).take (Try.prog.cellsOf 9)) = some y2 := hgf 2 _ rfl
      rw [one_str] at t2
      obtain ⟨a, r0, -, w0⟩ := DataW.trod_int Try.underlying23 t0
      obtain ⟨a, rfl, ha⟩ := Ida.nat_of (bounds_u64 w0)
      obtain ⟨b, r1, -, w1⟩ := DataW.trod_int Try.underlying23 t1
      obtain ⟨b, rfl, hb⟩ := Ida.nat_of (bounds_u64 w1)
      obtain ⟨s, r2, q2, w2⟩ := DataW.trod_string Try.underlying9 t2
      simp at r0 r1 r2
      subst r0
      subst r1
      subst r2
      subst q2
      subst hx
      have hs := Kit.size_list s
      refine ⟨⟨a, b, s⟩, rfl, ⟨ha, hb⟩, fun hw => ?_, ?_⟩
      · have := hw s.data.toList.length (by simp [DataW.weights, Try.underlying25, DataW.weightsEach])
        rwa [hs] at this
      · simp only [List.map_cons, List.map_nil, Rows.uptoBulk, Rows.uptoBulkAll]
        omega
set_option maxRecDepth 100000 in
theorem arg_row {v0 : Value} {d : DataW H} {pl : List MemPlace} {rc : Reach} {bs : Nat} (hv : Value.okWide Try.prog w rc bs 25 v0) (h : DataW.Trod enc Try.prog w 0 (fun _ => true) true 25 v0 d pl) :
    ∃ r : Row, v0 = .agg #[.int .u64 (r.id : Int), .int .u64 (r.num : Int), .string r.ans] ∧ (r.id < 18446744073709551616 ∧ r.num < 18446744073709551616) ∧ ((∀ n ∈ DataW.weights Try.prog 25 d, n ≤ reachBytes) → r.ans.size ≤ reachBytes) ∧ r.ans.size + 1 ≤ Rows.uptoBulk d := by
  obtain ⟨cs, rfl, hsz⟩ := okWide_struct Try.underlying25 hv
  obtain ⟨fuel, hf⟩ := h
  obtain ⟨r, e1, hr⟩ := trod_row hf
  obtain ⟨cs⟩ := cs
  simp only [Value.cells] at e1
  subst e1
  exact ⟨r, rfl, hr⟩
set_option maxRecDepth 100000 in
theorem open_table {fuel : Nat} {cs : List Value} {x : DataW H × List MemPlace} (h : DataW.trod enc Try.prog w 0 (fun _ => true) true fuel 22 cs = some x) :
    ∃ (v : Value) (l : List Row), cs = [v] ∧ Tb w v l ∧ wide l ∧ ((∀ n ∈ DataW.weights Try.prog 22 x.1, n ≤ reachBytes) → l.length * 32 ≤ reachBytes ∧ ∀ r ∈ l, r.ans.size ≤ reachBytes) ∧ tweight l ≤ Rows.uptoBulk x.1 := by
  rcases Deep.open_slice Try.underlying22 h with ⟨rfl, rfl⟩ | ⟨a, len, cap, m, n, D, Pl, rfl, _, _, _, hm, rfl, hi⟩
  · exact ⟨_, [], rfl, Tb.nil_ w, fun r hr => by simp at hr, fun _ => ⟨by simp, fun r hr => by simp at hr⟩, Nat.zero_le _⟩
  · have hmle : len ≤ m := by simp only [if_true] at hm; omega
    obtain ⟨cl, hl, hcl⟩ := Ida.list_of (P := fun i (r : Row) => ((r.id < 18446744073709551616 ∧ r.num < 18446744073709551616) ∧ ((∀ n ∈ DataW.weights Try.prog 25 (D i), n ≤ reachBytes) → r.ans.size ≤ reachBytes) ∧ r.ans.size + 1 ≤ Rows.uptoBulk (D i)) ∧ ∀ j u, (rowC r)[j]? = some u → w.cell? (a.add (i * 3 + j)) = some u) len (fun i hil => by
      obtain ⟨cs', hc, ht⟩ := hi i (by omega)
      obtain ⟨r, e1, hr⟩ := trod_row ht
      rw [cells_row] at hc
      obtain ⟨_, _, hat⟩ := World.cells?_some hc
      refine ⟨r, hr, fun j u hu => ?_⟩
      have hj : j < 3 := (List.getElem?_eq_some_iff.1 hu).1
      rw [← Go.Deep.add_add, hat j hj, ← hu, ← e1])
    have hD : ∀ i, i < len → ((List.range len).map D)[i]? = some (D i) := fun i hi => by simp [hi]
    refine ⟨_, cl, rfl, .inr ⟨a, cap, by rw [hl], fun j u hu => ?_⟩, fun r hr => ?_, fun hw => ⟨?_, fun r hr => ?_⟩, ?_⟩
    · have hj : j < cl.length * 3 := by
        have := (List.getElem?_eq_some_iff.1 hu).1
        rwa [flat_len] at this
      have hd : j / 3 < cl.length := by omega
      have hg := List.getElem?_eq_getElem hd
      have hf := flat_at (j := j % 3) hg (by omega)
      have he : j / 3 * 3 + j % 3 = j := by omega
      rw [he, hu] at hf
      have := (hcl (j / 3) _ hg).2 (j % 3) u hf.symm
      rwa [he] at this
    · obtain ⟨i, hic⟩ := List.mem_iff_getElem?.1 hr
      exact (hcl i r hic).1.1
    · have h1 := hw ((((List.range len).map D).length + ((List.range (m - len)).map fun j => D (len + j)).length) * 32) (by simp [DataW.weights, Try.underlying22, bytes_row])
      rw [hl]
      simp only [List.length_map, List.length_range] at h1
      have : len * 32 ≤ (len + (m - len)) * 32 := Nat.mul_le_mul_right 32 (Nat.le_add_right _ _)
      omega
    · obtain ⟨i, hic⟩ := List.mem_iff_getElem?.1 hr
      have hil : i < len := by rw [← hl]; exact (List.getElem?_eq_some_iff.1 hic).1
      refine (hcl i r hic).1.2.1 fun n hn => hw n ?_
      simp only [DataW.weights, Try.underlying22, List.mem_cons, List.mem_append]
      exact .inr (.inl (weigh_rows _ i _ n (hD i hil) hn))
    · have := bulk_rows cl ((List.range len).map D) (by rw [hl]; simp) fun i r d hr hd => by
        have hil : i < len := by rw [← hl]; exact (List.getElem?_eq_some_iff.1 hr).1
        rw [hD i hil] at hd
        injection hd with hd
        subst hd
        exact (hcl i r hr).1.2.2
      simp only [Rows.uptoBulk]
      omega
set_option maxRecDepth 100000 in
theorem arg_table {v0 : Value} {d : DataW H} {pl : List MemPlace} {rc : Reach} {bs : Nat} (hv : Value.okWide Try.prog w rc bs 22 v0) (h : DataW.Trod enc Try.prog w 0 (fun _ => true) true 22 v0 d pl) :
    ∃ l : List Row, Tb w v0 l ∧ wide l ∧ ((∀ n ∈ DataW.weights Try.prog 22 d, n ≤ reachBytes) → l.length * 32 ≤ reachBytes ∧ ∀ r ∈ l, r.ans.size ≤ reachBytes) ∧ tweight l ≤ Rows.uptoBulk d := by
  obtain ⟨fuel, hf⟩ := h
  obtain ⟨a, len, cap, rfl⟩ := okWide_slice Try.underlying22 hv
  obtain ⟨v, l, hu, hr⟩ := open_table hf
  simp only [Value.cells] at hu
  have ek : Value.slice a len cap = v := by simpa using hu
  subst ek
  exact ⟨l, hr⟩
end
end Ses
end Go.Proofs.Ytjjpmmokgcfkdaa
