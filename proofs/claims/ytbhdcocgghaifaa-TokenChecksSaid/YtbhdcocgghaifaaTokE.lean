/-
  The laws' issued: an oracle that issues tokens, a hundred at most.
-/
import Derived.Test.YtbhdcocgghaifaaTokD
import Derived.Deep.AppendLies
namespace Go.Proofs.Ytbhdcocgghaifaa
open Go.RowKit
open Ideal Ida
open Go.Lib (uvarint uvarint_small)

namespace Cap
theorem infoTok : ∃ i z, Try.prog.info? 24 = some i ∧ i.zero = some z ∧ i.size = 5 ∧ i.bytes = 40 ∧ z.cells.size = 5 := by
  have h : (Try.prog.info? 24).map (fun i => (i.size, i.bytes, i.zero.map (·.cells.size))) = some (5, 40, some 5) := by kernel_rfl
  cases hi : Try.prog.info? 24 with
  | none => rw [hi] at h; cases h
  | some i =>
    rw [hi] at h
    simp only [Option.map_some, Option.some.injEq, Prod.mk.injEq] at h
    obtain ⟨h1, h2, h3⟩ := h
    cases hz : i.zero with
    | none => rw [hz] at h3; cases h3
    | some z =>
      rw [hz] at h3
      exact ⟨i, z, rfl, hz, h1, h2, by simpa using h3⟩
theorem own_kept {w w' : World} {B : Nat} {e : TypeId} {z : Nat} {v : Value} {n : Nat} {xs : List Value} (h : w.ownsRow B e z v n xs) (hb : ∀ k, v.ownBlock = some k → k < w.heap.size → w'.heap[k]? = w.heap[k]?) : w'.ownsRow B e z v n xs := by
  refine ⟨h.1, ?_⟩
  rcases h.2 with hn | ⟨g, cap, cur, rfl, hB, hg, rest⟩
  · exact .inl hn
  · exact .inr ⟨g, cap, cur, rfl, hB, (hb g rfl (Array.getElem?_eq_some_iff.1 hg).1).trans hg, rest⟩
theorem own_below {w w' : World} {B : Nat} {e : TypeId} {z : Nat} {v : Value} {n : Nat} {xs : List Value} (h : w.ownsRow B e z v n xs) (hb : Below w.heap.size w w') : w'.ownsRow B e z v n xs := own_kept h fun k _ hk => hb.block k hk
theorem own_but {S : Nat → Prop} {w w' : World} {B : Nat} {e : TypeId} {z : Nat} {v : Value} {n : Nat} {xs : List Value} (h : w.ownsRow B e z v n xs) (hb : Kit.But S w w') (hv : ∀ k, S k → k < B) : w'.ownsRow B e z v n xs := by
  have hl := h.lt
  exact own_kept h fun k hk hk' => hb.block k hk' fun hS => by have := hv k hS; have := (hl k hk).1; omega
theorem own_form {w : World} {B : Nat} {e : TypeId} {z : Nat} {v : Value} {n : Nat} {xs : List Value} (h : w.ownsRow B e z v n xs) : ∃ a cap, v = .slice a n cap := by
  rcases h.2 with ⟨rfl, rfl⟩ | ⟨g, cap, cur, rfl, _⟩
  · exact ⟨_, _, rfl⟩
  · exact ⟨_, _, rfl⟩
theorem take_snoc {ts : List Tok} {i : Nat} (h : i < ts.length) : ts.take (i + 1) = ts.take i ++ [ts[i]] := List.take_succ_eq_append_getElem h

set_option maxRecDepth 100000 in
set_option maxHeartbeats 8000000 in
theorem issued_any (l : List Nat) (hl : l.length * 8 ≤ 140737488355328) (hx : ∀ x ∈ l, x < 18446744073709551616) (k : Nat) (hk : k < 18446744073709551616) (ts : List Tok) (ht : ∀ t ∈ ts, fine t) (dv tv : Value) (w : World) (rd : Kit.Sl w dv (nums l)) (rt : Toks w tv ts) :
    Calls Try.prog 15 #[.agg #[dv, .int .u64 (k : Int), tv]] w fun x w' => ∃ M v, x = .returned (.tuple #[ptr M, v]) ∧ Orc w' M ((Or.new l).issOs k (ts.take 100)) ∧ M.within w.heap.size w'.heap.size ∧ Toks w' v ((Or.new l).issTs k (ts.take 100)) ∧ (∀ g, v.ownBlock = some g → ¬ M.own g ∧ w.heap.size ≤ g ∧ g < w'.heap.size) ∧ Below w.heap.size w w' := by
  obtain ⟨ta, tc, rfl⟩ := rt.form
  have c0 := below_lit w (.cells #[dv, .int .u64 (k : Int), .slice ta ts.length tc] 33)
  have X0 := Box.new w #[dv, .int .u64 (k : Int), .slice ta ts.length tc] 33
  have HN := new_any l hl hx dv _ (rd.below c0)
  rw [World.size_alloc] at HN
  obtain ⟨i0, z0, hi, iz0, iz1, iz2, iz3⟩ := infoTok
  have RT := Lib.hid rt
  have hf : (Or.new l).fine := Or.fine_new hx
  have hr : (Or.new l).rows.length = 0 := rfl
  clear rt rd
  generalize Or.new l = O0 at *
  go_enter Try.func15, Try.ntmps15
  have q0 := X0.cell (j := 0) rfl
  go_wp2_with fail
  refine HN.mono ?_
  rintro x w1 ⟨M, rfl, h, hin, b⟩
  replace X0 := X0.low b (Nat.lt_succ_self _)
  replace c0 := c0.trans (b.mono (Nat.le_succ _))
  clear b HN q0
  have b := below_lit w1 (.cells #[] 24)
  replace X0 := X0.below b
  replace h := h.below b
  have ow := World.ownsRow_made (base := w1.heap.size) (e := 24) (size := 5) w1 #[] 0 (Nat.le_refl _) (by unfold maxLen; omega) rfl
  replace c0 := c0.trans (b.mono c0.size)
  have hB1 : w.heap.size + 1 ≤ w1.heap.size := by
    have h1 := (hin.own M.p (.inl rfl))
    omega
  have hw : ∀ i, M.own i → w.heap.size ≤ i := fun i hi => by have := (hin.own i hi).1; omega
  have hwB : ∀ i, M.own i → i < w1.heap.size := fun i hi => (hin.own i hi).2
  have xo : ¬ M.own w.heap.size := fun ho => by have := (hin.own _ ho).1; omega
  have hin : M.within w.heap.size w1.heap.size := hin.wider (Nat.le_succ _) (Nat.le_refl _)
  have z1 : w1.heap.size ≤ (w1.alloc (.cells #[] 24)).heap.size := by simp
  clear b
  generalize hB : w1.heap.size = B1 at *
  go_wp2
  go_loopw [5, 6] (fun vl vi wr => ∃ i : Nat, i ≤ ts.length ∧ i ≤ 100 ∧ vi = .int .i64 (i : Int) ∧ wr.ownsRow B1 24 5 vl i (flat (O0.issTs k (ts.take i))) ∧ Orc wr M (O0.issOs k (ts.take i)) ∧ Box w.heap.size wr #[dv, .int .u64 (k : Int), .slice ta ts.length tc] 33 ∧ B1 ≤ wr.heap.size ∧ Below w.heap.size w wr)
    (fun _ vi _ => 100 - (intOf vi).toNat)
  case atStart => exact ⟨0, Nat.zero_le _, by omega, rfl, ow, h, X0, z1, c0⟩
  case round =>
    obtain ⟨i, hi1, hi2, rfl, hown, hO, hX, hz, hc⟩ := hrel
    clear ow h X0 z1 c0
    have x1 := hX.cell (j := 1) rfl
    have x2 := hX.cell (j := 2) rfl
    by_cases hlt : i < ts.length
    · have g1 : (i : Int) < (ts.length : Int) := by omega
      by_cases hlt2 : i < 100
      · have g2 : (i : Int) < 100 := by omega
        obtain ⟨ad, rfl, t0, t1, t2, t3, t4⟩ := tok_at (RT.out.below hc) (List.getElem?_eq_getElem hlt)
        have htf := ht ts[i] (List.getElem_mem hlt)
        have hO1 := hO
        have hlr : (O0.issOs k (ts.take i)).rows.length < 1152921504606846976 := by
          have := Or.issOs_len k (ts.take i) O0
          rw [List.length_take] at this
          omega
        have HI := fun w' (h : Orc w' M (O0.issOs k (ts.take i))) => issue_any h hlr k hk ts[i] htf
        have eO : O0.issOs k (ts.take (i + 1)) = (O0.issOs k (ts.take i)).issO k ts[i] := by rw [take_snoc hlt, Or.issOs_snoc]
        have eT : O0.issTs k (ts.take (i + 1)) = O0.issTs k (ts.take i) ++ [(O0.issOs k (ts.take i)).issT k ts[i]] := by rw [take_snoc hlt, Or.issTs_snoc]
        have EE := Lib.hid (And.intro eO eT)
        have hl5 : (flat (O0.issTs k (ts.take i))).length = i * 5 := by
          rw [flat_len, Or.issTs_len, List.length_take, Nat.min_eq_left hi1]
        clear hO1 eO eT htf hlr
        generalize (O0.issOs k (ts.take i)).issO k ts[i] = O2 at *
        generalize (O0.issOs k (ts.take i)).issT k ts[i] = tn at *
        generalize O0.issOs k (ts.take i) = O1 at *
        generalize hL : O0.issTs k (ts.take i) = L at *
        generalize ts[i] = t at *
        have T0 := Box.new wr #[.int .u64 (t.n : Int), .int .u64 (t.v : Int), .int .u64 (t.e : Int), .int .u64 (t.r : Int), .int .u64 (t.g : Int)] 24
        have b := below_lit wr (.cells #[.int .u64 (t.n : Int), .int .u64 (t.v : Int), .int .u64 (t.e : Int), .int .u64 (t.r : Int), .int .u64 (t.g : Int)] 24)
        have hX2 := hX.below b
        have hO2 := hO.below b
        have ow2 := own_below hown b
        have hc2 := hc.trans (b.mono hc.size)
        have z2 := Nat.le_trans hz b.size
        obtain ⟨va, vc, rfl⟩ := own_form hown
        have p0 := T0.cell (j := 0) rfl
        have p1 := T0.cell (j := 1) rfl
        have p2 := T0.cell (j := 2) rfl
        have p3 := T0.cell (j := 3) rfl
        have y1 := hX2.cell (j := 1) rfl
        clear b hown hO hX hc hz T0
        go_wp2_with fail
        refine (HI _ hO2).mono ?_
        clear hO2
        rintro x w3 ⟨rfl, h3, b⟩
        have X3 := hX2.but b xo
        have ow3 := own_but ow2 b hwB
        have c3 := hc2.trans (b.below hc2.size hw)
        have z3 := Nat.le_trans z2 b.size
        clear hX2 ow2 hc2 z2 b HI p0 p1 p2 p3 y1
        have bb := below_lit w3 (.cells #[.int .u64 (tn.n : Int), .int .u64 (tn.v : Int), .int .u64 (tn.e : Int), .int .u64 (tn.r : Int), .int .u64 (tn.g : Int)] 24)
        have bx4 : (w3.alloc (.cells #[.int .u64 (tn.n : Int), .int .u64 (tn.v : Int), .int .u64 (tn.e : Int), .int .u64 (tn.r : Int), .int .u64 (tn.g : Int)] 24)).heap[w3.heap.size]? = some (.cells #[.int .u64 (tn.n : Int), .int .u64 (tn.v : Int), .int .u64 (tn.e : Int), .int .u64 (tn.r : Int), .int .u64 (tn.g : Int)] 24 (0, 0)) := (MapKept.heap_alloc w3 _).1
        have X4 := X3.below bb
        have ow4 := own_below ow3 bb
        have h4 := h3.below bb
        have c4 := c3.trans (bb.mono c3.size)
        have z4 := Nat.le_trans z3 bb.size
        clear X3 ow3 h3 c3 z3 bb
        go_wp2_with (at_builtin; refine wpList_append_lies _ rfl _ _ 31 rfl B1 24 i0 z0 5 40 Try.underlying31 hi iz0 iz1 iz2 iz3 (by decide) _ _ _ rfl ow4 ⟨w3.heap.size, 0, none⟩ 1 1 (tokCells tn) rfl rfl (World.news_of_block bx4) (tok_one _) (by decide) ?c3 ?c4 z4 _ rfl ?_)
        case c3 => unfold maxLen; omega
        case c4 => omega
        intro g cap2 w5 hown5 hg hat hlt5
        have hlo := ow4.lt
        have b5 : Below B1 (w3.alloc (.cells #[.int .u64 (tn.n : Int), .int .u64 (tn.v : Int), .int .u64 (tn.e : Int), .int .u64 (tn.r : Int), .int .u64 (tn.g : Int)] 24)) w5 := (Below.refl B1 _).grown hg z4 (fun k hk => (hlo k hk).1)
        have X5 := X4.low b5 hB1
        have h5 := h4.under hin b5
        have c5 := c4.trans (b5.mono (Nat.le_of_succ_le hB1))
        have z5 := Nat.le_trans z4 b5.size
        clear X4 h4 c4 z4 b5 hg hat hlt5 hlo ow4 bx4
        go_wp2
        go_roundw
        case rel =>
          refine ⟨i + 1, by omega, by omega, by go_num, ?_, ?_, X5, z5, c5⟩
          · rw [EE.out.2, flat_snoc]
            exact hown5
          · rw [EE.out.1]
            exact h5
        case measure => simp [intOf]; omega
      · obtain rfl : i = 100 := by omega
        clear hlt2
        have hlo := hown.lt
        obtain ⟨va, vc, rfl⟩ := own_form hown
        have hT : Toks wr (.slice va 100 vc) (O0.issTs k (ts.take 100)) := Toks.of_own (e := 24) (B := B1) (by rw [Or.issTs_len, List.length_take, Nat.min_eq_left hi1]; exact hown)
        go_wp2
        go_ret2
        exact ⟨M, _, rfl, hO, hin.wider (Nat.le_refl _) hz, hT, fun g hg => ⟨fun ho => by have := hwB g ho; have := (hlo g hg).1; omega, by have := (hlo g hg).1; omega, (hlo g hg).2⟩, hc⟩
    · obtain rfl : i = ts.length := by omega
      have g1 : decide ((ts.length : Int) < (ts.length : Int)) = false := by rw [decide_eq_false_iff_not]; omega
      clear hlt
      have hlo := hown.lt
      obtain ⟨va, vc, rfl⟩ := own_form hown
      have e100 : ts.take 100 = ts.take ts.length := by rw [List.take_length, List.take_of_length_le hi2]
      rw [← e100] at hO hown
      have hT : Toks wr (.slice va ts.length vc) (O0.issTs k (ts.take 100)) := by
        have e5 : (O0.issTs k (ts.take 100)).length = ts.length := by rw [Or.issTs_len, e100, List.take_length]
        have := Toks.of_own (e := 24) (B := B1) (l := O0.issTs k (ts.take 100)) (v := .slice va ts.length vc) (w := wr) (by rw [e5]; exact hown)
        exact this
      clear e100
      go_wp2
      go_ret2
      exact ⟨M, _, rfl, hO, hin.wider (Nat.le_refl _) hz, hT, fun g hg => ⟨fun ho => by have := hwB g ho; have := (hlo g hg).1; omega, by have := (hlo g hg).1; omega, (hlo g hg).2⟩, hc⟩
end Cap
end Go.Proofs.Ytbhdcocgghaifaa
