/-
  TokenChecks: which tokens are taken, behind any that were issued, and why not, is as the document says: the walk.
-/
import Derived.Test.YtbhdcocgghaifaaTokE
import Derived.Test.YtbhdcocgghaifaaTokT
import Derived.Deep.RegionHeld3
import Derived.Deep.DeepCutAuto
namespace Go.Proofs.Ytbhdcocgghaifaa
open Go.RowKit
open Ideal Ida Ref3
open Go.Lib (uvarint uvarint_small)

namespace Cap
theorem tok_ne (t s : Tok) (w : World) : (binOp .neq 24 (.agg #[.int .u64 (t.n : Int), .int .u64 (t.v : Int), .int .u64 (t.e : Int), .int .u64 (t.r : Int), .int .u64 (t.g : Int)]) (.agg #[.int .u64 (s.n : Int), .int .u64 (s.v : Int), .int .u64 (s.e : Int), .int .u64 (s.r : Int), .int .u64 (s.g : Int)])).run Try.prog w = .ok (.bool (!decide (t = s))) w := by
  have h := tok_eq t s w
  rw [run_eql_struct] at h
  rw [run_neq_struct]
  generalize (Op.equalIn 10000 24 (.agg #[.int .u64 (t.n : Int), .int .u64 (t.v : Int), .int .u64 (t.e : Int), .int .u64 (t.r : Int), .int .u64 (t.g : Int)]) (.agg #[.int .u64 (s.n : Int), .int .u64 (s.v : Int), .int .u64 (s.e : Int), .int .u64 (s.r : Int), .int .u64 (s.g : Int)])).run Try.prog w = E at *
  cases E with
  | ok b w' =>
    simp only [Result.andThen, Result.ok.injEq, Value.bool.injEq] at h ⊢
    exact ⟨by rw [h.1], h.2⟩
  | _ => cases h
theorem issTs_at (k : Nat) : ∀ (l : List Tok) (O : Or) (i : Nat) (t : Tok), l[i]? = some t → (O.issTs k l)[i]? = some ((O.issOs k (l.take i)).issT k t)
  | [], _, _, _, h => by simp at h
  | u :: l, O, 0, t, h => by
    simp only [List.getElem?_cons_zero, Option.some.injEq] at h
    subst h
    rfl
  | u :: l, O, i + 1, t, h => by
    rw [List.getElem?_cons_succ] at h
    exact issTs_at k l (O.issO k u) i t h
theorem few_issOs (k : Nat) : ∀ (l : List Tok) (O : Or), (O.issOs k l).rows.length ≤ O.rows.length + l.length ∧ (O.issOs k l).met = O.met ∧ (O.issOs k l).bads ≤ O.bads + l.length
  | [], _ => ⟨Nat.le_refl _, rfl, Nat.le_refl _⟩
  | t :: l, O => by
    have h1 := few_ask O (qm k (text t))
    have h2 := few_issOs k l (O.issO k t)
    have e : O.issO k t = O.ask (qm k (text t)) := rfl
    rw [e] at h2
    simp only [List.length_cons]
    show ((O.ask (qm k (text t))).issOs k l).rows.length ≤ _ ∧ ((O.ask (qm k (text t))).issOs k l).met = O.met ∧ ((O.ask (qm k (text t))).issOs k l).bads ≤ _
    exact ⟨by omega, h2.2.1.trans h1.2.1, by omega⟩
theorem few_hundred (l : List Nat) (k : Nat) (ts : List Tok) (h : ts.length ≤ 100) : Few ((Or.new l).issOs k ts) := by
  have h1 := few_issOs k ts (Or.new l)
  have e1 : (Or.new l).rows.length = 0 := rfl
  have e2 : (Or.new l).met = [] := rfl
  have e3 : (Or.new l).bads = 0 := rfl
  rw [e1, e3] at h1
  refine ⟨by omega, by rw [h1.2.1, e2]; decide, by omega⟩

set_option maxRecDepth 100000 in
set_option maxHeartbeats 16000000 in
theorem checks_any (l : List Nat) (hl : l.length * 8 ≤ 140737488355328) (hx : ∀ x ∈ l, x < 18446744073709551616) (k : Nat) (hk : k < 18446744073709551616) (ts : List Tok) (ht : ∀ t ∈ ts, fine t) (t : Tok) (hT : fine t) (v e z : Nat) (hz : z < 18446744073709551616) (dv tv : Value) (w : World) (rd : Kit.Sl w dv (nums l)) (rt : Toks w tv ts) :
    Calls Try.prog 4 #[.agg #[dv, .int .u64 (k : Int), tv], .agg #[.int .u64 (t.n : Int), .int .u64 (t.v : Int), .int .u64 (t.e : Int), .int .u64 (t.r : Int), .int .u64 (t.g : Int), .int .u64 (v : Int), .int .u64 (e : Int), .int .u64 (z : Int)]] w fun x W' => x = .returned (.bool true) ∧ Below w.heap.size w W' := by
  obtain ⟨da, dc, rfl⟩ := rd.rd.form
  generalize hdl : (nums l).length = dn at *
  obtain ⟨ta, tc, rfl⟩ := rt.form
  have RT := Lib.hid rt
  generalize htl : ts.length = tn at *
  have c0 := below_lit w (.cells #[.slice da dn dc, .int .u64 (k : Int), .slice ta tn tc] 33)
  have c := c0.trans ((below_lit (w.alloc (.cells #[.slice da dn dc, .int .u64 (k : Int), .slice ta tn tc] 33)) (.cells #[.int .u64 (t.n : Int), .int .u64 (t.v : Int), .int .u64 (t.e : Int), .int .u64 (t.r : Int), .int .u64 (t.g : Int), .int .u64 (v : Int), .int .u64 (e : Int), .int .u64 (z : Int)] 35)).mono c0.size)
  have X := (Box.new w #[.slice da dn dc, .int .u64 (k : Int), .slice ta tn tc] 33).alloc (.cells #[.int .u64 (t.n : Int), .int .u64 (t.v : Int), .int .u64 (t.e : Int), .int .u64 (t.r : Int), .int .u64 (t.g : Int), .int .u64 (v : Int), .int .u64 (e : Int), .int .u64 (z : Int)] 35)
  have Y := Box.new (w.alloc (.cells #[.slice da dn dc, .int .u64 (k : Int), .slice ta tn tc] 33)) #[.int .u64 (t.n : Int), .int .u64 (t.v : Int), .int .u64 (t.e : Int), .int .u64 (t.r : Int), .int .u64 (t.g : Int), .int .u64 (v : Int), .int .u64 (e : Int), .int .u64 (z : Int)] 35
  rw [World.size_alloc] at Y
  have HK := issued_any l hl hx k hk ts ht (.slice da dn dc) (.slice ta tn tc) _ (rd.below c) (rt.below c)
  have HN := fun w' (hw : Below w.heap.size w w') => Ref3.new_any l hl hx (.slice da dn dc) w' (rd.below hw)
  have HF := fixed_any
  have HC := fun w' M (h : Orc w' M ((Or.new l).issOs k (ts.take 100))) => check_any h k hk t hT v e z hz
  have HRI := fun (i : Nat) (hi : i ≤ 100) K q w' (h : Ref K w' q ((Or.new l).issOs k (ts.take i))) hB => fun (s : Tok) (hs : fine s) => rissue_any h hB (few_hundred l k (ts.take i) (by rw [List.length_take]; omega)) k s hs
  have HRC := fun K q w' (h : Ref K w' q ((Or.new l).issOs k (ts.take 100))) hB => rcheck_any h hB (few_hundred l k (ts.take 100) (by rw [List.length_take]; omega)) k t hT v e z hz
  have HB := fun w' M (h : Orc w' M (((Or.new l).issOs k (ts.take 100)).chkO k t)) => o_bad h
  have HD := fun w' M (h : Orc w' M (((Or.new l).issOs k (ts.take 100)).chkO k t)) => o_drawn h
  have hlen : ((Or.new l).issTs k (ts.take 100)).length = (ts.take 100).length := Or.issTs_len k (ts.take 100) (Or.new l)
  have hle : ((Or.new l).issTs k (ts.take 100)).length ≤ 100 := by rw [hlen, List.length_take]; omega
  have hlt2 : ((Or.new l).issTs k (ts.take 100)).length ≤ tn := by rw [hlen, List.length_take]; omega
  have h100 : ts.take ((Or.new l).issTs k (ts.take 100)).length = ts.take 100 := by
    rw [hlen, List.length_take]
    by_cases h : ts.length ≤ 100
    · rw [Nat.min_eq_right h, List.take_of_length_le h, List.take_of_length_le (Nat.le_refl _)]
    · rw [Nat.min_eq_left (by omega)]
  have hat : ∀ i s, i < ((Or.new l).issTs k (ts.take 100)).length → ts[i]? = some s → ((Or.new l).issTs k (ts.take 100))[i]? = some (((Or.new l).issOs k (ts.take i)).issT k s) := by
    intro i s hi hs
    have h1 := issTs_at k (ts.take 100) (Or.new l) i s (by rw [List.getElem?_take_of_lt (by omega)]; exact hs)
    rwa [List.take_take, Nat.min_eq_left (by omega)] at h1
  have hsn : ∀ i s, ts[i]? = some s → (Or.new l).issOs k (ts.take (i + 1)) = ((Or.new l).issOs k (ts.take i)).issO k s := by
    intro i s hs
    obtain ⟨hi, rfl⟩ := List.getElem?_eq_some_iff.1 hs
    rw [take_snoc hi, Or.issOs_snoc]
  have hOz : Or.new l = (Or.new l).issOs k (ts.take 0) := rfl
  rw [hOz] at HN
  generalize hOf : (fun i => (Or.new l).issOs k (ts.take i)) = Of at *
  have hOa : ∀ i, (Or.new l).issOs k (ts.take i) = Of i := fun i => by rw [← hOf]
  rw [hOa] at HK HN
  simp only [hOa] at HC HRI HRC HB HD hat hsn
  generalize ((Or.new l).issTs k (ts.take 100)) = L at *
  generalize hO2 : (Of 100).chkO k t = O2 at *
  generalize (Of 100).chk k t v e z = r at *
  have hts := Lib.hid ht
  have h100' : Of L.length = Of 100 := by rw [← hOa, ← hOa, h100]
  have Hat := Lib.hid hat
  have Hsn := Lib.hid hsn
  have H100 := Lib.hid h100'
  clear hl hx hk ht rd rt hdl c0 hz hT hOz hOf hOa hO2 hlen h100 h100' hat hsn
  go_enter Try.func4, Try.ntmps4
  have q0 := X.cell (j := 0) rfl
  have q1 := X.cell (j := 1) rfl
  have q2 := X.cell (j := 2) rfl
  go_wp2_with fail
  refine HK.mono ?_
  rintro x w1 ⟨M, vv, rfl, h, hin, hLT, hvo, b⟩
  have Xo : ¬ M.own w.heap.size := fun ho => by have := (hin.own _ ho).1; simp at this; omega
  have Yo : ¬ M.own (w.heap.size + 1) := fun ho => by have := (hin.own _ ho).1; simp at this; omega
  have hw : ∀ i, M.own i → w.heap.size ≤ i := fun i hi => by have := (hin.own i hi).1; simp at this; omega
  have hMw : ∀ i, M.own i → i < w1.heap.size := fun i hi => (hin.own i hi).2
  have hin : M.within w.heap.size w1.heap.size := hin.wider (by simp; omega) (Nat.le_refl _)
  replace X := X.below b
  replace Y := Y.below b
  replace c := c.trans (b.mono c.size)
  clear q0 q1 q2 b HK hvo
  obtain ⟨va, vc, rfl⟩ := hLT.form
  generalize hn : L.length = n at *
  have HNN := HN _ c
  have q0 := X.cell (j := 0) rfl
  clear HN
  go_wp2_with fail
  refine HNN.mono ?_
  rintro x w2 ⟨q, rfl, R, b⟩
  have hz2 := b.size
  clear HNN q0
  have HX := Lib.hid X
  have HY := Lib.hid Y
  have HT1 := Lib.hid hLT
  have HO := Lib.hid h
  have Hc := Lib.hid c
  have HT2 := Lib.hid (RT.out.below c)
  clear X Y hLT h c RT
  go_wp2
  go_loopw [8] (fun vi wr => ∃ i : Nat, i ≤ n ∧ vi = .int .i64 (i : Int) ∧ Ref (fun k => k < w1.heap.size) wr q (Of i) ∧ w1.heap.size ≤ wr.heap.size ∧ Below w1.heap.size w1 wr) (fun vi _ => n - (intOf vi).toNat)
  case atStart => exact ⟨0, Nat.zero_le _, rfl, R, hz2, b⟩
  case round =>
    clear R hz2 b
    obtain ⟨i, hi, rfl, R, hz2, b⟩ := hrel
    by_cases hlt : i < n
    · have g1 : (i : Int) < (n : Int) := by omega
      have hit : i < ts.length := by omega
      have g2 : (i : Int) < (tn : Int) := by omega
      have g3 : i < tn := by omega
      have hs := List.getElem?_eq_getElem hit
      have hLi := Hat.out i _ (by omega) hs
      have hsn := Hsn.out i _ hs
      have hfs := hts.out _ (List.getElem_mem hit)
      generalize ts[i] = s at *
      have HCL : ∀ w', Below w1.heap.size w1 w' → ∃ ad : Addr, va = some ad := fun w' b => by
        obtain ⟨ad, e1, -⟩ := tok_at (HT1.out.below b) hLi
        exact ⟨ad, e1⟩
      obtain ⟨ad, rfl⟩ := HCL _ b
      obtain ⟨ad2, e2, -⟩ := tok_at (HT2.out.below b) hs
      subst e2
      clear HCL
      have HRIi := HRI i (by omega) (fun k => k < w1.heap.size) q
      generalize htn : (Of i).issT k s = sn at *
      have HCL : ∀ w', Below w1.heap.size w1 w' → w'.cell? (ad.add (i * 5)) = some (.int .u64 (sn.n : Int)) ∧ w'.cell? ⟨(ad.add (i * 5)).block, (ad.add (i * 5)).off + 1, none⟩ = some (.int .u64 (sn.v : Int)) ∧ w'.cell? ⟨(ad.add (i * 5)).block, (ad.add (i * 5)).off + 2, none⟩ = some (.int .u64 (sn.e : Int)) ∧ w'.cell? ⟨(ad.add (i * 5)).block, (ad.add (i * 5)).off + 3, none⟩ = some (.int .u64 (sn.r : Int)) ∧ w'.cell? ⟨(ad.add (i * 5)).block, (ad.add (i * 5)).off + 4, none⟩ = some (.int .u64 (sn.g : Int)) ∧ w'.cell? (ad2.add (i * 5)) = some (.int .u64 (s.n : Int)) ∧ w'.cell? ⟨(ad2.add (i * 5)).block, (ad2.add (i * 5)).off + 1, none⟩ = some (.int .u64 (s.v : Int)) ∧ w'.cell? ⟨(ad2.add (i * 5)).block, (ad2.add (i * 5)).off + 2, none⟩ = some (.int .u64 (s.e : Int)) ∧ w'.cell? ⟨(ad2.add (i * 5)).block, (ad2.add (i * 5)).off + 3, none⟩ = some (.int .u64 (s.r : Int)) ∧ w'.cell? ⟨(ad2.add (i * 5)).block, (ad2.add (i * 5)).off + 4, none⟩ = some (.int .u64 (s.g : Int)) ∧ w'.cell? ⟨w.heap.size, 1, none⟩ = some (.int .u64 (k : Int)) ∧ w'.cell? ⟨w.heap.size, 2, none⟩ = some (.slice (some ad2) tn tc) ∧ Below w1.heap.size w1 w' := fun w' b => by
        obtain ⟨a1, e1, p0, p1, p2, p3, p4⟩ := tok_at (HT1.out.below b) hLi
        obtain rfl := Option.some.inj e1
        obtain ⟨a2, e2, r0, r1, r2, r3, r4⟩ := tok_at (HT2.out.below b) hs
        obtain rfl := Option.some.inj e2
        have X2 := HX.out.below b
        exact ⟨p0, p1, p2, p3, p4, r0, r1, r2, r3, r4, X2.cell rfl, X2.cell rfl, b⟩
      have HQ := tok_ne sn sn
      simp only [decide_true, Bool.not_true] at HQ
      have Hsn2 := Lib.hid hsn
      have bd := b.drew
      have Rd : Ref (fun k => k < w1.heap.size) wr.drew q (Of i) := R.below (Below.refl _ wr).drew
      have Hz := Lib.hid (show w1.heap.size ≤ wr.drew.heap.size from hz2)
      have hcl := HCL wr b
      have hcl2 : wr.cell? ⟨w.heap.size, 1, none⟩ = some (.int .u64 (k : Int)) := hcl.2.2.2.2.2.2.2.2.2.2.1
      clear hsn hs hLi hit hcl hcl2 b R hz2
      go_wp2
      go_region_held3 (fun w' => w'.cell? (ad.add (i * 5)) = some (.int .u64 (sn.n : Int)) ∧ w'.cell? ⟨(ad.add (i * 5)).block, (ad.add (i * 5)).off + 1, none⟩ = some (.int .u64 (sn.v : Int)) ∧ w'.cell? ⟨(ad.add (i * 5)).block, (ad.add (i * 5)).off + 2, none⟩ = some (.int .u64 (sn.e : Int)) ∧ w'.cell? ⟨(ad.add (i * 5)).block, (ad.add (i * 5)).off + 3, none⟩ = some (.int .u64 (sn.r : Int)) ∧ w'.cell? ⟨(ad.add (i * 5)).block, (ad.add (i * 5)).off + 4, none⟩ = some (.int .u64 (sn.g : Int)) ∧ w'.cell? (ad2.add (i * 5)) = some (.int .u64 (s.n : Int)) ∧ w'.cell? ⟨(ad2.add (i * 5)).block, (ad2.add (i * 5)).off + 1, none⟩ = some (.int .u64 (s.v : Int)) ∧ w'.cell? ⟨(ad2.add (i * 5)).block, (ad2.add (i * 5)).off + 2, none⟩ = some (.int .u64 (s.e : Int)) ∧ w'.cell? ⟨(ad2.add (i * 5)).block, (ad2.add (i * 5)).off + 3, none⟩ = some (.int .u64 (s.r : Int)) ∧ w'.cell? ⟨(ad2.add (i * 5)).block, (ad2.add (i * 5)).off + 4, none⟩ = some (.int .u64 (s.g : Int)) ∧ w'.cell? ⟨w.heap.size, 1, none⟩ = some (.int .u64 (k : Int)) ∧ w'.cell? ⟨w.heap.size, 2, none⟩ = some (.slice (some ad2) tn tc) ∧ Below w1.heap.size w1 w')
        (first | exact HCL _ bd | exact HCL _ b5)
        ((go_at_call 17; refine (HRIi _ Rd (fun i hi => Nat.lt_of_lt_of_le hi Hz.out) s hfs).mono ?_; rw [htn]; rintro x w5 ⟨rfl, R5, f5⟩; have b5 := bd.trans (fr_below f5 Hz.out)))
      have z5 := Nat.le_trans Hz.out f5.size
      clear HCL Rd bd f5
      go_wp2
      go_roundw
      case rel => exact ⟨i + 1, by omega, by go_num, by rw [Hsn2.out]; exact R5, z5, b5⟩
      case measure => simp [intOf]; omega
    · obtain rfl : i = n := by omega
      have g1 : decide ((i : Int) < (i : Int)) = false := by rw [decide_eq_false_iff_not]; omega
      rw [H100.out] at R
      have h := HO.out.below b
      have X := HX.out.below b
      have Y := HY.out.below b
      have c := Hc.out.trans (b.mono Hc.out.size)
      have hXl := HX.out.lt
      have hYl := HY.out.lt
      clear b hlt HX HY HT1 HT2 HO Hc HRI Hat Hsn hts
      have q1 := X.cell (j := 1) rfl
      have y0 := Y.cell (j := 0) rfl
      have y1 := Y.cell (j := 1) rfl
      have y2 := Y.cell (j := 2) rfl
      have y3 := Y.cell (j := 3) rfl
      have y4 := Y.cell (j := 4) rfl
      have y5 := Y.cell (j := 5) rfl
      have y6 := Y.cell (j := 6) rfl
      have y7 := Y.cell (j := 7) rfl
      go_wp2_with fail
      refine (HC _ _ h).mono ?_
      clear h
      rintro x w3 ⟨rfl, h, b⟩
      replace R := R.kept (fun k hk hlt => b.block k hlt (fun ho => hk (hMw k ho)))
      replace X := X.but b Xo
      replace Y := Y.but b Yo
      replace c := c.trans (b.below c.size hw)
      replace hz2 := Nat.le_trans hz2 b.size
      clear b HC q1 y0 y1 y2 y3 y4 y5 y6 y7
      have HH := HRC _ _ _ R (fun i hi => Nat.lt_of_lt_of_le hi hz2)
      clear HRC R
      have q1 := X.cell (j := 1) rfl
      have y0 := Y.cell (j := 0) rfl
      have y1 := Y.cell (j := 1) rfl
      have y2 := Y.cell (j := 2) rfl
      have y3 := Y.cell (j := 3) rfl
      have y4 := Y.cell (j := 4) rfl
      have y5 := Y.cell (j := 5) rfl
      have y6 := Y.cell (j := 6) rfl
      have y7 := Y.cell (j := 7) rfl
      go_wp2_with fail
      refine HH.mono ?_
      rintro x w4 ⟨rfl, R, f⟩
      have b := fr_below f hz2
      replace h := h.under hin b
      replace c := c.trans (b.mono (Nat.le_of_lt hXl))
      clear b f HH q1 y0 y1 y2 y3 y4 y5 y6 y7 X Y
      go_wp2_with fail
      refine (HF _).mono ?_
      rintro x w5 ⟨rfl, b⟩
      replace h := Orc.below h b
      replace R := R.below b
      replace c := c.trans (b.mono c.size)
      clear b
      go_wp2_with fail
      refine (HD _ _ h).mono ?_
      rintro x w6 ⟨rfl, b⟩
      replace h := Orc.below h b
      replace R := R.below b
      replace c := c.trans (b.mono c.size)
      clear b
      go_wp2_with fail
      refine (Ref3.drawn_any R).mono ?_
      rintro x w7 ⟨rfl, b⟩
      replace h := Orc.below h b
      replace R := R.below b
      replace c := c.trans (b.mono c.size)
      clear b
      go_wp2_with fail
      refine (HB _ _ h).mono ?_
      rintro x w8 ⟨rfl, b⟩
      replace R := R.below b
      replace c := c.trans (b.mono c.size)
      clear b
      go_wp2_with fail
      refine (Ref3.bad_any R).mono ?_
      rintro x w9 ⟨rfl, b⟩
      replace c := c.trans (b.mono c.size)
      clear b
      go_wp2
      go_ret
      exact ⟨rfl, c⟩
end Cap
end Go.Proofs.Ytbhdcocgghaifaa
