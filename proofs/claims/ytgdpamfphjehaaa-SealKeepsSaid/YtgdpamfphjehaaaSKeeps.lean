/-
  SealKeeps: what was locked first is unlocked as it was, however much is locked behind it: the walk.
-/
import Derived.Test.YtgdpamfphjehaaaSealD
namespace Go.Proofs.Ytgdpamfphjehaaa.Keeps5
open Go.RowKit Go.ChangeShapes Go.WideShapes Go.ChangeAt
open Ideal Ida Sea

def vers (r i : Nat) : Nat := (r + i) % 18446744073709551616
def nth (ts : List ByteArray) (i : Nat) : ByteArray := (ts[i]?).getD .empty

/-- The oracle behind i further locks, plainly, and what it then tells. -/
theorem setup (l : List Nat) (hl : l.length * 8 ≤ 140737488355328) (hx : ∀ x ∈ l, x < 18446744073709551616) (k v s r e : Nat) (hk : k < 18446744073709551616) (hv : v < 18446744073709551616) (hs : s < 18446744073709551616) (hr : r < 18446744073709551616) (he : e < 18446744073709551616) (p : ByteArray) (hp : p.size ≤ maxLen) (ts : List ByteArray) : ∃ (m : Leaf) (P : Nat → Or), ((Or.new l).draw q0).lockL k v s r e p = m ∧ P 0 = ((Or.new l).draw q0).lockO k v s r e p ∧ (∀ i, P (i + 1) = (P i).lockO k v s (vers r i) e (nth ts i)) ∧ (∀ i, (P i).rows.length ≤ 3 + 2 * i) ∧
    (∀ i w' M, Orc w' M (P i) → Calls Try.prog 18 #[ptr M, .int .u64 (k : Int), .int .u64 (v : Int), .int .u64 (s : Int), .agg #[.int .u64 (m.v : Int), .int .u64 (m.e : Int), .int .u64 (m.n : Int), .int .u64 (m.c : Int)]] w' fun x w'' => x = .returned (.tuple #[.string (((P i).openL k v s m).getD .empty), .bool ((P i).openL k v s m).isSome]) ∧ Orc w'' M (P i) ∧ Kit.But M.own w' w'') ∧
    (∀ i, (P i).bads = 0 → (P i).openL k v s m = some p) := by
  have hi : ((Or.new l).draw q0).Inv := Or.inv_draw (Or.inv_new l) q0
  have n1 : (((Or.new l).draw q0).lockO k v s r e p).rows.length ≤ 3 := by
    have := Or.lock_len (O := ((Or.new l).draw q0)) k v s r e p
    rw [Or.len_draw] at this
    exact this
  have hf := (Or.lock_fine (k := k) (v := v) (s := s) (Or.fine_draw (Or.fine_new hx) (by show (0 : Nat) < _; decide) q0) (by rw [Or.len_draw]; show (0 : Nat) + 1 + 2 < _; decide) hr he p).2
  have _hu := hl
  have _hu := hp
  refine ⟨_, fun i => (((Or.new l).draw q0).lockO k v s r e p).locks k v s (vers r) e (nth ts) i, rfl, rfl, fun i => rfl, fun i => ?_, fun i w' M h => ?_, fun i hb => keeps_all hi k v s r e p (vers r) e (nth ts) i hb⟩
  · have := Or.locks_len (O := ((Or.new l).draw q0).lockO k v s r e p) k v s (vers r) e (nth ts) i
    show ((((Or.new l).draw q0).lockO k v s r e p).locks k v s (vers r) e (nth ts) i).rows.length ≤ _
    omega
  · have H := unlock_any h k v s hk hv hs _ hf
    rw [Or.open_issued (Or.issued_of_get (Or.locks_old (Or.lock_get k v s r e p) k v s (vers r) e (nth ts) i))] at H
    exact H

set_option maxRecDepth 100000 in
set_option maxHeartbeats 8000000 in
theorem keeps_any (l : List Nat) (hl : l.length * 8 ≤ 140737488355328) (hx : ∀ x ∈ l, x < 18446744073709551616) (k v s r e : Nat) (hk : k < 18446744073709551616) (hv : v < 18446744073709551616) (hs : s < 18446744073709551616) (hr : r < 18446744073709551616) (he : e < 18446744073709551616) (p : ByteArray) (hp : p.size ≤ maxLen) (ts : List ByteArray) (hts : ∀ t ∈ ts, t.size ≤ maxLen) (vt dv : Value) (w : World) (rv : Kit.Sl w dv (nums l)) (rt : Kit.Rd w vt (strs ts)) :
    Calls Try.prog 8 #[.agg #[dv, .int .u64 (k : Int), .int .u64 (v : Int), .int .u64 (s : Int), .int .u64 (r : Int), .int .u64 (e : Int), .string p], vt] w fun e W' => e = .returned (.bool true) ∧ Below w.heap.size w W' := by
  obtain ⟨ta, tcap, rfl⟩ := rt.form
  have hll : (strs ts).length = ts.length := by simp [strs]
  rw [hll] at rt ⊢
  clear hll
  have X := Box.new w #[dv, .int .u64 (k : Int), .int .u64 (v : Int), .int .u64 (s : Int), .int .u64 (r : Int), .int .u64 (e : Int), .string p] 32
  have c := below_lit w (.cells #[dv, .int .u64 (k : Int), .int .u64 (v : Int), .int .u64 (s : Int), .int .u64 (r : Int), .int .u64 (e : Int), .string p] 32)
  have HK := locked_any l hl hx k v s r e hk hv hs hr he p hp dv _ (rv.below c)
  obtain ⟨m, P, em, e0, es, hn, HU, hP⟩ := setup l hl hx k v s r e hk hv hs hr he p hp ts
  rw [em] at HK
  rw [← e0] at HK
  have HL := fun i (hi : i ≤ 50) t (ht : t.size ≤ maxLen) w' M (h : Orc w' M (P i)) => lock_any h (by have := hn i; omega) k v s (vers r i) e hk hv hs (Nat.mod_lt _ (by decide)) he t ht
  have HB := fun i w' M (h : Orc w' M (P i)) => o_bad h
  have HF := fixed_any
  have RT := Lib.hid rt
  have TS := Lib.hid hts
  have ES := Lib.hid es
  clear hl hx hk hv hs hr he hp rv em e0 es hn rt hts
  go_enter Try.func8, Try.ntmps8
  have Xc0 := X.cell (j := 0) rfl
  have Xc1 := X.cell (j := 1) rfl
  have Xc2 := X.cell (j := 2) rfl
  have Xc3 := X.cell (j := 3) rfl
  have Xc4 := X.cell (j := 4) rfl
  have Xc5 := X.cell (j := 5) rfl
  have Xc6 := X.cell (j := 6) rfl
  go_wp2_with fail
  refine HK.mono ?_
  rintro x w1 ⟨M, rfl, h, hin, b⟩
  clear Xc0 Xc1 Xc2 Xc3 Xc4 Xc5 Xc6
  have Xo : ¬ M.own w.heap.size := fun ho => by have := (hin.own _ ho).1; simp at this; omega
  have hw : ∀ i, M.own i → w.heap.size ≤ i := fun i hi => by have := (hin.own i hi).1; simp at this; omega
  have MMo : ¬ M.own w1.heap.size := fun ho => Nat.lt_irrefl _ (h.lt ho)
  replace X := X.below b
  replace c := c.trans (b.mono c.size)
  clear b
  have MM := Box.new w1 #[.int .u64 (m.v : Int), .int .u64 (m.e : Int), .int .u64 (m.n : Int), .int .u64 (m.c : Int)] 24
  have b := below_lit w1 (.cells #[.int .u64 (m.v : Int), .int .u64 (m.e : Int), .int .u64 (m.n : Int), .int .u64 (m.c : Int)] 24)
  replace X := X.below b
  replace h := Orc.below h b
  replace c := c.trans (b.mono c.size)
  clear b
  clear hin HK
  go_wp2
  go_loopw [7] (fun vi wr => ∃ i : Nat, i ≤ ts.length ∧ i ≤ 50 ∧ vi = .int .i64 (i : Int) ∧ Orc wr M (P i) ∧ Box w.heap.size wr #[dv, .int .u64 (k : Int), .int .u64 (v : Int), .int .u64 (s : Int), .int .u64 (r : Int), .int .u64 (e : Int), .string p] 32 ∧ Box w1.heap.size wr #[.int .u64 (m.v : Int), .int .u64 (m.e : Int), .int .u64 (m.n : Int), .int .u64 (m.c : Int)] 24 ∧ Below w.heap.size w wr) (fun vi _ => ts.length - (intOf vi).toNat)
  case atStart => exact ⟨0, Nat.zero_le _, by omega, rfl, h, X, MM, c⟩
  case round =>
    clear h X MM c
    obtain ⟨i, hi, hi5, rfl, h, X, MM, c⟩ := hrel
    by_cases hgo : i < ts.length ∧ i < 50
    · obtain ⟨hlt, h50⟩ := hgo
      have hlt1 : (i : Int) < (ts.length : Int) := by omega
      have h51 : (i : Int) < 50 := by omega
      have hi0 : (0 : Int) ≤ (i : Int) := by omega
      have HD := HL i hi5 ts[i] (TS.out _ (List.getElem_mem hlt))
      have hst := ES.out i
      have en : nth ts i = ts[i] := by unfold nth; rw [List.getElem?_eq_getElem hlt]; rfl
      rw [en] at hst
      obtain ⟨ad, rfl, hc⟩ := (RT.out.below c).at_ (k := i) (u := .string ts[i]) (by simp [strs, hlt])
      obtain ⟨ad', ea, hc'⟩ := RT.out.at_ (k := i) (u := .string ts[i]) (by simp [strs, hlt])
      obtain rfl := Option.some.inj ea
      have hcw := World.block_lt_of_cell? _ _ hc'
      clear hc' ea
      have wv : IntKind.u64.wrap (i : Int) = (i : Int) := by simp only [IntKind.wrap_u64]; omega
      have ww : IntKind.u64.wrap ((r : Int) + (i : Int)) = ((vers r i : Nat) : Int) := by unfold vers; simp only [IntKind.wrap_u64]; omega
      generalize ts[i] = t at *
      generalize vers r i = ri at *
      have Hst := Lib.hid hst
      have h0 := h.drew
      have X0 := X.drew
      have M0 := MM.drew
      have c0 := c.drew
      have hc0 : wr.drew.cell? (ad.add i) = some (.string t) := hc
      have hcl : (ad.add i).block < wr.heap.size := World.block_lt_of_cell? _ _ hc
      have hco : ¬ M.own (ad.add i).block := fun ho => by have := hw _ ho; omega
      clear en hst h X MM c hc HU HB hP HL hcw
      go_wp2
      go_region_held3 (fun w' => w'.cell? ⟨w.heap.size, 1, none⟩ = some (.int .u64 (k : Int)) ∧ w'.cell? ⟨w.heap.size, 2, none⟩ = some (.int .u64 (v : Int)) ∧ w'.cell? ⟨w.heap.size, 3, none⟩ = some (.int .u64 (s : Int)) ∧ w'.cell? ⟨w.heap.size, 4, none⟩ = some (.int .u64 (r : Int)) ∧ w'.cell? ⟨w.heap.size, 5, none⟩ = some (.int .u64 (e : Int)) ∧ w'.cell? (ad.add i) = some (.string t))
        (first | exact ⟨X0.cell rfl, X0.cell rfl, X0.cell rfl, X0.cell rfl, X0.cell rfl, hc0⟩ | exact ⟨X1.cell rfl, X1.cell rfl, X1.cell rfl, X1.cell rfl, X1.cell rfl, hc1⟩)
        (first
          | (go_at_call 26; refine (HD _ _ h0).mono ?_; rintro x w3 ⟨rfl, h1, b1⟩; have X1 := X0.but b1 Xo; have M1 := M0.but b1 MMo; have c1 := c0.trans (b1.below c0.size hw); have hc1 := (b1.cell hcl hco).trans hc0))
      clear X0 M0 c0 h0 hc0 hc1
      go_wp2
      go_roundw
      case rel => exact ⟨i + 1, by omega, by omega, by go_num, by rw [Hst.out]; exact h1, X1, M1, c1⟩
      case measure => simp [intOf]; omega
    · have hG := HU i _ _ h
      have hB := fun w' (h : Orc w' M (P i)) => HB i w' M h
      have hp := hP i
      generalize P i = Oi at *
      clear HU HB HL hP TS ES RT
      by_cases hz : Oi.bads = 0
      · rw [show decide (0 < Oi.bads) = false by rw [hz]; rfl] at hB
        rw [hp hz] at hG
        simp only [Option.getD_some, Option.isSome_some] at hG
        clear hp hz
        by_cases h1 : i < ts.length
        · have hlt1 : (i : Int) < (ts.length : Int) := by omega
          have h50 : decide ((i : Int) < 50) = false := by rw [decide_eq_false_iff_not]; omega
          have h51 : decide (i < 50) = false := by rw [decide_eq_false_iff_not]; omega
          clear hgo h1
          have Xc0 := X.cell (j := 0) rfl
          have Xc1 := X.cell (j := 1) rfl
          have Xc2 := X.cell (j := 2) rfl
          have Xc3 := X.cell (j := 3) rfl
          have Xc4 := X.cell (j := 4) rfl
          have Xc5 := X.cell (j := 5) rfl
          have Xc6 := X.cell (j := 6) rfl
          have MMc0 := MM.cell (j := 0) rfl
          have MMc1 := MM.cell (j := 1) rfl
          have MMc2 := MM.cell (j := 2) rfl
          have MMc3 := MM.cell (j := 3) rfl
          go_wp2_with fail
          refine (hG).mono ?_
          clear h
          rintro x w5 ⟨rfl, h, b⟩
          clear Xc0 Xc1 Xc2 Xc3 Xc4 Xc5 Xc6 MMc0 MMc1 MMc2 MMc3
          replace X := X.but b Xo
          replace MM := MM.but b MMo
          replace c := c.trans (b.below c.size hw)
          clear b
          have Xc0 := X.cell (j := 0) rfl
          have Xc1 := X.cell (j := 1) rfl
          have Xc2 := X.cell (j := 2) rfl
          have Xc3 := X.cell (j := 3) rfl
          have Xc4 := X.cell (j := 4) rfl
          have Xc5 := X.cell (j := 5) rfl
          have Xc6 := X.cell (j := 6) rfl
          have MMc0 := MM.cell (j := 0) rfl
          have MMc1 := MM.cell (j := 1) rfl
          have MMc2 := MM.cell (j := 2) rfl
          have MMc3 := MM.cell (j := 3) rfl
          go_wp2_with fail
          refine (HF _).mono ?_
          rintro x w6 ⟨rfl, b⟩
          clear Xc0 Xc1 Xc2 Xc3 Xc4 Xc5 Xc6 MMc0 MMc1 MMc2 MMc3
          replace X := X.below b
          replace MM := MM.below b
          replace h := Orc.below h b
          replace c := c.trans (b.mono c.size)
          clear b
          have Xc0 := X.cell (j := 0) rfl
          have Xc1 := X.cell (j := 1) rfl
          have Xc2 := X.cell (j := 2) rfl
          have Xc3 := X.cell (j := 3) rfl
          have Xc4 := X.cell (j := 4) rfl
          have Xc5 := X.cell (j := 5) rfl
          have Xc6 := X.cell (j := 6) rfl
          have MMc0 := MM.cell (j := 0) rfl
          have MMc1 := MM.cell (j := 1) rfl
          have MMc2 := MM.cell (j := 2) rfl
          have MMc3 := MM.cell (j := 3) rfl
          go_wp2_with fail
          refine (hB _ h).mono ?_
          rintro x w7 ⟨rfl, b⟩
          clear Xc0 Xc1 Xc2 Xc3 Xc4 Xc5 Xc6 MMc0 MMc1 MMc2 MMc3
          replace X := X.below b
          replace MM := MM.below b
          replace h := Orc.below h b
          replace c := c.trans (b.mono c.size)
          clear b
          have Xc0 := X.cell (j := 0) rfl
          have Xc1 := X.cell (j := 1) rfl
          have Xc2 := X.cell (j := 2) rfl
          have Xc3 := X.cell (j := 3) rfl
          have Xc4 := X.cell (j := 4) rfl
          have Xc5 := X.cell (j := 5) rfl
          have Xc6 := X.cell (j := 6) rfl
          have MMc0 := MM.cell (j := 0) rfl
          have MMc1 := MM.cell (j := 1) rfl
          have MMc2 := MM.cell (j := 2) rfl
          have MMc3 := MM.cell (j := 3) rfl
          go_wp2
          go_ret
          exact ⟨rfl, c⟩
        · have hlt1 : decide ((i : Int) < (ts.length : Int)) = false := by rw [decide_eq_false_iff_not]; omega
          have hlt2 : decide (i < ts.length) = false := by rw [decide_eq_false_iff_not]; omega
          clear hgo h1
          have Xc0 := X.cell (j := 0) rfl
          have Xc1 := X.cell (j := 1) rfl
          have Xc2 := X.cell (j := 2) rfl
          have Xc3 := X.cell (j := 3) rfl
          have Xc4 := X.cell (j := 4) rfl
          have Xc5 := X.cell (j := 5) rfl
          have Xc6 := X.cell (j := 6) rfl
          have MMc0 := MM.cell (j := 0) rfl
          have MMc1 := MM.cell (j := 1) rfl
          have MMc2 := MM.cell (j := 2) rfl
          have MMc3 := MM.cell (j := 3) rfl
          go_wp2_with fail
          refine (hG).mono ?_
          clear h
          rintro x w5 ⟨rfl, h, b⟩
          clear Xc0 Xc1 Xc2 Xc3 Xc4 Xc5 Xc6 MMc0 MMc1 MMc2 MMc3
          replace X := X.but b Xo
          replace MM := MM.but b MMo
          replace c := c.trans (b.below c.size hw)
          clear b
          have Xc0 := X.cell (j := 0) rfl
          have Xc1 := X.cell (j := 1) rfl
          have Xc2 := X.cell (j := 2) rfl
          have Xc3 := X.cell (j := 3) rfl
          have Xc4 := X.cell (j := 4) rfl
          have Xc5 := X.cell (j := 5) rfl
          have Xc6 := X.cell (j := 6) rfl
          have MMc0 := MM.cell (j := 0) rfl
          have MMc1 := MM.cell (j := 1) rfl
          have MMc2 := MM.cell (j := 2) rfl
          have MMc3 := MM.cell (j := 3) rfl
          go_wp2_with fail
          refine (HF _).mono ?_
          rintro x w6 ⟨rfl, b⟩
          clear Xc0 Xc1 Xc2 Xc3 Xc4 Xc5 Xc6 MMc0 MMc1 MMc2 MMc3
          replace X := X.below b
          replace MM := MM.below b
          replace h := Orc.below h b
          replace c := c.trans (b.mono c.size)
          clear b
          have Xc0 := X.cell (j := 0) rfl
          have Xc1 := X.cell (j := 1) rfl
          have Xc2 := X.cell (j := 2) rfl
          have Xc3 := X.cell (j := 3) rfl
          have Xc4 := X.cell (j := 4) rfl
          have Xc5 := X.cell (j := 5) rfl
          have Xc6 := X.cell (j := 6) rfl
          have MMc0 := MM.cell (j := 0) rfl
          have MMc1 := MM.cell (j := 1) rfl
          have MMc2 := MM.cell (j := 2) rfl
          have MMc3 := MM.cell (j := 3) rfl
          go_wp2_with fail
          refine (hB _ h).mono ?_
          rintro x w7 ⟨rfl, b⟩
          clear Xc0 Xc1 Xc2 Xc3 Xc4 Xc5 Xc6 MMc0 MMc1 MMc2 MMc3
          replace X := X.below b
          replace MM := MM.below b
          replace h := Orc.below h b
          replace c := c.trans (b.mono c.size)
          clear b
          have Xc0 := X.cell (j := 0) rfl
          have Xc1 := X.cell (j := 1) rfl
          have Xc2 := X.cell (j := 2) rfl
          have Xc3 := X.cell (j := 3) rfl
          have Xc4 := X.cell (j := 4) rfl
          have Xc5 := X.cell (j := 5) rfl
          have Xc6 := X.cell (j := 6) rfl
          have MMc0 := MM.cell (j := 0) rfl
          have MMc1 := MM.cell (j := 1) rfl
          have MMc2 := MM.cell (j := 2) rfl
          have MMc3 := MM.cell (j := 3) rfl
          go_wp2
          go_ret
          exact ⟨rfl, c⟩
      · rw [show decide (0 < Oi.bads) = true by rw [decide_eq_true_eq]; omega] at hB
        generalize Oi.openL k v s m = Q at *
        clear hp hz
        by_cases h1 : i < ts.length
        · have hlt1 : (i : Int) < (ts.length : Int) := by omega
          have h50 : decide ((i : Int) < 50) = false := by rw [decide_eq_false_iff_not]; omega
          have h51 : decide (i < 50) = false := by rw [decide_eq_false_iff_not]; omega
          clear hgo h1
          have Xc0 := X.cell (j := 0) rfl
          have Xc1 := X.cell (j := 1) rfl
          have Xc2 := X.cell (j := 2) rfl
          have Xc3 := X.cell (j := 3) rfl
          have Xc4 := X.cell (j := 4) rfl
          have Xc5 := X.cell (j := 5) rfl
          have Xc6 := X.cell (j := 6) rfl
          have MMc0 := MM.cell (j := 0) rfl
          have MMc1 := MM.cell (j := 1) rfl
          have MMc2 := MM.cell (j := 2) rfl
          have MMc3 := MM.cell (j := 3) rfl
          go_wp2_with fail
          refine (hG).mono ?_
          clear h
          rintro x w5 ⟨rfl, h, b⟩
          clear Xc0 Xc1 Xc2 Xc3 Xc4 Xc5 Xc6 MMc0 MMc1 MMc2 MMc3
          replace X := X.but b Xo
          replace MM := MM.but b MMo
          replace c := c.trans (b.below c.size hw)
          clear b
          have Xc0 := X.cell (j := 0) rfl
          have Xc1 := X.cell (j := 1) rfl
          have Xc2 := X.cell (j := 2) rfl
          have Xc3 := X.cell (j := 3) rfl
          have Xc4 := X.cell (j := 4) rfl
          have Xc5 := X.cell (j := 5) rfl
          have Xc6 := X.cell (j := 6) rfl
          have MMc0 := MM.cell (j := 0) rfl
          have MMc1 := MM.cell (j := 1) rfl
          have MMc2 := MM.cell (j := 2) rfl
          have MMc3 := MM.cell (j := 3) rfl
          go_wp2_with fail
          refine (HF _).mono ?_
          rintro x w6 ⟨rfl, b⟩
          clear Xc0 Xc1 Xc2 Xc3 Xc4 Xc5 Xc6 MMc0 MMc1 MMc2 MMc3
          replace X := X.below b
          replace MM := MM.below b
          replace h := Orc.below h b
          replace c := c.trans (b.mono c.size)
          clear b
          have Xc0 := X.cell (j := 0) rfl
          have Xc1 := X.cell (j := 1) rfl
          have Xc2 := X.cell (j := 2) rfl
          have Xc3 := X.cell (j := 3) rfl
          have Xc4 := X.cell (j := 4) rfl
          have Xc5 := X.cell (j := 5) rfl
          have Xc6 := X.cell (j := 6) rfl
          have MMc0 := MM.cell (j := 0) rfl
          have MMc1 := MM.cell (j := 1) rfl
          have MMc2 := MM.cell (j := 2) rfl
          have MMc3 := MM.cell (j := 3) rfl
          go_wp2_with fail
          refine (hB _ h).mono ?_
          rintro x w7 ⟨rfl, b⟩
          clear Xc0 Xc1 Xc2 Xc3 Xc4 Xc5 Xc6 MMc0 MMc1 MMc2 MMc3
          replace X := X.below b
          replace MM := MM.below b
          replace h := Orc.below h b
          replace c := c.trans (b.mono c.size)
          clear b
          have Xc0 := X.cell (j := 0) rfl
          have Xc1 := X.cell (j := 1) rfl
          have Xc2 := X.cell (j := 2) rfl
          have Xc3 := X.cell (j := 3) rfl
          have Xc4 := X.cell (j := 4) rfl
          have Xc5 := X.cell (j := 5) rfl
          have Xc6 := X.cell (j := 6) rfl
          have MMc0 := MM.cell (j := 0) rfl
          have MMc1 := MM.cell (j := 1) rfl
          have MMc2 := MM.cell (j := 2) rfl
          have MMc3 := MM.cell (j := 3) rfl
          go_wp2
          go_ret
          exact ⟨rfl, c⟩
        · have hlt1 : decide ((i : Int) < (ts.length : Int)) = false := by rw [decide_eq_false_iff_not]; omega
          have hlt2 : decide (i < ts.length) = false := by rw [decide_eq_false_iff_not]; omega
          clear hgo h1
          have Xc0 := X.cell (j := 0) rfl
          have Xc1 := X.cell (j := 1) rfl
          have Xc2 := X.cell (j := 2) rfl
          have Xc3 := X.cell (j := 3) rfl
          have Xc4 := X.cell (j := 4) rfl
          have Xc5 := X.cell (j := 5) rfl
          have Xc6 := X.cell (j := 6) rfl
          have MMc0 := MM.cell (j := 0) rfl
          have MMc1 := MM.cell (j := 1) rfl
          have MMc2 := MM.cell (j := 2) rfl
          have MMc3 := MM.cell (j := 3) rfl
          go_wp2_with fail
          refine (hG).mono ?_
          clear h
          rintro x w5 ⟨rfl, h, b⟩
          clear Xc0 Xc1 Xc2 Xc3 Xc4 Xc5 Xc6 MMc0 MMc1 MMc2 MMc3
          replace X := X.but b Xo
          replace MM := MM.but b MMo
          replace c := c.trans (b.below c.size hw)
          clear b
          have Xc0 := X.cell (j := 0) rfl
          have Xc1 := X.cell (j := 1) rfl
          have Xc2 := X.cell (j := 2) rfl
          have Xc3 := X.cell (j := 3) rfl
          have Xc4 := X.cell (j := 4) rfl
          have Xc5 := X.cell (j := 5) rfl
          have Xc6 := X.cell (j := 6) rfl
          have MMc0 := MM.cell (j := 0) rfl
          have MMc1 := MM.cell (j := 1) rfl
          have MMc2 := MM.cell (j := 2) rfl
          have MMc3 := MM.cell (j := 3) rfl
          go_wp2_with fail
          refine (HF _).mono ?_
          rintro x w6 ⟨rfl, b⟩
          clear Xc0 Xc1 Xc2 Xc3 Xc4 Xc5 Xc6 MMc0 MMc1 MMc2 MMc3
          replace X := X.below b
          replace MM := MM.below b
          replace h := Orc.below h b
          replace c := c.trans (b.mono c.size)
          clear b
          have Xc0 := X.cell (j := 0) rfl
          have Xc1 := X.cell (j := 1) rfl
          have Xc2 := X.cell (j := 2) rfl
          have Xc3 := X.cell (j := 3) rfl
          have Xc4 := X.cell (j := 4) rfl
          have Xc5 := X.cell (j := 5) rfl
          have Xc6 := X.cell (j := 6) rfl
          have MMc0 := MM.cell (j := 0) rfl
          have MMc1 := MM.cell (j := 1) rfl
          have MMc2 := MM.cell (j := 2) rfl
          have MMc3 := MM.cell (j := 3) rfl
          go_wp2_with fail
          refine (hB _ h).mono ?_
          rintro x w7 ⟨rfl, b⟩
          clear Xc0 Xc1 Xc2 Xc3 Xc4 Xc5 Xc6 MMc0 MMc1 MMc2 MMc3
          replace X := X.below b
          replace MM := MM.below b
          replace h := Orc.below h b
          replace c := c.trans (b.mono c.size)
          clear b
          have Xc0 := X.cell (j := 0) rfl
          have Xc1 := X.cell (j := 1) rfl
          have Xc2 := X.cell (j := 2) rfl
          have Xc3 := X.cell (j := 3) rfl
          have Xc4 := X.cell (j := 4) rfl
          have Xc5 := X.cell (j := 5) rfl
          have Xc6 := X.cell (j := 6) rfl
          have MMc0 := MM.cell (j := 0) rfl
          have MMc1 := MM.cell (j := 1) rfl
          have MMc2 := MM.cell (j := 2) rfl
          have MMc3 := MM.cell (j := 3) rfl
          go_wp2
          go_ret
          exact ⟨rfl, c⟩
end Go.Proofs.Ytgdpamfphjehaaa.Keeps5
