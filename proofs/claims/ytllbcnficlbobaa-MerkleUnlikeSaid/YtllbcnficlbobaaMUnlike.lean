/-
  MerkleUnlike: if nothing bad happened, two trees of one depth have one root just if they have the same leaves (where there are fewer, empty ones behind them): the walk.
-/
import Derived.Test.YtllbcnficlbobaaMerQ
namespace Go.Proofs.Ytllbcnficlbobaa.Unlike6
open Go.RowKit Go.ChangeShapes Go.WideShapes Go.ChangeAt
open Ideal Ida Mer Mera

theorem same_iff (ls ms : List ByteArray) {d n : Nat} (h1 : ls.length ≤ 2 ^ d) (h2 : ms.length ≤ 2 ^ d) (hn : n = max ms.length ls.length) : (∀ i, i < 2 ^ d → ls.getD i .empty = ms.getD i .empty) ↔ ∀ i, i < n → ms.getD i .empty = ls.getD i .empty := by
  have he : ∀ (l : List ByteArray) i, l.length ≤ i → l.getD i .empty = .empty := fun l i h => by rw [List.getD_eq_getElem?_getD, List.getElem?_eq_none h]; rfl
  constructor
  · intro h i hi
    exact (h i (by omega)).symm
  · intro h i hi
    rcases Nat.lt_or_ge i n with hl | hl
    · exact (h i hl).symm
    · rw [he ls i (by omega), he ms i (by omega)]
theorem upto_succ (ls ms : List ByteArray) (k : Nat) : (∀ i, i < k + 1 → ms.getD i .empty = ls.getD i .empty) ↔ (∀ i, i < k → ms.getD i .empty = ls.getD i .empty) ∧ ms.getD k .empty = ls.getD k .empty := by
  constructor
  · intro h
    exact ⟨fun i hi => h i (by omega), h k (by omega)⟩
  · rintro ⟨h, h2⟩ i hi
    rcases Nat.lt_succ_iff_lt_or_eq.1 hi with h3 | rfl
    · exact h i h3
    · exact h2
theorem getD_out (l : List ByteArray) {k : Nat} (h : ¬ k < l.length) : l.getD k .empty = ⟨#[]⟩ := by rw [List.getD_eq_getElem?_getD, List.getElem?_eq_none (by omega)]; rfl
open Classical in
noncomputable def sm (ls ms : List ByteArray) (k : Nat) : Bool := decide (∀ i, i < k → ms.getD i .empty = ls.getD i .empty)
theorem sm_zero (ls ms : List ByteArray) : sm ls ms 0 = true := decide_eq_true fun _ hi => absurd hi (Nat.not_lt_zero _)
theorem sm_no {ls ms : List ByteArray} {k : Nat} (h : sm ls ms k = false) : sm ls ms (k + 1) = false := decide_eq_false fun hh => (of_decide_eq_false h) ((upto_succ ls ms k).1 hh).1
theorem sm_yes {ls ms : List ByteArray} {k : Nat} (h : sm ls ms k = true) (e : ms.getD k .empty = ls.getD k .empty) : sm ls ms (k + 1) = true := decide_eq_true ((upto_succ ls ms k).2 ⟨of_decide_eq_true h, e⟩)
theorem sm_not {ls ms : List ByteArray} {k : Nat} (e : ¬ ms.getD k .empty = ls.getD k .empty) : sm ls ms (k + 1) = false := decide_eq_false fun hh => e ((upto_succ ls ms k).1 hh).2
theorem sm_iff (ls ms : List ByteArray) (k : Nat) : sm ls ms k = true ↔ ∀ i, i < k → ms.getD i .empty = ls.getD i .empty := decide_eq_true_iff

set_option maxRecDepth 100000 in
set_option maxHeartbeats 16000000 in
theorem unlike_any (l : List Nat) (hl : l.length * 8 ≤ 140737488355328) (hx : ∀ x ∈ l, x < 18446744073709551616) (dd : Int) (hd1 : -9223372036854775808 ≤ dd) (hd2 : dd ≤ 9223372036854775807) (ls : List ByteArray) (hls : ∀ t ∈ ls, t.size ≤ 140737488351232) (ms : List ByteArray) (hms : ∀ t ∈ ms, t.size ≤ 140737488351232) (dv lv mv : Value) (w : World) (rl : Kit.Sl w dv (nums l)) (ol : Kit.Off (fun _ => False) w lv (strs ls)) (om : Kit.Off (fun _ => False) w mv (strs ms)) :
    Calls Try.prog 8 #[.agg #[dv, .int .i64 dd, lv], mv] w fun e W' => e = .returned (.bool true) ∧ Below w.heap.size w W' := by
  obtain ⟨la, lc, rfl, hlc, hlm⟩ := ol.form
  obtain ⟨ma, mc, rfl, hmc, hmm⟩ := om.form
  have es : ∀ l : List ByteArray, (strs l).length = l.length := fun l => by simp [strs]
  rw [es] at ol hlc ⊢
  rw [es] at om hmc ⊢
  have X := Box.new w #[dv, .int .i64 dd, .slice la ls.length lc] 25
  have c := below_lit w (.cells #[dv, .int .i64 dd, .slice la ls.length lc] 25)
  have HN := new_any l hl hx dv _ (rl.below c)
  have HF := fixed_any
  clear rl hlc hlm hmc hmm hx hl es
  go_enter Try.func8, Try.ntmps8
  have Xc0 := X.cell (j := 0) rfl
  have Xc1 := X.cell (j := 1) rfl
  have Xc2 := X.cell (j := 2) rfl
  go_wp2_with fail
  refine HN.mono ?_
  rintro x w1 ⟨M, rfl, h, hin, b⟩
  clear HN
  clear Xc0 Xc1 Xc2
  have Xo : ¬ M.own w.heap.size := fun ho => by have := (hin.own _ ho).1; simp at this; omega
  have hw : ∀ i, M.own i → w.heap.size ≤ i := fun i hi => by have := (hin.own i hi).1; simp at this; omega
  have LV := arg_off ol hw c
  have MV := arg_off om hw c
  clear hin ol om
  replace X := X.below b
  replace LV := LV.below b
  replace MV := MV.below b
  replace c := c.trans (b.mono c.size)
  clear b
  have hrows : (Or.new l).rows = [] := rfl
  have hinv := Or.inv_new l
  have hfO : (Or.new l).fine := h.2
  generalize Or.new l = Om at *
  by_cases hok : Or.may dd ls
  · obtain ⟨d, rfl⟩ : ∃ d : Nat, dd = (d : Int) := ⟨dd.toNat, by have := hok.1; omega⟩
    have hd8 : d ≤ 8 := by have := hok.2.1; omega
    have hlsd : ls.length ≤ 2 ^ d := by have := hok.2.2; simpa using this
    clear hok
    have HB := build_yes h (by rw [hrows]; decide) d hd8 ls (fun t ht => leaf_fits (hls t ht)) hlsd _ LV
    have h9 := h
    clear h
    have Xc0 := X.cell (j := 0) rfl
    have Xc1 := X.cell (j := 1) rfl
    have Xc2 := X.cell (j := 2) rfl
    go_wp2_with fail
    refine HB.mono ?_
    clear HB
    rintro x w2 ⟨va, rfl, TA, h, b⟩
    clear Xc0 Xc1 Xc2
    replace TA := tree_off h9 TA
    clear h9
    replace X := X.but b Xo
    replace LV := LV.but b
    replace MV := MV.but b
    replace c := c.trans (b.below c.size hw)
    clear b
    obtain ⟨vaa, vac, rfl, -, -⟩ := TA.form
    rw [Or.tree_length] at TA ⊢
    have hfw := Or.lv_few (O := Om) ls hd8 (Nat.le_refl d)
    have hr0 : Om.rows.length = 0 := by rw [hrows]; rfl
    have hfw2 : (Om.built ls d).rows.length ≤ 512 := Nat.le_trans (show (Om.built ls d).rows.length ≤ Om.rows.length + 512 from hfw) (by omega)
    clear hfw
    by_cases hok : Or.may (d : Int) ms
    · have hmsd : ms.length ≤ 2 ^ d := by have := hok.2.2; simpa using this
      have hun := Or.unlike_all (O := Om) hfO hinv (by omega) ls ms hd8
      clear hok
      have HB := build_yes h (by omega) d hd8 ms (fun t ht => leaf_fits (hms t ht)) hmsd _ MV
      have h9 := h
      clear h
      have Xc0 := X.cell (j := 0) rfl
      have Xc1 := X.cell (j := 1) rfl
      have Xc2 := X.cell (j := 2) rfl
      go_wp2_with fail
      refine HB.mono ?_
      clear HB
      rintro x w3 ⟨vb, rfl, TB, h, b⟩
      clear Xc0 Xc1 Xc2
      replace TB := tree_off h9 TB
      clear h9
      replace X := X.but b Xo
      replace LV := LV.but b
      replace MV := MV.but b
      replace TA := TA.but b
      replace c := c.trans (b.below c.size hw)
      clear b
      obtain ⟨vba, vbc, rfl, -, -⟩ := TB.form
      rw [Or.tree_length] at TB ⊢
      by_cases hb0 : ((Om.built ls d).built ms d).bads = 0
      · replace hun := hun hb0
        have hd0 : decide (0 < ((Om.built ls d).built ms d).bads) = false := decide_eq_false (by omega)
        obtain ⟨aa, ra, rac, e9, rt1, rt2, rl2, rl1⟩ := root_at TA
        obtain ⟨ab, rb, rbc, e8, rt3, rt4, rl4, rl3⟩ := root_at TB
        subst e9
        subst e8
        obtain ⟨root, hroot⟩ : ∃ r, r = ((Om.lv ls d d).2).getD 0 0 := ⟨_, rfl⟩
        obtain ⟨rootb, hrootb⟩ : ∃ r, r = (((Om.built ls d).lv ms d d).2).getD 0 0 := ⟨_, rfl⟩
        rw [← hroot] at hun rt2
        rw [← hrootb] at hun rt4
        rw [same_iff ls ms hlsd hmsd rfl, ← sm_iff] at hun
        have hN0 : max ms.length ls.length ≤ 256 := by have := Or.pow_le hd8; omega
        generalize (Om.built ls d).built ms d = O3 at *
        have hd9 : (0 : Int) ≤ (d : Int) := by omega
        have hd10 : (d : Int) < (d : Int) + 1 := by omega
        clear hroot hrootb TA TB hfw2 hr0 hinv hrows hb0 hlsd hmsd hfO hd8
        have Xc0 := X.cell (j := 0) rfl
        have Xc1 := X.cell (j := 1) rfl
        have Xc2 := X.cell (j := 2) rfl
        go_wp2_with fail
        refine (HF _).mono ?_
        rintro x w4 ⟨rfl, b⟩
        clear Xc0 Xc1 Xc2
        replace rt1 := (b.cell rl1).trans rt1
        replace rt2 := (b.cell rl2).trans rt2
        replace rt3 := (b.cell rl3).trans rt3
        replace rt4 := (b.cell rl4).trans rt4
        replace rl1 := Nat.lt_of_lt_of_le rl1 b.size
        replace rl2 := Nat.lt_of_lt_of_le rl2 b.size
        replace rl3 := Nat.lt_of_lt_of_le rl3 b.size
        replace rl4 := Nat.lt_of_lt_of_le rl4 b.size
        replace X := X.below b
        replace LV := LV.below b
        replace MV := MV.below b
        replace h := h.below b
        replace c := c.trans (b.mono c.size)
        clear b
        have HH := o_bad h
        have Xc0 := X.cell (j := 0) rfl
        have Xc1 := X.cell (j := 1) rfl
        have Xc2 := X.cell (j := 2) rfl
        go_wp2_with fail
        refine (HH).mono ?_
        rintro x w5 ⟨rfl, b⟩
        clear HH
        clear Xc0 Xc1 Xc2
        replace rt1 := (b.cell rl1).trans rt1
        replace rt2 := (b.cell rl2).trans rt2
        replace rt3 := (b.cell rl3).trans rt3
        replace rt4 := (b.cell rl4).trans rt4
        replace rl1 := Nat.lt_of_lt_of_le rl1 b.size
        replace rl2 := Nat.lt_of_lt_of_le rl2 b.size
        replace rl3 := Nat.lt_of_lt_of_le rl3 b.size
        replace rl4 := Nat.lt_of_lt_of_le rl4 b.size
        replace X := X.below b
        replace LV := LV.below b
        replace MV := MV.below b
        replace h := h.below b
        replace c := c.trans (b.mono c.size)
        clear b

        have Xc0 := X.cell (j := 0) rfl
        have Xc1 := X.cell (j := 1) rfl
        have Xc2 := X.cell (j := 2) rfl
        go_wp2
        clear Xc0 Xc1 Xc2
        clear hd0 h
        generalize hN : max ms.length ls.length = N at *
        have HN := Lib.hid hN
        clear hN
        go_loopw [10, 11] (fun vs vi wr => ∃ k : Nat, k ≤ N ∧ vi = .int .i64 (k : Int) ∧ vs = .bool (sm ls ms k) ∧ Below w5.heap.size w5 wr) (fun _ vi _ => N - (intOf vi).toNat)
        case atStart => exact ⟨0, Nat.zero_le _, rfl, by rw [sm_zero], Below.refl _ _⟩
        case round =>
          obtain ⟨k, hk, rfl, rfl, b⟩ := hrel
          replace X := X.below b
          replace LV := LV.below b
          replace MV := MV.below b
          have hki : (0 : Int) ≤ (k : Int) := by omega
          by_cases h1 : k < ms.length
          · by_cases h2 : k < ls.length
            · have hkN : k < N := by have := HN.out; omega
              have i1 : (k : Int) < (ms.length : Int) := by omega
              obtain ⟨am, rfl, hcm⟩ := MV.at_ (k := k) (u := .string (ms.getD k .empty)) (by simp [strs, h1])
              obtain ⟨ta, hta⟩ : ∃ t, t = ms.getD k .empty := ⟨_, rfl⟩
              have i3 : (k : Int) < (ls.length : Int) := by omega
              obtain ⟨al, rfl, hcl⟩ := LV.at_ (k := k) (u := .string (ls.getD k .empty)) (by simp [strs, h2])
              obtain ⟨tb, htb⟩ : ∃ t, t = ls.getD k .empty := ⟨_, rfl⟩
              rw [← hta] at hcm
              rw [← htb] at hcl
              cases hsm : sm ls ms k with
              | false =>
                have Hr := Lib.hid (sm_no hsm)
                clear hsm hta htb
                have Xc0 := X.cell (j := 0) rfl
                have Xc1 := X.cell (j := 1) rfl
                have Xc2 := X.cell (j := 2) rfl
                go_wp2
                go_roundw
                case rel => exact ⟨k + 1, hkN, by go_num, by rw [Hr.out], b⟩
                case measure =>
                  simp [intOf]
                  omega
              | true =>
                by_cases e : ta = tb
                · have Hr := Lib.hid (sm_yes hsm (by rw [← hta, ← htb, e]))
                  clear hsm hta htb
                  have e2 : ta.toList = tb.toList := by rw [e]
                  clear e
                  have Xc0 := X.cell (j := 0) rfl
                  have Xc1 := X.cell (j := 1) rfl
                  have Xc2 := X.cell (j := 2) rfl
                  go_wp2
                  go_roundw
                  case rel => exact ⟨k + 1, hkN, by go_num, by rw [Hr.out], b⟩
                  case measure =>
                    simp [intOf]
                    omega
                · have Hr := Lib.hid (sm_not (ls := ls) (ms := ms) (k := k) (by rw [← hta, ← htb]; exact e))
                  clear hsm hta htb
                  have e2 : (ta.toList == tb.toList) = false := by rw [beq_eq_false_iff_ne]; exact fun h => e (bytes_inj h)
                  clear e
                  have Xc0 := X.cell (j := 0) rfl
                  have Xc1 := X.cell (j := 1) rfl
                  have Xc2 := X.cell (j := 2) rfl
                  go_wp2
                  go_roundw
                  case rel => exact ⟨k + 1, hkN, by go_num, by rw [Hr.out], b⟩
                  case measure =>
                    simp [intOf]
                    omega
            · have hkN : k < N := by have := HN.out; omega
              have i1 : (k : Int) < (ms.length : Int) := by omega
              obtain ⟨am, rfl, hcm⟩ := MV.at_ (k := k) (u := .string (ms.getD k .empty)) (by simp [strs, h1])
              obtain ⟨ta, hta⟩ : ∃ t, t = ms.getD k .empty := ⟨_, rfl⟩
              have i3 : decide ((k : Int) < (ls.length : Int)) = false := decide_eq_false (by omega)
              have i4 : decide (k < ls.length) = false := decide_eq_false h2
              obtain ⟨tb, htb⟩ : ∃ t, t = ls.getD k .empty := ⟨_, rfl⟩
              have htb0 : tb = ⟨#[]⟩ := by rw [htb, getD_out ls h2]
              rw [← hta] at hcm
              cases hsm : sm ls ms k with
              | false =>
                have Hr := Lib.hid (sm_no hsm)
                clear hsm hta htb
                subst htb0
                have Xc0 := X.cell (j := 0) rfl
                have Xc1 := X.cell (j := 1) rfl
                have Xc2 := X.cell (j := 2) rfl
                go_wp2
                go_roundw
                case rel => exact ⟨k + 1, hkN, by go_num, by rw [Hr.out], b⟩
                case measure =>
                  simp [intOf]
                  omega
              | true =>
                by_cases e : ta = tb
                · have Hr := Lib.hid (sm_yes hsm (by rw [← hta, ← htb, e]))
                  clear hsm hta htb
                  have e2 : ta.toList = tb.toList := by rw [e]
                  clear e
                  subst htb0
                  have Xc0 := X.cell (j := 0) rfl
                  have Xc1 := X.cell (j := 1) rfl
                  have Xc2 := X.cell (j := 2) rfl
                  go_wp2
                  go_roundw
                  case rel => exact ⟨k + 1, hkN, by go_num, by rw [Hr.out], b⟩
                  case measure =>
                    simp [intOf]
                    omega
                · have Hr := Lib.hid (sm_not (ls := ls) (ms := ms) (k := k) (by rw [← hta, ← htb]; exact e))
                  clear hsm hta htb
                  have e2 : (ta.toList == tb.toList) = false := by rw [beq_eq_false_iff_ne]; exact fun h => e (bytes_inj h)
                  have e3 : ta.toList.isEmpty = false := by
                    cases hh : ta.toList.isEmpty with
                    | false => rfl
                    | true => exact absurd (Ida.bytes_inj ((List.isEmpty_iff.1 hh).trans (by rw [htb0, ByteArray.toList_eq]))) e
                  clear e
                  subst htb0
                  have Xc0 := X.cell (j := 0) rfl
                  have Xc1 := X.cell (j := 1) rfl
                  have Xc2 := X.cell (j := 2) rfl
                  go_wp2
                  go_roundw
                  case rel => exact ⟨k + 1, hkN, by go_num, by rw [Hr.out], b⟩
                  case measure =>
                    simp [intOf]
                    omega
          · by_cases h2 : k < ls.length
            · have hkN : k < N := by have := HN.out; omega
              have i1 : decide ((k : Int) < (ms.length : Int)) = false := decide_eq_false (by omega)
              have i2 : decide (k < ms.length) = false := decide_eq_false h1
              obtain ⟨ta, hta⟩ : ∃ t, t = ms.getD k .empty := ⟨_, rfl⟩
              have hta0 : ta = ⟨#[]⟩ := by rw [hta, getD_out ms h1]
              have i3 : (k : Int) < (ls.length : Int) := by omega
              obtain ⟨al, rfl, hcl⟩ := LV.at_ (k := k) (u := .string (ls.getD k .empty)) (by simp [strs, h2])
              obtain ⟨tb, htb⟩ : ∃ t, t = ls.getD k .empty := ⟨_, rfl⟩
              rw [← htb] at hcl
              cases hsm : sm ls ms k with
              | false =>
                have Hr := Lib.hid (sm_no hsm)
                clear hsm hta htb
                subst hta0
                have Xc0 := X.cell (j := 0) rfl
                have Xc1 := X.cell (j := 1) rfl
                have Xc2 := X.cell (j := 2) rfl
                go_wp2
                go_roundw
                case rel => exact ⟨k + 1, hkN, by go_num, by rw [Hr.out], b⟩
                case measure =>
                  simp [intOf]
                  omega
              | true =>
                by_cases e : ta = tb
                · have Hr := Lib.hid (sm_yes hsm (by rw [← hta, ← htb, e]))
                  clear hsm hta htb
                  have e2 : ta.toList = tb.toList := by rw [e]
                  clear e
                  subst hta0
                  have Xc0 := X.cell (j := 0) rfl
                  have Xc1 := X.cell (j := 1) rfl
                  have Xc2 := X.cell (j := 2) rfl
                  go_wp2
                  go_roundw
                  case rel => exact ⟨k + 1, hkN, by go_num, by rw [Hr.out], b⟩
                  case measure =>
                    simp [intOf]
                    omega
                · have Hr := Lib.hid (sm_not (ls := ls) (ms := ms) (k := k) (by rw [← hta, ← htb]; exact e))
                  clear hsm hta htb
                  have e2 : (ta.toList == tb.toList) = false := by rw [beq_eq_false_iff_ne]; exact fun h => e (bytes_inj h)
                  have e3 : tb.toList.isEmpty = false := by
                    cases hh : tb.toList.isEmpty with
                    | false => rfl
                    | true => exact absurd (Ida.bytes_inj (Eq.trans (by rw [hta0, ByteArray.toList_eq]) (List.isEmpty_iff.1 hh).symm)) e
                  clear e
                  subst hta0
                  have Xc0 := X.cell (j := 0) rfl
                  have Xc1 := X.cell (j := 1) rfl
                  have Xc2 := X.cell (j := 2) rfl
                  go_wp2
                  go_roundw
                  case rel => exact ⟨k + 1, hkN, by go_num, by rw [Hr.out], b⟩
                  case measure =>
                    simp [intOf]
                    omega
            · obtain rfl : k = N := by have := HN.out; omega
              have i1 : decide ((k : Int) < (ms.length : Int)) = false := decide_eq_false (by omega)
              have i2 : decide (k < ms.length) = false := decide_eq_false h1
              have i3 : decide ((k : Int) < (ls.length : Int)) = false := decide_eq_false (by omega)
              have i4 : decide (k < ls.length) = false := decide_eq_false h2
              replace rt1 := (b.cell rl1).trans rt1
              replace rt2 := (b.cell rl2).trans rt2
              replace rt3 := (b.cell rl3).trans rt3
              replace rt4 := (b.cell rl4).trans rt4
              replace rl1 := Nat.lt_of_lt_of_le rl1 b.size
              replace rl2 := Nat.lt_of_lt_of_le rl2 b.size
              replace rl3 := Nat.lt_of_lt_of_le rl3 b.size
              replace rl4 := Nat.lt_of_lt_of_le rl4 b.size
              replace c := c.trans (b.mono c.size)
              clear HN h1 h2 hk b hki
              cases hsm : sm ls ms k with
              | false =>
                have e1 : ¬ root = rootb := fun h => by rw [hun.1 h] at hsm; cases hsm
                have g1 : ((root : Int) == (rootb : Int)) = false := by rw [beq_eq_false_iff_ne]; omega
                have g2 : (root == rootb) = false := by rw [beq_eq_false_iff_ne]; exact e1
                have Xc0 := X.cell (j := 0) rfl
                have Xc1 := X.cell (j := 1) rfl
                have Xc2 := X.cell (j := 2) rfl
                clear hun hsm e1
                go_wp2
                go_quiet (fail)
                go_wp2
                go_ret
                exact ⟨rfl, below_drewN c _⟩
              | true =>
                have e1 : root = rootb := hun.2 hsm
                subst e1
                have Xc0 := X.cell (j := 0) rfl
                have Xc1 := X.cell (j := 1) rfl
                have Xc2 := X.cell (j := 2) rfl
                clear hun hsm
                go_wp2
                go_quiet (fail)
                go_wp2
                go_ret
                exact ⟨rfl, below_drewN c _⟩
      · have hd0 : decide (0 < ((Om.built ls d).built ms d).bads) = true := decide_eq_true (by omega)
        clear hun hb0
        have Xc0 := X.cell (j := 0) rfl
        have Xc1 := X.cell (j := 1) rfl
        have Xc2 := X.cell (j := 2) rfl
        go_wp2_with fail
        refine (HF _).mono ?_
        rintro x w4 ⟨rfl, b⟩
        clear Xc0 Xc1 Xc2
        replace X := X.below b
        replace LV := LV.below b
        replace MV := MV.below b
        replace TA := TA.below b
        replace TB := TB.below b
        replace h := h.below b
        replace c := c.trans (b.mono c.size)
        clear b
        have HH := o_bad h
        have Xc0 := X.cell (j := 0) rfl
        have Xc1 := X.cell (j := 1) rfl
        have Xc2 := X.cell (j := 2) rfl
        go_wp2_with fail
        refine HH.mono ?_
        clear HH
        rintro x w5 ⟨rfl, b⟩
        clear Xc0 Xc1 Xc2
        replace X := X.below b
        replace LV := LV.below b
        replace MV := MV.below b
        replace TA := TA.below b
        replace TB := TB.below b
        replace h := h.below b
        replace c := c.trans (b.mono c.size)
        clear b
        have Xc0 := X.cell (j := 0) rfl
        have Xc1 := X.cell (j := 1) rfl
        have Xc2 := X.cell (j := 2) rfl
        go_wp2_with fail
        refine (HF _).mono ?_
        rintro x w6 ⟨rfl, b⟩
        clear Xc0 Xc1 Xc2
        replace X := X.below b
        replace LV := LV.below b
        replace MV := MV.below b
        replace TA := TA.below b
        replace TB := TB.below b
        replace h := h.below b
        replace c := c.trans (b.mono c.size)
        clear b
        have Xc0 := X.cell (j := 0) rfl
        have Xc1 := X.cell (j := 1) rfl
        have Xc2 := X.cell (j := 2) rfl
        go_wp2
        go_ret
        exact ⟨rfl, c⟩
    · have HB := build_no h d hd1 hd2 ms hok _ MV.rd
      clear hok
      have HH := HB
      clear HB
      have Xc0 := X.cell (j := 0) rfl
      have Xc1 := X.cell (j := 1) rfl
      have Xc2 := X.cell (j := 2) rfl
      go_wp2_with fail
      refine HH.mono ?_
      clear HH
      rintro x w3 ⟨rfl, b⟩
      clear Xc0 Xc1 Xc2
      replace X := X.below b
      replace LV := LV.below b
      replace MV := MV.below b
      replace TA := TA.below b
      replace h := h.below b
      replace c := c.trans (b.mono c.size)
      clear b
      have Xc0 := X.cell (j := 0) rfl
      have Xc1 := X.cell (j := 1) rfl
      have Xc2 := X.cell (j := 2) rfl
      go_wp2_with fail
      refine (HF _).mono ?_
      rintro x w4 ⟨rfl, b⟩
      clear Xc0 Xc1 Xc2
      replace X := X.below b
      replace LV := LV.below b
      replace MV := MV.below b
      replace TA := TA.below b
      replace h := h.below b
      replace c := c.trans (b.mono c.size)
      clear b
      have Xc0 := X.cell (j := 0) rfl
      have Xc1 := X.cell (j := 1) rfl
      have Xc2 := X.cell (j := 2) rfl
      go_wp2_with fail
      refine (HF _).mono ?_
      rintro x w5 ⟨rfl, b⟩
      clear Xc0 Xc1 Xc2
      replace X := X.below b
      replace LV := LV.below b
      replace MV := MV.below b
      replace TA := TA.below b
      replace h := h.below b
      replace c := c.trans (b.mono c.size)
      clear b
      have Xc0 := X.cell (j := 0) rfl
      have Xc1 := X.cell (j := 1) rfl
      have Xc2 := X.cell (j := 2) rfl
      go_wp2
      go_ret
      exact ⟨rfl, c⟩
  · have HB := build_no h dd hd1 hd2 ls hok _ LV.rd
    have HH := HB
    clear HB
    have Xc0 := X.cell (j := 0) rfl
    have Xc1 := X.cell (j := 1) rfl
    have Xc2 := X.cell (j := 2) rfl
    go_wp2_with fail
    refine HH.mono ?_
    clear HH
    rintro x w2 ⟨rfl, b⟩
    clear Xc0 Xc1 Xc2
    replace X := X.below b
    replace LV := LV.below b
    replace MV := MV.below b
    replace h := h.below b
    replace c := c.trans (b.mono c.size)
    clear b
    by_cases hok2 : Or.may dd ms
    · obtain ⟨d, rfl⟩ : ∃ d : Nat, dd = (d : Int) := ⟨dd.toNat, by have := hok2.1; omega⟩
      have hd8 : d ≤ 8 := by have := hok2.2.1; omega
      have hmsd : ms.length ≤ 2 ^ d := by have := hok2.2.2; simpa using this
      clear hok hok2
      have HB := build_yes h (by rw [hrows]; decide) d hd8 ms (fun t ht => leaf_fits (hms t ht)) hmsd _ MV
      have h9 := h
      clear h
      have Xc0 := X.cell (j := 0) rfl
      have Xc1 := X.cell (j := 1) rfl
      have Xc2 := X.cell (j := 2) rfl
      go_wp2_with fail
      refine HB.mono ?_
      clear HB
      rintro x w3 ⟨vb, rfl, TB, h, b⟩
      clear Xc0 Xc1 Xc2
      replace TB := tree_off h9 TB
      clear h9
      replace X := X.but b Xo
      replace LV := LV.but b
      replace MV := MV.but b
      replace c := c.trans (b.below c.size hw)
      clear b
      obtain ⟨vba, vbc, rfl, -, -⟩ := TB.form
      rw [Or.tree_length] at TB ⊢
      have Xc0 := X.cell (j := 0) rfl
      have Xc1 := X.cell (j := 1) rfl
      have Xc2 := X.cell (j := 2) rfl
      go_wp2_with fail
      refine (HF _).mono ?_
      rintro x w4 ⟨rfl, b⟩
      clear Xc0 Xc1 Xc2
      replace X := X.below b
      replace LV := LV.below b
      replace MV := MV.below b
      replace TB := TB.below b
      replace h := h.below b
      replace c := c.trans (b.mono c.size)
      clear b
      have Xc0 := X.cell (j := 0) rfl
      have Xc1 := X.cell (j := 1) rfl
      have Xc2 := X.cell (j := 2) rfl
      go_wp2_with fail
      refine (HF _).mono ?_
      rintro x w5 ⟨rfl, b⟩
      clear Xc0 Xc1 Xc2
      replace X := X.below b
      replace LV := LV.below b
      replace MV := MV.below b
      replace TB := TB.below b
      replace h := h.below b
      replace c := c.trans (b.mono c.size)
      clear b
      have Xc0 := X.cell (j := 0) rfl
      have Xc1 := X.cell (j := 1) rfl
      have Xc2 := X.cell (j := 2) rfl
      go_wp2
      go_ret
      exact ⟨rfl, c⟩
    · have HB := build_no h dd hd1 hd2 ms hok2 _ MV.rd
      clear hok hok2
      have HH := HB
      clear HB
      have Xc0 := X.cell (j := 0) rfl
      have Xc1 := X.cell (j := 1) rfl
      have Xc2 := X.cell (j := 2) rfl
      go_wp2_with fail
      refine HH.mono ?_
      clear HH
      rintro x w3 ⟨rfl, b⟩
      clear Xc0 Xc1 Xc2
      replace X := X.below b
      replace LV := LV.below b
      replace MV := MV.below b
      replace h := h.below b
      replace c := c.trans (b.mono c.size)
      clear b
      have Xc0 := X.cell (j := 0) rfl
      have Xc1 := X.cell (j := 1) rfl
      have Xc2 := X.cell (j := 2) rfl
      go_wp2_with fail
      refine (HF _).mono ?_
      rintro x w4 ⟨rfl, b⟩
      clear Xc0 Xc1 Xc2
      replace X := X.below b
      replace LV := LV.below b
      replace MV := MV.below b
      replace h := h.below b
      replace c := c.trans (b.mono c.size)
      clear b
      have Xc0 := X.cell (j := 0) rfl
      have Xc1 := X.cell (j := 1) rfl
      have Xc2 := X.cell (j := 2) rfl
      go_wp2_with fail
      refine (HF _).mono ?_
      rintro x w5 ⟨rfl, b⟩
      clear Xc0 Xc1 Xc2
      replace X := X.below b
      replace LV := LV.below b
      replace MV := MV.below b
      replace h := h.below b
      replace c := c.trans (b.mono c.size)
      clear b
      have Xc0 := X.cell (j := 0) rfl
      have Xc1 := X.cell (j := 1) rfl
      have Xc2 := X.cell (j := 2) rfl
      go_wp2
      go_ret
      exact ⟨rfl, c⟩
end Go.Proofs.Ytllbcnficlbobaa.Unlike6
