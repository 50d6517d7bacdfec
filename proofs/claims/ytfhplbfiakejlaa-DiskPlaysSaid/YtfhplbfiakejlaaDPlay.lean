/-
  DiskPlays: what a disk answers to any acts, crashes among them, and what is safe on it then, is as the document says: the walk, for every input.
-/
import Derived.Test.YtfhplbfiakejlaaDskP
import Derived.BigQuiet
namespace Go.Proofs.Ytfhplbfiakejlaa.Plays8
open Go.RowKit
open Dsk

set_option maxRecDepth 100000 in
set_option maxHeartbeats 8000000 in
theorem plays_bad (n s : Int) (hc : Dk.can n s = false) (l : List Ac) (v : Value) (w : World) (hl : Acts w v l) :
    Calls Try.prog 3 #[.agg #[.int .i64 n, .int .i64 s, v]] w fun e w' => e = .returned (.bool true) ∧ Below w.heap.size w w' := by
  obtain ⟨la, lc, rfl⟩ := hl.form
  have X := Box.new w #[.int .i64 n, .int .i64 s, .slice la l.length lc] 24
  have c0 := below_lit w (.cells #[.int .i64 n, .int .i64 s, .slice la l.length lc] 24)
  have HN := fun w' => new_bad n s hc w'
  have HR := fun w' => rNew_bad n s hc w'
  have HF := fixed_any
  have x0 : (w.alloc (.cells #[.int .i64 n, .int .i64 s, .slice la l.length lc] 24)).cell? ⟨w.heap.size, 0, none⟩ = some (.int .i64 n) := X.cell (j := 0) rfl
  have x1 : (w.alloc (.cells #[.int .i64 n, .int .i64 s, .slice la l.length lc] 24)).cell? ⟨w.heap.size, 1, none⟩ = some (.int .i64 s) := X.cell (j := 1) rfl
  have z0 : (w.alloc (.cells #[.int .i64 n, .int .i64 s, .slice la l.length lc] 24)).heap.size = w.heap.size + 1 := World.size_alloc _ _
  have CC := Lib.hid (And.intro X (And.intro c0 z0))
  clear hc X c0 z0
  go_enter Try.func3, Try.ntmps3
  go_wp2_with fail
  refine (HN _).mono ?_
  rintro e w1 ⟨rfl, b1⟩
  have X1 := CC.out.1.below b1
  have c1 := CC.out.2.1.trans (b1.mono (Nat.le_of_lt (by rw [CC.out.2.2]; exact Nat.lt_succ_self _)))
  clear x0 x1 b1 HN CC
  have x0 : w1.cell? ⟨w.heap.size, 0, none⟩ = some (.int .i64 n) := X1.cell (j := 0) rfl
  have x1 : w1.cell? ⟨w.heap.size, 1, none⟩ = some (.int .i64 s) := X1.cell (j := 1) rfl
  clear X1
  go_wp2_with fail
  refine (HR _).mono ?_
  rintro e w2 ⟨rfl, b2⟩
  have c2 := c1.trans (b2.mono c1.size)
  clear x0 x1 b2 c1 HR
  go_wp2_with fail
  refine (HF _).mono ?_
  rintro e w3 ⟨rfl, b3⟩
  have c3 := c2.trans (b3.mono c2.size)
  clear b3 c2
  go_wp2
  go_ret
  exact ⟨rfl, c3⟩

set_option maxRecDepth 100000 in
set_option maxHeartbeats 20000000 in
theorem plays_good (n s : Nat) (hc : Dk.can n s = true) (l : List Ac) (v : Value) (w : World) (hl : Acts w v l) :
    Calls Try.prog 3 #[.agg #[.int .i64 (n : Int), .int .i64 (s : Int), v]] w fun e w' => e = .returned (.bool true) ∧ Below w.heap.size w w' := by
  have HL := Lib.hid hl
  obtain ⟨la, lc, rfl⟩ := hl.form
  have X := Box.new w #[.int .i64 (n : Int), .int .i64 (s : Int), .slice la l.length lc] 24
  have c0 := below_lit w (.cells #[.int .i64 (n : Int), .int .i64 (s : Int), .slice la l.length lc] 24)
  have HN := fun w' => new_good n s hc w'
  have HR := fun w' => rNew_good n s hc w'
  have HF := fixed_any
  have hcn := of_decide_eq_true hc
  have HNN := Lib.hid (show n ≤ 256 by omega)
  have x0 : (w.alloc (.cells #[.int .i64 (n : Int), .int .i64 (s : Int), .slice la l.length lc] 24)).cell? ⟨w.heap.size, 0, none⟩ = some (.int .i64 (n : Int)) := X.cell (j := 0) rfl
  have x1 : (w.alloc (.cells #[.int .i64 (n : Int), .int .i64 (s : Int), .slice la l.length lc] 24)).cell? ⟨w.heap.size, 1, none⟩ = some (.int .i64 (s : Int)) := X.cell (j := 1) rfl
  have z0 : (w.alloc (.cells #[.int .i64 (n : Int), .int .i64 (s : Int), .slice la l.length lc] 24)).heap.size = w.heap.size + 1 := World.size_alloc _ _
  have CC := Lib.hid (And.intro X (And.intro c0 z0))
  clear hc X c0 z0 hcn hl
  go_enter Try.func3, Try.ntmps3
  go_wp2_with fail
  refine (HN _).mono ?_
  rintro e w1 ⟨p, K, rfl, h1, hK, b1⟩
  have hK : ∀ i, K i → w.heap.size + 1 ≤ i := fun i hi => by have := hK i hi; rwa [CC.out.2.2] at this
  have z1 : w.heap.size + 1 ≤ w1.heap.size := by have := b1.size; rwa [CC.out.2.2] at this
  have X1 := CC.out.1.below b1
  have c1 := CC.out.2.1.trans (b1.mono (Nat.le_of_lt (by rw [CC.out.2.2]; exact Nat.lt_succ_self _)))
  clear x0 x1 b1 HN CC
  have x0 : w1.cell? ⟨w.heap.size, 0, none⟩ = some (.int .i64 (n : Int)) := X1.cell (j := 0) rfl
  have x1 : w1.cell? ⟨w.heap.size, 1, none⟩ = some (.int .i64 (s : Int)) := X1.cell (j := 1) rfl
  have XC := Lib.hid (And.intro X1 c1)
  clear X1 c1
  go_wp2_with fail
  refine (HR _).mono ?_
  rintro e w2 ⟨q, M, rfl, h2, hM, b2⟩
  have P2 : Pair (w.heap.size + 1) w1 w2 p K (Dk.new n s) q M (Dk.new n s) := Two.of h1 hK (Below.refl _ _) z1 b2 h2 hM
  have hD : mk n s l 0 = Dk.new n s := by simp [mk, Dk.acts]
  rw [← hD] at P2
  clear x0 x1 b2 h1 hK h2 hM HR hD z1
  go_wp2_with fail
  refine (HF _).mono ?_
  rintro e w3 ⟨rfl, b3⟩
  have P3 := P2.below b3
  clear b3 P2 HF
  go_wp2
  go_loopw [7] (fun vi wr => ∃ (i : Nat) (K M : Nat → Prop), i ≤ l.length ∧ i ≤ 200 ∧ vi = .int .i64 (i : Int) ∧ Pair (w.heap.size + 1) w1 wr p K (mk n s l i) q M (mk n s l i))
    (fun vi _ => 200 - (intOf vi).toNat)
  case atStart => exact ⟨0, K, M, Nat.zero_le _, by omega, rfl, P3⟩
  case round =>
    obtain ⟨i, K1, M1, hi1, hi2, rfl, P⟩ := hrel
    clear P3
    have X2 := XC.out.1.low P.low (Nat.lt_succ_self _)
    have cw := XC.out.2.trans (P.low.mono (Nat.le_succ _))
    have q2 : wr.cell? ⟨w.heap.size, 2, none⟩ = some (.slice la l.length lc) := X2.cell (j := 2) rfl
    clear X2
    by_cases hlt : i < l.length
    · have g1 : (i : Int) < (l.length : Int) := by omega
      by_cases hlt2 : i < 200
      · have g2 : (i : Int) < 200 := by omega
        obtain ⟨c, hc⟩ : ∃ c, l[i]? = some c := ⟨_, List.getElem?_eq_getElem hlt⟩
        have hKw : ∀ j, K1 j → w.heap.size ≤ j := fun j hj => by have := P.dk j hj; omega
        obtain ⟨ad, ka, kc, rfl, a0, a1, a2, a3, hr⟩ := HL.out.at_ cw hKw hc
        have hpd := mk_pend n s l i
        have H1 := do_any P.d (by omega) c ka kc hr
        have es := mk_succ (n := n) (s := s) hc
        rw [← es] at H1
        have H2 := fun w' (P' : Ref w' q M1 (mk n s l i)) ka kc hr => @rDo_any w' q M1 (mk n s l i) P' (by omega) c ka kc hr
        rw [← es] at H2
        have e3 : wrap64 ((i : Int) + 1) = (i : Int) + 1 := by unfold wrap64; omega
        have FF := Lib.hid (And.intro P hc)
        generalize hD2 : mk n s l (i + 1) = D2 at *
        have HD := Lib.hid hD2
        generalize (mk n s l i).said c = tx at *
        generalize (mk n s l i).done c = ty at *
        clear hc hr P hKw hpd es hD2 cw
        go_wp2_with fail
        refine H1.mono ?_
        rintro e w5 ⟨rfl, K5, h5, st⟩
        have P5 := FF.out.1.left st h5
        have X5 := XC.out.1.low P5.low (Nat.lt_succ_self _)
        have c5 := XC.out.2.trans (P5.low.mono (Nat.le_succ _))
        clear q2 a0 a1 a2 a3 H1 st h5
        have q2 : w5.cell? ⟨w.heap.size, 2, none⟩ = some (.slice (some ad) l.length lc) := X5.cell (j := 2) rfl
        have hMw : ∀ j, M1 j → w.heap.size ≤ j := fun j hj => by have := P5.em j hj; omega
        obtain ⟨ad', ka, kc, e, a0, a1, a2, a3, hr⟩ := HL.out.at_ c5 hMw FF.out.2
        cases e
        have H3 := H2 _ P5.e ka kc hr
        have PP := Lib.hid P5
        clear X5 c5 hMw hr P5 H2
        go_wp2_with fail
        refine H3.mono ?_
        rintro e w6 ⟨rfl, M6, h6, st⟩
        have P6 := PP.out.right st h6
        clear q2 a0 a1 a2 a3 H3 st h6 PP
        obtain ⟨eg, esc, epv, hE⟩ := P6.e
        obtain ⟨ea, ec, rfl, -, -⟩ := hE.form
        have ce : w6.cell? ⟨q, 2, none⟩ = some (.slice ea D2.pend.length ec) := hE.c2
        have HQ := fun n => pending_same (P6.d.drewN n)
        have PP := Lib.hid (And.intro P6 hE)
        clear P6 hE
        go_wp2_with fail
        go_quiet (first | (go_at_call 13; exact Calls.quiet_of_same (HQ _)))
        all_goals (have P7 := PP.out.1.below (Dsk.below_drewN w6 nq))
        all_goals (clear ce HQ PP)
        all_goals go_wp2
        all_goals go_roundw
        all_goals first
          | exact ⟨i + 1, K5, M6, hlt, by omega, by first | rfl | (rw [e3]; rfl), by rw [HD.out]; exact P7⟩
          | (have l5 : (intOf (.int .i64 (wrap64 ((i : Int) + 1)))).toNat = i + 1 := by rw [e3]; rfl
             have l7 : (intOf (.int .i64 ((i : Int) + 1))).toNat = i + 1 := rfl
             have l6 : (intOf (.int .i64 (i : Int))).toNat = i := rfl
             first | rw [l5, l6] | rw [l7, l6]
             exact Nat.sub_lt_sub_left hlt2 (Nat.lt_succ_self i))
      · obtain rfl : i = 200 := by omega
        have hmk := mk_same n s l 200
        have hpd := mk_pend n s l 200
        generalize mk n s l 200 = D at *
        obtain ⟨eg, esc, epv, hE⟩ := P.e
        have hEc := hE.c1
        rw [hmk.2] at hEc
        have PX := Lib.hid (And.intro P hE)
        have HM := Lib.hid hmk
        have HPD := Lib.hid hpd
        have hso : ∀ i : Nat, i < n → D.safeOf (i : Int) = (D.safe.getD i ⟨#[]⟩, true) := fun i hi => by
          unfold Dk.safeOf
          rw [if_pos (Dk.there_iff.2 (by have := HM.out.2; omega))]
          rfl
        have hrd : ∀ i : Nat, i < n → D.read (i : Int) = ((D.read (i : Int)).1, true) := fun i hi => by
          unfold Dk.read
          rw [if_pos (Dk.there_iff.2 (by have := HM.out.2; omega))]
        have hsn : ∀ i : Int, (i < 0 ∨ (n : Int) ≤ i) → D.safeOf i = (⟨#[]⟩, false) := fun i hi => by
          unfold Dk.safeOf
          rw [if_neg (by rw [Dk.there_iff]; have := HM.out.2; omega)]
        have HS := Lib.hid (And.intro hso (And.intro hrd hsn))
        clear P hE hmk hpd hso hrd hsn cw
        generalize wr = w9 at *
        go_wp2
        go_loopw [12] (fun vi wz => ∃ i : Nat, i ≤ n ∧ vi = .int .i64 (i : Int) ∧ Below w9.heap.size w9 wz) (fun vi _ => n - (intOf vi).toNat)
        case atStart => exact ⟨0, Nat.zero_le _, rfl, Below.refl _ _⟩
        case round =>
          obtain ⟨i, hi, rfl, hb⟩ := hrel
          have P := PX.out.1.below hb
          have hE := PX.out.2.below hb
          have hEc : wr.cell? ⟨q, 1, none⟩ = some (.slice (some ⟨eg, 0, none⟩) n esc) := by have := hE.c1; rwa [HM.out.2] at this
          by_cases hlt : i < n
          · have g1 : (i : Int) < (n : Int) := by omega
            have H1 := safe_any P.d (i : Int)
            have H2 := fun w' (h : Below wr.heap.size wr w') => read_any (P.below h).d (by have := HPD.out; omega) (i : Int)
            have H3 := fun w' (h : Below wr.heap.size wr w') => rRead_any (P.below h).e (by have := HPD.out; omega) (i : Int)
            rw [HS.out.1 i hlt] at H1
            rw [HS.out.2.1 i hlt] at H2 H3
            have e3 : wrap64 ((i : Int) + 1) = (i : Int) + 1 := by unfold wrap64; have := HNN.out; omega
            have hce : ∀ w', Below wr.heap.size wr w' → w'.cell? ⟨q, 1, none⟩ = some (.slice (some ⟨eg, 0, none⟩) n esc) ∧ w'.cell? ⟨eg, i, none⟩ = some (.string (D.safe.getD i ⟨#[]⟩)) := fun w' h => by
              have h2 := hE.below h
              refine ⟨?_, h2.safeAt (by have := HM.out.2; omega)⟩
              have := h2.c1
              rwa [HM.out.2] at this
            generalize D.safe.getD i ⟨#[]⟩ = ts at *
            generalize (D.read (i : Int)).1 = tr at *
            have HB := Lib.hid (And.intro hb hce)
            clear P hE hb hce
            go_wp2_with fail
            refine H1.mono ?_
            rintro e wa ⟨rfl, ba⟩
            have H := H2 _ ba
            clear H1 H2 hEc
            go_wp2_with fail
            refine H.mono ?_
            rintro e wb ⟨rfl, bb⟩
            have bb := ba.trans (bb.mono ba.size)
            have H := H3 _ bb
            clear ba H3
            go_wp2_with fail
            refine H.mono ?_
            rintro e wc ⟨rfl, bc⟩
            have bc := bb.trans (bc.mono bb.size)
            obtain ⟨k1, k2⟩ := HB.out.2 _ bc
            have hbb := HB.out.1.trans (bc.mono HB.out.1.size)
            clear H bb bc HB
            go_wp2
            go_roundw
            case rel => exact ⟨i + 1, hlt, by first | rfl | (rw [e3]; rfl), hbb⟩
            case measure =>
              have l5 : (intOf (.int .i64 (wrap64 ((i : Int) + 1)))).toNat = i + 1 := by rw [e3]; rfl
              have l7 : (intOf (.int .i64 ((i : Int) + 1))).toNat = i + 1 := rfl
              have l6 : (intOf (.int .i64 (i : Int))).toNat = i := rfl
              first | rw [l5, l6] | rw [l7, l6]
              exact Nat.sub_lt_sub_left hlt (Nat.lt_succ_self i)
          · obtain rfl : i = n := by omega
            have g1 : ¬ (i : Int) < (i : Int) := by omega
            have H1 := safe_any P.d (-1)
            have H2 := fun w' (h : Below wr.heap.size wr w') => safe_any (P.below h).d (i : Int)
            rw [HS.out.2.2 (-1) (by omega)] at H1
            rw [HS.out.2.2 (i : Int) (by omega)] at H2
            have HP := Lib.hid P
            clear hE hb P HS
            go_wp2_with fail
            refine H1.mono ?_
            rintro e wa ⟨rfl, ba⟩
            have H := H2 _ ba
            have Pa := HP.out.below ba
            have x0 : wa.cell? ⟨w.heap.size, 0, none⟩ = some (.int .i64 (i : Int)) := (XC.out.1.low Pa.low (Nat.lt_succ_self _)).cell (j := 0) rfl
            clear H1 H2 hEc ba HP
            go_wp2_with fail
            refine H.mono ?_
            rintro e wb ⟨rfl, bb⟩
            have Pb := Pa.below bb
            have Xb := XC.out.1.low Pb.low (Nat.lt_succ_self _)
            have x0' : wb.cell? ⟨w.heap.size, 0, none⟩ = some (.int .i64 (i : Int)) := Xb.cell (j := 0) rfl
            have x1' : wb.cell? ⟨w.heap.size, 1, none⟩ = some (.int .i64 (s : Int)) := Xb.cell (j := 1) rfl
            have H5 := fun n => sectors_same (Pb.d.drewN n)
            have H6 := fun n => size_same (Pb.d.drewN n)
            rw [HM.out.2] at H5
            rw [HM.out.1] at H6
            have fin := XC.out.2.trans ((Pb.low.mono (Nat.le_succ _)))
            have FF := Lib.hid fin
            clear x0 H Xb Pa Pb bb fin
            go_wp2_with fail
            go_quiet (first | (go_at_call 17; exact Calls.quiet_of_same (H5 _)) | (go_at_call 18; exact Calls.quiet_of_same (H6 _)))
            go_wp2
            go_ret
            exact ⟨rfl, FF.out.trans ((Dsk.below_drewN wb nq).mono FF.out.size)⟩
    · obtain rfl : i = l.length := by omega
      have g1 : ¬ (l.length : Int) < (l.length : Int) := by omega
      have e : mk n s l l.length = mk n s l 200 := by
        unfold mk
        rw [List.take_of_length_le (Nat.le_refl _), List.take_of_length_le (by omega)]
      rw [e] at P
      clear e
      have hmk := mk_same n s l 200
      have hpd := mk_pend n s l 200
      generalize mk n s l 200 = D at *
      obtain ⟨eg, esc, epv, hE⟩ := P.e
      have hEc := hE.c1
      rw [hmk.2] at hEc
      have PX := Lib.hid (And.intro P hE)
      have HM := Lib.hid hmk
      have HPD := Lib.hid hpd
      have hso : ∀ i : Nat, i < n → D.safeOf (i : Int) = (D.safe.getD i ⟨#[]⟩, true) := fun i hi => by
        unfold Dk.safeOf
        rw [if_pos (Dk.there_iff.2 (by have := HM.out.2; omega))]
        rfl
      have hrd : ∀ i : Nat, i < n → D.read (i : Int) = ((D.read (i : Int)).1, true) := fun i hi => by
        unfold Dk.read
        rw [if_pos (Dk.there_iff.2 (by have := HM.out.2; omega))]
      have hsn : ∀ i : Int, (i < 0 ∨ (n : Int) ≤ i) → D.safeOf i = (⟨#[]⟩, false) := fun i hi => by
        unfold Dk.safeOf
        rw [if_neg (by rw [Dk.there_iff]; have := HM.out.2; omega)]
      have HS := Lib.hid (And.intro hso (And.intro hrd hsn))
      clear P hE hmk hpd hso hrd hsn cw
      generalize wr = w9 at *
      go_wp2
      go_loopw [12] (fun vi wz => ∃ i : Nat, i ≤ n ∧ vi = .int .i64 (i : Int) ∧ Below w9.heap.size w9 wz) (fun vi _ => n - (intOf vi).toNat)
      case atStart => exact ⟨0, Nat.zero_le _, rfl, Below.refl _ _⟩
      case round =>
        obtain ⟨i, hi, rfl, hb⟩ := hrel
        have P := PX.out.1.below hb
        have hE := PX.out.2.below hb
        have hEc : wr.cell? ⟨q, 1, none⟩ = some (.slice (some ⟨eg, 0, none⟩) n esc) := by have := hE.c1; rwa [HM.out.2] at this
        by_cases hlt : i < n
        · have g1 : (i : Int) < (n : Int) := by omega
          have H1 := safe_any P.d (i : Int)
          have H2 := fun w' (h : Below wr.heap.size wr w') => read_any (P.below h).d (by have := HPD.out; omega) (i : Int)
          have H3 := fun w' (h : Below wr.heap.size wr w') => rRead_any (P.below h).e (by have := HPD.out; omega) (i : Int)
          rw [HS.out.1 i hlt] at H1
          rw [HS.out.2.1 i hlt] at H2 H3
          have e3 : wrap64 ((i : Int) + 1) = (i : Int) + 1 := by unfold wrap64; have := HNN.out; omega
          have hce : ∀ w', Below wr.heap.size wr w' → w'.cell? ⟨q, 1, none⟩ = some (.slice (some ⟨eg, 0, none⟩) n esc) ∧ w'.cell? ⟨eg, i, none⟩ = some (.string (D.safe.getD i ⟨#[]⟩)) := fun w' h => by
            have h2 := hE.below h
            refine ⟨?_, h2.safeAt (by have := HM.out.2; omega)⟩
            have := h2.c1
            rwa [HM.out.2] at this
          generalize D.safe.getD i ⟨#[]⟩ = ts at *
          generalize (D.read (i : Int)).1 = tr at *
          have HB := Lib.hid (And.intro hb hce)
          clear P hE hb hce
          go_wp2_with fail
          refine H1.mono ?_
          rintro e wa ⟨rfl, ba⟩
          have H := H2 _ ba
          clear H1 H2 hEc
          go_wp2_with fail
          refine H.mono ?_
          rintro e wb ⟨rfl, bb⟩
          have bb := ba.trans (bb.mono ba.size)
          have H := H3 _ bb
          clear ba H3
          go_wp2_with fail
          refine H.mono ?_
          rintro e wc ⟨rfl, bc⟩
          have bc := bb.trans (bc.mono bb.size)
          obtain ⟨k1, k2⟩ := HB.out.2 _ bc
          have hbb := HB.out.1.trans (bc.mono HB.out.1.size)
          clear H bb bc HB
          go_wp2
          go_roundw
          case rel => exact ⟨i + 1, hlt, by first | rfl | (rw [e3]; rfl), hbb⟩
          case measure =>
            have l5 : (intOf (.int .i64 (wrap64 ((i : Int) + 1)))).toNat = i + 1 := by rw [e3]; rfl
            have l7 : (intOf (.int .i64 ((i : Int) + 1))).toNat = i + 1 := rfl
            have l6 : (intOf (.int .i64 (i : Int))).toNat = i := rfl
            first | rw [l5, l6] | rw [l7, l6]
            exact Nat.sub_lt_sub_left hlt (Nat.lt_succ_self i)
        · obtain rfl : i = n := by omega
          have g1 : ¬ (i : Int) < (i : Int) := by omega
          have H1 := safe_any P.d (-1)
          have H2 := fun w' (h : Below wr.heap.size wr w') => safe_any (P.below h).d (i : Int)
          rw [HS.out.2.2 (-1) (by omega)] at H1
          rw [HS.out.2.2 (i : Int) (by omega)] at H2
          have HP := Lib.hid P
          clear hE hb P HS
          go_wp2_with fail
          refine H1.mono ?_
          rintro e wa ⟨rfl, ba⟩
          have H := H2 _ ba
          have Pa := HP.out.below ba
          have x0 : wa.cell? ⟨w.heap.size, 0, none⟩ = some (.int .i64 (i : Int)) := (XC.out.1.low Pa.low (Nat.lt_succ_self _)).cell (j := 0) rfl
          clear H1 H2 hEc ba HP
          go_wp2_with fail
          refine H.mono ?_
          rintro e wb ⟨rfl, bb⟩
          have Pb := Pa.below bb
          have Xb := XC.out.1.low Pb.low (Nat.lt_succ_self _)
          have x0' : wb.cell? ⟨w.heap.size, 0, none⟩ = some (.int .i64 (i : Int)) := Xb.cell (j := 0) rfl
          have x1' : wb.cell? ⟨w.heap.size, 1, none⟩ = some (.int .i64 (s : Int)) := Xb.cell (j := 1) rfl
          have H5 := fun n => sectors_same (Pb.d.drewN n)
          have H6 := fun n => size_same (Pb.d.drewN n)
          rw [HM.out.2] at H5
          rw [HM.out.1] at H6
          have fin := XC.out.2.trans ((Pb.low.mono (Nat.le_succ _)))
          have FF := Lib.hid fin
          clear x0 H Xb Pa Pb bb fin
          go_wp2_with fail
          go_quiet (first | (go_at_call 17; exact Calls.quiet_of_same (H5 _)) | (go_at_call 18; exact Calls.quiet_of_same (H6 _)))
          go_wp2
          go_ret
          exact ⟨rfl, FF.out.trans ((Dsk.below_drewN wb nq).mono FF.out.size)⟩

theorem plays_any (n s : Int) (l : List Ac) (v : Value) (w : World) (hl : Acts w v l) :
    Calls Try.prog 3 #[.agg #[.int .i64 n, .int .i64 s, v]] w fun e w' => e = .returned (.bool true) ∧ Below w.heap.size w w' := by
  by_cases hc : Dk.can n s = true
  · have h := of_decide_eq_true hc
    obtain ⟨n, rfl⟩ : ∃ k : Nat, n = (k : Int) := ⟨n.toNat, by omega⟩
    obtain ⟨s, rfl⟩ : ∃ k : Nat, s = (k : Int) := ⟨s.toNat, by omega⟩
    exact plays_good n s hc l v w hl
  · exact plays_bad n s (by simpa using hc) l v w hl
end Go.Proofs.Ytfhplbfiakejlaa.Plays8
