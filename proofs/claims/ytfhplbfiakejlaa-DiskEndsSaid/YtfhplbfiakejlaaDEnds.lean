/-
  DiskEnds: a crash that keeps all is a flush; one that keeps nothing takes back to what was safe; flushed, what is read is safe: the walk, for every input.
-/
import Derived.Test.YtfhplbfiakejlaaDskQ
namespace Go.Proofs.Ytfhplbfiakejlaa.Ends8
open Go.RowKit
open Dsk

set_option maxRecDepth 100000 in
set_option maxHeartbeats 20000000 in
theorem ends_bad (n s : Int) (hc : Dk.can n s = false) (l : List Ac) (v : Value) (w : World) (hl : Acts w v l) :
    Calls Try.prog 5 #[.agg #[.int .i64 n, .int .i64 s, v]] w fun e w' => e = .returned (.bool true) ∧ Below w.heap.size w w' := by
  have HL := Lib.hid hl
  obtain ⟨la, lc, rfl⟩ := hl.form
  have X := Box.new w #[.int .i64 n, .int .i64 s, .slice la l.length lc] 24
  have c0 := below_lit w (.cells #[.int .i64 n, .int .i64 s, .slice la l.length lc] 24)
  have z0 : (w.alloc (.cells #[.int .i64 n, .int .i64 s, .slice la l.length lc] 24)).heap.size = w.heap.size + 1 := World.size_alloc _ _
  have HM := fun w' (h : Below w.heap.size w w') => made_bad n s hc l _ w' (HL.out.below h)
  have HF := fixed_any
  have x0 : (w.alloc (.cells #[.int .i64 n, .int .i64 s, .slice la l.length lc] 24)).cell? ⟨w.heap.size, 0, none⟩ = some (.int .i64 n) := X.cell (j := 0) rfl
  have x1 : (w.alloc (.cells #[.int .i64 n, .int .i64 s, .slice la l.length lc] 24)).cell? ⟨w.heap.size, 1, none⟩ = some (.int .i64 s) := X.cell (j := 1) rfl
  have x2 : (w.alloc (.cells #[.int .i64 n, .int .i64 s, .slice la l.length lc] 24)).cell? ⟨w.heap.size, 2, none⟩ = some (.slice la l.length lc) := X.cell (j := 2) rfl
  have CC := Lib.hid (And.intro X (And.intro c0 z0))
  clear hc X c0 z0 hl
  go_enter Try.func5, Try.ntmps5
  go_wp2_with fail
  refine (HM _ CC.out.2.1).mono ?_
  rintro e w1 ⟨rfl, b⟩
  have X1 := CC.out.1.below b
  have c1 := CC.out.2.1.trans (b.mono (Nat.le_of_lt (by rw [CC.out.2.2]; exact Nat.lt_succ_self _)))
  clear x0 x1 x2 b
  have x0 : w1.cell? ⟨w.heap.size, 0, none⟩ = some (.int .i64 n) := X1.cell (j := 0) rfl
  have x1 : w1.cell? ⟨w.heap.size, 1, none⟩ = some (.int .i64 s) := X1.cell (j := 1) rfl
  have x2 : w1.cell? ⟨w.heap.size, 2, none⟩ = some (.slice la l.length lc) := X1.cell (j := 2) rfl
  go_wp2_with fail
  refine (HM _ c1).mono ?_
  rintro e w2 ⟨rfl, b⟩
  have X2 := X1.below b
  have c2 := c1.trans (b.mono c1.size)
  clear x0 x1 x2 b
  have x0 : w2.cell? ⟨w.heap.size, 0, none⟩ = some (.int .i64 n) := X2.cell (j := 0) rfl
  have x1 : w2.cell? ⟨w.heap.size, 1, none⟩ = some (.int .i64 s) := X2.cell (j := 1) rfl
  have x2 : w2.cell? ⟨w.heap.size, 2, none⟩ = some (.slice la l.length lc) := X2.cell (j := 2) rfl
  go_wp2_with fail
  refine (HM _ c2).mono ?_
  rintro e w3 ⟨rfl, b⟩
  have X3 := X2.below b
  have c3 := c2.trans (b.mono c2.size)
  clear x0 x1 x2 b
  clear X1 X2 X3 c1 c2 HM CC
  go_wp2_with fail
  refine (HF _).mono ?_
  rintro e w4 ⟨rfl, b⟩
  have c4 := c3.trans (b.mono c3.size)
  clear b c3
  go_wp2_with fail
  refine (HF _).mono ?_
  rintro e w5 ⟨rfl, b⟩
  have c5 := c4.trans (b.mono c4.size)
  clear b c4
  go_wp2
  go_ret
  exact ⟨rfl, c5⟩

set_option maxRecDepth 100000 in
set_option maxHeartbeats 20000000 in
theorem ends_good (n s : Nat) (hc : Dk.can n s = true) (l : List Ac) (v : Value) (w : World) (hl : Acts w v l) :
    Calls Try.prog 5 #[.agg #[.int .i64 (n : Int), .int .i64 (s : Int), v]] w fun e w' => e = .returned (.bool true) ∧ Below w.heap.size w w' := by
  have HL := Lib.hid hl
  obtain ⟨la, lc, rfl⟩ := hl.form
  have X := Box.new w #[.int .i64 (n : Int), .int .i64 (s : Int), .slice la l.length lc] 24
  have c0 := below_lit w (.cells #[.int .i64 (n : Int), .int .i64 (s : Int), .slice la l.length lc] 24)
  have z0 : (w.alloc (.cells #[.int .i64 (n : Int), .int .i64 (s : Int), .slice la l.length lc] 24)).heap.size = w.heap.size + 1 := World.size_alloc _ _
  have HM := fun w' (h : Below w.heap.size w w') => made_any n s hc l _ w' (HL.out.below h)
  have HF := fixed_any
  have x0 : (w.alloc (.cells #[.int .i64 (n : Int), .int .i64 (s : Int), .slice la l.length lc] 24)).cell? ⟨w.heap.size, 0, none⟩ = some (.int .i64 (n : Int)) := X.cell (j := 0) rfl
  have x1 : (w.alloc (.cells #[.int .i64 (n : Int), .int .i64 (s : Int), .slice la l.length lc] 24)).cell? ⟨w.heap.size, 1, none⟩ = some (.int .i64 (s : Int)) := X.cell (j := 1) rfl
  have x2 : (w.alloc (.cells #[.int .i64 (n : Int), .int .i64 (s : Int), .slice la l.length lc] 24)).cell? ⟨w.heap.size, 2, none⟩ = some (.slice la l.length lc) := X.cell (j := 2) rfl
  have CC := Lib.hid (And.intro X (And.intro c0 z0))
  have HMK := Lib.hid (mk_same n s l 200)
  have HPD := Lib.hid (mk_pend n s l 200)
  have hok : (mk n s l 200).ok := (Dk.ok_new hc).acts _
  have HOK := Lib.hid hok
  have hcn := of_decide_eq_true hc
  have HN := Lib.hid (show n ≤ 256 by omega)
  clear hc X c0 z0 hl hok hcn
  generalize mk n s l 200 = D at *
  go_enter Try.func5, Try.ntmps5
  go_wp2_with fail
  refine (HM _ CC.out.2.1).mono ?_
  rintro e w1 ⟨p, K, rfl, hA, hK, b⟩
  have hK : ∀ i, K i → w.heap.size + 1 ≤ i := fun i hi => by have := hK i hi; rwa [CC.out.2.2] at this
  have z1 : w.heap.size + 1 ≤ w1.heap.size := by have := b.size; rwa [CC.out.2.2] at this
  have X1 := CC.out.1.below b
  have c1 := CC.out.2.1.trans (b.mono (Nat.le_of_lt (by rw [CC.out.2.2]; exact Nat.lt_succ_self _)))
  clear x0 x1 x2 b CC
  have x0 : w1.cell? ⟨w.heap.size, 0, none⟩ = some (.int .i64 (n : Int)) := X1.cell (j := 0) rfl
  have x1 : w1.cell? ⟨w.heap.size, 1, none⟩ = some (.int .i64 (s : Int)) := X1.cell (j := 1) rfl
  have x2 : w1.cell? ⟨w.heap.size, 2, none⟩ = some (.slice la l.length lc) := X1.cell (j := 2) rfl
  go_wp2_with fail
  refine (HM _ c1).mono ?_
  rintro e w2 ⟨q, M, rfl, hB, hM, b⟩
  have dKM : ∀ i, K i → ¬ M i := fun i hk hm => by have := hA.lt i hk; have := hM i hm; omega
  have hM : ∀ i, M i → w.heap.size + 1 ≤ i := fun i hi => Nat.le_trans z1 (hM i hi)
  have hA := hA.below b
  have X2 := X1.below b
  have c2 := c1.trans (b.mono c1.size)
  have z2 := Nat.le_trans z1 b.size
  clear x0 x1 x2 b X1 c1 z1
  have x0 : w2.cell? ⟨w.heap.size, 0, none⟩ = some (.int .i64 (n : Int)) := X2.cell (j := 0) rfl
  have x1 : w2.cell? ⟨w.heap.size, 1, none⟩ = some (.int .i64 (s : Int)) := X2.cell (j := 1) rfl
  have x2 : w2.cell? ⟨w.heap.size, 2, none⟩ = some (.slice la l.length lc) := X2.cell (j := 2) rfl
  go_wp2_with fail
  refine (HM _ c2).mono ?_
  rintro e w3 ⟨r, R, rfl, hC, hR, b⟩
  have dKR : ∀ i, K i → ¬ R i := fun i hk hm => by have := hA.lt i hk; have := hR i hm; omega
  have dMR : ∀ i, M i → ¬ R i := fun i hk hm => by have := hB.lt i hk; have := hR i hm; omega
  have hA := hA.below b
  have hB := hB.below b
  have X3 := X2.below b
  have c3 := c2.trans (b.mono c2.size)
  have z3 := Nat.le_trans z2 b.size
  clear x0 x1 x2 b X2 c2 z2 hR
  go_wp2_with fail
  refine (HF _).mono ?_
  rintro e w4 ⟨rfl, b⟩
  have hA := hA.below b
  have hB := hB.below b
  have hC := hC.below b
  have X4 := X3.below b
  have c4 := c3.trans (b.mono c3.size)
  have z4 := Nat.le_trans z3 b.size
  clear b X3 c3 z3 HF
  have ow := World.ownsRow_made (base := w4.heap.size) (e := 3) (size := 1) w4 #[] 0 (Nat.le_refl _) (by unfold maxLen; omega) rfl
  have b4 := below_lit w4 (.cells #[] 3)
  obtain ⟨i0, zz0, hi, iz0, iz1, iz2, iz3⟩ := infoInt
  have HH := Lib.hid (And.intro hA (And.intro hB (And.intro hC (And.intro X4 (And.intro c4 z4)))))
  have HD := Lib.hid (And.intro dKM (And.intro dKR (And.intro dMR (And.intro hK hM))))
  clear hA hB hC X4 c4 z4 dKM dKR dMR hK hM
  generalize hpl : D.pend.length = m at *
  have HPL := Lib.hid (show D.pend.length ≤ 200 by rw [hpl]; exact HPD.out)
  go_wp2
  go_loopw [9, 10] (fun vs vi wr => ∃ i : Nat, i ≤ m ∧ vi = .int .i64 (i : Int) ∧ wr.ownsRow w4.heap.size 3 1 vs i (ints (List.replicate i (s : Int))) ∧ Below w4.heap.size w4 wr)
    (fun _ vi _ => m - (intOf vi).toNat)
  case atStart => exact ⟨0, Nat.zero_le _, rfl, ow, b4⟩
  case round =>
    obtain ⟨i, hi2, rfl, hown, hb⟩ := hrel
    have hA := HH.out.1.below hb
    have HP := pending_any hA
    rw [hpl] at HP
    obtain ⟨va, vc, rfl, -, -⟩ := row_form hown
    have HO := Lib.hid (And.intro hown hb)
    clear ow b4 hown
    by_cases hlt : i < m
    · have g1 : (i : Int) < (m : Int) := by omega
      clear hb hA
      go_wp2_with fail
      refine HP.mono ?_
      rintro e w6 ⟨rfl, b6⟩
      have hb6 := HO.out.2.trans (b6.mono HO.out.2.size)
      have X6 := HH.out.2.2.2.1.below hb6
      have x1 : w6.cell? ⟨w.heap.size, 1, none⟩ = some (.int .i64 (s : Int)) := X6.cell (j := 1) rfl
      have bx4 : (w6.alloc (.cells #[.int .i64 (s : Int)] 3)).heap[w6.heap.size]? = some (.cells #[.int .i64 (s : Int)] 3 (0, 0)) := (MapKept.heap_alloc w6 _).1
      have ow4 := (row_kept (w' := w6) HO.out.1 (fun k _ hk2 => b6.block k hk2)).alloc (.cells #[.int .i64 (s : Int)] 3)
      have hB4 := hb6.trans ((below_lit w6 (.cells #[.int .i64 (s : Int)] 3)).mono hb6.size)
      have hf1 : (i + 1) * 8 ≤ 140737488355328 := by have := HPD.out; omega
      have hf2 : i + 1 ≤ maxLen := by have := HPD.out; unfold maxLen; omega
      clear HP HO b6 hb6 X6
      go_wp2_with (at_builtin; refine wpList_append_lies _ rfl _ _ 34 rfl w4.heap.size 3 i0 zz0 1 8 Try.underlying34 hi iz0 iz1 iz2 iz3 (by decide) _ _ _ rfl ow4 ⟨w6.heap.size, 0, none⟩ 1 1 (ints [(s : Int)]) rfl rfl (World.news_of_block bx4) (ints_one _) (by decide) hf2 hf1 hB4.size _ rfl ?_)
      intro q5 cap2 w5 hown5 hg hat hlt5
      have e1 : ints (List.replicate i (s : Int)) ++ ints [(s : Int)] = ints (List.replicate (i + 1) (s : Int)) := by simp [ints, List.replicate_succ']
      rw [e1] at hown5
      have hB5 := hB4.grown hg hB4.size (fun j hj => (ow4.lt j hj).1)
      have e3 : wrap64 ((i : Int) + 1) = (i : Int) + 1 := by unfold wrap64; have := HPD.out; omega
      clear hg hat hlt5 ow4 hB4 bx4 e1 x1 hf1 hf2
      go_wp2
      go_roundw
      case rel => exact ⟨i + 1, hlt, by first | rfl | (rw [e3]; rfl), hown5, hB5⟩
      case measure =>
        have l5 : (intOf (.int .i64 (wrap64 ((i : Int) + 1)))).toNat = i + 1 := by rw [e3]; rfl
        have l7 : (intOf (.int .i64 ((i : Int) + 1))).toNat = i + 1 := rfl
        have l6 : (intOf (.int .i64 (i : Int))).toNat = i := rfl
        first | rw [l5, l6] | rw [l7, l6]
        exact Nat.sub_lt_sub_left hlt (Nat.lt_succ_self i)
    · obtain rfl : i = m := by omega
      have g1 : ¬ (i : Int) < (i : Int) := by omega
      clear hb hA
      go_wp2_with fail
      refine HP.mono ?_
      rintro e w5 ⟨rfl, b5⟩
      have hb5 := HO.out.2.trans (b5.mono HO.out.2.size)
      have hown5 := row_kept (w' := w5) HO.out.1 (fun k _ hk2 => b5.block k hk2)
      have hA := HH.out.1.below hb5
      have hB := HH.out.2.1.below hb5
      have hC := HH.out.2.2.1.below hb5
      have X5 := HH.out.2.2.2.1.below hb5
      have c5 := HH.out.2.2.2.2.1.trans (hb5.mono HH.out.2.2.2.2.1.size)
      have z5 := Nat.le_trans HH.out.2.2.2.2.2 hb5.size
      have hr := RdK.of_own (K := K) hown5 (fun j hj hk => by have h1 := (hown5.lt j hj).1; have h2 := HH.out.1.lt j hk; omega)
      have HC := crash_any hA (by have := HPD.out; omega) hr
      have hka : D.crash (List.replicate i (s : Int)) = D.flush := by rw [← hpl, ← HMK.out.1]; exact keep_all
      rw [hka] at HC
      clear hka
      have HZ := Lib.hid (And.intro hB (And.intro hC (And.intro X5 (And.intro c5 z5))))
      clear HP HO b5 hb5 hown5 hA hB hC X5 c5 z5 hr HH
      go_wp2_with fail
      refine HC.mono ?_
      rintro e w6 ⟨rfl, hA, bK⟩
      have hB := HZ.out.1.but bK HD.out.1
      have hC := HZ.out.2.1.but bK HD.out.2.1
      have low := bK.below HZ.out.2.2.2.2 HD.out.2.2.2.1
      have X6 := HZ.out.2.2.1.low low (Nat.lt_succ_self _)
      have c6 := HZ.out.2.2.2.1.trans (low.mono (Nat.le_succ _))
      have z6 := Nat.le_trans HZ.out.2.2.2.2 bK.size
      clear bK low HC HZ
      have HC := flush_any hB (by rw [hpl]; have := HPD.out; omega)
      have HZ := Lib.hid (And.intro hA (And.intro hC (And.intro X6 (And.intro c6 z6))))
      clear hA hC X6 c6 z6 hB
      go_wp2_with fail
      refine HC.mono ?_
      rintro e w7 ⟨rfl, hB, bM⟩
      have hA := HZ.out.1.but bM (fun i hm hk => HD.out.1 i hk hm)
      have hC := HZ.out.2.1.but bM HD.out.2.2.1
      have low := bM.below HZ.out.2.2.2.2 HD.out.2.2.2.2
      have X7 := HZ.out.2.2.1.low low (Nat.lt_succ_self _)
      have c7 := HZ.out.2.2.2.1.trans (low.mono (Nat.le_succ _))
      clear bM low HC HZ HD
      have HA := Lib.hid (And.intro hA (And.intro hB (And.intro hC (And.intro X7 c7))))
      clear hA hB hC X7 c7 hpl
      have hfr : ∀ i : Nat, i < n → D.flush.read (i : Int) = (D.flush.safe.getD i ⟨#[]⟩, true) := fun i hi => flush_is (by rw [HMK.out.2]; exact hi)
      have hfs : ∀ i : Nat, i < n → D.flush.safeOf (i : Int) = (D.flush.safe.getD i ⟨#[]⟩, true) := fun i hi => safe_is (by show i < (after _ _ _ _).length; rw [after_length, HMK.out.2]; exact hi)
      have hds : ∀ i : Nat, i < n → D.safeOf (i : Int) = (D.safe.getD i ⟨#[]⟩, true) := fun i hi => safe_is (by rw [HMK.out.2]; exact hi)
      have hdr : ∀ i : Nat, i < n → D.read (i : Int) = (D.flush.safe.getD i ⟨#[]⟩, true) := fun i hi => read_is HOK.out (by rw [HMK.out.2]; exact hi)
      have hdz : ∀ i : Nat, i < n → (D.safe.getD i ⟨#[]⟩).size = s := fun i hi => (HOK.out.safeAt (by rw [HMK.out.2]; exact hi)).trans HMK.out.1
      have hcr : ∀ i : Nat, i < n → (D.crash []).read (i : Int) = (D.safe.getD i ⟨#[]⟩, true) := fun i hi => none_is (by rw [HMK.out.2]; exact hi)
      have HE := Lib.hid (And.intro hfr (And.intro hfs (And.intro hds (And.intro hdr (And.intro hdz hcr)))))
      clear hfr hfs hds hdr hdz hcr
      go_wp2
      go_loopw [11] (fun vi wz => ∃ i : Nat, i ≤ n ∧ vi = .int .i64 (i : Int) ∧ Below w7.heap.size w7 wz) (fun vi _ => n - (intOf vi).toNat)
      case atStart => exact ⟨0, Nat.zero_le _, rfl, Below.refl _ _⟩
      case round =>
        obtain ⟨i, hi, rfl, hb⟩ := hrel
        have X := HA.out.2.2.2.1.below hb
        have x0 : wr.cell? ⟨w.heap.size, 0, none⟩ = some (.int .i64 (n : Int)) := X.cell (j := 0) rfl
        by_cases hlt : i < n
        · have g1 : (i : Int) < (n : Int) := by omega
          have e3 : wrap64 ((i : Int) + 1) = (i : Int) + 1 := by unfold wrap64; have := HN.out; omega
          have H1 := read_any (HA.out.1.below hb) (by show 0 < 2000; decide) (i : Int)
          have H2 := fun w' (h : Below w7.heap.size w7 w') => safe_any (HA.out.2.1.below h) (i : Int)
          have H3 := fun w' (h : Below w7.heap.size w7 w') => safe_any (HA.out.2.2.1.below h) (i : Int)
          have H4 := fun w' (h : Below w7.heap.size w7 w') => read_any (HA.out.2.2.1.below h) (by have := HPL.out; omega) (i : Int)
          rw [HE.out.1 i hlt] at H1
          rw [HE.out.2.1 i hlt] at H2
          rw [HE.out.2.2.1 i hlt] at H3
          rw [HE.out.2.2.2.1 i hlt] at H4
          have hsz := HE.out.2.2.2.2.1 i hlt
          generalize D.flush.safe.getD i ⟨#[]⟩ = tf at *
          generalize D.safe.getD i ⟨#[]⟩ = ts at *
          have HB := Lib.hid hb
          clear X hb
          go_wp2_with fail
          refine H1.mono ?_
          rintro e wa ⟨rfl, b⟩
          have ba := HB.out.trans (b.mono HB.out.size)
          have H := H2 _ ba
          clear H1 H2 x0 b HB
          go_wp2_with fail
          refine H.mono ?_
          rintro e wb ⟨rfl, b⟩
          have bb := ba.trans (b.mono ba.size)
          have H := H3 _ bb
          clear H3 ba b
          go_wp2_with fail
          refine H.mono ?_
          rintro e wc ⟨rfl, b⟩
          have bc := bb.trans (b.mono bb.size)
          have H := H4 _ bc
          clear H4 bb b
          go_wp2_with fail
          refine H.mono ?_
          rintro e wd ⟨rfl, b⟩
          have bd := bc.trans (b.mono bc.size)
          have x1 : wd.cell? ⟨w.heap.size, 1, none⟩ = some (.int .i64 (s : Int)) := (HA.out.2.2.2.1.below bd).cell (j := 1) rfl
          clear H bc b
          go_wp2
          go_roundw
          case rel => exact ⟨i + 1, hlt, by first | rfl | (rw [e3]; rfl), bd⟩
          case measure =>
            have l5 : (intOf (.int .i64 (wrap64 ((i : Int) + 1)))).toNat = i + 1 := by rw [e3]; rfl
            have l7 : (intOf (.int .i64 ((i : Int) + 1))).toNat = i + 1 := rfl
            have l6 : (intOf (.int .i64 (i : Int))).toNat = i := rfl
            first | rw [l5, l6] | rw [l7, l6]
            exact Nat.sub_lt_sub_left hlt (Nat.lt_succ_self i)
        · obtain rfl : i = n := by omega
          have g1 : ¬ (i : Int) < (i : Int) := by omega
          have hC := HA.out.2.2.1.below hb
          have c8 := HA.out.2.2.2.2.trans (hb.mono HA.out.2.2.2.2.size)
          have x1 : wr.cell? ⟨w.heap.size, 1, none⟩ = some (.int .i64 (s : Int)) := X.cell (j := 1) rfl
          have x2 : wr.cell? ⟨w.heap.size, 2, none⟩ = some (.slice la l.length lc) := X.cell (j := 2) rfl
          have HZ := Lib.hid (And.intro hC (And.intro X c8))
          have H := HM _ c8
          clear hb HA X hC c8
          generalize wr = w8 at *
          go_wp2_with fail
          refine H.mono ?_
          rintro e w9 ⟨y, Y, rfl, hd, hY, b⟩
          have hC := HZ.out.1.below b
          have dYR : ∀ j, Y j → ¬ R j := fun j hj hr => by have := HZ.out.1.lt j hr; have := hY j hj; omega
          have X9 := HZ.out.2.1.below b
          have c9 := HZ.out.2.2.trans (b.mono HZ.out.2.2.size)
          have hYw : ∀ j, Y j → w.heap.size + 1 ≤ j := fun j hj => by have := hY j hj; have := HZ.out.2.1.lt; omega
          have z9 : w.heap.size + 1 ≤ w9.heap.size := X9.lt
          have HC := @crash_any w9 y Y D hd (by have := HPL.out; omega) [] _ (RdK.nil_ Y w9)
          have HV := Lib.hid (And.intro hC (And.intro dYR (And.intro X9 (And.intro c9 (And.intro hYw z9)))))
          clear H HZ hC dYR X9 c9 hYw z9 hd hY b x0 x1 x2 HM
          go_wp2_with fail
          refine HC.mono ?_
          rintro e wA ⟨rfl, hd, bY⟩
          have hC := HV.out.1.but bY HV.out.2.1
          have low := bY.below HV.out.2.2.2.2.2 HV.out.2.2.2.2.1
          have XA := HV.out.2.2.1.low low (Nat.lt_succ_self _)
          have cA := HV.out.2.2.2.1.trans (low.mono (Nat.le_succ _))
          have HA := Lib.hid (And.intro hd (And.intro hC (And.intro XA cA)))
          clear HC HV hd bY hC low XA cA
          go_wp2
          go_loopw [22] (fun vi wz => ∃ j : Nat, j ≤ i ∧ vi = .int .i64 (j : Int) ∧ Below wA.heap.size wA wz) (fun vi _ => i - (intOf vi).toNat)
          case atStart => exact ⟨0, Nat.zero_le _, rfl, Below.refl _ _⟩
          case round =>
            obtain ⟨j, hj, rfl, hb⟩ := hrel
            have X := HA.out.2.2.1.below hb
            have x0 : wr.cell? ⟨w.heap.size, 0, none⟩ = some (.int .i64 (i : Int)) := X.cell (j := 0) rfl
            by_cases hlt : j < i
            · have g2 : (j : Int) < (i : Int) := by omega
              have e3 : wrap64 ((j : Int) + 1) = (j : Int) + 1 := by unfold wrap64; have := HN.out; omega
              have H1 := read_any (HA.out.1.below hb) (by show 0 < 2000; decide) (j : Int)
              have H2 := fun w' (h : Below wA.heap.size wA w') => safe_any (HA.out.2.1.below h) (j : Int)
              rw [HE.out.2.2.2.2.2 j hlt] at H1
              rw [HE.out.2.2.1 j hlt] at H2
              generalize D.safe.getD j ⟨#[]⟩ = ts at *
              have HB := Lib.hid hb
              clear X hb
              go_wp2_with fail
              refine H1.mono ?_
              rintro e wa ⟨rfl, b⟩
              have ba := HB.out.trans (b.mono HB.out.size)
              have H := H2 _ ba
              clear H1 H2 x0 b HB
              go_wp2_with fail
              refine H.mono ?_
              rintro e wb ⟨rfl, b⟩
              have bb := ba.trans (b.mono ba.size)
              clear H ba b
              go_wp2
              go_roundw
              case rel => exact ⟨j + 1, hlt, by first | rfl | (rw [e3]; rfl), bb⟩
              case measure =>
                have l5 : (intOf (.int .i64 (wrap64 ((j : Int) + 1)))).toNat = j + 1 := by rw [e3]; rfl
                have l7 : (intOf (.int .i64 ((j : Int) + 1))).toNat = j + 1 := rfl
                have l6 : (intOf (.int .i64 (j : Int))).toNat = j := rfl
                first | rw [l5, l6] | rw [l7, l6]
                exact Nat.sub_lt_sub_left hlt (Nat.lt_succ_self j)
            · obtain rfl : j = i := by omega
              have g2 : ¬ (j : Int) < (j : Int) := by omega
              have fin := HA.out.2.2.2.trans (hb.mono HA.out.2.2.2.size)
              clear X hb
              go_wp2
              go_ret
              exact ⟨rfl, fin⟩

theorem ends_any (n s : Int) (l : List Ac) (v : Value) (w : World) (hl : Acts w v l) :
    Calls Try.prog 5 #[.agg #[.int .i64 n, .int .i64 s, v]] w fun e w' => e = .returned (.bool true) ∧ Below w.heap.size w w' := by
  by_cases hc : Dk.can n s = true
  · have h := of_decide_eq_true hc
    obtain ⟨n, rfl⟩ : ∃ k : Nat, n = (k : Int) := ⟨n.toNat, by omega⟩
    obtain ⟨s, rfl⟩ : ∃ k : Nat, s = (k : Int) := ⟨s.toNat, by omega⟩
    exact ends_good n s hc l v w hl
  · exact ends_bad n s (by simpa using hc) l v w hl
end Go.Proofs.Ytfhplbfiakejlaa.Ends8
