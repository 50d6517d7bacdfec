/-
  DiskSafe: behind a crash, whatever it keeps, a sector to which no write was pending is as it was safe; in each other one each byte is the safe one, or that of a write that was pending: the walk, for every input.
-/
import Derived.Test.YtfhplbfiakejlaaDskX
import Derived.StillTailTactics
namespace Go.Proofs.Ytfhplbfiakejlaa.Safe8
open Go.RowKit
open Dsk

theorem flush_none (D : Dk) : D.flush.pend = [] := rfl
set_option maxRecDepth 100000 in
set_option maxHeartbeats 20000000 in
theorem safe_bad (n s : Int) (hc : Dk.can n s = false) (l : List Ac) (v : Value) (ll : List Ac) (lv : Value) (kl : List Int) (ka : Option Addr) (kc : Nat) (w : World) (hl : Acts w v l) (hll : Acts w lv ll) (hk : Kit.Rd w (.slice ka (ints kl).length kc) (ints kl)) :
    Calls Try.prog 4 #[.agg #[.int .i64 n, .int .i64 s, v], lv, .slice ka (ints kl).length kc] w fun e w' => e = .returned (.bool true) ∧ Below w.heap.size w w' := by
  have HL := Lib.hid hl
  have HLL := Lib.hid (And.intro hll hk)
  obtain ⟨la, lc, rfl⟩ := hl.form
  obtain ⟨va, vc, rfl⟩ := hll.form
  have X := Box.new w #[.int .i64 n, .int .i64 s, .slice la l.length lc] 24
  have c0 := below_lit w (.cells #[.int .i64 n, .int .i64 s, .slice la l.length lc] 24)
  have z0 : (w.alloc (.cells #[.int .i64 n, .int .i64 s, .slice la l.length lc] 24)).heap.size = w.heap.size + 1 := World.size_alloc _ _
  have HM := fun w' (h : Below w.heap.size w w') => made_bad n s hc l _ w' (HL.out.below h)
  have HF := fixed_any
  have x0 : (w.alloc (.cells #[.int .i64 n, .int .i64 s, .slice la l.length lc] 24)).cell? ⟨w.heap.size, 0, none⟩ = some (.int .i64 n) := X.cell (j := 0) rfl
  have x1 : (w.alloc (.cells #[.int .i64 n, .int .i64 s, .slice la l.length lc] 24)).cell? ⟨w.heap.size, 1, none⟩ = some (.int .i64 s) := X.cell (j := 1) rfl
  have x2 : (w.alloc (.cells #[.int .i64 n, .int .i64 s, .slice la l.length lc] 24)).cell? ⟨w.heap.size, 2, none⟩ = some (.slice la l.length lc) := X.cell (j := 2) rfl
  have CC := Lib.hid (And.intro X (And.intro c0 z0))
  clear hc X c0 z0 hl hll hk
  go_enter Try.func4, Try.ntmps4
  go_wp2_with fail
  refine (HM _ CC.out.2.1).mono ?_
  rintro e w1 ⟨rfl, b⟩
  have c1 := CC.out.2.1.trans (b.mono CC.out.2.1.size)
  clear x0 x1 x2 b HM CC
  go_wp2_with fail
  refine (HF _).mono ?_
  rintro e w2 ⟨rfl, b⟩
  have c2 := c1.trans (b.mono c1.size)
  clear b c1
  go_wp2_with fail
  refine (HF _).mono ?_
  rintro e w3 ⟨rfl, b⟩
  have c3 := c2.trans (b.mono c2.size)
  clear b c2
  go_wp2
  go_ret
  exact ⟨rfl, c3⟩

set_option maxRecDepth 100000 in
set_option maxHeartbeats 20000000 in
theorem safe_good (n s : Nat) (hc : Dk.can n s = true) (l : List Ac) (v : Value) (ll : List Ac) (lv : Value) (kl : List Int) (ka : Option Addr) (kc : Nat) (w : World) (hl : Acts w v l) (hll : Acts w lv ll) (hk : Kit.Rd w (.slice ka (ints kl).length kc) (ints kl)) :
    Calls Try.prog 4 #[.agg #[.int .i64 (n : Int), .int .i64 (s : Int), v], lv, .slice ka (ints kl).length kc] w fun e w' => e = .returned (.bool true) ∧ Below w.heap.size w w' := by
  have HL := Lib.hid hl
  have HLL := Lib.hid (And.intro hll hk)
  obtain ⟨la, lc, rfl⟩ := hl.form
  obtain ⟨va, vc, rfl⟩ := hll.form
  have X := Box.new w #[.int .i64 (n : Int), .int .i64 (s : Int), .slice la l.length lc] 24
  have c0 := below_lit w (.cells #[.int .i64 (n : Int), .int .i64 (s : Int), .slice la l.length lc] 24)
  have z0 : (w.alloc (.cells #[.int .i64 (n : Int), .int .i64 (s : Int), .slice la l.length lc] 24)).heap.size = w.heap.size + 1 := World.size_alloc _ _
  have HM := fun w' (h : Below w.heap.size w w') => made_any n s hc l _ w' (HL.out.below h)
  have HF := fixed_any
  have x0 : (w.alloc (.cells #[.int .i64 (n : Int), .int .i64 (s : Int), .slice la l.length lc] 24)).cell? ⟨w.heap.size, 0, none⟩ = some (.int .i64 (n : Int)) := X.cell (j := 0) rfl
  have x1 : (w.alloc (.cells #[.int .i64 (n : Int), .int .i64 (s : Int), .slice la l.length lc] 24)).cell? ⟨w.heap.size, 1, none⟩ = some (.int .i64 (s : Int)) := X.cell (j := 1) rfl
  have x2 : (w.alloc (.cells #[.int .i64 (n : Int), .int .i64 (s : Int), .slice la l.length lc] 24)).cell? ⟨w.heap.size, 2, none⟩ = some (.slice la l.length lc) := X.cell (j := 2) rfl
  have CC := Lib.hid (And.intro X (And.intro c0 z0))
  have hmk := mk_same n s l 200
  have HPD := Lib.hid (mk_pend n s l 200)
  have hok : (mk n s l 200).ok := (Dk.ok_new hc).acts _
  have hfl : (mk n s l 200).flush.safe.length = n := by show (after _ _ _ _).length = n; rw [after_length]; exact hmk.2
  have hfs : (mk n s l 200).flush.size = s := hmk.1
  have HFK := Lib.hid (And.intro hfl (And.intro hfs (And.intro hok.flush (flush_none (mk n s l 200)))))
  have hcn := of_decide_eq_true hc
  have HN := Lib.hid (show n ≤ 256 by omega)
  clear hc X c0 z0 hl hll hk hok hcn hmk hfl hfs
  generalize hD : mk n s l 200 = D at *
  clear hD
  go_enter Try.func4, Try.ntmps4
  go_wp2_with fail
  refine (HM _ CC.out.2.1).mono ?_
  rintro e w1 ⟨p, K, rfl, h1, hK, b⟩
  have hK : ∀ i, K i → w.heap.size + 1 ≤ i := fun i hi => by have := hK i hi; rwa [CC.out.2.2] at this
  have z1 : w.heap.size + 1 ≤ w1.heap.size := by have := b.size; rwa [CC.out.2.2] at this
  have X1 := CC.out.1.below b
  have c1 := CC.out.2.1.trans (b.mono (Nat.le_of_lt (by rw [CC.out.2.2]; exact Nat.lt_succ_self _)))
  have O1 : One (w.heap.size + 1) w1 w1 p K D := ⟨h1, hK, Below.refl _ _, z1⟩
  have XC := Lib.hid (And.intro X1 c1)
  clear x0 x1 x2 b CC X1 c1 h1 hK z1 HM
  go_wp2_with fail
  refine (HF _).mono ?_
  rintro e w2 ⟨rfl, b⟩
  have O2 := O1.below b
  clear b O1 HF
  have H := flush_any O2.d (by have := HPD.out; omega)
  go_wp2_with fail
  refine H.mono ?_
  rintro e w3 ⟨rfl, h3, hb3⟩
  have O3 := O2.same hb3 h3
  clear O2 h3 hb3 H HPD
  generalize D.flush = F at *
  have ow := World.ownsRow_made (base := w3.heap.size) (e := 9) (size := 1) w3 #[] 0 (Nat.le_refl _) (by unfold maxLen; omega) rfl
  have b4 := below_lit w3 (.cells #[] 9)
  have HO := Lib.hid O3
  clear O3
  go_wp2
  go_loopw [9, 10] (fun vs vi wr => ∃ i : Nat, i ≤ n ∧ vi = .int .i64 (i : Int) ∧ wr.ownsRow w3.heap.size 9 1 vs i (Dsk.strs (F.safe.take i)) ∧ Below w3.heap.size w3 wr)
    (fun _ vi _ => n - (intOf vi).toNat)
  case atStart => exact ⟨0, Nat.zero_le _, rfl, ow, b4⟩
  case round =>
    obtain ⟨i, hi2, rfl, hown, hb⟩ := hrel
    have O := HO.out.below hb
    have x0 : wr.cell? ⟨w.heap.size, 0, none⟩ = some (.int .i64 (n : Int)) := (XC.out.1.low O.low (Nat.lt_succ_self _)).cell (j := 0) rfl
    obtain ⟨sa, sc, rfl, -, -⟩ := row_form hown
    clear ow b4
    by_cases hlt : i < n
    · have g1 : (i : Int) < (n : Int) := by omega
      have H := safe_any O.d (i : Int)
      have hlf : i < F.safe.length := by rw [HFK.out.1]; exact hlt
      rw [safe_is hlf] at H
      have etk : Dsk.strs (F.safe.take i) ++ Dsk.strs [F.safe.getD i ⟨#[]⟩] = Dsk.strs (F.safe.take (i + 1)) := by
        unfold Dsk.strs
        rw [← List.map_append, List.take_add_one]
        congr 2
        rw [List.getElem?_eq_getElem hlf, List.getD_eq_getElem?_getD, List.getElem?_eq_getElem hlf]
        rfl
      generalize F.safe.getD i ⟨#[]⟩ = ts at *
      have HB := Lib.hid (And.intro hown (And.intro hb etk))
      clear hown hb O hlf etk
      go_wp2_with fail
      refine H.mono ?_
      rintro e w6 ⟨rfl, b6⟩
      have hb6 := HB.out.2.1.trans (b6.mono HB.out.2.1.size)
      have bx4 : (w6.alloc (.cells #[.string ts] 9)).heap[w6.heap.size]? = some (.cells #[.string ts] 9 (0, 0)) := (MapKept.heap_alloc w6 _).1
      have ow4 := (row_kept (w' := w6) HB.out.1 (fun k _ hk2 => b6.block k hk2)).alloc (.cells #[.string ts] 9)
      have hB4 := hb6.trans ((below_lit w6 (.cells #[.string ts] 9)).mono hb6.size)
      have hf1 : (i + 1) * 16 ≤ 140737488355328 := by have := HN.out; omega
      have hf2 : i + 1 ≤ maxLen := by have := HN.out; unfold maxLen; omega
      clear H b6 hb6 x0
      obtain ⟨is0, zs0, hsi, is1, is2, is3, is4⟩ := Dsk.infoStr
      go_wp2_with (at_builtin; refine wpList_append_lies _ rfl _ _ 38 rfl w3.heap.size 9 is0 zs0 1 16 Try.underlying38 hsi is1 is2 is3 is4 (by decide) (.slice sa i sc) i (Dsk.strs (F.safe.take i)) rfl ow4 ⟨w6.heap.size, 0, none⟩ 1 1 [.string ts] rfl rfl (World.news_of_block bx4) (Dsk.strs_one [ts]) (by decide) hf2 hf1 hB4.size _ rfl ?_)
      intro q5 cap2 w5 hown5 hg hat hlt5
      have hown5 : w5.ownsRow w3.heap.size 9 1 (.slice (some ⟨q5, 0, none⟩) (i + 1) cap2) (i + 1) (Dsk.strs (F.safe.take (i + 1))) := by rw [← HB.out.2.2]; exact hown5
      have hB5 := hB4.grown hg hB4.size (fun j hj => (ow4.lt j hj).1)
      have e3 : wrap64 ((i : Int) + 1) = (i : Int) + 1 := by unfold wrap64; have := HN.out; omega
      clear hg hat hlt5 ow4 hB4 bx4 hf1 hf2 HB
      go_wp2
      go_roundw
      case rel => exact ⟨i + 1, hlt, by first | rfl | (rw [e3]; rfl), hown5, hB5⟩
      case measure =>
        have l5 : (intOf (.int .i64 (wrap64 ((i : Int) + 1)))).toNat = i + 1 := by rw [e3]; rfl
        have l7 : (intOf (.int .i64 ((i : Int) + 1))).toNat = i + 1 := rfl
        have l6 : (intOf (.int .i64 (i : Int))).toNat = i := rfl
        first | rw [l5, l6] | rw [l7, l6]
        exact Nat.sub_lt_sub_left hlt (Nat.lt_succ_self i)
    · obtain rfl : i = n := by omega
      have g1 : ¬ (i : Int) < (i : Int) := by omega
      have etk : F.safe.take i = F.safe := List.take_of_length_le (by rw [HFK.out.1]; exact Nat.le_refl _)
      rw [etk] at hown
      have S0 : Beside (w.heap.size + 1) K wr 9 1 (.slice sa i sc) i (Dsk.strs F.safe) :=
        ⟨⟨hown.1, hown.2.imp id (fun ⟨g, cap, cur, e, hB, r⟩ => ⟨g, cap, cur, e, Nat.zero_le _, r⟩)⟩, fun k hk hKk => by have h1 := (hown.lt k hk).1; have h2 := HO.out.d.lt k hKk; omega, fun k hk => by have h1 := (hown.lt k hk).1; have h2 := HO.out.size; omega⟩
      have S1 := S0.below (below_lit wr (.cells #[] 36))
      have O1 := O.below (below_lit wr (.cells #[] 36))
      have ow := World.ownsRow_made (base := 0) (e := 36) (size := 4) wr #[] 0 (Nat.zero_le _) (by unfold maxLen; omega) rfl
      have W1 : Beside (w.heap.size + 1) K (wr.alloc (.cells #[] 36)) 36 4 (.slice (some ⟨wr.heap.size, 0, none⟩) 0 0) 0 [] :=
        ⟨ow, fun k hk hKk => by cases hk; exact Nat.lt_irrefl _ (O.d.lt _ hKk), fun k hk => by cases hk; exact O.size⟩
      have hw0 : ws F ll 0 = F := rfl
      have hwp : F.pend = [] := HFK.out.2.2.2
      have R0 : One (w.heap.size + 1) w1 (wr.alloc (.cells #[] 36)) p K (ws F ll 0) ∧ Beside (w.heap.size + 1) K (wr.alloc (.cells #[] 36)) 9 1 (.slice sa i sc) i (Dsk.strs F.safe) ∧ Beside (w.heap.size + 1) K (wr.alloc (.cells #[] 36)) 36 4 (.slice (some ⟨wr.heap.size, 0, none⟩) 0 0) (ws F ll 0).pend.length ((ws F ll 0).pend.flatMap cellsR) := by
        rw [hw0, hwp]
        exact ⟨O1, S1, W1⟩
      clear hown hb O S0 S1 O1 ow W1 etk hw0 hwp HO
      generalize wr = w4 at *
      go_wp2
      clear x0
      go_loopw [13, 14] (fun vs vi wr => ∃ (j : Nat) (Kz : Nat → Prop), j ≤ ll.length ∧ j ≤ 50 ∧ vi = .int .i64 (j : Int) ∧ One (w.heap.size + 1) w1 wr p Kz (ws F ll j) ∧ Beside (w.heap.size + 1) Kz wr 9 1 (.slice sa i sc) i (Dsk.strs F.safe) ∧ Beside (w.heap.size + 1) Kz wr 36 4 vs (ws F ll j).pend.length ((ws F ll j).pend.flatMap cellsR))
        (fun _ vi _ => 50 - (intOf vi).toNat)
      case atStart => exact ⟨0, K, Nat.zero_le _, by omega, rfl, R0.1, R0.2.1, R0.2.2⟩
      case round =>
        obtain ⟨j, Kz, hj1, hj2, rfl, O, S, W⟩ := hrel
        clear R0
        obtain ⟨wa, wc, rfl, -, -⟩ := row_form W.row
        have hpj : (ws F ll j).pend.length ≤ j := by
          have h1 := ws_pend (ll.take j) F
          rw [HFK.out.2.2.2, List.length_take] at h1
          unfold ws
          simp only [List.length_nil] at h1
          omega
        by_cases hlt : j < ll.length
        · have g2 : (j : Int) < (ll.length : Int) := by omega
          by_cases hlt2 : j < 50
          · have g3 : (j : Int) < 50 := by omega
            obtain ⟨c, hc⟩ : ∃ c, ll[j]? = some c := ⟨_, List.getElem?_eq_getElem hlt⟩
            have es := ws_succ (F := F) hc
            have hsm := ws_same (ll.take j) F
            have hsm1 : (ws F ll j).size = s := hsm.1.trans HFK.out.2.1
            have hsm2 : (ws F ll j).safe.length = i := by show ((ll.take j).foldl _ F).safe.length = i; rw [hsm.2]; exact HFK.out.1
            have cw := XC.out.2.trans (O.low.mono (Nat.le_succ _))
            obtain ⟨ad, ka2, kc2, rfl, a0, a1, a2, a3, -⟩ := HLL.out.1.at_ (K := fun _ => False) cw.drew (fun _ h => h.elim) hc
            have e3 : wrap64 ((j : Int) + 1) = (j : Int) + 1 := by unfold wrap64; omega
            have RR := Lib.hid (And.intro O (And.intro S (And.intro W (And.intro hc (And.intro es (And.intro hpj (And.intro hsm1 hsm2)))))))
            clear O S W hsm hc es hpj hsm1 hsm2 cw a0 a3
            generalize hE : ws F ll j = E at *
            clear hE
            go_wp2_with fail
            go_still_tail 11, (by kernel_rfl)
            change wpList _ _ _ _ _ wr.drew
            have Od : One (w.heap.size + 1) w1 wr.drew p Kz E := RR.out.1.below ((Below.refl _ wr).drew)
            have H := write_any Od.d (by have := RR.out.2.2.2.2.2.1; omega) c.at_ c.text
            clear a1 a2
            go_wp2_with fail
            refine H.mono ?_
            rintro e w5 ⟨rfl, K5, h5, st⟩
            have std : Step Kz wr K5 w5 := (Step.below ((Below.refl _ wr).drew) Kz).trans st
            have O5 := RR.out.1.turn std h5
            have S5 := RR.out.2.1.step std
            have W5 := RR.out.2.2.1.step std
            have c5 := XC.out.2.trans (O5.low.mono (Nat.le_succ _))
            obtain ⟨ad', ka3, kc3, e, a0, a1, a2, a3, -⟩ := HLL.out.1.at_ (K := fun _ => False) c5 (fun _ h => h.elim) RR.out.2.2.2.1
            cases e
            clear H Od std h5 st a0 a2 a3
            cases hcw : E.canWrite c.at_ c.text with
            | false =>
              have ew : ws F ll (j + 1) = E := RR.out.2.2.2.2.1.trans (write_no (by rw [hcw]; decide))
              rw [write_no (by rw [hcw]; decide)] at O5
              have FF := Lib.hid (And.intro O5 (And.intro S5 (And.intro W5 ew)))
              clear O5 S5 W5 ew c5 RR a1 hcw
              go_wp2
              go_roundw
              case rel => exact ⟨j + 1, K5, hlt, by omega, by first | rfl | (rw [e3]; rfl), by rw [FF.out.2.2.2]; exact FF.out.1, FF.out.2.1, by rw [FF.out.2.2.2]; exact FF.out.2.2.1⟩
              case measure =>
                have l5 : (intOf (.int .i64 (wrap64 ((j : Int) + 1)))).toNat = j + 1 := by rw [e3]; rfl
                have l7 : (intOf (.int .i64 ((j : Int) + 1))).toNat = j + 1 := rfl
                have l6 : (intOf (.int .i64 (j : Int))).toNat = j := rfl
                first | rw [l5, l6] | rw [l7, l6]
                exact Nat.sub_lt_sub_left hlt2 (Nat.lt_succ_self j)
            | true =>
              have ew : ws F ll (j + 1) = E.push c.at_.toNat (pad c.text E.size) := RR.out.2.2.2.2.1.trans (write_yes hcw)
              rw [write_yes hcw] at O5
              obtain ⟨hth, hsz⟩ : (0 ≤ c.at_ ∧ c.at_ < (E.safe.length : Int)) ∧ c.text.size ≤ E.size := by
                simp only [Dk.canWrite, Bool.and_eq_true, Dk.there_iff] at hcw
                exact ⟨hcw.1, of_decide_eq_true hcw.2⟩
              obtain ⟨ak, hak⟩ : ∃ ak : Nat, c.at_ = (ak : Int) := ⟨c.at_.toNat, by omega⟩
              have hakl : ak < E.safe.length := by omega
              rw [hak] at ew O5 a1
              have et : ((ak : Int)).toNat = ak := rfl
              rw [et] at ew O5
              have H := read_any O5.d (by show (E.pend ++ [(⟨_, _⟩ : Wr)]).length < 2000; rw [List.length_append, List.length_singleton]; have := RR.out.2.2.2.2.2.1; omega) (ak : Int)
              rw [read_push E hakl] at H
              have hpl : (E.push ak (pad c.text E.size)).pend.length = E.pend.length + 1 := by show (E.pend ++ [(⟨_, _⟩ : Wr)]).length = _; simp
              have hpf : (E.push ak (pad c.text E.size)).pend.flatMap cellsR = E.pend.flatMap cellsR ++ cellsR ⟨ak, pad c.text E.size⟩ := by show (E.pend ++ [(⟨_, _⟩ : Wr)]).flatMap cellsR = _; simp
              have hpe := RR.out.2.2.2.2.2.1
              generalize hP : E.push ak (pad c.text E.size) = P2 at *
              generalize pad c.text E.size = tp at *
              have FF := Lib.hid (And.intro O5 (And.intro S5 (And.intro W5 (And.intro ew (And.intro hpl hpf)))))
              clear O5 S5 W5 ew c5 RR hcw hth hsz hakl hpl hpf hP et
              go_wp2_with fail
              refine H.mono ?_
              rintro e w6 ⟨rfl, b6⟩
              have O6 := FF.out.1.below b6
              have S6 := FF.out.2.1.below b6
              have W6 := FF.out.2.2.1.below b6
              have c6 := XC.out.2.trans (O6.low.mono (Nat.le_succ _))
              have a6 : w6.cell? ⟨(ad.add (j * 4)).block, (ad.add (j * 4)).off + 1, none⟩ = some (.int .i64 (ak : Int)) := by rw [b6.cell (World.block_lt_of_cell? _ _ a1)]; exact a1
              have bl := below_lit w6 (.cells #[.int .i64 0, .int .i64 (ak : Int), .string tp, .slice none 0 0] 36)
              have O7 := O6.below bl
              have S7 := S6.below bl
              have W7 := W6.below bl
              have bx4 : (w6.alloc (.cells #[.int .i64 0, .int .i64 (ak : Int), .string tp, .slice none 0 0] 36)).heap[w6.heap.size]? = some (.cells #[.int .i64 0, .int .i64 (ak : Int), .string tp, .slice none 0 0] 36 (0, 0)) := (MapKept.heap_alloc w6 _).1
              have hf1 : (E.pend.length + 1) * 56 ≤ 140737488355328 := by omega
              have hf2 : E.pend.length + 1 ≤ maxLen := by unfold maxLen; omega
              have OO := Lib.hid (And.intro O7 (And.intro S7 W7))
              have owr := W7.row
              clear H a1 b6 O6 S6 W6 c6 bl O7 S7 W7
              obtain ⟨ia0, za0, hai, ia1, ia2, ia3, ia4⟩ := Dsk.infoAct
              go_wp2_with (at_builtin; refine wpList_append_lies _ rfl _ _ 22 rfl 0 36 ia0 za0 4 56 Try.underlying22 hai ia1 ia2 ia3 ia4 (by decide) _ _ _ rfl owr ⟨w6.heap.size, 0, none⟩ 1 1 (cellsR ⟨ak, tp⟩) rfl rfl (World.news_of_block bx4) (cellsR_one _) (by decide) hf2 hf1 (Nat.zero_le _) _ rfl ?_)
              intro q8 cap8 w8 hown8 hg hat hlt8
              have hoff : ∀ k, (Value.slice wa E.pend.length wc).ownBlock = some k → ¬ K5 k ∧ w.heap.size + 1 ≤ k := fun k hk => ⟨OO.out.2.2.off k hk, OO.out.2.2.low k hk⟩
              have O8 := OO.out.1.grown hg hoff
              have S8 := OO.out.2.1.other OO.out.2.2.row (by decide) hg
              have hsz6 : (w6.alloc (.cells #[.int .i64 0, .int .i64 (ak : Int), .string tp, .slice none 0 0] 36)).heap.size = w6.heap.size + 1 := World.size_alloc _ _
              have hq : ¬ K5 q8 ∧ w.heap.size + 1 ≤ q8 := by
                rcases hat with h | h
                · exact hoff _ h
                · exact ⟨fun hk => by have := OO.out.1.d.lt _ hk; omega, by have := OO.out.1.size; omega⟩
              have W8 : Beside (w.heap.size + 1) K5 w8 36 4 (.slice (some ⟨q8, 0, none⟩) (E.pend.length + 1) cap8) P2.pend.length (P2.pend.flatMap cellsR) := by
                rw [FF.out.2.2.2.2.1, FF.out.2.2.2.2.2]
                exact ⟨hown8, fun k hk => by cases hk; exact hq.1, fun k hk => by cases hk; exact hq.2⟩
              have ZZ := Lib.hid (And.intro O8 (And.intro S8 (And.intro W8 FF.out.2.2.2.1)))
              clear owr hown8 hg hat hlt8 hoff O8 S8 hq W8 bx4 hf1 hf2 OO FF a6
              go_wp2
              go_roundw
              case rel => exact ⟨j + 1, K5, hlt, by omega, by first | rfl | (rw [e3]; rfl), by rw [ZZ.out.2.2.2]; exact ZZ.out.1, ZZ.out.2.1, by rw [ZZ.out.2.2.2]; exact ZZ.out.2.2.1⟩
              case measure =>
                have l5 : (intOf (.int .i64 (wrap64 ((j : Int) + 1)))).toNat = j + 1 := by rw [e3]; rfl
                have l7 : (intOf (.int .i64 ((j : Int) + 1))).toNat = j + 1 := rfl
                have l6 : (intOf (.int .i64 (j : Int))).toNat = j := rfl
                first | rw [l5, l6] | rw [l7, l6]
                exact Nat.sub_lt_sub_left hlt2 (Nat.lt_succ_self j)
          · obtain rfl : j = 50 := by omega
            have hsm := ws_same (ll.take 50) F
            have hE1 : (ws F ll 50).size = s := hsm.1.trans HFK.out.2.1
            have hE2 : (ws F ll 50).safe = F.safe := hsm.2
            have hEok : (ws F ll 50).ok := ws_ok (ll.take 50) F HFK.out.2.2.1
            have hp50 : (ws F ll 50).pend.length ≤ 50 := by omega
            generalize ws F ll 50 = E at *
            have H := pending_any O.d
            have HEE := Lib.hid (And.intro hE1 (And.intro hE2 (And.intro hEok hp50)))
            have RR := Lib.hid (And.intro O (And.intro S W))
            clear O S W hsm hE1 hE2 hEok hp50 hpj
            go_wp2_with fail
            refine H.mono ?_
            rintro e w5 ⟨rfl, b5⟩
            have O5 := RR.out.1.below b5
            have S5 := RR.out.2.1.below b5
            have W5 := RR.out.2.2.below b5
            have c5 := XC.out.2.trans (O5.low.mono (Nat.le_succ _))
            have hr : RdK Kz w5 (.slice ka (ints kl).length kc) (ints kl) := (RdK.of_rd HLL.out.2 (fun k hk => by have := O5.dk k hk; omega)).below c5
            have H := crash_any O5.d (by have := HEE.out.2.2.2; omega) hr
            have RR := Lib.hid (And.intro O5 (And.intro S5 W5))
            clear O5 S5 W5 c5 hr b5
            generalize (ints kl).length = kn at *
            go_wp2_with fail
            refine H.mono ?_
            rintro e w6 ⟨rfl, h6, bK⟩
            have O6 := RR.out.1.same bK h6
            have S6 := RR.out.2.1.but bK
            have W6 := RR.out.2.2.but bK
            have RZ := Lib.hid (And.intro O6 (And.intro S6 W6))
            clear O6 S6 W6 bK h6 H RR
            have hcz : ∀ j : Nat, j < i → ((E.crash kl).safe.getD j ⟨#[]⟩).size = s := fun j hj => ((HEE.out.2.2.1.crash kl).safeAt (by show j < (after _ _ _ _).length; rw [after_length, HEE.out.2.1, HFK.out.1]; exact hj)).trans HEE.out.1
            have hfz : ∀ j : Nat, j < i → (F.safe.getD j ⟨#[]⟩).size = s := fun j hj => (HFK.out.2.2.1.safeAt (by rw [HFK.out.1]; exact hj)).trans HFK.out.2.1
            have hcr : ∀ j : Nat, j < i → (E.crash kl).read (j : Int) = ((E.crash kl).safe.getD j ⟨#[]⟩, true) := fun j hj => crash_is (by rw [HEE.out.2.1, HFK.out.1]; exact hj)
            have hmx : ∀ j k : Nat, okTo ((E.crash kl).safe.getD j ⟨#[]⟩) (F.safe.getD j ⟨#[]⟩) E.pend j k E.pend.length = true := fun j k => by
              have h := mixed_ok HEE.out.2.2.1 kl j k
              rwa [HEE.out.2.1] at h
            have hwt : ∀ x ∈ E.pend, x.text.size = s := fun x hx => ((HEE.out.2.2.1.pend x hx).2).trans HEE.out.1
            have hs512 : s ≤ 512 := by have := HEE.out.2.2.1.z2; have := HEE.out.1; omega
            have HV := Lib.hid (And.intro hcz (And.intro hfz (And.intro hcr (And.intro hmx (And.intro hwt hs512)))))
            clear hcz hfz hcr hmx hwt hs512
            go_wp2
            go_loopw [17] (fun vi wz => ∃ j : Nat, j ≤ i ∧ vi = .int .i64 (j : Int) ∧ Below w6.heap.size w6 wz) (fun vi _ => i - (intOf vi).toNat)
            case atStart => exact ⟨0, Nat.zero_le _, rfl, Below.refl _ _⟩
            case round =>
              obtain ⟨j, hj, rfl, hb⟩ := hrel
              have O := RZ.out.1.below hb
              have X := XC.out.1.low O.low (Nat.lt_succ_self _)
              have x0 : wr.cell? ⟨w.heap.size, 0, none⟩ = some (.int .i64 (i : Int)) := X.cell (j := 0) rfl
              by_cases hlt9 : j < i
              · have g9 : (j : Int) < (i : Int) := by omega
                have H := read_any O.d (by show 0 < 2000; decide) (j : Int)
                rw [HV.out.2.2.1 j hlt9] at H
                have e3 : wrap64 ((j : Int) + 1) = (j : Int) + 1 := by unfold wrap64; have := HN.out; omega
                have k1 := HV.out.1 j hlt9
                have k2 := HV.out.2.1 j hlt9
                have k3 := HV.out.2.2.2.1 j
                have hsl : ∀ w', Below w6.heap.size w6 w' → ∃ g, sa = some ⟨g, 0, none⟩ ∧ w'.cell? ⟨g, j, none⟩ = some (.string (F.safe.getD j ⟨#[]⟩)) := fun w' h => by
                  have hr := (RZ.out.2.1.below h).row
                  rcases hr.2 with ⟨_, h0⟩ | ⟨g, cap, cur, e, _⟩
                  · omega
                  · cases e
                    refine ⟨g, rfl, ?_⟩
                    rw [hr.cellAt j (by omega), Dsk.strs_at (by rw [HFK.out.1]; exact hlt9)]
                generalize (E.crash kl).safe.getD j ⟨#[]⟩ = tc at *
                generalize F.safe.getD j ⟨#[]⟩ = tf at *
                have HB := Lib.hid (And.intro hb (And.intro k1 (And.intro k2 (And.intro k3 hsl))))
                clear O X hb k1 k2 k3 hsl
                go_wp2_with fail
                refine H.mono ?_
                rintro e wa ⟨rfl, b⟩
                have ba := HB.out.1.trans (b.mono HB.out.1.size)
                obtain ⟨g, rfl, sg⟩ := HB.out.2.2.2.2 _ ba
                have x1 : wa.cell? ⟨w.heap.size, 1, none⟩ = some (.int .i64 (s : Int)) := (XC.out.1.low (RZ.out.1.below ba).low (Nat.lt_succ_self _)).cell (j := 1) rfl
                have H2 := mixed_any tc tf s HB.out.2.1 HB.out.2.2.1 HV.out.2.2.2.2.2 E.pend HEE.out.2.2.2 HV.out.2.2.2.2.1 j (fun k _ => HB.out.2.2.2.1 k) _ _ (RZ.out.2.2.below ba).row
                have ez : ((tc.size : Int) != (s : Int)) = false := by rw [HB.out.2.1]; simp
                have ez2 : (tc.size != s) = false := by rw [HB.out.2.1]; simp
                clear H x0 b HB
                go_wp2_with fail
                refine H2.mono ?_
                rintro e wb ⟨rfl, b⟩
                have bb := ba.trans (b.mono ba.size)
                clear H2 ba b sg x1
                go_wp2
                go_roundw
                case rel => exact ⟨j + 1, hlt9, by first | rfl | (rw [e3]; rfl), bb⟩
                case measure =>
                  have l5 : (intOf (.int .i64 (wrap64 ((j : Int) + 1)))).toNat = j + 1 := by rw [e3]; rfl
                  have l7 : (intOf (.int .i64 ((j : Int) + 1))).toNat = j + 1 := rfl
                  have l6 : (intOf (.int .i64 (j : Int))).toNat = j := rfl
                  first | rw [l5, l6] | rw [l7, l6]
                  exact Nat.sub_lt_sub_left hlt9 (Nat.lt_succ_self j)
              · obtain rfl : j = i := by omega
                have g9 : ¬ (j : Int) < (j : Int) := by omega
                have H := pending_any O.d
                have hp0 : (E.crash kl).pend.length = 0 := rfl
                rw [hp0] at H
                have c9 := XC.out.2.trans (O.low.mono (Nat.le_succ _))
                clear O X hb hp0
                go_wp2_with fail
                refine H.mono ?_
                rintro e wa ⟨rfl, b⟩
                have cA := c9.trans (b.mono c9.size)
                clear H b c9 x0
                go_wp2
                go_ret
                exact ⟨rfl, cA⟩
        · obtain rfl : j = ll.length := by omega
          have g2 : ¬ (ll.length : Int) < (ll.length : Int) := by omega
          have hsm := ws_same (ll.take ll.length) F
          have hE1 : (ws F ll ll.length).size = s := hsm.1.trans HFK.out.2.1
          have hE2 : (ws F ll ll.length).safe = F.safe := hsm.2
          have hEok : (ws F ll ll.length).ok := ws_ok (ll.take ll.length) F HFK.out.2.2.1
          have hp50 : (ws F ll ll.length).pend.length ≤ 50 := by omega
          generalize ws F ll ll.length = E at *
          have H := pending_any O.d
          have HEE := Lib.hid (And.intro hE1 (And.intro hE2 (And.intro hEok hp50)))
          have RR := Lib.hid (And.intro O (And.intro S W))
          clear O S W hsm hE1 hE2 hEok hp50 hpj
          go_wp2_with fail
          refine H.mono ?_
          rintro e w5 ⟨rfl, b5⟩
          have O5 := RR.out.1.below b5
          have S5 := RR.out.2.1.below b5
          have W5 := RR.out.2.2.below b5
          have c5 := XC.out.2.trans (O5.low.mono (Nat.le_succ _))
          have hr : RdK Kz w5 (.slice ka (ints kl).length kc) (ints kl) := (RdK.of_rd HLL.out.2 (fun k hk => by have := O5.dk k hk; omega)).below c5
          have H := crash_any O5.d (by have := HEE.out.2.2.2; omega) hr
          have RR := Lib.hid (And.intro O5 (And.intro S5 W5))
          clear O5 S5 W5 c5 hr b5
          generalize (ints kl).length = kn at *
          go_wp2_with fail
          refine H.mono ?_
          rintro e w6 ⟨rfl, h6, bK⟩
          have O6 := RR.out.1.same bK h6
          have S6 := RR.out.2.1.but bK
          have W6 := RR.out.2.2.but bK
          have RZ := Lib.hid (And.intro O6 (And.intro S6 W6))
          clear O6 S6 W6 bK h6 H RR
          have hcz : ∀ j : Nat, j < i → ((E.crash kl).safe.getD j ⟨#[]⟩).size = s := fun j hj => ((HEE.out.2.2.1.crash kl).safeAt (by show j < (after _ _ _ _).length; rw [after_length, HEE.out.2.1, HFK.out.1]; exact hj)).trans HEE.out.1
          have hfz : ∀ j : Nat, j < i → (F.safe.getD j ⟨#[]⟩).size = s := fun j hj => (HFK.out.2.2.1.safeAt (by rw [HFK.out.1]; exact hj)).trans HFK.out.2.1
          have hcr : ∀ j : Nat, j < i → (E.crash kl).read (j : Int) = ((E.crash kl).safe.getD j ⟨#[]⟩, true) := fun j hj => crash_is (by rw [HEE.out.2.1, HFK.out.1]; exact hj)
          have hmx : ∀ j k : Nat, okTo ((E.crash kl).safe.getD j ⟨#[]⟩) (F.safe.getD j ⟨#[]⟩) E.pend j k E.pend.length = true := fun j k => by
            have h := mixed_ok HEE.out.2.2.1 kl j k
            rwa [HEE.out.2.1] at h
          have hwt : ∀ x ∈ E.pend, x.text.size = s := fun x hx => ((HEE.out.2.2.1.pend x hx).2).trans HEE.out.1
          have hs512 : s ≤ 512 := by have := HEE.out.2.2.1.z2; have := HEE.out.1; omega
          have HV := Lib.hid (And.intro hcz (And.intro hfz (And.intro hcr (And.intro hmx (And.intro hwt hs512)))))
          clear hcz hfz hcr hmx hwt hs512
          go_wp2
          go_loopw [17] (fun vi wz => ∃ j : Nat, j ≤ i ∧ vi = .int .i64 (j : Int) ∧ Below w6.heap.size w6 wz) (fun vi _ => i - (intOf vi).toNat)
          case atStart => exact ⟨0, Nat.zero_le _, rfl, Below.refl _ _⟩
          case round =>
            obtain ⟨j, hj, rfl, hb⟩ := hrel
            have O := RZ.out.1.below hb
            have X := XC.out.1.low O.low (Nat.lt_succ_self _)
            have x0 : wr.cell? ⟨w.heap.size, 0, none⟩ = some (.int .i64 (i : Int)) := X.cell (j := 0) rfl
            by_cases hlt9 : j < i
            · have g9 : (j : Int) < (i : Int) := by omega
              have H := read_any O.d (by show 0 < 2000; decide) (j : Int)
              rw [HV.out.2.2.1 j hlt9] at H
              have e3 : wrap64 ((j : Int) + 1) = (j : Int) + 1 := by unfold wrap64; have := HN.out; omega
              have k1 := HV.out.1 j hlt9
              have k2 := HV.out.2.1 j hlt9
              have k3 := HV.out.2.2.2.1 j
              have hsl : ∀ w', Below w6.heap.size w6 w' → ∃ g, sa = some ⟨g, 0, none⟩ ∧ w'.cell? ⟨g, j, none⟩ = some (.string (F.safe.getD j ⟨#[]⟩)) := fun w' h => by
                have hr := (RZ.out.2.1.below h).row
                rcases hr.2 with ⟨_, h0⟩ | ⟨g, cap, cur, e, _⟩
                · omega
                · cases e
                  refine ⟨g, rfl, ?_⟩
                  rw [hr.cellAt j (by omega), Dsk.strs_at (by rw [HFK.out.1]; exact hlt9)]
              generalize (E.crash kl).safe.getD j ⟨#[]⟩ = tc at *
              generalize F.safe.getD j ⟨#[]⟩ = tf at *
              have HB := Lib.hid (And.intro hb (And.intro k1 (And.intro k2 (And.intro k3 hsl))))
              clear O X hb k1 k2 k3 hsl
              go_wp2_with fail
              refine H.mono ?_
              rintro e wa ⟨rfl, b⟩
              have ba := HB.out.1.trans (b.mono HB.out.1.size)
              obtain ⟨g, rfl, sg⟩ := HB.out.2.2.2.2 _ ba
              have x1 : wa.cell? ⟨w.heap.size, 1, none⟩ = some (.int .i64 (s : Int)) := (XC.out.1.low (RZ.out.1.below ba).low (Nat.lt_succ_self _)).cell (j := 1) rfl
              have H2 := mixed_any tc tf s HB.out.2.1 HB.out.2.2.1 HV.out.2.2.2.2.2 E.pend HEE.out.2.2.2 HV.out.2.2.2.2.1 j (fun k _ => HB.out.2.2.2.1 k) _ _ (RZ.out.2.2.below ba).row
              have ez : ((tc.size : Int) != (s : Int)) = false := by rw [HB.out.2.1]; simp
              have ez2 : (tc.size != s) = false := by rw [HB.out.2.1]; simp
              clear H x0 b HB
              go_wp2_with fail
              refine H2.mono ?_
              rintro e wb ⟨rfl, b⟩
              have bb := ba.trans (b.mono ba.size)
              clear H2 ba b sg x1
              go_wp2
              go_roundw
              case rel => exact ⟨j + 1, hlt9, by first | rfl | (rw [e3]; rfl), bb⟩
              case measure =>
                have l5 : (intOf (.int .i64 (wrap64 ((j : Int) + 1)))).toNat = j + 1 := by rw [e3]; rfl
                have l7 : (intOf (.int .i64 ((j : Int) + 1))).toNat = j + 1 := rfl
                have l6 : (intOf (.int .i64 (j : Int))).toNat = j := rfl
                first | rw [l5, l6] | rw [l7, l6]
                exact Nat.sub_lt_sub_left hlt9 (Nat.lt_succ_self j)
            · obtain rfl : j = i := by omega
              have g9 : ¬ (j : Int) < (j : Int) := by omega
              have H := pending_any O.d
              have hp0 : (E.crash kl).pend.length = 0 := rfl
              rw [hp0] at H
              have c9 := XC.out.2.trans (O.low.mono (Nat.le_succ _))
              clear O X hb hp0
              go_wp2_with fail
              refine H.mono ?_
              rintro e wa ⟨rfl, b⟩
              have cA := c9.trans (b.mono c9.size)
              clear H b c9 x0
              go_wp2
              go_ret
              exact ⟨rfl, cA⟩

theorem safe_any' (n s : Int) (l : List Ac) (v : Value) (ll : List Ac) (lv : Value) (kl : List Int) (ka : Option Addr) (kc : Nat) (w : World) (hl : Acts w v l) (hll : Acts w lv ll) (hk : Kit.Rd w (.slice ka (ints kl).length kc) (ints kl)) :
    Calls Try.prog 4 #[.agg #[.int .i64 n, .int .i64 s, v], lv, .slice ka (ints kl).length kc] w fun e w' => e = .returned (.bool true) ∧ Below w.heap.size w w' := by
  by_cases hc : Dk.can n s = true
  · have h := of_decide_eq_true hc
    obtain ⟨n, rfl⟩ : ∃ k : Nat, n = (k : Int) := ⟨n.toNat, by omega⟩
    obtain ⟨s, rfl⟩ : ∃ k : Nat, s = (k : Int) := ⟨s.toNat, by omega⟩
    exact safe_good n s hc l v ll lv kl ka kc w hl hll hk
  · exact safe_bad n s (by simpa using hc) l v ll lv kl ka kc w hl hll hk
end Go.Proofs.Ytfhplbfiakejlaa.Safe8
