/-
  SessionOnce: the law's walk.
-/
import Derived.Test.YtjjpmmokgcfkdaaSesF
import Derived.Test.YtjjpmmokgcfkdaaSesS
import Derived.Deep.RegionHeld3
namespace Go.Proofs.Ytjjpmmokgcfkdaa
open Go.RowKit
namespace Ses

/-! ### What follows, plainly -/
def stepT (d : Nat) (t : List Row) (x : Row) : List Row := if x.id = d then t else note t x.id x.num x.ans
def stepO (d : Nat) (os : List Nat) (x : Row) : List Nat := if x.id = d then os else if x.id ∈ os then os else os ++ [x.id]
def tabs (d : Nat) (t : List Row) (l : List Row) : List Row := l.foldl (stepT d) t
def oths (d : Nat) (l : List Row) : List Nat := l.foldl (stepO d) []
theorem tabs_snoc (d : Nat) (t l : List Row) (x : Row) : tabs d t (l ++ [x]) = stepT d (tabs d t l) x := by simp [tabs]
theorem oths_snoc (d : Nat) (l : List Row) (x : Row) : oths d (l ++ [x]) = stepO d (oths d l) x := by simp [oths]
theorem stepO_le (d : Nat) (os : List Nat) (x : Row) : os.length ≤ (stepO d os x).length ∧ (stepO d os x).length ≤ os.length + 1 := by
  unfold stepO
  split
  · omega
  · split
    · omega
    · rw [List.length_append, List.length_singleton]; omega
theorem oths_len (d : Nat) : ∀ (k : Nat) (l : List Row), k ≤ l.length → (oths d (l.take k)).length ≤ k
  | 0, l, _ => by simp [oths]
  | k + 1, l, h => by
    have ih := oths_len d k l (by omega)
    rw [List.take_succ_eq_append_getElem (show k < l.length by omega), oths_snoc]
    have := (stepO_le d (oths d (l.take k)) l[k]).2
    omega
theorem tabs_le {d : Nat} {t : List Row} (h : t.length ≤ 16) : ∀ (k : Nat) (l : List Row), k ≤ l.length → (tabs d t (l.take k)).length ≤ 16
  | 0, l, _ => by simpa [tabs] using h
  | k + 1, l, hk => by
    have ih := tabs_le (d := d) h k l (by omega)
    rw [List.take_succ_eq_append_getElem (show k < l.length by omega), tabs_snoc]
    unfold stepT
    split
    · exact ih
    · exact note_le _ _ _ _
theorem stays {t : List Row} {r : Row} (h : Stays t r []) : ∀ (k : Nat) (l : List Row), k ≤ l.length → (oths r.id (l.take k)).length < 16 → Stays (tabs r.id t (l.take k)) r (oths r.id (l.take k))
  | 0, l, _, _ => by simpa [tabs, oths] using h
  | k + 1, l, hk, hl => by
    have hlt : k < l.length := by omega
    rw [List.take_succ_eq_append_getElem hlt, oths_snoc] at hl
    have hs := stepO_le r.id (oths r.id (l.take k)) l[k]
    have ih := stays h k l (by omega) (by omega)
    rw [List.take_succ_eq_append_getElem hlt, oths_snoc, tabs_snoc]
    unfold stepT
    by_cases he : l[k].id = r.id
    · rw [if_pos he]
      unfold stepO
      rw [if_pos he]
      exact ih
    · rw [if_neg he]
      refine ih.next he l[k].ans (fun x hx => ?_) ?_ (by omega)
      · unfold stepO
        rw [if_neg he]
        split
        · exact hx
        · exact List.mem_append_left _ hx
      · unfold stepO
        rw [if_neg he]
        split
        · assumption
        · exact List.mem_append_right _ (List.mem_singleton.2 rfl)
theorem seek_found {t : List Row} {r : Row} {os : List Nat} (h : Stays t r os) (n : Nat) : seek t r.id n = if r.num = n then (1, r.ans) else if n < r.num then (2, ⟨#[]⟩) else (0, ⟨#[]⟩) := by
  unfold seek
  rw [h.find]
  rfl
theorem wrap_sub (n : Nat) (h : n < 18446744073709551616) : ∃ m : Nat, IntKind.u64.wrap ((n : Int) - 1) = (m : Int) ∧ (n ≠ 0 → m < n) := by
  refine ⟨(((n : Int) - 1) % 18446744073709551616).toNat, ?_, fun h0 => ?_⟩
  · rw [IntKind.wrap_u64]; omega
  · omega
theorem wrap_add (n : Nat) (h : n < 18446744073709551616) : ∃ m : Nat, IntKind.u64.wrap ((n : Int) + 1) = (m : Int) ∧ (n = 18446744073709551615 ∧ m = 0 ∨ n < m ∧ m ≠ 0 ∧ n ≠ 18446744073709551615) := by
  by_cases h1 : n = 18446744073709551615
  · exact ⟨0, by rw [IntKind.wrap_u64]; omega, .inl ⟨h1, rfl⟩⟩
  · exact ⟨n + 1, by rw [IntKind.wrap_u64]; omega, .inr ⟨by omega, by omega, h1⟩⟩

/-! ### The walk -/
set_option maxRecDepth 100000 in
set_option maxHeartbeats 16000000 in
theorem once_any (t : List Row) (hl : (t.length + 1) * 32 ≤ 140737488355328) (r : Row) (hr : r.id < 18446744073709551616 ∧ r.num < 18446744073709551616) (l : List Row) (v v2 : Value) (w : World) (hv : Tb w v t) (hv2 : Tb w v2 l) :
    Calls Try.prog 6 #[v, .agg #[.int .u64 (r.id : Int), .int .u64 (r.num : Int), .string r.ans], v2] w fun e w' => e = .returned (.bool true) ∧ Below w.heap.size w w' := by
  obtain ⟨a2, cap2, rfl⟩ := hv2.form
  obtain ⟨i0, hi0, hz0, hz1, hz2⟩ := info_parts infoU64
  obtain ⟨d, n, s⟩ := r
  have HW := Lib.hid hr.2
  simp only at hr ⊢
  have HN := fun w (hv : Tb w v t) => note_any t hl d n s v w hv
  have hst := Stays.noted t d n s
  have h16 := note_le t d n s
  generalize note t d n s = T at *
  have HST := Lib.hid (stays hst)
  have H16 := Lib.hid (tabs_le (d := d) h16)
  have HOL := Lib.hid (oths_len d)
  simp only at HST
  clear hst h16 hr
  have c0 := below_lit w (.cells #[.int .u64 (d : Int), .int .u64 (n : Int), .string s] 25)
  have X0 := Box.new w #[.int .u64 (d : Int), .int .u64 (n : Int), .string s] 25
  replace hv := hv.below c0
  replace hv2 := hv2.below c0
  go_enter Try.func6, Try.ntmps6
  have x0 := X0.cell (j := 0) rfl
  have x1 := X0.cell (j := 1) rfl
  have x2 := X0.cell (j := 2) rfl
  go_wp2_with fail
  refine (HN _ hv).mono ?_
  rintro e w1 ⟨v1, rfl, h1, b⟩
  replace h1 := own_base h1 (Nat.zero_le _)
  replace hv2 := hv2.below b
  replace X0 := X0.below b
  replace c0 := c0.trans (b.mono c0.size)
  clear b HN x0 x1 x2 hv
  have bb := below_lit w1 (.cells #[] 23)
  have ow := World.ownsRow_made (base := w1.heap.size) (e := 23) (size := 1) w1 #[] 0 (Nat.le_refl _) (by unfold maxLen; omega) rfl
  replace h1 := Dsk.row_kept h1 fun i hi hlt => bb.block i hlt
  have hz9 : w1.heap.size ≤ (w1.alloc (.cells #[] 23)).heap.size := by simp
  have HX := Lib.hid (And.intro hv2 (And.intro X0 c0))
  clear hv2 X0 c0
  go_wp2
  go_loopw [0, 7, 8] (fun vt vo vi wr => ∃ k : Nat, k ≤ l.length ∧ k ≤ 200 ∧ vi = .int .i64 (k : Int) ∧ wr.ownsRow 0 25 3 vt (tabs d T (l.take k)).length (flat (tabs d T (l.take k))) ∧ wr.ownsRow w1.heap.size 23 1 vo (oths d (l.take k)).length (nums (oths d (l.take k))) ∧ Below w1.heap.size w1 wr)
    (fun _ _ vi _ => 200 - (intOf vi).toNat)
  case atStart => exact ⟨0, Nat.zero_le _, by omega, rfl, h1, ow, bb⟩
  case round =>
    obtain ⟨k, hk, hk2, rfl, hT, hO, hB⟩ := hrel
    clear h1 ow bb hz9
    have hX := HX.out.2.1.below hB
    have x0 := hX.cell (j := 0) rfl
    by_cases hlt : k < l.length
    · have g1 : (k : Int) < (l.length : Int) := by omega
      by_cases hlt2 : k < 200
      · have g2 : (k : Int) < 200 := by omega
        have g3 : decide ((k : Int) < 200) = true := decide_eq_true g2
        obtain ⟨x, hx⟩ : ∃ x, l[k]? = some x := ⟨_, List.getElem?_eq_getElem hlt⟩
        have HL := fun w' (b : Below w1.heap.size w1 w') => (HX.out.1.below b).at_ hx
        obtain ⟨ad, rfl, t0, t1, t2⟩ := HL wr hB
        have hts := take_succ hx
        have e1 := tabs_snoc d T (l.take k) x
        have e2 := oths_snoc d (l.take k) x
        rw [← hts] at e1 e2
        have ht16 := H16.out k l hk
        have hol := HOL.out k l hk
        clear hx hts
        generalize tabs d T (l.take k) = tk at *
        generalize oths d (l.take k) = ok at *
        have gW := Lib.hid (show k + 1 ≤ 200 by omega)
        by_cases he : x.id = d
        · have he2 : ((x.id : Int) == (d : Int)) = true := by rw [he]; simp
          have E1 := Lib.hid (show tabs d T (l.take (k + 1)) = tk by rw [e1]; unfold stepT; rw [if_pos he])
          have E2 := Lib.hid (show oths d (l.take (k + 1)) = ok by rw [e2]; unfold stepO; rw [if_pos he])
          have HR := Lib.hid (And.intro hT (And.intro hO hB))
          clear e1 e2 he hT hO hB HL ht16 hol t1 t2 hX
          generalize x.id = xi at *
          go_wp2
          go_quiet (fail)
          go_wp2
          go_roundw
          case rel => exact ⟨k + 1, hlt, gW.out, by go_num, by rw [E1.out]; exact Dsk.row_kept HR.out.1 (fun _ _ _ => rfl), by rw [E2.out]; exact Dsk.row_kept HR.out.2.1 (fun _ _ _ => rfl), below_drewN HR.out.2.2 _⟩
          case measure =>
            have l5 : (intOf (.int .i64 ((k : Int) + 1))).toNat = k + 1 := rfl
            have l6 : (intOf (.int .i64 (k : Int))).toNat = k := rfl
            rw [l5, l6]
            exact Nat.sub_lt_sub_left hlt2 (Nat.lt_succ_self k)
        · have he2 : ((x.id : Int) == (d : Int)) = false := by rw [beq_eq_false_iff_ne]; omega
          have E1 := Lib.hid (show tabs d T (l.take (k + 1)) = note tk x.id x.num x.ans by rw [e1]; unfold stepT; rw [if_neg he])
          have HN := fun v w (hv : Tb w v tk) => note_any tk (by omega) x.id x.num x.ans v w hv
          generalize htn : note tk x.id x.num x.ans = tn at *
          have HH := fun v w hv => has_any ok (by omega) x.id v w hv
          have HCL : ∀ w', Below w1.heap.size w1 w' → w'.cell? (ad.add (k * 3)) = some (.int .u64 (x.id : Int)) ∧ w'.cell? ⟨(ad.add (k * 3)).block, (ad.add (k * 3)).off + 1, none⟩ = some (.int .u64 (x.num : Int)) ∧ w'.cell? ⟨(ad.add (k * 3)).block, (ad.add (k * 3)).off + 2, none⟩ = some (.string x.ans) ∧ Below w1.heap.size w1 w' := fun w' b => by
            obtain ⟨a1, e1, p0, p1, p2⟩ := HL w' b
            obtain rfl := Option.some.inj e1
            exact ⟨p0, p1, p2, b⟩
          clear e1 HL ht16 htn hX
          have HR := Lib.hid (And.intro hT (And.intro hO hB))
          clear hT hO hB
          by_cases hin : x.id ∈ ok
          · have E2 := Lib.hid (show oths d (l.take (k + 1)) = ok by rw [e2]; unfold stepO; rw [if_neg he, if_pos hin])
            simp only [decide_eq_true hin] at HH
            clear e2 he hin hol t1 t2
            generalize x.id = xi at *
            go_wp2
            go_quiet (fail)
            have hT := Dsk.row_kept HR.out.1 (w' := wr.drewN nq) (fun _ _ _ => rfl)
            have hO := Dsk.row_kept HR.out.2.1 (w' := wr.drewN nq) (fun _ _ _ => rfl)
            have hB := below_drewN HR.out.2.2 nq
            generalize wr.drewN nq = wq at *
            clear t0 x0 HR
            obtain ⟨p0, p1, p2, -⟩ := HCL _ hB
            go_wp2_with fail
            refine (HH _ _ (Kit.Rd.of_own hO)).mono ?_
            rintro e w4 ⟨rfl, b⟩
            have hT4 := Tb.of_own (Dsk.row_kept hT fun i hi hlt => b.block i hlt)
            have hO4 := Dsk.row_kept hO fun i hi hlt => b.block i hlt
            have hB4 := hB.trans (b.mono hB.size)
            clear b HH hT hO hB p0 p1 p2
            have bd : Below w1.heap.size w1 w4.drew := hB4.drew
            have hT4 : Tb w4.drew _ tk := hT4
            obtain ⟨p0, p1, p2, -⟩ := HCL _ hB4
            go_wp2
            go_region_held3 (fun w' => w'.cell? (ad.add (k * 3)) = some (.int .u64 (xi : Int)) ∧ w'.cell? ⟨(ad.add (k * 3)).block, (ad.add (k * 3)).off + 1, none⟩ = some (.int .u64 (x.num : Int)) ∧ w'.cell? ⟨(ad.add (k * 3)).block, (ad.add (k * 3)).off + 2, none⟩ = some (.string x.ans) ∧ Below w1.heap.size w1 w')
              (first | exact HCL _ b5 | exact HCL _ bd)
              ((go_at_call 12; refine (HN _ _ hT4).mono ?_; rintro e w5 ⟨v5, rfl, h5, b⟩; have b5 := bd.trans (b.mono bd.size)))
            have hO5 := Dsk.row_kept hO4 (w' := w5) fun i hi hlt => b.block i hlt
            have h5' := own_base h5 (Nat.zero_le _)
            have HR5 := Lib.hid (And.intro h5' (And.intro hO5 b5))
            clear h5 h5' hO5 b5 b bd hT4 hO4 hB4 HCL HN p0 p1 p2
            go_wp2
            go_roundw
            case rel => exact ⟨k + 1, hlt, gW.out, by go_num, by rw [E1.out]; exact HR5.out.1, by rw [E2.out]; exact HR5.out.2.1, HR5.out.2.2⟩
            case measure =>
              have l5 : (intOf (.int .i64 ((k : Int) + 1))).toNat = k + 1 := rfl
              have l6 : (intOf (.int .i64 (k : Int))).toNat = k := rfl
              rw [l5, l6]
              exact Nat.sub_lt_sub_left hlt2 (Nat.lt_succ_self k)
          · have E2 := Lib.hid (show oths d (l.take (k + 1)) = ok ++ [x.id] by rw [e2]; unfold stepO; rw [if_neg he, if_neg hin])
            simp only [decide_eq_false hin] at HH
            have hm : maxLen = 9223372036854775807 := rfl
            have hl1 : ok.length + 1 ≤ maxLen := by omega
            have hl2 : (ok.length + 1) * 8 ≤ 140737488355328 := by omega
            clear e2 he hin hol t1 t2 hm
            generalize x.id = xi at *
            go_wp2
            go_quiet (fail)
            have hT := Dsk.row_kept HR.out.1 (w' := wr.drewN nq) (fun _ _ _ => rfl)
            have hO := Dsk.row_kept HR.out.2.1 (w' := wr.drewN nq) (fun _ _ _ => rfl)
            have hB := below_drewN HR.out.2.2 nq
            generalize wr.drewN nq = wq at *
            clear t0 x0 HR
            obtain ⟨p0, p1, p2, -⟩ := HCL _ hB
            go_wp2_with fail
            refine (HH _ _ (Kit.Rd.of_own hO)).mono ?_
            rintro e w3 ⟨rfl, b⟩
            have hT3 := Dsk.row_kept hT fun i hi hlt => b.block i hlt
            have hO3 := Dsk.row_kept hO fun i hi hlt => b.block i hlt
            have hB3 := hB.trans (b.mono hB.size)
            clear b HH hT hO hB p0 p1 p2
            obtain ⟨p0, p1, p2, -⟩ := HCL _ hB3
            have hz := hB3.size
            have bl := below_lit w3 (.cells #[.int .u64 (xi : Int)] 23)
            go_wp2_with (at_builtin; refine Kit.wpList_append_one rfl _ _ 37 rfl w1.heap.size 23 i0 (.int .u64 0) 8 Try.underlying37 hi0 hz0 hz1 hz2 rfl _ _ _ rfl hO3 (.int .u64 (xi : Int)) 23 rfl rfl hl1 hl2 hz ?_)
            intro vo' w4 hO4 b3 hg
            have hOl := Dsk.row_kept hO3 fun i hi hlt => bl.block i hlt
            have hTl := Dsk.row_kept hT3 fun i hi hlt => bl.block i hlt
            have hT4 := Tb.of_own (Dsk.row_kept hTl fun i hi hlt => hg.block i hlt fun e => Dsk.row_ne_row hTl hOl (by decide) hi e.symm)
            have hB4 := hB3.trans b3
            have hns : nums ok ++ [Value.int .u64 (xi : Int)] = nums (ok ++ [xi]) := by simp [nums]
            have hnl : ok.length + 1 = (ok ++ [xi]).length := by simp
            rw [hns, hnl] at hO4
            clear b3 hg hOl hTl bl hT3 hO3 hB3 hz hl1 hl2 hns hnl p0 p1 p2
            have bd : Below w1.heap.size w1 w4.drew := hB4.drew
            have hT4 : Tb w4.drew _ tk := hT4
            obtain ⟨p0, p1, p2, -⟩ := HCL _ hB4
            go_wp2
            go_region_held3 (fun w' => w'.cell? (ad.add (k * 3)) = some (.int .u64 (xi : Int)) ∧ w'.cell? ⟨(ad.add (k * 3)).block, (ad.add (k * 3)).off + 1, none⟩ = some (.int .u64 (x.num : Int)) ∧ w'.cell? ⟨(ad.add (k * 3)).block, (ad.add (k * 3)).off + 2, none⟩ = some (.string x.ans) ∧ Below w1.heap.size w1 w')
              (first | exact HCL _ b5 | exact HCL _ bd)
              ((go_at_call 12; refine (HN _ _ hT4).mono ?_; rintro e w5 ⟨v5, rfl, h5, b⟩; have b5 := bd.trans (b.mono bd.size)))
            have hO5 := Dsk.row_kept hO4 (w' := w5) fun i hi hlt => b.block i hlt
            have h5' := own_base h5 (Nat.zero_le _)
            have HR5 := Lib.hid (And.intro h5' (And.intro hO5 b5))
            clear h5 h5' hO5 b5 b bd hT4 hO4 hB4 HCL HN p0 p1 p2
            go_wp2
            go_roundw
            case rel => exact ⟨k + 1, hlt, gW.out, by go_num, by rw [E1.out]; exact HR5.out.1, by rw [E2.out]; exact HR5.out.2.1, HR5.out.2.2⟩
            case measure =>
              have l5 : (intOf (.int .i64 ((k : Int) + 1))).toNat = k + 1 := rfl
              have l6 : (intOf (.int .i64 (k : Int))).toNat = k := rfl
              rw [l5, l6]
              exact Nat.sub_lt_sub_left hlt2 (Nat.lt_succ_self k)
      · obtain rfl : k = 200 := by omega
        have g2 : decide (((200 : Nat) : Int) < 200) = false := by decide
        have g3 : ¬ ((200 : Nat) : Int) < 200 := by decide
        have ht16 := H16.out 200 l hk
        have hol := HOL.out 200 l hk
        have hst := HST.out 200 l hk
        clear hlt hlt2
        generalize tabs d T (l.take 200) = tk at *
        generalize oths d (l.take 200) = ok at *
        replace hT := Tb.of_own hT
        obtain ⟨ta, tc, rfl⟩ := hT.form
        obtain ⟨oa, oc, rfl, -, -⟩ := Dsk.row_form hO
        have q16 : ¬ (tk.length : Int) > 16 := by omega
        clear hO
        go_wp2_with fail
        refine (fixed_any _).mono ?_
        rintro e w5 ⟨rfl, b⟩
        replace hT := hT.below b
        replace hB := hB.trans (b.mono hB.size)
        clear b x0 hX
        have hX := HX.out.2.1.below hB
        have x1 := hX.cell (j := 1) rfl
        have x2 := hX.cell (j := 2) rfl
        have x0 := hX.cell (j := 0) rfl
        by_cases ho : ok.length < 16
        · have q17 : ¬ (ok.length : Int) ≥ 16 := by omega
          have hfs := fun m => seek_found (hst ho) m
          simp only at hfs
          obtain ⟨m1, hm1, hp1⟩ := wrap_sub n HW.out
          obtain ⟨m2, hm2, hp2⟩ := wrap_add n HW.out
          have K0 := fun w (hv : Tb w (.slice ta tk.length tc) tk) => seek_any tk (by omega) d n _ w hv
          have K1 := fun w (hv : Tb w (.slice ta tk.length tc) tk) => seek_any tk (by omega) d m1 _ w hv
          have K2 := fun w (hv : Tb w (.slice ta tk.length tc) tk) => seek_any tk (by omega) d m2 _ w hv
          rw [hfs n, if_pos rfl] at K0
          have Q1 : n ≠ 0 → (seek tk d m1).1 = 2 := fun h0 => by
            have := hp1 h0
            rw [hfs m1, if_neg (by omega), if_pos this]
          have Q2 : n ≠ 18446744073709551615 → (seek tk d m2).1 = 0 := fun h0 => by
            have : n < m2 := by rcases hp2 with h | h <;> omega
            rw [hfs m2, if_neg (by omega), if_neg (by omega)]
          have Q3 := Lib.hid hp2
          clear hfs hst ho hp1 hp2
          generalize seek tk d m1 = p1 at *
          generalize seek tk d m2 = p2 at *
          obtain ⟨o1, y1⟩ := p1
          obtain ⟨o2, y2⟩ := p2
          simp only at Q1 Q2
          have QQ := Lib.hid (And.intro Q1 Q2)
          clear Q1 Q2
          simp only [seekV] at K0 K1 K2
          by_cases hs : s.size ≤ 256
          · have hs2 : ¬ (s.size : Int) > 256 := by omega
            rw [short_all hs] at K0
            clear hs
            go_wp2_with fail
            refine (K0 _ hT).mono ?_
            rintro e w6 ⟨rfl, b⟩
            replace hT := hT.below b
            replace hB := hB.trans (b.mono hB.size)
            clear b x0 x1 x2 hX K0
            have hX := HX.out.2.1.below hB
            have x0 := hX.cell (j := 0) rfl
            have x1 := hX.cell (j := 1) rfl
            go_wp2_with fail
            refine (K1 _ hT).mono ?_
            rintro e w7 ⟨rfl, b⟩
            replace hT := hT.below b
            replace hB := hB.trans (b.mono hB.size)
            clear b x0 x1 hX K1
            have hX := HX.out.2.1.below hB
            have x0 := hX.cell (j := 0) rfl
            have x1 := hX.cell (j := 1) rfl
            go_wp2_with fail
            refine (K2 _ hT).mono ?_
            rintro e w8 ⟨rfl, b⟩
            replace hB := hB.trans (b.mono hB.size)
            clear b x0 x1 hX K2 hT
            have hX := HX.out.2.1.below hB
            have x1 := hX.cell (j := 1) rfl
            have fin := HX.out.2.2.trans (hB.mono HX.out.2.2.size)
            clear hX hB HX
            by_cases hn : n = 0
            · subst hn
              have r4 : o2 = 0 := QQ.out.2 (by decide)
              subst r4
              have r5 : m2 ≠ 0 := by rcases Q3.out with h | h <;> omega
              have r6 : ((m2 : Int) == 0) = false := by rw [beq_eq_false_iff_ne]; omega
              clear hm1 r5
              go_wp2
              go_ret
              exact ⟨rfl, fin⟩
            · have r4 : o1 = 2 := QQ.out.1 hn
              subst r4
              have r0 : ((n : Int) == 0) = false := by rw [beq_eq_false_iff_ne]; omega
              by_cases hx : n = 18446744073709551615
              · have r5 : m2 = 0 := by rcases Q3.out with h | h <;> omega
                subst r5
                clear hm1 hn hx
                go_wp2
                go_ret
                exact ⟨rfl, fin⟩
              · have r5 : o2 = 0 := QQ.out.2 hx
                subst r5
                have r6 : ((m2 : Int) == 0) = false := by rw [beq_eq_false_iff_ne]; rcases Q3.out with h | h <;> omega
                clear hm1 hn hx
                go_wp2
                go_ret
                exact ⟨rfl, fin⟩
          · have hs2 : (s.size : Int) > 256 := by omega
            have hsh : short s = s.extract 0 256 := rfl
            rw [hsh] at K0
            clear hs hsh
            go_wp2_with fail
            refine (K0 _ hT).mono ?_
            rintro e w6 ⟨rfl, b⟩
            replace hT := hT.below b
            replace hB := hB.trans (b.mono hB.size)
            clear b x0 x1 x2 hX K0
            have hX := HX.out.2.1.below hB
            have x0 := hX.cell (j := 0) rfl
            have x1 := hX.cell (j := 1) rfl
            go_wp2_with fail
            refine (K1 _ hT).mono ?_
            rintro e w7 ⟨rfl, b⟩
            replace hT := hT.below b
            replace hB := hB.trans (b.mono hB.size)
            clear b x0 x1 hX K1
            have hX := HX.out.2.1.below hB
            have x0 := hX.cell (j := 0) rfl
            have x1 := hX.cell (j := 1) rfl
            go_wp2_with fail
            refine (K2 _ hT).mono ?_
            rintro e w8 ⟨rfl, b⟩
            replace hB := hB.trans (b.mono hB.size)
            clear b x0 x1 hX K2 hT
            have hX := HX.out.2.1.below hB
            have x1 := hX.cell (j := 1) rfl
            have fin := HX.out.2.2.trans (hB.mono HX.out.2.2.size)
            clear hX hB HX
            by_cases hn : n = 0
            · subst hn
              have r4 : o2 = 0 := QQ.out.2 (by decide)
              subst r4
              have r5 : m2 ≠ 0 := by rcases Q3.out with h | h <;> omega
              have r6 : ((m2 : Int) == 0) = false := by rw [beq_eq_false_iff_ne]; omega
              clear hm1 r5
              go_wp2
              go_ret
              exact ⟨rfl, fin⟩
            · have r4 : o1 = 2 := QQ.out.1 hn
              subst r4
              have r0 : ((n : Int) == 0) = false := by rw [beq_eq_false_iff_ne]; omega
              by_cases hx : n = 18446744073709551615
              · have r5 : m2 = 0 := by rcases Q3.out with h | h <;> omega
                subst r5
                clear hm1 hn hx
                go_wp2
                go_ret
                exact ⟨rfl, fin⟩
              · have r5 : o2 = 0 := QQ.out.2 hx
                subst r5
                have r6 : ((m2 : Int) == 0) = false := by rw [beq_eq_false_iff_ne]; rcases Q3.out with h | h <;> omega
                clear hm1 hn hx
                go_wp2
                go_ret
                exact ⟨rfl, fin⟩
        · have q17 : (ok.length : Int) ≥ 16 := by omega
          have fin := HX.out.2.2.trans (hB.mono HX.out.2.2.size)
          clear hst ho hT hB hX
          go_wp2
          go_ret
          exact ⟨rfl, fin⟩
    · obtain rfl : k = l.length := by omega
      have g1 : ¬ (l.length : Int) < (l.length : Int) := by omega
      have ht16 := H16.out l.length l hk
      have hol := HOL.out l.length l hk
      have hst := HST.out l.length l hk
      clear hlt
      generalize tabs d T (l.take l.length) = tk at *
      generalize oths d (l.take l.length) = ok at *
      replace hT := Tb.of_own hT
      obtain ⟨ta, tc, rfl⟩ := hT.form
      obtain ⟨oa, oc, rfl, -, -⟩ := Dsk.row_form hO
      have q16 : ¬ (tk.length : Int) > 16 := by omega
      clear hO
      go_wp2_with fail
      refine (fixed_any _).mono ?_
      rintro e w5 ⟨rfl, b⟩
      replace hT := hT.below b
      replace hB := hB.trans (b.mono hB.size)
      clear b x0 hX
      have hX := HX.out.2.1.below hB
      have x1 := hX.cell (j := 1) rfl
      have x2 := hX.cell (j := 2) rfl
      have x0 := hX.cell (j := 0) rfl
      by_cases ho : ok.length < 16
      · have q17 : ¬ (ok.length : Int) ≥ 16 := by omega
        have hfs := fun m => seek_found (hst ho) m
        simp only at hfs
        obtain ⟨m1, hm1, hp1⟩ := wrap_sub n HW.out
        obtain ⟨m2, hm2, hp2⟩ := wrap_add n HW.out
        have K0 := fun w (hv : Tb w (.slice ta tk.length tc) tk) => seek_any tk (by omega) d n _ w hv
        have K1 := fun w (hv : Tb w (.slice ta tk.length tc) tk) => seek_any tk (by omega) d m1 _ w hv
        have K2 := fun w (hv : Tb w (.slice ta tk.length tc) tk) => seek_any tk (by omega) d m2 _ w hv
        rw [hfs n, if_pos rfl] at K0
        have Q1 : n ≠ 0 → (seek tk d m1).1 = 2 := fun h0 => by
          have := hp1 h0
          rw [hfs m1, if_neg (by omega), if_pos this]
        have Q2 : n ≠ 18446744073709551615 → (seek tk d m2).1 = 0 := fun h0 => by
          have : n < m2 := by rcases hp2 with h | h <;> omega
          rw [hfs m2, if_neg (by omega), if_neg (by omega)]
        have Q3 := Lib.hid hp2
        clear hfs hst ho hp1 hp2
        generalize seek tk d m1 = p1 at *
        generalize seek tk d m2 = p2 at *
        obtain ⟨o1, y1⟩ := p1
        obtain ⟨o2, y2⟩ := p2
        simp only at Q1 Q2
        have QQ := Lib.hid (And.intro Q1 Q2)
        clear Q1 Q2
        simp only [seekV] at K0 K1 K2
        by_cases hs : s.size ≤ 256
        · have hs2 : ¬ (s.size : Int) > 256 := by omega
          rw [short_all hs] at K0
          clear hs
          go_wp2_with fail
          refine (K0 _ hT).mono ?_
          rintro e w6 ⟨rfl, b⟩
          replace hT := hT.below b
          replace hB := hB.trans (b.mono hB.size)
          clear b x0 x1 x2 hX K0
          have hX := HX.out.2.1.below hB
          have x0 := hX.cell (j := 0) rfl
          have x1 := hX.cell (j := 1) rfl
          go_wp2_with fail
          refine (K1 _ hT).mono ?_
          rintro e w7 ⟨rfl, b⟩
          replace hT := hT.below b
          replace hB := hB.trans (b.mono hB.size)
          clear b x0 x1 hX K1
          have hX := HX.out.2.1.below hB
          have x0 := hX.cell (j := 0) rfl
          have x1 := hX.cell (j := 1) rfl
          go_wp2_with fail
          refine (K2 _ hT).mono ?_
          rintro e w8 ⟨rfl, b⟩
          replace hB := hB.trans (b.mono hB.size)
          clear b x0 x1 hX K2 hT
          have hX := HX.out.2.1.below hB
          have x1 := hX.cell (j := 1) rfl
          have fin := HX.out.2.2.trans (hB.mono HX.out.2.2.size)
          clear hX hB HX
          by_cases hn : n = 0
          · subst hn
            have r4 : o2 = 0 := QQ.out.2 (by decide)
            subst r4
            have r5 : m2 ≠ 0 := by rcases Q3.out with h | h <;> omega
            have r6 : ((m2 : Int) == 0) = false := by rw [beq_eq_false_iff_ne]; omega
            clear hm1 r5
            go_wp2
            go_ret
            exact ⟨rfl, fin⟩
          · have r4 : o1 = 2 := QQ.out.1 hn
            subst r4
            have r0 : ((n : Int) == 0) = false := by rw [beq_eq_false_iff_ne]; omega
            by_cases hx : n = 18446744073709551615
            · have r5 : m2 = 0 := by rcases Q3.out with h | h <;> omega
              subst r5
              clear hm1 hn hx
              go_wp2
              go_ret
              exact ⟨rfl, fin⟩
            · have r5 : o2 = 0 := QQ.out.2 hx
              subst r5
              have r6 : ((m2 : Int) == 0) = false := by rw [beq_eq_false_iff_ne]; rcases Q3.out with h | h <;> omega
              clear hm1 hn hx
              go_wp2
              go_ret
              exact ⟨rfl, fin⟩
        · have hs2 : (s.size : Int) > 256 := by omega
          have hsh : short s = s.extract 0 256 := rfl
          rw [hsh] at K0
          clear hs hsh
          go_wp2_with fail
          refine (K0 _ hT).mono ?_
          rintro e w6 ⟨rfl, b⟩
          replace hT := hT.below b
          replace hB := hB.trans (b.mono hB.size)
          clear b x0 x1 x2 hX K0
          have hX := HX.out.2.1.below hB
          have x0 := hX.cell (j := 0) rfl
          have x1 := hX.cell (j := 1) rfl
          go_wp2_with fail
          refine (K1 _ hT).mono ?_
          rintro e w7 ⟨rfl, b⟩
          replace hT := hT.below b
          replace hB := hB.trans (b.mono hB.size)
          clear b x0 x1 hX K1
          have hX := HX.out.2.1.below hB
          have x0 := hX.cell (j := 0) rfl
          have x1 := hX.cell (j := 1) rfl
          go_wp2_with fail
          refine (K2 _ hT).mono ?_
          rintro e w8 ⟨rfl, b⟩
          replace hB := hB.trans (b.mono hB.size)
          clear b x0 x1 hX K2 hT
          have hX := HX.out.2.1.below hB
          have x1 := hX.cell (j := 1) rfl
          have fin := HX.out.2.2.trans (hB.mono HX.out.2.2.size)
          clear hX hB HX
          by_cases hn : n = 0
          · subst hn
            have r4 : o2 = 0 := QQ.out.2 (by decide)
            subst r4
            have r5 : m2 ≠ 0 := by rcases Q3.out with h | h <;> omega
            have r6 : ((m2 : Int) == 0) = false := by rw [beq_eq_false_iff_ne]; omega
            clear hm1 r5
            go_wp2
            go_ret
            exact ⟨rfl, fin⟩
          · have r4 : o1 = 2 := QQ.out.1 hn
            subst r4
            have r0 : ((n : Int) == 0) = false := by rw [beq_eq_false_iff_ne]; omega
            by_cases hx : n = 18446744073709551615
            · have r5 : m2 = 0 := by rcases Q3.out with h | h <;> omega
              subst r5
              clear hm1 hn hx
              go_wp2
              go_ret
              exact ⟨rfl, fin⟩
            · have r5 : o2 = 0 := QQ.out.2 hx
              subst r5
              have r6 : ((m2 : Int) == 0) = false := by rw [beq_eq_false_iff_ne]; rcases Q3.out with h | h <;> omega
              clear hm1 hn hx
              go_wp2
              go_ret
              exact ⟨rfl, fin⟩
      · have q17 : (ok.length : Int) ≥ 16 := by omega
        have fin := HX.out.2.2.trans (hB.mono HX.out.2.2.size)
        clear hst ho hT hB hX
        go_wp2
        go_ret
        exact ⟨rfl, fin⟩
end Ses
end Go.Proofs.Ytjjpmmokgcfkdaa
