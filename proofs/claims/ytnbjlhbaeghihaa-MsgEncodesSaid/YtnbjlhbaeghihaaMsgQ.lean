/-
  The document's own Check and Encode.
-/
import Derived.Test.YtnbjlhbaeghihaaMsgR
namespace Go.Proofs.Ytnbjlhbaeghihaa
open Go.RowKit
open Go.Lib (uvarint uvarint_small uvarint_big uvarint_length64 uvarint_pos byteCells)
open Leb (dec decT decL takeNs takeTs encT encN encL encNs encTs)
open Msg (numOf lowOf highOf form chk enc dm)

/-- All texts' bytes together. -/
def total : List (List UInt8) → Nat
  | [] => 0
  | t :: l => t.length + total l
theorem total_append : ∀ (a b : List (List UInt8)), total (a ++ b) = total a + total b
  | [], b => by simp [total]
  | t :: a, b => by simp only [List.cons_append, total]; rw [total_append a b]; omega
theorem total_le : ∀ (l : List (List UInt8)), total l ≤ (encTs l).length
  | [] => by simp [total]
  | t :: l => by have := total_le l; simp only [total, encTs, encT, List.length_append]; omega
theorem encTs_total : ∀ (l : List (List UInt8)), total l ≤ 65536 → (encTs l).length ≤ total l + 10 * l.length
  | [], _ => by simp [encTs]
  | t :: l, h => by
    simp only [total] at h
    have h1 := encTs_total l (by omega)
    have h2 := uvarint_length64 (show t.length < 18446744073709551616 by omega)
    simp only [total, encTs, encT, List.length_append, List.length_cons]
    omega
theorem total_snoc {l : List (List UInt8)} {j : Nat} (hlt : j < l.length) : total (l.take (j + 1)) = total (l.take j) + l[j].length := by
  rw [List.take_succ_eq_append_getElem hlt, total_append]
  simp [total]
theorem one_le_total : ∀ (l : List (List UInt8)) (t : List UInt8), t ∈ l → t.length ≤ total l
  | x :: l, t, h => by
    simp only [total]
    rcases List.mem_cons.1 h with rfl | h
    · omega
    · have := one_le_total l t h; omega
theorem enc_ge (n : Nat) (ns : List Nat) (ts : List (List UInt8)) : total ts ≤ (enc n ns ts).length := by
  have := total_le ts
  unfold enc encL
  simp only [List.length_append]
  omega

set_option maxHeartbeats 4000000 in
set_option maxRecDepth 100000 in
theorem rCheck_any (k : Int) (hk0 : -9223372036854775808 ≤ k) (hk1 : k ≤ 9223372036854775807) (ns : List Nat) (hx : ∀ x ∈ ns, x < 18446744073709551616)
    (ts : List (List UInt8))
    (vn vt : Value) (w : World) (hv : Kit.Rd w vn (nums ns)) (hvt : Kit.Rd w vt (strsL ts)) :
    Calls Try.prog 12 #[.agg #[.int .i64 k, vn, vt]] w fun e w' => e = .returned (.int .i64 (chk k ns ts : Nat)) ∧ Below w.heap.size w w' := by
  by_cases hr : 0 ≤ k ∧ k ≤ 7
  · obtain ⟨n, rfl⟩ := Int.eq_ofNat_of_zero_le hr.1
    have hn8 : n < 8 := by omega
    have g0 : decide ((n : Int) < 0) = false := by rw [decide_eq_false_iff_not]; omega
    have g7 : decide ((7 : Int) < (n : Int)) = false := by rw [decide_eq_false_iff_not]; omega
    have HN := fun w => rNum_any n hn8 w
    have HL := fun w => rLow_any n hn8 w
    have HM := fun w => rHigh_any n hn8 w
    have HLaid := fun (hl : ns.length ≤ 5) (he : (encL ts).length + 10 ≤ 140737488355328) wx (h : Below w.heap.size w wx) => rLaid_any n hn8 ns hx hl ts he vn vt wx (hv.below h) (hvt.below h)
    obtain ⟨a, cap, rfl⟩ := hv.form
    rw [show (nums ns).length = ns.length by simp [nums]] at hv HLaid ⊢
    obtain ⟨b, cap2, rfl⟩ := hvt.form
    rw [show (strsL ts).length = ts.length by simp [strsL]] at hvt HLaid ⊢
    have pb := box_new w (.int .i64 n) (.slice a ns.length cap) (.slice b ts.length cap2) 25
    clear hr hk0 hk1
    by_cases hA : ns.length = numOf n
    · by_cases hB : lowOf n ≤ ts.length
      · by_cases hC : ts.length ≤ highOf n
        · have f1 : ((ns.length : Int) != ((numOf n : Nat) : Int)) = false := by rw [bne_eq_false_iff_eq]; omega
          have f1' : (ns.length != numOf n) = false := by rw [bne_eq_false_iff_eq]; omega
          have f2 : decide ((ts.length : Int) < ((lowOf n : Nat) : Int)) = false := by rw [decide_eq_false_iff_not]; omega
          have f2' : decide (ts.length < lowOf n) = false := by rw [decide_eq_false_iff_not]; omega
          have f3 : decide (((highOf n : Nat) : Int) < (ts.length : Int)) = false := by rw [decide_eq_false_iff_not]; omega
          have f3' : decide (highOf n < ts.length) = false := by rw [decide_eq_false_iff_not]; omega
          have h64 : ts.length ≤ 64 := Nat.le_trans hC (Msg.highOf_le n)
          have hform : form n ns ts := ⟨hA, hB, hC⟩
          have HLaid2 := HLaid (by have := Msg.numOf_le n; omega)
          have Hl := Lib.hid (chk_long hn8 hform)
          have Ho := Lib.hid (chk_fine hn8 hform)
          have hge := enc_ge n ns ts
          have hone := one_le_total ts
          clear HLaid hA hB hC hform
          go_enter Try.func12, Try.ntmps12
          go_upto_region 3 with (fail)
          go_cut [37] (fun c wx => c = .bool false ∧ (wx.cell? ⟨w.heap.size, 0, none⟩ = some (.int .i64 n) ∧ wx.cell? ⟨w.heap.size, 1, none⟩ = some (.slice a ns.length cap) ∧ wx.cell? ⟨w.heap.size, 2, none⟩ = some (.slice b ts.length cap2) ∧ Below w.heap.size w wx))
          case first =>
            go_region_held3 (fun w' => w'.cell? ⟨w.heap.size, 0, none⟩ = some (.int .i64 n) ∧ w'.cell? ⟨w.heap.size, 1, none⟩ = some (.slice a ns.length cap) ∧ w'.cell? ⟨w.heap.size, 2, none⟩ = some (.slice b ts.length cap2) ∧ Below w.heap.size w w')
              (first | exact ⟨pb.1, pb.2.1, pb.2.2.1, pb.2.2.2.drew⟩ | exact box_keep (by assumption) hb)
              (first
                | (go_at_call 22; refine (HN _).mono ?_; rintro e w' ⟨rfl, hb⟩)
                | (go_at_call 23; refine (HL _).mono ?_; rintro e w' ⟨rfl, hb⟩)
                | (go_at_call 24; refine (HM _).mono ?_; rintro e w' ⟨rfl, hb⟩))
            all_goals (go_wp2_with fail)
            all_goals go_meet
            all_goals exact ⟨rfl, by assumption⟩
          case rest =>
            obtain ⟨rfl, p0, p1, p2, c1⟩ := hcut
            clear HN HL HM pb f1 f1' f2 f2' f3 f3'
            go_wp2
            go_loopw [3, 4] (fun vs vi wr => ∃ j : Nat, j ≤ ts.length ∧ vi = .int .i64 j ∧ vs = .int .i64 (total (ts.take j) : Nat) ∧ total (ts.take j) ≤ j * 65536 ∧ (wr.cell? ⟨w.heap.size, 0, none⟩ = some (.int .i64 n) ∧ wr.cell? ⟨w.heap.size, 1, none⟩ = some (.slice a ns.length cap) ∧ wr.cell? ⟨w.heap.size, 2, none⟩ = some (.slice b ts.length cap2) ∧ Below w.heap.size w wr))
              (fun _ vi _ => ts.length - (intOf vi).toNat)
            case atStart => exact ⟨0, Nat.zero_le _, rfl, by simp [total], by simp [total], p0, p1, p2, c1⟩
            case round =>
              obtain ⟨j, hj, rfl, rfl, htj, q0, q1, q2, c2⟩ := hrel
              clear p0 p1 p2 c1
              by_cases hlt : j < ts.length
              · obtain ⟨ad, rfl, hc⟩ := (hvt.below c2).at_ (k := j) (u := .string ⟨ts[j].toArray⟩) (by simp [strsL, hlt])
                have hlt2 : (j : Int) < (ts.length : Int) := by omega
                have htm := hone ts[j] (List.getElem_mem hlt)
                have Hsn := Lib.hid (total_snoc hlt)
                generalize ts[j] = t at *
                by_cases hbig : 65536 < t.length
                · have hbi : (65536 : Int) < (t.length : Int) := by omega
                  have Hr := Lib.hid (Hl.out (by omega))
                  go_wp2
                  go_ret
                  exact ⟨by rw [Hr.out]; rfl, c2⟩
                · have hbi : decide ((65536 : Int) < (t.length : Int)) = false := by rw [decide_eq_false_iff_not]; omega
                  have hbi' : decide (65536 < t.length) = false := by rw [decide_eq_false_iff_not]; omega
                  generalize total (ts.take j) = m at *
                  have hm : m ≤ 4194304 := by omega
                  have hw1 : IntKind.i64.wrap ((m : Int) + (t.length : Int)) = (m : Int) + (t.length : Int) := by rw [IntKind.wrap_i64]; omega
                  go_wp2
                  go_roundw
                  case rel =>
                    refine ⟨j + 1, by omega, by go_num, ?_, ?_, q0, q1, q2, c2⟩
                    · rw [Hsn.out]
                      go_num
                    · rw [Hsn.out]
                      omega
                  case measure => simp [intOf]; omega
              · obtain rfl : j = ts.length := by omega
                rw [List.take_length] at htj ⊢
                have hTi : ∀ x : Nat, (x : Int) = x := fun _ => rfl
                have hele : total ts ≤ 65536 → (encL ts).length + 10 ≤ 140737488355328 := fun h => by
                  have h1 := encTs_total ts h
                  have h2 := uvarint_length64 (show ts.length < 18446744073709551616 by omega)
                  unfold encL
                  rw [List.length_append]
                  omega
                generalize total ts = T at *
                by_cases hT : 65536 < T
                · have hTb : (65536 : Int) < (T : Int) := by omega
                  have Hr := Lib.hid (Hl.out (by omega))
                  go_wp2
                  go_ret
                  exact ⟨by rw [Hr.out]; rfl, c2⟩
                · have hTb : decide ((65536 : Int) < (T : Int)) = false := by rw [decide_eq_false_iff_not]; omega
                  have hTb' : decide (65536 < T) = false := by rw [decide_eq_false_iff_not]; omega
                  have HZ := HLaid2 (hele (by omega))
                  clear HLaid2 hele hone
                  generalize hL : enc n ns ts = L at *
                  go_wp2_with fail
                  refine (HZ _ c2).mono ?_
                  rintro e w3 ⟨rfl, hb3⟩
                  have c3 := c2.trans (hb3.mono c2.size)
                  clear HZ hb3 c2 hL q0 q1 q2
                  by_cases hLL : 65536 < L.length
                  · have hLi : (65536 : Int) < (L.length : Int) := by omega
                    have Hr := Lib.hid (Hl.out hLL)
                    go_wp2
                    go_ret
                    exact ⟨by rw [Hr.out]; rfl, c3⟩
                  · have hLi : decide ((65536 : Int) < (L.length : Int)) = false := by rw [decide_eq_false_iff_not]; omega
                    have hLi' : decide (65536 < L.length) = false := by rw [decide_eq_false_iff_not]; omega
                    have Hr := Lib.hid (Ho.out hLL)
                    go_wp2
                    go_ret
                    exact ⟨by rw [Hr.out]; rfl, c3⟩
        · have f1 : ((ns.length : Int) != ((numOf n : Nat) : Int)) = false := by rw [bne_eq_false_iff_eq]; omega
          have f1' : (ns.length != numOf n) = false := by rw [bne_eq_false_iff_eq]; omega
          have f2 : decide ((ts.length : Int) < ((lowOf n : Nat) : Int)) = false := by rw [decide_eq_false_iff_not]; omega
          have f2' : decide (ts.length < lowOf n) = false := by rw [decide_eq_false_iff_not]; omega
          have f3 : decide (((highOf n : Nat) : Int) < (ts.length : Int)) = true := by rw [decide_eq_true_iff]; omega
          have f3' : decide (highOf n < ts.length) = true := by rw [decide_eq_true_iff]; omega
          have Hf := Lib.hid (chk_form (ns := ns) (ts := ts) hn8 (by unfold form; omega))
          clear HLaid hA hB hC
          go_enter Try.func12, Try.ntmps12
          go_upto_region 3 with (fail)
          go_cut [37] (fun c wx => c = .bool true ∧ (wx.cell? ⟨w.heap.size, 0, none⟩ = some (.int .i64 n) ∧ wx.cell? ⟨w.heap.size, 1, none⟩ = some (.slice a ns.length cap) ∧ wx.cell? ⟨w.heap.size, 2, none⟩ = some (.slice b ts.length cap2) ∧ Below w.heap.size w wx))
          case first =>
            go_region_held3 (fun w' => w'.cell? ⟨w.heap.size, 0, none⟩ = some (.int .i64 n) ∧ w'.cell? ⟨w.heap.size, 1, none⟩ = some (.slice a ns.length cap) ∧ w'.cell? ⟨w.heap.size, 2, none⟩ = some (.slice b ts.length cap2) ∧ Below w.heap.size w w')
              (first | exact ⟨pb.1, pb.2.1, pb.2.2.1, pb.2.2.2.drew⟩ | exact box_keep (by assumption) hb)
              (first
                | (go_at_call 22; refine (HN _).mono ?_; rintro e w' ⟨rfl, hb⟩)
                | (go_at_call 23; refine (HL _).mono ?_; rintro e w' ⟨rfl, hb⟩)
                | (go_at_call 24; refine (HM _).mono ?_; rintro e w' ⟨rfl, hb⟩))
            all_goals (go_wp2_with fail)
            all_goals go_meet
            all_goals exact ⟨rfl, by assumption⟩
          case rest =>
            obtain ⟨rfl, p0, p1, p2, c1⟩ := hcut
            go_wp2
            go_ret
            exact ⟨by rw [Hf.out]; rfl, c1⟩
      · have f1 : ((ns.length : Int) != ((numOf n : Nat) : Int)) = false := by rw [bne_eq_false_iff_eq]; omega
        have f1' : (ns.length != numOf n) = false := by rw [bne_eq_false_iff_eq]; omega
        have f2 : decide ((ts.length : Int) < ((lowOf n : Nat) : Int)) = true := by rw [decide_eq_true_iff]; omega
        have f2' : decide (ts.length < lowOf n) = true := by rw [decide_eq_true_iff]; omega
        have Hf := Lib.hid (chk_form (ns := ns) (ts := ts) hn8 (by unfold form; omega))
        clear HLaid hA hB
        go_enter Try.func12, Try.ntmps12
        go_upto_region 3 with (fail)
        go_cut [37] (fun c wx => c = .bool true ∧ (wx.cell? ⟨w.heap.size, 0, none⟩ = some (.int .i64 n) ∧ wx.cell? ⟨w.heap.size, 1, none⟩ = some (.slice a ns.length cap) ∧ wx.cell? ⟨w.heap.size, 2, none⟩ = some (.slice b ts.length cap2) ∧ Below w.heap.size w wx))
        case first =>
          refine wp_region_noPanic ?_
          refine wp_region_held_drew (S := fun w' => w'.cell? ⟨w.heap.size, 0, none⟩ = some (.int .i64 n) ∧ w'.cell? ⟨w.heap.size, 1, none⟩ = some (.slice a ns.length cap) ∧ w'.cell? ⟨w.heap.size, 2, none⟩ = some (.slice b ts.length cap2) ∧ Below w.heap.size w w') (by kernel_rfl) ?_ (fun hHeld => ?_)
          · exact ⟨pb.1, pb.2.1, pb.2.2.1, pb.2.2.2.drew⟩
          refine wpAnyH_take (i := 0) (oi := ⟨some 13, _, _, _, _, _⟩) (v := ?_) rfl (by kernel_rfl) (by kernel_rfl) (by kernel_rfl) (fun _ _ _ h => h) (Or.inl ⟨by rfl, ?_⟩) (by assumption) ?_
          rotate_left
          · (intro w hSw; (try dsimp only at hSw); go_simp; try with_reducible rfl)
          simp only [Act.put, List.setIfInBounds_toArray, List.set_cons_zero, List.set_cons_succ]
          refine wpAnyH_take (i := 1) (oi := ⟨some 14, _, _, _, _, _⟩) (v := ?_) rfl (by kernel_rfl) (by kernel_rfl) (by kernel_rfl) (fun _ _ _ h => h) (Or.inl ⟨by rfl, ?_⟩) (by assumption) ?_
          rotate_left
          · (intro w hSw; (try dsimp only at hSw); go_simp; try with_reducible rfl)
          simp only [Act.put, List.setIfInBounds_toArray, List.set_cons_zero, List.set_cons_succ]
          refine wpAnyH_take (i := 2) (oi := ⟨some 15, _, _, _, _, _⟩) (v := ?_) rfl (by kernel_rfl) (by kernel_rfl) (by kernel_rfl) (fun _ _ _ h => h) (Or.inl ⟨by rfl, ?_⟩) (by assumption) ?_
          rotate_left
          · (intro w hSw; (try dsimp only at hSw); go_simp; try with_reducible rfl)
          simp only [Act.put, List.setIfInBounds_toArray, List.set_cons_zero, List.set_cons_succ]
          refine wpAnyH_take (i := 3) (oi := ⟨some 16, _, _, _, _, _⟩) (v := ?_) rfl (by kernel_rfl) (by kernel_rfl) (by kernel_rfl) (fun _ _ _ h => h) (Or.inl ⟨by rfl, ?_⟩) (by assumption) ?_
          rotate_left
          · (intro w hSw; (try dsimp only at hSw); go_simp; try with_reducible rfl)
          simp only [Act.put, List.setIfInBounds_toArray, List.set_cons_zero, List.set_cons_succ]
          refine wpAnyH_take (i := 4) (oi := ⟨some 17, _, _, _, _, _⟩) (v := ?_) rfl (by kernel_rfl) (by kernel_rfl) (by kernel_rfl) (fun _ _ _ h => h) (Or.inl ⟨by rfl, ?_⟩) (by assumption) ?_
          rotate_left
          · (intro w hSw; (try dsimp only at hSw); go_simp; try with_reducible rfl)
          simp only [Act.put, List.setIfInBounds_toArray, List.set_cons_zero, List.set_cons_succ]
          refine wpAnyH_ready (rs := [5]) (by kernel_rfl) (by simp) ?_
          refine AllReadyH.cons (o := ⟨some 18, _, _, _, _, _⟩) rfl (fun K hK => ?_) AllReadyH.nil
          go_simp
          go_at_call 22
          refine (HN _).mono ?_
          rintro e w5 ⟨rfl, hb5⟩
          go_wp2_with fail
          refine hK.out _ _ ?_ (fun hHeld5 => ?_)
          · exact box_keep hHeld hb5
          clear hK K
          refine wpAnyH_take (i := 6) (oi := ⟨some 19, _, _, _, _, _⟩) (v := ?_) rfl (by kernel_rfl) (by kernel_rfl) (by kernel_rfl) (fun _ _ _ h => h) (Or.inl ⟨by rfl, ?_⟩) (by assumption) ?_
          rotate_left
          · (intro w hSw; (try dsimp only at hSw); go_simp; try with_reducible rfl)
          simp only [Act.put, List.setIfInBounds_toArray, List.set_cons_zero, List.set_cons_succ]
          refine wpAnyH_take (i := 7) (oi := ⟨some 20, _, _, _, _, _⟩) (v := ?_) rfl (by kernel_rfl) (by kernel_rfl) (by kernel_rfl) (fun _ _ _ h => h) (Or.inl ⟨by rfl, ?_⟩) (by assumption) ?_
          rotate_left
          · (intro w hSw; (try dsimp only at hSw); go_simp; try with_reducible rfl)
          simp only [Act.put, List.setIfInBounds_toArray, List.set_cons_zero, List.set_cons_succ]
          refine wpAnyH_take (i := 8) (oi := ⟨some 21, _, _, _, _, _⟩) (v := ?_) rfl (by kernel_rfl) (by kernel_rfl) (by kernel_rfl) (fun _ _ _ h => h) (Or.inl ⟨by rfl, ?_⟩) (by assumption) ?_
          rotate_left
          · (intro w hSw; (try dsimp only at hSw); go_simp; try with_reducible rfl)
          simp only [Act.put, List.setIfInBounds_toArray, List.set_cons_zero, List.set_cons_succ]
          refine wpAnyH_take (i := 9) (oi := ⟨some 22, _, _, _, _, _⟩) (v := ?_) rfl (by kernel_rfl) (by kernel_rfl) (by kernel_rfl) (fun _ _ _ h => h) (Or.inl ⟨by rfl, ?_⟩) (by assumption) ?_
          rotate_left
          · (intro w hSw; (try dsimp only at hSw); go_simp; try with_reducible rfl)
          simp only [Act.put, List.setIfInBounds_toArray, List.set_cons_zero, List.set_cons_succ]
          refine wpAnyH_take (i := 10) (oi := ⟨some 23, _, _, _, _, _⟩) (v := ?_) rfl (by kernel_rfl) (by kernel_rfl) (by kernel_rfl) (fun _ _ _ h => h) (Or.inl ⟨by rfl, ?_⟩) (by assumption) ?_
          rotate_left
          · (intro w hSw; (try dsimp only at hSw); go_simp; try with_reducible rfl)
          simp only [Act.put, List.setIfInBounds_toArray, List.set_cons_zero, List.set_cons_succ]
          refine wpAnyH_take (i := 11) (oi := ⟨some 24, _, _, _, _, _⟩) (v := ?_) rfl (by kernel_rfl) (by kernel_rfl) (by kernel_rfl) (fun _ _ _ h => h) (Or.inl ⟨by rfl, ?_⟩) (by assumption) ?_
          rotate_left
          · (intro w hSw; (try dsimp only at hSw); go_simp; try with_reducible rfl)
          simp only [Act.put, List.setIfInBounds_toArray, List.set_cons_zero, List.set_cons_succ]
          refine wpAnyH_take (i := 12) (oi := ⟨some 25, _, _, _, _, _⟩) (v := ?_) rfl (by kernel_rfl) (by kernel_rfl) (by kernel_rfl) (fun _ _ _ h => h) (Or.inl ⟨by rfl, ?_⟩) (by assumption) ?_
          rotate_left
          · (intro w hSw; (try dsimp only at hSw); go_simp; try with_reducible rfl)
          simp only [Act.put, List.setIfInBounds_toArray, List.set_cons_zero, List.set_cons_succ]
          refine wpAnyH_ready (rs := [13]) (by kernel_rfl) (by simp) ?_
          refine AllReadyH.cons (o := ⟨some 26, _, _, _, _, _⟩) rfl (fun K hK => ?_) AllReadyH.nil
          go_simp
          go_at_call 23
          refine (HL _).mono ?_
          rintro e w13 ⟨rfl, hb13⟩
          go_wp2_with fail
          refine hK.out _ _ ?_ (fun hHeld13 => ?_)
          · exact box_keep hHeld5 hb13
          clear hK K
          refine wpAnyH_take (i := 14) (oi := ⟨some 27, _, _, _, _, _⟩) (v := ?_) rfl (by kernel_rfl) (by kernel_rfl) (by kernel_rfl) (fun _ _ _ h => h) (Or.inl ⟨by rfl, ?_⟩) (by assumption) ?_
          rotate_left
          · (intro w hSw; (try dsimp only at hSw); go_simp; try with_reducible rfl)
          simp only [Act.put, List.setIfInBounds_toArray, List.set_cons_zero, List.set_cons_succ]
          refine wpAnyH_take (i := 15) (oi := ⟨some 28, _, _, _, _, _⟩) (v := ?_) rfl (by kernel_rfl) (by kernel_rfl) (by kernel_rfl) (fun _ _ _ h => h) (Or.inl ⟨by rfl, ?_⟩) (by assumption) ?_
          rotate_left
          · (intro w hSw; (try dsimp only at hSw); go_simp; try with_reducible rfl)
          simp only [Act.put, List.setIfInBounds_toArray, List.set_cons_zero, List.set_cons_succ]
          refine wpAnyH_take (i := 16) (oi := ⟨some 29, _, _, _, _, _⟩) (v := ?_) rfl (by kernel_rfl) (by kernel_rfl) (by kernel_rfl) (fun _ _ _ h => h) (Or.inl ⟨by rfl, ?_⟩) (by assumption) ?_
          rotate_left
          · (intro w hSw; (try dsimp only at hSw); go_simp; try with_reducible rfl)
          simp only [Act.put, List.setIfInBounds_toArray, List.set_cons_zero, List.set_cons_succ]
          refine wpAnyH_take (i := 17) (oi := ⟨some 30, _, _, _, _, _⟩) (v := undef) rfl (by kernel_rfl) (by kernel_rfl) (by kernel_rfl) (fun _ _ _ h => h) (Or.inr ⟨by rfl, rfl⟩) (by assumption) ?_
          simp only [Act.put, List.setIfInBounds_toArray, List.set_cons_zero, List.set_cons_succ]
          refine wpAnyH_take (i := 18) (oi := ⟨some 31, _, _, _, _, _⟩) (v := undef) rfl (by kernel_rfl) (by kernel_rfl) (by kernel_rfl) (fun _ _ _ h => h) (Or.inr ⟨by rfl, rfl⟩) (by assumption) ?_
          simp only [Act.put, List.setIfInBounds_toArray, List.set_cons_zero, List.set_cons_succ]
          refine wpAnyH_take (i := 19) (oi := ⟨some 32, _, _, _, _, _⟩) (v := undef) rfl (by kernel_rfl) (by kernel_rfl) (by kernel_rfl) (fun _ _ _ h => h) (Or.inr ⟨by rfl, rfl⟩) (by assumption) ?_
          simp only [Act.put, List.setIfInBounds_toArray, List.set_cons_zero, List.set_cons_succ]
          refine wpAnyH_take (i := 20) (oi := ⟨some 33, _, _, _, _, _⟩) (v := undef) rfl (by kernel_rfl) (by kernel_rfl) (by kernel_rfl) (fun _ _ _ h => h) (Or.inr ⟨by rfl, rfl⟩) (by assumption) ?_
          simp only [Act.put, List.setIfInBounds_toArray, List.set_cons_zero, List.set_cons_succ]
          refine wpAnyH_take (i := 21) (oi := ⟨some 34, _, _, _, _, _⟩) (v := undef) rfl (by kernel_rfl) (by kernel_rfl) (by kernel_rfl) (fun _ _ _ h => h) (Or.inr ⟨by rfl, rfl⟩) (by assumption) ?_
          simp only [Act.put, List.setIfInBounds_toArray, List.set_cons_zero, List.set_cons_succ]
          refine wpAnyH_take (i := 22) (oi := ⟨some 35, _, _, _, _, _⟩) (v := undef) rfl (by kernel_rfl) (by kernel_rfl) (by kernel_rfl) (fun _ _ _ h => h) (Or.inr ⟨by rfl, rfl⟩) (by assumption) ?_
          simp only [Act.put, List.setIfInBounds_toArray, List.set_cons_zero, List.set_cons_succ]
          refine wpAnyH_take (i := 23) (oi := ⟨some 36, _, _, _, _, _⟩) (v := undef) rfl (by kernel_rfl) (by kernel_rfl) (by kernel_rfl) (fun _ _ _ h => h) (Or.inr ⟨by rfl, rfl⟩) (by assumption) ?_
          simp only [Act.put, List.setIfInBounds_toArray, List.set_cons_zero, List.set_cons_succ]
          refine wpAnyH_take (i := 24) (oi := ⟨some 37, _, _, _, _, _⟩) (v := ?_) rfl (by kernel_rfl) (by kernel_rfl) (by kernel_rfl) (fun _ _ _ h => h) (Or.inl ⟨by rfl, ?_⟩) (by assumption) ?_
          rotate_left
          · (intro w hSw; (try dsimp only at hSw); go_simp; try with_reducible rfl)
          simp only [Act.put, List.setIfInBounds_toArray, List.set_cons_zero, List.set_cons_succ]
          refine wpAnyH_done (by kernel_rfl) ?_ _
          refine NoPanic.normal ?_
          go_wp2_with fail
          go_meet
          exact ⟨rfl, hHeld13⟩
        case rest =>
          obtain ⟨rfl, p0, p1, p2, c1⟩ := hcut
          go_wp2
          go_ret
          exact ⟨by rw [Hf.out]; rfl, c1⟩
    · have f1 : ((ns.length : Int) != ((numOf n : Nat) : Int)) = true := by rw [bne_iff_ne]; omega
      have f1' : (ns.length != numOf n) = true := by rw [bne_iff_ne]; omega
      have Hf := Lib.hid (chk_form (ns := ns) (ts := ts) hn8 (by unfold form; omega))
      clear HLaid hA
      go_enter Try.func12, Try.ntmps12
      go_upto_region 3 with (fail)
      go_cut [37] (fun c wx => c = .bool true ∧ (wx.cell? ⟨w.heap.size, 0, none⟩ = some (.int .i64 n) ∧ wx.cell? ⟨w.heap.size, 1, none⟩ = some (.slice a ns.length cap) ∧ wx.cell? ⟨w.heap.size, 2, none⟩ = some (.slice b ts.length cap2) ∧ Below w.heap.size w wx))
      case first =>
        refine wp_region_noPanic ?_
        refine wp_region_held_drew (S := fun w' => w'.cell? ⟨w.heap.size, 0, none⟩ = some (.int .i64 n) ∧ w'.cell? ⟨w.heap.size, 1, none⟩ = some (.slice a ns.length cap) ∧ w'.cell? ⟨w.heap.size, 2, none⟩ = some (.slice b ts.length cap2) ∧ Below w.heap.size w w') (by kernel_rfl) ?_ (fun hHeld => ?_)
        · exact ⟨pb.1, pb.2.1, pb.2.2.1, pb.2.2.2.drew⟩
        refine wpAnyH_take (i := 0) (oi := ⟨some 13, _, _, _, _, _⟩) (v := ?_) rfl (by kernel_rfl) (by kernel_rfl) (by kernel_rfl) (fun _ _ _ h => h) (Or.inl ⟨by rfl, ?_⟩) (by assumption) ?_
        rotate_left
        · (intro w hSw; (try dsimp only at hSw); go_simp; try with_reducible rfl)
        simp only [Act.put, List.setIfInBounds_toArray, List.set_cons_zero, List.set_cons_succ]
        refine wpAnyH_take (i := 1) (oi := ⟨some 14, _, _, _, _, _⟩) (v := ?_) rfl (by kernel_rfl) (by kernel_rfl) (by kernel_rfl) (fun _ _ _ h => h) (Or.inl ⟨by rfl, ?_⟩) (by assumption) ?_
        rotate_left
        · (intro w hSw; (try dsimp only at hSw); go_simp; try with_reducible rfl)
        simp only [Act.put, List.setIfInBounds_toArray, List.set_cons_zero, List.set_cons_succ]
        refine wpAnyH_take (i := 2) (oi := ⟨some 15, _, _, _, _, _⟩) (v := ?_) rfl (by kernel_rfl) (by kernel_rfl) (by kernel_rfl) (fun _ _ _ h => h) (Or.inl ⟨by rfl, ?_⟩) (by assumption) ?_
        rotate_left
        · (intro w hSw; (try dsimp only at hSw); go_simp; try with_reducible rfl)
        simp only [Act.put, List.setIfInBounds_toArray, List.set_cons_zero, List.set_cons_succ]
        refine wpAnyH_take (i := 3) (oi := ⟨some 16, _, _, _, _, _⟩) (v := ?_) rfl (by kernel_rfl) (by kernel_rfl) (by kernel_rfl) (fun _ _ _ h => h) (Or.inl ⟨by rfl, ?_⟩) (by assumption) ?_
        rotate_left
        · (intro w hSw; (try dsimp only at hSw); go_simp; try with_reducible rfl)
        simp only [Act.put, List.setIfInBounds_toArray, List.set_cons_zero, List.set_cons_succ]
        refine wpAnyH_take (i := 4) (oi := ⟨some 17, _, _, _, _, _⟩) (v := ?_) rfl (by kernel_rfl) (by kernel_rfl) (by kernel_rfl) (fun _ _ _ h => h) (Or.inl ⟨by rfl, ?_⟩) (by assumption) ?_
        rotate_left
        · (intro w hSw; (try dsimp only at hSw); go_simp; try with_reducible rfl)
        simp only [Act.put, List.setIfInBounds_toArray, List.set_cons_zero, List.set_cons_succ]
        refine wpAnyH_ready (rs := [5]) (by kernel_rfl) (by simp) ?_
        refine AllReadyH.cons (o := ⟨some 18, _, _, _, _, _⟩) rfl (fun K hK => ?_) AllReadyH.nil
        go_simp
        go_at_call 22
        refine (HN _).mono ?_
        rintro e w5 ⟨rfl, hb5⟩
        go_wp2_with fail
        refine hK.out _ _ ?_ (fun hHeld5 => ?_)
        · exact box_keep hHeld hb5
        clear hK K
        refine wpAnyH_take (i := 6) (oi := ⟨some 19, _, _, _, _, _⟩) (v := ?_) rfl (by kernel_rfl) (by kernel_rfl) (by kernel_rfl) (fun _ _ _ h => h) (Or.inl ⟨by rfl, ?_⟩) (by assumption) ?_
        rotate_left
        · (intro w hSw; (try dsimp only at hSw); go_simp; try with_reducible rfl)
        simp only [Act.put, List.setIfInBounds_toArray, List.set_cons_zero, List.set_cons_succ]
        refine wpAnyH_take (i := 7) (oi := ⟨some 20, _, _, _, _, _⟩) (v := ?_) rfl (by kernel_rfl) (by kernel_rfl) (by kernel_rfl) (fun _ _ _ h => h) (Or.inl ⟨by rfl, ?_⟩) (by assumption) ?_
        rotate_left
        · (intro w hSw; (try dsimp only at hSw); go_simp; try with_reducible rfl)
        simp only [Act.put, List.setIfInBounds_toArray, List.set_cons_zero, List.set_cons_succ]
        refine wpAnyH_take (i := 8) (oi := ⟨some 21, _, _, _, _, _⟩) (v := undef) rfl (by kernel_rfl) (by kernel_rfl) (by kernel_rfl) (fun _ _ _ h => h) (Or.inr ⟨by rfl, rfl⟩) (by assumption) ?_
        simp only [Act.put, List.setIfInBounds_toArray, List.set_cons_zero, List.set_cons_succ]
        refine wpAnyH_take (i := 9) (oi := ⟨some 22, _, _, _, _, _⟩) (v := undef) rfl (by kernel_rfl) (by kernel_rfl) (by kernel_rfl) (fun _ _ _ h => h) (Or.inr ⟨by rfl, rfl⟩) (by assumption) ?_
        simp only [Act.put, List.setIfInBounds_toArray, List.set_cons_zero, List.set_cons_succ]
        refine wpAnyH_take (i := 10) (oi := ⟨some 23, _, _, _, _, _⟩) (v := undef) rfl (by kernel_rfl) (by kernel_rfl) (by kernel_rfl) (fun _ _ _ h => h) (Or.inr ⟨by rfl, rfl⟩) (by assumption) ?_
        simp only [Act.put, List.setIfInBounds_toArray, List.set_cons_zero, List.set_cons_succ]
        refine wpAnyH_take (i := 11) (oi := ⟨some 24, _, _, _, _, _⟩) (v := undef) rfl (by kernel_rfl) (by kernel_rfl) (by kernel_rfl) (fun _ _ _ h => h) (Or.inr ⟨by rfl, rfl⟩) (by assumption) ?_
        simp only [Act.put, List.setIfInBounds_toArray, List.set_cons_zero, List.set_cons_succ]
        refine wpAnyH_take (i := 12) (oi := ⟨some 25, _, _, _, _, _⟩) (v := undef) rfl (by kernel_rfl) (by kernel_rfl) (by kernel_rfl) (fun _ _ _ h => h) (Or.inr ⟨by rfl, rfl⟩) (by assumption) ?_
        simp only [Act.put, List.setIfInBounds_toArray, List.set_cons_zero, List.set_cons_succ]
        refine wpAnyH_take (i := 13) (oi := ⟨some 26, _, _, _, _, _⟩) (v := undef) rfl (by kernel_rfl) (by kernel_rfl) (by kernel_rfl) (fun _ _ _ h => h) (Or.inr ⟨by rfl, rfl⟩) (by assumption) ?_
        simp only [Act.put, List.setIfInBounds_toArray, List.set_cons_zero, List.set_cons_succ]
        refine wpAnyH_take (i := 14) (oi := ⟨some 27, _, _, _, _, _⟩) (v := undef) rfl (by kernel_rfl) (by kernel_rfl) (by kernel_rfl) (fun _ _ _ h => h) (Or.inr ⟨by rfl, rfl⟩) (by assumption) ?_
        simp only [Act.put, List.setIfInBounds_toArray, List.set_cons_zero, List.set_cons_succ]
        refine wpAnyH_take (i := 15) (oi := ⟨some 28, _, _, _, _, _⟩) (v := ?_) rfl (by kernel_rfl) (by kernel_rfl) (by kernel_rfl) (fun _ _ _ h => h) (Or.inl ⟨by rfl, ?_⟩) (by assumption) ?_
        rotate_left
        · (intro w hSw; (try dsimp only at hSw); go_simp; try with_reducible rfl)
        simp only [Act.put, List.setIfInBounds_toArray, List.set_cons_zero, List.set_cons_succ]
        refine wpAnyH_take (i := 16) (oi := ⟨some 29, _, _, _, _, _⟩) (v := ?_) rfl (by kernel_rfl) (by kernel_rfl) (by kernel_rfl) (fun _ _ _ h => h) (Or.inl ⟨by rfl, ?_⟩) (by assumption) ?_
        rotate_left
        · (intro w hSw; (try dsimp only at hSw); go_simp; try with_reducible rfl)
        simp only [Act.put, List.setIfInBounds_toArray, List.set_cons_zero, List.set_cons_succ]
        refine wpAnyH_take (i := 17) (oi := ⟨some 30, _, _, _, _, _⟩) (v := undef) rfl (by kernel_rfl) (by kernel_rfl) (by kernel_rfl) (fun _ _ _ h => h) (Or.inr ⟨by rfl, rfl⟩) (by assumption) ?_
        simp only [Act.put, List.setIfInBounds_toArray, List.set_cons_zero, List.set_cons_succ]
        refine wpAnyH_take (i := 18) (oi := ⟨some 31, _, _, _, _, _⟩) (v := undef) rfl (by kernel_rfl) (by kernel_rfl) (by kernel_rfl) (fun _ _ _ h => h) (Or.inr ⟨by rfl, rfl⟩) (by assumption) ?_
        simp only [Act.put, List.setIfInBounds_toArray, List.set_cons_zero, List.set_cons_succ]
        refine wpAnyH_take (i := 19) (oi := ⟨some 32, _, _, _, _, _⟩) (v := undef) rfl (by kernel_rfl) (by kernel_rfl) (by kernel_rfl) (fun _ _ _ h => h) (Or.inr ⟨by rfl, rfl⟩) (by assumption) ?_
        simp only [Act.put, List.setIfInBounds_toArray, List.set_cons_zero, List.set_cons_succ]
        refine wpAnyH_take (i := 20) (oi := ⟨some 33, _, _, _, _, _⟩) (v := undef) rfl (by kernel_rfl) (by kernel_rfl) (by kernel_rfl) (fun _ _ _ h => h) (Or.inr ⟨by rfl, rfl⟩) (by assumption) ?_
        simp only [Act.put, List.setIfInBounds_toArray, List.set_cons_zero, List.set_cons_succ]
        refine wpAnyH_take (i := 21) (oi := ⟨some 34, _, _, _, _, _⟩) (v := undef) rfl (by kernel_rfl) (by kernel_rfl) (by kernel_rfl) (fun _ _ _ h => h) (Or.inr ⟨by rfl, rfl⟩) (by assumption) ?_
        simp only [Act.put, List.setIfInBounds_toArray, List.set_cons_zero, List.set_cons_succ]
        refine wpAnyH_take (i := 22) (oi := ⟨some 35, _, _, _, _, _⟩) (v := undef) rfl (by kernel_rfl) (by kernel_rfl) (by kernel_rfl) (fun _ _ _ h => h) (Or.inr ⟨by rfl, rfl⟩) (by assumption) ?_
        simp only [Act.put, List.setIfInBounds_toArray, List.set_cons_zero, List.set_cons_succ]
        refine wpAnyH_take (i := 23) (oi := ⟨some 36, _, _, _, _, _⟩) (v := undef) rfl (by kernel_rfl) (by kernel_rfl) (by kernel_rfl) (fun _ _ _ h => h) (Or.inr ⟨by rfl, rfl⟩) (by assumption) ?_
        simp only [Act.put, List.setIfInBounds_toArray, List.set_cons_zero, List.set_cons_succ]
        refine wpAnyH_take (i := 24) (oi := ⟨some 37, _, _, _, _, _⟩) (v := ?_) rfl (by kernel_rfl) (by kernel_rfl) (by kernel_rfl) (fun _ _ _ h => h) (Or.inl ⟨by rfl, ?_⟩) (by assumption) ?_
        rotate_left
        · (intro w hSw; (try dsimp only at hSw); go_simp; try with_reducible rfl)
        simp only [Act.put, List.setIfInBounds_toArray, List.set_cons_zero, List.set_cons_succ]
        refine wpAnyH_done (by kernel_rfl) ?_ _
        refine NoPanic.normal ?_
        go_wp2_with fail
        go_meet
        exact ⟨rfl, hHeld5⟩
      case rest =>
        obtain ⟨rfl, p0, p1, p2, c1⟩ := hcut
        go_wp2
        go_ret
        exact ⟨by rw [Hf.out]; rfl, c1⟩
  · rw [chk_out hr]
    have c0 : Below w.heap.size w (w.alloc (.cells #[.int .i64 k, vn, vt] 25)) := (Below.refl _ w).alloc (Nat.le_refl _) _
    by_cases h0 : k < 0
    · clear hr
      go_enter Try.func12, Try.ntmps12
      go_wp2
      go_ret
      exact ⟨rfl, c0⟩
    · have h7 : 7 < k := by omega
      have h0i : decide (k < 0) = false := by rw [decide_eq_false_iff_not]; omega
      clear hr h0
      go_enter Try.func12, Try.ntmps12
      go_wp2
      go_ret
      exact ⟨rfl, c0⟩

set_option maxHeartbeats 4000000 in
set_option maxRecDepth 100000 in
theorem rEncode_any (k : Int) (hk0 : -9223372036854775808 ≤ k) (hk1 : k ≤ 9223372036854775807) (ns : List Nat) (hx : ∀ x ∈ ns, x < 18446744073709551616)
    (ts : List (List UInt8)) (vn vt : Value) (w : World) (hv : Kit.Rd w vn (nums ns)) (hvt : Kit.Rd w vt (strsL ts)) :
    Calls Try.prog 9 #[.agg #[.int .i64 k, vn, vt]] w fun e w' => e = .returned (encRes k ns ts) ∧ Below w.heap.size w w' := by
  have HC := fun wx (h : Below w.heap.size w wx) => rCheck_any k hk0 hk1 ns hx ts vn vt wx (hv.below h) (hvt.below h)
  have pb := box_new w (.int .i64 k) vn vt 25
  by_cases hz : chk k ns ts = 0
  · obtain ⟨n, rfl, hn8, hf, hlen⟩ := Msg.chk_zero hz
    have hsum : (encL ts).length + 10 ≤ 140737488355328 := by unfold enc at hlen; rw [List.length_append] at hlen; omega
    have HL := fun wx (h : Below w.heap.size w wx) => rLaid_any n hn8 ns hx (by rw [hf.1]; exact Msg.numOf_le n) ts hsum vn vt wx (hv.below h) (hvt.below h)
    have hres : encRes (n : Int) ns ts = .tuple #[.string ⟨(enc n ns ts).toArray⟩, .int .i64 0] := by
      unfold encRes
      rw [if_pos hz, Int.toNat_natCast]
    rw [hres]
    rw [hz] at HC
    clear hres hz hlen hf hv hvt hx hsum
    generalize enc n ns ts = L at *
    go_enter Try.func9, Try.ntmps9
    go_wp2_with fail
    refine (HC _ pb.2.2.2).mono ?_
    rintro e w1 ⟨rfl, hb1⟩
    have p1 := box_keep pb hb1
    clear pb hb1 HC
    obtain ⟨q0, q1, q2, c1⟩ := p1
    go_wp2_with fail
    refine (HL _ c1).mono ?_
    rintro e w2 ⟨rfl, hb2⟩
    have c2 := c1.trans (hb2.mono c1.size)
    clear HL hb2 c1
    go_wp2
    go_ret2
    exact ⟨rfl, c2⟩
  · have hz2 : ((chk k ns ts : Nat) : Int) ≠ 0 := by omega
    have hres : encRes k ns ts = .tuple #[.string ⟨#[]⟩, .int .i64 (chk k ns ts : Nat)] := by
      unfold encRes
      rw [if_neg hz]
    rw [hres]
    clear hres hz hv hvt hx
    generalize chk k ns ts = c at *
    have hz3 : ((c : Int) == 0) = false := by rw [beq_eq_false_iff_ne]; exact hz2
    clear hz2
    go_enter Try.func9, Try.ntmps9
    go_wp2_with fail
    refine (HC _ pb.2.2.2).mono ?_
    rintro e w1 ⟨rfl, hb1⟩
    have c1 := pb.2.2.2.trans (hb1.mono pb.2.2.2.size)
    clear HC
    go_wp2
    go_ret2
    exact ⟨rfl, c1⟩
end Go.Proofs.Ytnbjlhbaeghihaa
