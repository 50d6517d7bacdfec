/-
  Package msg: Check and Encode.
-/
import Derived.Test.YtnbjlhbaeghihaaMsgB
namespace Go.Proofs.Ytnbjlhbaeghihaa
open Go.RowKit
open Go.Lib (uvarint uvarint_small uvarint_big uvarint_length64 uvarint_pos byteCells)
open Leb (dec decT decL takeNs takeTs encT encN encL encNs encTs)
open Msg (numOf lowOf highOf form chk enc dm)

theorem wrap_out {k : Int} (hk0 : -9223372036854775808 ≤ k) (hk1 : k ≤ 9223372036854775807) (h : ¬ (0 ≤ k ∧ k ≤ 7)) : ∃ m : Nat, IntKind.u64.wrap k = (m : Int) ∧ ¬ m < 8 := by
  refine ⟨(IntKind.u64.wrap k).toNat, ?_, ?_⟩
  · have := (wrap_within .u64 k).1
    have h0 : (0 : Int) ≤ IntKind.u64.wrap k := this
    omega
  · rw [IntKind.wrap_u64]
    omega
theorem chk_out {k : Int} {ns : List Nat} {ts : List (List UInt8)} (h : ¬ (0 ≤ k ∧ k ≤ 7)) : chk k ns ts = 20 := by
  unfold chk
  rw [if_pos (by omega)]
theorem chk_form {n : Nat} {ns : List Nat} {ts : List (List UInt8)} (h : n < 8) (hf : ¬ form n ns ts) : chk n ns ts = 21 := by
  unfold chk
  rw [if_neg (by omega), Int.toNat_natCast, if_pos hf]
theorem chk_fine {n : Nat} {ns : List Nat} {ts : List (List UInt8)} (h : n < 8) (hf : form n ns ts) (hl : ¬ 65536 < (enc n ns ts).length) : chk n ns ts = 0 := Msg.chk_ok h hf (by omega)
theorem chk_long {n : Nat} {ns : List Nat} {ts : List (List UInt8)} (h : n < 8) (hf : form n ns ts) (hl : 65536 < (enc n ns ts).length) : chk n ns ts = 22 := by
  unfold chk
  rw [if_neg (by omega), Int.toNat_natCast, if_neg (by simpa using hf), if_pos hl]

set_option maxHeartbeats 4000000 in
set_option maxRecDepth 100000 in
theorem check_any (k : Int) (hk0 : -9223372036854775808 ≤ k) (hk1 : k ≤ 9223372036854775807) (ns : List Nat) (hx : ∀ x ∈ ns, x < 18446744073709551616)
    (ts : List (List UInt8)) (hts : ∀ t ∈ ts, t.length ≤ 140737488351232)
    (vn vt : Value) (w : World) (hv : Kit.Rd w vn (nums ns)) (hvt : Kit.Rd w vt (strsL ts)) :
    Calls Try.prog 11 #[.agg #[.int .i64 k, vn, vt]] w fun e w' => e = .returned (.int .i64 (chk k ns ts : Nat)) ∧ Below w.heap.size w w' := by
  have hll : (strsL ts).length = ts.length := by simp [strsL]
  have hln : (nums ns).length = ns.length := by simp [nums]
  have pb := box_new w (.int .i64 k) vn vt 25
  by_cases hr : 0 ≤ k ∧ k ≤ 7
  · obtain ⟨n, rfl⟩ := Int.eq_ofNat_of_zero_le hr.1
    have hn8 : n < 8 := by omega
    have hku : IntKind.u64.wrap (n : Int) = (n : Int) := by rw [IntKind.wrap_u64]; omega
    have HS := fun w => shapeOf_any n w
    have HZ := fun (h : ns.length ≤ 5) (h2 : ts.length ≤ 64) wx (hb : Below w.heap.size w wx) => size_any n hn8 ns hx h ts h2 hts vn vt wx (hv.below hb) (hvt.below hb)
    unfold shapeRes at HS
    rw [if_pos hn8] at HS
    have HA := fun w => has_any (numOf n : Nat) (lowOf n : Nat) (highOf n : Nat) (ts.length : Int) w
    obtain ⟨a, cap, rfl⟩ := hv.form
    obtain ⟨b, cap2, rfl⟩ := hvt.form
    rw [hll] at hvt HZ pb ⊢
    rw [hln] at hv HZ pb ⊢
    clear hll hln hr
    go_enter Try.func11, Try.ntmps11
    go_wp2_with fail
    refine (HS _).mono ?_
    rintro e w1 ⟨rfl, hb1⟩
    have p1 := box_keep pb hb1
    have p2 := box_alloc p1 (.cells #[.int .i64 (numOf n : Nat), .int .i64 (lowOf n : Nat), .int .i64 (highOf n : Nat)] 43)
    obtain ⟨q0, q1, q2, hc2⟩ := p2
    clear pb hb1 HS p1
    by_cases hN : ns.length = numOf n
    · have g1 : ((ns.length : Int) != ((numOf n : Nat) : Int)) = false := by rw [bne_eq_false_iff_eq]; omega
      by_cases hT : lowOf n ≤ ts.length ∧ ts.length ≤ highOf n
      · have hf : form n ns ts := ⟨hN, hT⟩
        have HZ2 := HZ (by rw [hN]; exact Msg.numOf_le n) (Nat.le_trans hT.2 (Msg.highOf_le n))
        have g2 : decide (((lowOf n : Nat) : Int) ≤ (ts.length : Int) ∧ (ts.length : Int) ≤ ((highOf n : Nat) : Int)) = true := by rw [decide_eq_true_iff]; omega
        rw [g2] at HA
        have Hl := Lib.hid (chk_long hn8 hf)
        have Ho := Lib.hid (chk_fine hn8 hf)
        clear g2 hf hT hN HZ
        generalize (enc n ns ts).length = L at *
        go_wp2_with fail
        refine (HA _).mono ?_
        rintro e w3 ⟨rfl, hb3⟩
        have p3 := box_keep ⟨q0, q1, q2, hc2⟩ hb3
        obtain ⟨q0, q1, q2, hc3⟩ := p3
        clear HA hb3 hc2
        go_wp2_with fail
        refine (HZ2 _ hc3).mono ?_
        rintro e w4 ⟨rfl, hb4⟩
        have hc4 := hc3.trans (hb4.mono hc3.size)
        clear HZ2 hb4 hc3
        by_cases hL : 65536 < L
        · have hLi : (65536 : Int) < (L : Int) := by omega
          go_wp2
          go_ret
          exact ⟨by rw [Hl.out hL]; rfl, hc4⟩
        · have hLi : decide ((65536 : Int) < (L : Int)) = false := by rw [decide_eq_false_iff_not]; omega
          go_wp2
          go_ret
          exact ⟨by rw [Ho.out hL]; rfl, hc4⟩
      · have g2 : decide (((lowOf n : Nat) : Int) ≤ (ts.length : Int) ∧ (ts.length : Int) ≤ ((highOf n : Nat) : Int)) = false := by rw [decide_eq_false_iff_not]; omega
        rw [g2] at HA
        have Hf := Lib.hid (chk_form (ns := ns) (ts := ts) hn8 (fun h => hT h.2))
        clear g2 hT hN HZ
        go_wp2_with fail
        refine (HA _).mono ?_
        rintro e w3 ⟨rfl, hb3⟩
        have hc3 := hc2.trans (hb3.mono hc2.size)
        clear HA hb3 hc2
        go_wp2
        go_ret
        exact ⟨by rw [Hf.out]; rfl, hc3⟩
    · have g1 : ((ns.length : Int) != ((numOf n : Nat) : Int)) = true := by rw [bne_iff_ne]; omega
      have Hf := Lib.hid (chk_form (ns := ns) (ts := ts) hn8 (fun h => hN h.1))
      clear hN HZ HA
      go_wp2
      go_ret
      exact ⟨by rw [Hf.out]; rfl, hc2⟩
  · obtain ⟨m, hm, hm8⟩ := wrap_out hk0 hk1 hr
    have HS := fun w => shapeOf_any m w
    unfold shapeRes at HS
    rw [if_neg hm8] at HS
    rw [chk_out hr]
    clear hr hm8
    go_enter Try.func11, Try.ntmps11
    go_wp2_with fail
    refine (HS _).mono ?_
    rintro e w1 ⟨rfl, hb1⟩
    have hc1 := pb.2.2.2.trans (hb1.mono pb.2.2.2.size)
    clear HS
    go_wp2
    go_ret
    exact ⟨rfl, hc1.alloc hc1.size _⟩

theorem strs_lists (ts : List (List UInt8)) : strs (ts.map fun x => (⟨x.toArray⟩ : ByteArray)) = strsL ts := by simp [strs, strsL]
theorem bys_lists (ts : List (List UInt8)) : bys (ts.map fun x => (⟨x.toArray⟩ : ByteArray)) = ts := by
  unfold bys
  rw [List.map_map]
  exact List.map_id ts
theorem putListL_any (ts : List (List UInt8)) (hl : (encL ts).length + 10 ≤ 140737488355328) (v : Value) (w : World) (hv : Kit.Rd w v (strsL ts)) :
    Calls Try.prog 17 #[v] w fun e w' => e = .returned (.string ⟨(encL ts).toArray⟩) ∧ Below w.heap.size w w' := by
  have h := putList_any (ts.map fun x => (⟨x.toArray⟩ : ByteArray)) (by rw [bys_lists]; exact hl) v w (by rw [strs_lists]; exact hv)
  rw [bys_lists] at h
  exact h
theorem rPutListL_any (ts : List (List UInt8)) (hl : (encL ts).length + 10 ≤ 140737488355328) (v : Value) (w : World) (hv : Kit.Rd w v (strsL ts)) :
    Calls Try.prog 38 #[v] w fun e w' => e = .returned (.string ⟨(encL ts).toArray⟩) ∧ Below w.heap.size w w' := by
  have h := rPutList_any (ts.map fun x => (⟨x.toArray⟩ : ByteArray)) (by rw [bys_lists]; exact hl) v w (by rw [strs_lists]; exact hv)
  rw [bys_lists] at h
  exact h

/-- What Encode tells. -/
def encRes (k : Int) (ns : List Nat) (ts : List (List UInt8)) : Value :=
  if chk k ns ts = 0 then .tuple #[.string ⟨(enc k.toNat ns ts).toArray⟩, .int .i64 0] else .tuple #[.string ⟨#[]⟩, .int .i64 (chk k ns ts : Nat)]

set_option maxHeartbeats 4000000 in
set_option maxRecDepth 100000 in
theorem encode_any (k : Int) (hk0 : -9223372036854775808 ≤ k) (hk1 : k ≤ 9223372036854775807) (ns : List Nat) (hx : ∀ x ∈ ns, x < 18446744073709551616)
    (ts : List (List UInt8)) (hts : ∀ t ∈ ts, t.length ≤ 140737488351232)
    (vn vt : Value) (w : World) (hv : Kit.Rd w vn (nums ns)) (hvt : Kit.Rd w vt (strsL ts)) :
    Calls Try.prog 8 #[.agg #[.int .i64 k, vn, vt]] w fun e w' => e = .returned (encRes k ns ts) ∧ Below w.heap.size w w' := by
  have HC := fun wx (h : Below w.heap.size w wx) => check_any k hk0 hk1 ns hx ts hts vn vt wx (hv.below h) (hvt.below h)
  have pb := box_new w (.int .i64 k) vn vt 25
  by_cases hz : chk k ns ts = 0
  · obtain ⟨n, rfl, hn8, hf, hlen⟩ := Msg.chk_zero hz
    have HH := fun wx (h : Below w.heap.size w wx) => head_any n hn8 ns hx (by rw [hf.1]; exact Msg.numOf_le n) vn vt wx (hv.below h)
    have hsum : (uvarint n ++ encNs ns).length + (encL ts).length ≤ 65536 := by unfold enc at hlen; rw [List.length_append] at hlen; exact hlen
    have HP := fun wx (h : Below w.heap.size w wx) => putListL_any ts (by omega) vt wx (hvt.below h)
    have hres : encRes (n : Int) ns ts = .tuple #[.string ⟨((uvarint n ++ encNs ns) ++ encL ts).toArray⟩, .int .i64 0] := by
      unfold encRes enc
      rw [if_pos hz, Int.toNat_natCast]
    rw [hres]
    rw [hz] at HC
    clear hres hz hlen hf hv hvt hts hx
    generalize uvarint n ++ encNs ns = hd at *
    generalize encL ts = tl at *
    have hcat : ¬ 9223372036854775807 < hd.length + tl.length := by omega
    go_enter Try.func8, Try.ntmps8
    go_wp2_with fail
    refine (HC _ pb.2.2.2).mono ?_
    rintro e w1 ⟨rfl, hb1⟩
    have p1 := box_keep pb hb1
    clear pb hb1 HC
    go_upto_region 4 with (fail)
    go_cut [2, 3] (fun c d wx => c = .string ⟨(hd ++ tl).toArray⟩ ∧ d = .int .i64 0 ∧ Below w.heap.size w wx)
    case first =>
      go_region_held3 (fun w' => w'.cell? ⟨w.heap.size, 0, none⟩ = some (.int .i64 n) ∧ w'.cell? ⟨w.heap.size, 1, none⟩ = some vn ∧ w'.cell? ⟨w.heap.size, 2, none⟩ = some vt ∧ Below w.heap.size w w')
        (first | exact ⟨p1.1, p1.2.1, p1.2.2.1, p1.2.2.2.drew⟩ | exact box_keep (by assumption) hb)
        (first
          | (go_at_call 16; refine (HH _ ?_).mono ?_; (exact (by assumption : _ ∧ _ ∧ _ ∧ _).2.2.2); rintro e w' ⟨rfl, hb⟩)
          | (go_at_call 17; refine (HP _ ?_).mono ?_; (exact (by assumption : _ ∧ _ ∧ _ ∧ _).2.2.2); rintro e w' ⟨rfl, hb⟩))
      go_wp2_with fail
      go_meet
      have hh := (by assumption : _ ∧ _ ∧ _ ∧ _)
      exact ⟨by rw [Kit.cat_bytes], rfl, hh.2.2.2⟩
    case rest =>
      obtain ⟨rfl, rfl, hc⟩ := hcut
      go_wp2
      go_ret2
      exact ⟨rfl, hc⟩
  · have hz2 : ((chk k ns ts : Nat) : Int) ≠ 0 := by omega
    have hres : encRes k ns ts = .tuple #[.string ⟨#[]⟩, .int .i64 (chk k ns ts : Nat)] := by
      unfold encRes
      rw [if_neg hz]
    rw [hres]
    clear hres hz hv hvt hts hx
    generalize chk k ns ts = c at *
    have hz3 : ((c : Int) == 0) = false := by rw [beq_eq_false_iff_ne]; exact hz2
    clear hz2
    go_enter Try.func8, Try.ntmps8
    go_wp2_with fail
    refine (HC _ pb.2.2.2).mono ?_
    rintro e w1 ⟨rfl, hb1⟩
    have hc1 := pb.2.2.2.trans (hb1.mono pb.2.2.2.size)
    clear HC
    go_wp2
    go_ret2
    exact ⟨rfl, hc1⟩
end Go.Proofs.Ytnbjlhbaeghihaa
