/-
  The law WireBack returns true whatever number, numbers, texts and rest it is given, where they hold together at most 1048576 values and letters.
-/
import Derived.Test.YtelinafecnepgaaArgs
namespace Go.Proofs.Ytelinafecnepgaa.back
open Go.RowKit Go.ChangeShapes Go.WideShapes Go.ChangeAt
open Go.Lib (uvarint uvarint_small uvarint_big uvarint_length64 uvarint_pos)
open Leb (encT encN encL encNs encTs dec decT decN decL)

theorem size_of {l : List UInt8} {n : Nat} (h : l.length ≤ n) : (⟨l.toArray⟩ : ByteArray).size ≤ n := by rw [Kit.size_mk]; exact h
theorem strsL_bys (t : List ByteArray) : strsL (bys t) = strs t := by
  simp only [strsL, bys, strs, List.map_map]
  apply List.map_congr_left
  intro x _
  simp only [Function.comp]
  
theorem one_box {w w1 : World} {o : Obj} {n : Nat} (h : Below ((w.alloc o).drewN n).heap.size ((w.alloc o).drewN n) w1) : Below w.heap.size w w1 := by
  have h0 : Below w.heap.size w ((w.alloc o).drewN n) := below_drewN ((Below.refl _ w).alloc (Nat.le_refl _) _) n
  exact h0.trans (h.mono h0.size)

set_option maxHeartbeats 4000000 in
set_option maxRecDepth 100000 in
theorem walk (x : Nat) (hx : x < 18446744073709551616) (l : List Nat) (hlx : ∀ x ∈ l, x < 18446744073709551616) (hl : l.length ≤ 1048576) (t : List ByteArray) (ht : weight t ≤ 1048576) (s : List UInt8) (hs : s.length ≤ 1048576)
    (u v : Value) (w : World) (hu : Kit.Rd w u (nums l)) (hv : Kit.Rd w v (strs t)) :
    Calls Try.prog 5 #[.agg #[.int .u64 x, u, v], .string ⟨s.toArray⟩] w fun e w' => e = .returned (.bool true) ∧ Below w.heap.size w w' := by
  obtain ⟨a, cap, rfl⟩ := hu.form
  obtain ⟨b, cap2, rfl⟩ := hv.form
  have hll : (nums l).length = l.length := by simp [nums]
  have htt : (strs t).length = t.length := by simp [strs]
  rw [hll] at hu ⊢
  rw [htt] at hv ⊢
  clear hll htt
  have hel := encN_le hlx hl
  have het := encL_le ht
  have htl := weight_length t
  have hbt : (bys t).length = t.length := by simp [bys]
  have h10 := uvarint_length64 hx
  have hes : (encT s).length ≤ s.length + 10 := by
    have := uvarint_length64 (show s.length < 18446744073709551616 by omega)
    unfold encT
    rw [List.length_append]
    omega
  have Hf := fun w => fixed_any w
  have H1 := fun w => putUint_any x hx w
  have H2 := fun w => takeUint_any ⟨(uvarint x ++ s).toArray⟩ (size_of (by rw [List.length_append]; omega)) w
  rw [show dec (⟨(uvarint x ++ s).toArray⟩ : ByteArray).data.toList = some (x, s) from Leb.dec_put hx s] at H2
  have H3 := fun w h => putNums_any l hlx (by omega) (.slice a l.length cap) w h
  have H4 := fun w => takeNums_any ⟨(encN l ++ s).toArray⟩ (size_of (by rw [List.length_append]; omega)) l.length (by omega) (by omega) w
  rw [show decN (⟨(encN l ++ s).toArray⟩ : ByteArray).data.toList l.length = some (l, s) from Leb.decN_put (by omega) hlx s (Int.le_refl _)] at H4
  have H5 := fun w h => putList_any t (by omega) (.slice b t.length cap2) w h
  have H6 := fun w => takeList_any ⟨(encL (bys t) ++ s).toArray⟩ (size_of (by rw [List.length_append]; omega)) t.length (by omega) (by omega) w
  rw [show decL (⟨(encL (bys t) ++ s).toArray⟩ : ByteArray).data.toList t.length = some (bys t, s) from Leb.decL_put (by
    have : (encTs (bys t)).length ≤ (encL (bys t)).length := by unfold encL; rw [List.length_append]; omega
    omega) s (by omega)] at H6
  have H7 := fun w => putText_any ⟨s.toArray⟩ (by rw [Kit.size_mk]; omega) w
  rw [show (⟨s.toArray⟩ : ByteArray).data.toList = s from rfl] at H7
  have H8 := fun w => takeText_any ⟨(encT s ++ s).toArray⟩ (size_of (by rw [List.length_append]; omega)) s.length (by omega) (by omega) w
  rw [show decT (⟨(encT s ++ s).toArray⟩ : ByteArray).data.toList s.length = some (s, s) from Leb.decT_put (by omega) s (Int.le_refl _)] at H8
  have H9 := fun u v w => nums_same l (by omega) u v w
  have H10 := fun u v w => texts_same (bys t) (by omega) u v w
  have hv2 : Kit.Rd w (.slice b t.length cap2) (strsL (bys t)) := by rw [strsL_bys]; exact hv
  clear hlx hbt
  generalize uvarint x = c1 at *
  generalize encN l = c2 at *
  generalize encL (bys t) = c3 at *
  generalize encT s = c4 at *
  generalize bys t = bt at *
  have hq1 : ¬ 9223372036854775807 < c1.length + s.length := by omega
  have hq2 : ¬ 9223372036854775807 < c2.length + s.length := by omega
  have hq3 : ¬ 9223372036854775807 < c3.length + s.length := by omega
  have hq4 : ¬ 9223372036854775807 < c4.length + s.length := by omega
  go_enter Try.func5, Try.ntmps5
  go_wp2
  go_quiet (fail)
  go_wp2_with fail
  refine (H1 _).mono ?_
  rintro e w1 ⟨rfl, hb1⟩
  have hc1 := one_box hb1
  clear hb1
  go_wp2_with fail
  rw [Kit.cat_bytes]
  refine (H2 w1).mono ?_
  rintro e w2 ⟨rfl, hb2⟩
  have hc2 := hc1.trans (hb2.mono hc1.size)
  clear hc1 hb2
  simp only [uintRes]
  go_wp2_with fail
  refine (H3 w2 (hu.below hc2)).mono ?_
  rintro e w3 ⟨rfl, hb3⟩
  have hc3 := hc2.trans (hb3.mono hc2.size)
  clear hc2 hb3
  go_wp2_with fail
  rw [Kit.cat_bytes]
  refine (H4 w3).mono ?_
  rintro e w4 ⟨⟨v4, rfl, hr4⟩, hb4⟩
  have hc4 := hc3.trans (hb4.mono hc3.size)
  clear hc3 hb4
  go_wp2_with fail
  refine (H5 w4 (hv.below hc4)).mono ?_
  rintro e w5 ⟨rfl, hb5⟩
  have hr4 := hr4.below hb5
  have hc5 := hc4.trans (hb5.mono hc4.size)
  clear hc4 hb5
  go_wp2_with fail
  rw [Kit.cat_bytes]
  refine (H6 w5).mono ?_
  rintro e w6 ⟨⟨v6, rfl, hr6⟩, hb6⟩
  have hr4 := hr4.below hb6
  have hc6 := hc5.trans (hb6.mono hc5.size)
  clear hc5 hb6
  go_wp2_with fail
  refine (H7 w6).mono ?_
  rintro e w7 ⟨rfl, hb7⟩
  have hr4 := hr4.below hb7
  have hr6 := hr6.below hb7
  have hc7 := hc6.trans (hb7.mono hc6.size)
  clear hc6 hb7
  go_wp2_with fail
  rw [Kit.cat_bytes]
  refine (H8 w7).mono ?_
  rintro e w8 ⟨rfl, hb8⟩
  have hr4 := hr4.below hb8
  have hr6 := hr6.below hb8
  have hc8 := hc7.trans (hb8.mono hc7.size)
  clear hc7 hb8
  simp only [textRes]
  go_wp2_with fail
  refine (Hf w8).mono ?_
  rintro e w9 ⟨rfl, hb9⟩
  have hr4 := hr4.below hb9
  have hr6 := hr6.below hb9
  have hc9 := hc8.trans (hb9.mono hc8.size)
  clear hc8 hb9
  go_wp2_with fail
  refine (H9 _ _ w9 hr4 (hu.below hc9)).mono ?_
  rintro e w10 ⟨rfl, hb10⟩
  have hr6 := hr6.below hb10
  have hc10 := hc9.trans (hb10.mono hc9.size)
  clear hc9 hb10
  go_wp2_with fail
  refine (H10 _ _ w10 hr6 (hv2.below hc10)).mono ?_
  rintro e w11 ⟨rfl, hb11⟩
  have hc11 := hc10.trans (hb11.mono hc10.size)
  clear hc10 hb11
  go_wp2
  go_ret
  exact ⟨rfl, hc11⟩

theorem cellsThings : Try.prog.cellsOf 43 = 3 := by kernel_rfl

theorem readable : ∀ t ∈ Try.f5.params.toList, Try.prog.readableRec t = true ∧ t < Try.prog.types.size := by
  rw [Try.params5]
  intro t ht
  simp only [List.mem_cons, List.not_mem_nil, or_false] at ht
  rcases ht with rfl | rfl
  all_goals exact ⟨by kernel_rfl, of_decide_eq_true (by kernel_rfl)⟩

theorem contract (H : Type) (enc : TypeId × Value → H) (W : World) (base : Nat) (args : Array Value) (ds gs : List (DataW H)) (before : List MemPlace)
    (hval : ∀ (j : Nat) t v, Try.f5.params[j]? = some t → args[j]? = some v → Value.okWide Try.prog W .any base t v)
    (hW : DataW.Whole enc Try.prog Try.f5.params.toList Rows.wireBackSpec.vars false W args.toList ds gs before) (hk : Rows.uptoSmall H (ds ++ gs) = true) :
    Calls Try.prog 5 args W fun e W' => ∃ v, e = .returned v ∧ Rows.wireBackSpec.post enc Try.prog Try.f5 false true false false W args v W' := by
  have hW' := hW
  obtain ⟨p, q, hA0, hV, rfl, hfz, hnd⟩ := hW
  have hA : DataW.TrodAll enc Try.prog W 0 (fun _ => true) true Try.f5.params.toList args.toList ds p := hA0
  rw [Try.params5] at hA hval
  obtain ⟨v0, v1, d0, d1, p0, p1, rfl, rfl, rfl, h0, h1⟩ := trodAll_two hA
  obtain ⟨rfl, rfl⟩ := trodVars_none hV
  obtain ⟨c0, c1, c2, y0, y1, y2, m, rfl, rfl, rfl, hy0, hy1, hy2⟩ := Joins.open_agg3 Try.underlying43 (by kernel_rfl) cellsThings (hval 0 43 v0 rfl rfl) h0
  obtain ⟨x, ex, rfl, wx⟩ := DataW.trod_int Try.underlying22 hy0
  obtain ⟨u, l, eu, ru, xl, bl⟩ := open_nums hy1
  obtain ⟨v, t, ev, rv, bt⟩ := open_texts hy2
  simp only [List.cons.injEq, and_true] at ex eu ev
  subst ex eu ev
  have bx := bounds_u64 wx
  obtain ⟨s, rfl, rfl, rfl, ms⟩ := ChangeMaps.open_string Try.underlying9 (hval 1 9 v1 rfl rfl) h1
  obtain ⟨n, rfl⟩ := Int.eq_ofNat_of_zero_le bx.1
  obtain ⟨sl, rfl⟩ : ∃ sl : List UInt8, s = ⟨sl.toArray⟩ := ⟨_, Kit.bytes_of_data s⟩
  have hb := bulk_bound hk
  simp only [List.append_nil, Rows.uptoBulkAll, Rows.uptoBulk] at hb
  refine (walk n (by omega) l xl (by omega) t (by omega) sl (by omega) _ _ W ru rv).mono fun e W' ⟨he, hb'⟩ => ?_
  subst he
  exact ⟨_, rfl, Kit.law_post (tb := 4) hW' laid readable rfl (by kernel_rfl) Try.underlying4 rfl rfl rfl hb'⟩

set_option maxRecDepth 100000 in
theorem lifted (os : Os) (started : os.Started) (H : Type) (enc : TypeId × Value → H) (F : Stop.Interp) :
    ReturnsInHanded {} Try.checked os 5 .any ((Rows.OpenSpec.upto Rows.wireBackSpec).pre6 enc Try.prog Try.f5 Rows.wireBackUptoRow.domain false) (((Rows.OpenSpec.upto Rows.wireBackSpec).at F).post enc Try.prog Try.f5 false true false false) := by
  refine returnsInHanded_of_cond (C := Try.checked) (s := Rows.OpenSpec.upto Rows.wireBackSpec) (k := Rows.uptoSmall) rfl own started (by kernel_rfl) Try.func5
    (OpenSpec.witness (enc := enc) (C := Try.checked) (s := Rows.OpenSpec.upto Rows.wireBackSpec) (k := Rows.uptoSmall) rfl false ⟨#[], #[.agg #[.int .u64 0, .slice none 0 0, .slice none 0 0], .string .empty], []⟩ 8 (by kernel_rfl) (by kernel_rfl) (by kernel_rfl)
      (x := ([.agg [.lit (.int .u64 0), .nil, .nil], .lit (.string [])], [], [])) (by kernel_rfl) rfl (by kernel_rfl)) ?_
  intro W base args ds gs before hval hW _ hk _
  exact contract H enc W base args ds gs before hval hW hk

theorem proved : Rows.WireBackUptoSaid :=
  OpenClaim.holds_of_cond 5 Try.f5 rfl rfl rfl rfl rfl rfl rfl ⟨rfl, rfl, rfl, rfl, rfl⟩ rfl rfl rfl rfl rfl (by kernel_rfl) Try.func5 (by kernel_rfl)
    (of_decide_eq_true (by kernel_rfl)) (by unfold Func.isWrapper; first | (rw [if_pos (by decide +kernel)]; kernel_rfl) | (rw [if_neg (by decide +kernel)]; exact ⟨rfl, rfl⟩))
    (fun os started H enc _ F => lifted os started H enc F)
end Go.Proofs.Ytelinafecnepgaa.back
