/-
  The law WireApart returns true whatever numbers and texts it is given, and wherever the text is cut.
-/
import Derived.Test.YtelinafecnepgaaArgs
import Derived.SizedLaws
namespace Go.Proofs.Ytelinafecnepgaa.apart
open Go.RowKit Go.ChangeShapes Go.WideShapes Go.ChangeAt
open Go.Lib (uvarint uvarint_small uvarint_big uvarint_length64 uvarint_pos)
open Leb (encT encN encL encNs encTs dec decT decN decL)

theorem cut_none {s : List UInt8} (hs : s.length ≤ 140737488351232) {k : Nat} (hk : k < (encT s).length) {m : Int} : decT ((encT s).take k) m = none := by
  cases h : decT ((encT s).take k) m with
  | none => rfl
  | some x =>
    exfalso
    obtain ⟨y, r⟩ := x
    obtain ⟨h1, h2⟩ := Leb.decT_some h
    have hl := congrArg List.length h1
    rw [List.length_take, Nat.min_eq_left (by omega), List.length_append] at hl
    have hy : y.length < 18446744073709551616 := by
      have h3 : (encT y).length = (uvarint y.length).length + y.length := by unfold encT; rw [List.length_append]
      have h4 : (encT s).length = (uvarint s.length).length + s.length := by unfold encT; rw [List.length_append]
      have h5 := uvarint_length64 (show s.length < 18446744073709551616 by omega)
      omega
    have h2 : encT s = encT y ++ (r ++ (encT s).drop k) := by
      rw [← List.append_assoc, ← h1, List.take_append_drop]
    have h3 := Leb.apartT (by omega) hy h2
    subst h3
    omega

theorem two_boxes {w w1 : World} {o1 o2 : Obj} {n : Nat} (h : Below (((w.alloc o1).alloc o2).drewN n).heap.size (((w.alloc o1).alloc o2).drewN n) w1) : Below w.heap.size w w1 := by
  have h0 : Below w.heap.size w (((w.alloc o1).alloc o2).drewN n) := below_drewN (((Below.refl _ w).alloc (Nat.le_refl _) _).alloc (by simp) _) n
  exact h0.trans (h.mono h0.size)

theorem not_begins {a b : Nat} (ha : a < 18446744073709551616) (hb : b < 18446744073709551616) (h : a ≠ b) (r : List UInt8) : uvarint a ≠ uvarint b ++ r := fun he => h (Leb.apart ha hb he)
theorem not_beginsT {s t : ByteArray} (hs : s.size ≤ 140737488351232) (ht : t.size ≤ 140737488351232) (h : s ≠ t) (r : List UInt8) : encT s.data.toList ≠ encT t.data.toList ++ r := fun he => by
  have h1 := Leb.apartT (by rw [Kit.size_list]; omega) (by rw [Kit.size_list]; omega) he
  apply h
  rw [Kit.bytes_of_data s, Kit.bytes_of_data t, h1]
theorem toList_ne {s t : ByteArray} (h : s ≠ t) : (s.toList == t.toList) = false := by
  rw [beq_eq_false_iff_ne]
  intro he
  apply h
  rw [Go.ByteArray.toList_eq, Go.ByteArray.toList_eq] at he
  rw [Kit.bytes_of_data s, Kit.bytes_of_data t, he]

set_option maxHeartbeats 4000000 in
set_option maxRecDepth 100000 in
theorem walk (a b : Nat) (ha : a < 18446744073709551616) (hb : b < 18446744073709551616) (s t : ByteArray) (hs : s.size ≤ 140737488351232) (ht : t.size ≤ 140737488351232) (c : Int) (w : World) :
    Calls Try.prog 7 #[.agg #[.int .u64 a, .int .u64 b], .agg #[.string s, .string t], .int .i64 c] w fun e w' => e = .returned (.bool true) ∧ Below w.heap.size w w' := by
  have Hf := fun w => fixed_any w
  have H1 := fun w => putUint_any a ha w
  have H2 := fun w => putUint_any b hb w
  have H3 := fun w => putText_any s (by omega) w
  have H4 := fun w => putText_any t (by omega) w
  have H5 := fun (h : a ≠ b) w => begins_no (uvarint a) (uvarint b) (not_begins ha hb h) w
  have H6 := fun (h : s ≠ t) w => begins_no (encT s.data.toList) (encT t.data.toList) (not_beginsT hs ht h) w
  go_enter Try.func7, Try.ntmps7
  go_wp2
  go_quiet (fail)
  go_upto_region 2 with (fail)
  go_cut [48] (fun c48 wx => c48 = .bool false ∧ Below w.heap.size w wx)
  case first =>
    by_cases hab : a = b
    · subst hab
      by_cases hst : s = t
      · subst hst
        go_wp2_with fail
        refine (Hf _).mono ?_
        rintro e w1 ⟨rfl, hb1⟩
        have hc1 := two_boxes hb1
        clear hb1
        go_wp2_with fail
        go_meet
        exact ⟨rfl, hc1⟩
      · have hstb := toList_ne hst
        go_wp2_with fail
        refine (Hf _).mono ?_
        rintro e w1 ⟨rfl, hb1⟩
        have hc1 := two_boxes hb1
        clear hb1
        go_wp2_with fail
        refine (H3 w1).mono ?_
        rintro e w2 ⟨rfl, hb2⟩
        have hc2 := hc1.trans (hb2.mono hc1.size)
        clear hc1 hb2
        go_wp2_with fail
        refine (H4 w2).mono ?_
        rintro e w3 ⟨rfl, hb3⟩
        have hc3 := hc2.trans (hb3.mono hc2.size)
        clear hc2 hb3
        go_wp2_with fail
        refine (H6 hst w3).mono ?_
        rintro e w4 ⟨rfl, hb4⟩
        have hc4 := hc3.trans (hb4.mono hc3.size)
        clear hc3 hb4
        go_wp2_with fail
        go_meet
        exact ⟨rfl, hc4⟩
    · have habb : ((a : Int) == (b : Int)) = false := by rw [beq_eq_false_iff_ne]; omega
      by_cases hst : s = t
      · subst hst
        go_wp2_with fail
        refine (Hf _).mono ?_
        rintro e w1 ⟨rfl, hb1⟩
        have hc1 := two_boxes hb1
        clear hb1
        go_wp2_with fail
        refine (H1 w1).mono ?_
        rintro e w2 ⟨rfl, hb2⟩
        have hc2 := hc1.trans (hb2.mono hc1.size)
        clear hc1 hb2
        go_wp2_with fail
        refine (H2 w2).mono ?_
        rintro e w3 ⟨rfl, hb3⟩
        have hc3 := hc2.trans (hb3.mono hc2.size)
        clear hc2 hb3
        go_wp2_with fail
        refine (H5 hab w3).mono ?_
        rintro e w4 ⟨rfl, hb4⟩
        have hc4 := hc3.trans (hb4.mono hc3.size)
        clear hc3 hb4
        go_wp2_with fail
        go_meet
        exact ⟨rfl, hc4⟩
      · have hstb := toList_ne hst
        go_wp2_with fail
        refine (Hf _).mono ?_
        rintro e w1 ⟨rfl, hb1⟩
        have hc1 := two_boxes hb1
        clear hb1
        go_wp2_with fail
        refine (H1 w1).mono ?_
        rintro e w2 ⟨rfl, hb2⟩
        have hc2 := hc1.trans (hb2.mono hc1.size)
        clear hc1 hb2
        go_wp2_with fail
        refine (H2 w2).mono ?_
        rintro e w3 ⟨rfl, hb3⟩
        have hc3 := hc2.trans (hb3.mono hc2.size)
        clear hc2 hb3
        go_wp2_with fail
        refine (H5 hab w3).mono ?_
        rintro e w4 ⟨rfl, hb4⟩
        have hc4 := hc3.trans (hb4.mono hc3.size)
        clear hc3 hb4
        go_wp2_with fail
        refine (H3 w4).mono ?_
        rintro e w5 ⟨rfl, hb5⟩
        have hc5 := hc4.trans (hb5.mono hc4.size)
        clear hc4 hb5
        go_wp2_with fail
        refine (H4 w5).mono ?_
        rintro e w6 ⟨rfl, hb6⟩
        have hc6 := hc5.trans (hb6.mono hc5.size)
        clear hc5 hb6
        go_wp2_with fail
        refine (H6 hst w6).mono ?_
        rintro e w7 ⟨rfl, hb7⟩
        have hc7 := hc6.trans (hb7.mono hc6.size)
        clear hc6 hb7
        go_wp2_with fail
        go_meet
        exact ⟨rfl, hc7⟩
  case rest =>
    obtain ⟨rfl, hc1⟩ := hcut
    go_wp2_with fail
    refine (H3 wc).mono ?_
    rintro e w2 ⟨rfl, hb2⟩
    have hc2 := hc1.trans (hb2.mono hc1.size)
    clear hc1 hb2
    have hel : (encT s.data.toList).length ≤ 140737488351232 + 10 := by
      have h4 : (encT s.data.toList).length = (uvarint s.size).length + s.size := by unfold encT; rw [List.length_append, Kit.size_list]
      have h5 := uvarint_length64 (show s.size < 18446744073709551616 by omega)
      omega
    have Hn := fun k (h : k < (encT s.data.toList).length) => cut_none (by rw [Kit.size_list]; exact hs) h (m := (s.size : Int))
    clear H1 H2 H3 H4 H5 H6
    generalize encT s.data.toList = c3 at *
    by_cases h0 : c < 0
    · go_wp2
      go_ret
      exact ⟨rfl, hc2⟩
    · obtain ⟨k, rfl⟩ := Int.eq_ofNat_of_zero_le (show 0 ≤ c by omega)
      by_cases h1 : c3.length ≤ k
      · have h1i : (c3.length : Int) ≤ (k : Int) := by omega
        go_wp2
        go_ret
        exact ⟨rfl, hc2⟩
      · have h1i : (k : Int) < (c3.length : Int) := by omega
        have H7 := fun w => takeText_any ((⟨c3.toArray⟩ : ByteArray).extract 0 k) (by
          rw [← Kit.size_list, take_of, List.length_take]
          omega) (s.size : Int) (by omega) (by omega) w
        rw [take_of, Hn k (by omega)] at H7
        clear Hn
        go_wp2_with fail
        refine (H7 w2).mono ?_
        rintro e w3 ⟨rfl, hb3⟩
        have hc3 := hc2.trans (hb3.mono hc2.size)
        clear hc2 hb3
        simp only [textRes]
        go_wp2
        go_ret
        exact ⟨rfl, hc3⟩

section
variable {H : Type} {enc : TypeId × Value → H} {P : Program} {w : World}
theorem open_pair {t e : TypeId} {v : Value} {d : DataW H} {p : List MemPlace} {r : Reach} {b0 : Nat} (ht : P.underlying t = some (.array 2 e)) (hce : P.cellsOf e = 1) (hct : P.cellsOf t = 2)
    (hv : Value.okWide P w r b0 t v) (h : DataW.Trod enc P w 0 (fun _ => true) true t v d p) :
    ∃ (v0 v1 : Value) (y0 y1 : DataW H × List MemPlace) (n : Nat), v = .agg #[v0, v1] ∧ d = .agg [y0.1, y1.1] ∧ DataW.trod enc P w 0 (fun _ => true) true n e [v0] = some y0 ∧ DataW.trod enc P w 0 (fun _ => true) true n e [v1] = some y1 := by
  simp only [Value.okWide, ht] at hv
  obtain ⟨cs, rfl, hsz, _⟩ := hv
  obtain ⟨c0, c1, rfl⟩ := Joins.array2 (hsz.trans hct)
  obtain ⟨fuel, hf⟩ := h
  obtain ⟨xs, m, _, hx, _, hl, hel⟩ := DataW.trod_array ht hf
  match xs, hl with
  | [y0, y1], _ =>
    have h0 := hel 0 (by omega)
    have h1 := hel 1 (by omega)
    simp only [Prod.mk.injEq] at hx
    rw [hce] at h0 h1
    exact ⟨c0, c1, y0, y1, m, rfl, hx.1, by simpa [Value.cells] using h0, by simpa [Value.cells] using h1⟩
end
theorem cellsP0 : Try.prog.cellsOf 45 = 2 := by kernel_rfl
theorem cellsP1 : Try.prog.cellsOf 46 = 2 := by kernel_rfl

theorem readable : ∀ t ∈ Try.f7.params.toList, Try.prog.readableRec t = true ∧ t < Try.prog.types.size := by
  rw [Try.params7]
  intro t ht
  simp only [List.mem_cons, List.not_mem_nil, or_false] at ht
  rcases ht with rfl | rfl | rfl
  all_goals exact ⟨by kernel_rfl, of_decide_eq_true (by kernel_rfl)⟩

theorem contract (H : Type) (enc : TypeId × Value → H) (W : World) (base : Nat) (args : Array Value) (ds gs : List (DataW H)) (before : List MemPlace)
    (hval : ∀ (j : Nat) t v, Try.f7.params[j]? = some t → args[j]? = some v → Value.okWide Try.prog W .any base t v)
    (hW : DataW.Whole enc Try.prog Try.f7.params.toList Rows.wireApartSpec.vars false W args.toList ds gs before) (hsz : (DataW.weightsEach Try.prog (Try.f7.params.toList ++ Rows.wireApartSpec.plain.varTypes Try.prog) (ds ++ gs)).all (· ≤ reachBytes) = true) :
    Calls Try.prog 7 args W fun e W' => ∃ v, e = .returned v ∧ Rows.wireApartSpec.post enc Try.prog Try.f7 false true false false W args v W' := by
  have hW' := hW
  obtain ⟨p, q, hA0, hV, rfl, hfz, hnd⟩ := hW
  have hA : DataW.TrodAll enc Try.prog W 0 (fun _ => true) true Try.f7.params.toList args.toList ds p := hA0
  rw [Try.params7] at hA hval hsz
  obtain ⟨v0, v1, v2, d0, d1, d2, p0, p1, p2, rfl, rfl, rfl, h0, h1, h2⟩ := trodAll_three hA
  obtain ⟨rfl, rfl⟩ := trodVars_none hV
  obtain ⟨va, vb, ya, yb, n0, rfl, rfl, ha, hb⟩ := open_pair Try.underlying45 cellsU64 cellsP0 (hval 0 45 v0 rfl rfl) h0
  obtain ⟨vs, vt, ys, yt, n1, rfl, rfl, hs, ht⟩ := open_pair Try.underlying46 cellsStr cellsP1 (hval 1 46 v1 rfl rfl) h1
  obtain ⟨a, ea, rfl, wa⟩ := DataW.trod_int Try.underlying22 ha
  obtain ⟨b, eb, rfl, wb⟩ := DataW.trod_int Try.underlying22 hb
  obtain ⟨s, es, rfl, ms⟩ := DataW.trod_string Try.underlying9 hs
  obtain ⟨t, et, rfl, mt⟩ := DataW.trod_string Try.underlying9 ht
  simp only [List.cons.injEq, and_true] at ea eb es et
  subst ea eb es et
  obtain ⟨c, rfl, rfl, rfl, wc⟩ := open_int Try.underlying3 (hval 2 3 v2 rfl rfl) h2
  have bc := bounds_i64 wc
  have ba := bounds_u64 wa
  have bb := bounds_u64 wb
  have hz1 : s.data.toList.length ≤ reachBytes := by
    have h := List.all_eq_true.1 hsz _ (DataW.weights_mem_each (j := 1) (t := 46) rfl rfl s.data.toList.length (by simp [DataW.weights, Try.underlying46, DataW.weightsAll]))
    simpa using h
  have hz2 : t.data.toList.length ≤ reachBytes := by
    have h := List.all_eq_true.1 hsz _ (DataW.weights_mem_each (j := 1) (t := 46) rfl rfl t.data.toList.length (by simp [DataW.weights, Try.underlying46, DataW.weightsAll]))
    simpa using h
  rw [Kit.size_list] at hz1 hz2
  have hr : reachBytes = 140737488351232 := by decide
  rw [hr] at hz1 hz2
  obtain ⟨na, rfl⟩ := Int.eq_ofNat_of_zero_le ba.1
  obtain ⟨nb, rfl⟩ := Int.eq_ofNat_of_zero_le bb.1
  refine (walk na nb (by omega) (by omega) s t hz1 hz2 c W).mono fun e W' ⟨he, hb'⟩ => ?_
  subst he
  exact ⟨_, rfl, Kit.law_post (tb := 4) hW' laid readable rfl (by kernel_rfl) Try.underlying4 rfl rfl rfl hb'⟩

set_option maxRecDepth 100000 in
theorem lifted (os : Os) (started : os.Started) (H : Type) (enc : TypeId × Value → H) :
    ReturnsInHanded {} Try.checked os 7 .any (Rows.wireApartSpec.pre6 enc Try.prog Try.f7 Rows.wireApartRow.domain false) (Rows.wireApartSpec.post enc Try.prog Try.f7 false true false false) := by
  refine returnsInHanded_of_change_sized (C := Try.checked) own started (by kernel_rfl) Try.func7
    (ChangeSpec.witness6 (enc := enc) (C := Try.checked) false ⟨#[], #[.agg #[.int .u64 0, .int .u64 0], .agg #[.string .empty, .string .empty], .int .i64 0], []⟩ 8 (by kernel_rfl) (by kernel_rfl) (by kernel_rfl) (by kernel_rfl)) ?_
  intro W base args ds gs before hval hW _ hsz _
  exact contract H enc W base args ds gs before hval hW hsz

theorem proved : Rows.WireApartSaid :=
  OpenClaim.holds_of_wide 7 Try.f7 rfl rfl rfl rfl rfl rfl rfl ⟨rfl, rfl, rfl, rfl, rfl⟩ rfl rfl rfl rfl rfl (by kernel_rfl) Try.func7 (by kernel_rfl)
    (of_decide_eq_true (by kernel_rfl)) (by unfold Func.isWrapper; first | (rw [if_pos (by decide +kernel)]; kernel_rfl) | (rw [if_neg (by decide +kernel)]; exact ⟨rfl, rfl⟩))
    (fun os started H enc _ => lifted os started H enc)
end Go.Proofs.Ytelinafecnepgaa.apart
