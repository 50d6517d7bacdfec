/-
  The law WireJoins returns true whatever lists of numbers it is given, where they hold together at most 1048576 values.
-/
import Derived.Test.YtelinafecnepgaaArgs
namespace Go.Proofs.Ytelinafecnepgaa.joins
open Go.RowKit Go.ChangeShapes Go.WideShapes Go.ChangeAt
open Go.Lib (uvarint uvarint_small uvarint_big uvarint_length64 uvarint_pos)
open Leb (encT encN encL encNs encTs dec decT decN decL)

theorem size_of {l : List UInt8} {n : Nat} (h : l.length ≤ n) : (⟨l.toArray⟩ : ByteArray).size ≤ n := by rw [Kit.size_mk]; exact h

theorem decN_low {l : List Nat} (hl : l.length < 18446744073709551616) : decN (encN l) ((l.length : Int) - 1) = none := by
  cases h : decN (encN l) ((l.length : Int) - 1) with
  | none => rfl
  | some x =>
    exfalso
    obtain ⟨m, r⟩ := x
    unfold decN at h
    cases hc : Leb.decC (encN l) ((l.length : Int) - 1) with
    | none => rw [hc] at h; cases h
    | some y =>
      obtain ⟨n, r2⟩ := y
      obtain ⟨h1, h2, _⟩ := Leb.decC_some hc
      unfold encN at h1
      rw [Leb.dec_put hl] at h1
      injection h1 with h1
      injection h1 with h1 _
      omega

set_option maxHeartbeats 2000000 in
set_option maxRecDepth 100000 in
theorem walk (l m : List Nat) (hlx : ∀ x ∈ l, x < 18446744073709551616) (hmx : ∀ x ∈ m, x < 18446744073709551616) (hl : l.length ≤ 1048576) (hm : m.length ≤ 1048576) (u v : Value) (w : World) (hu : Kit.Rd w u (nums l)) (hv : Kit.Rd w v (nums m)) :
    Calls Try.prog 9 #[u, v] w fun e w' => e = .returned (.bool true) ∧ Below w.heap.size w w' := by
  obtain ⟨a, cap, rfl⟩ := hu.form
  obtain ⟨b, cap2, rfl⟩ := hv.form
  have hll : (nums l).length = l.length := by simp [nums]
  have hmm : (nums m).length = m.length := by simp [nums]
  rw [hll] at hu ⊢
  rw [hmm] at hv ⊢
  clear hll hmm
  have hel := encN_le hlx hl
  have hem := encN_le hmx hm
  have Hf := fun w => fixed_any w
  have H1 := fun w h => putNums_any l hlx (by omega) (.slice a l.length cap) w h
  have H2 := fun w h => putNums_any m hmx (by omega) (.slice b m.length cap2) w h
  have H3 := fun w => takeNums_any ⟨(encN l ++ encN m).toArray⟩ (size_of (by rw [List.length_append]; omega)) l.length (by omega) (by omega) w
  rw [show decN (⟨(encN l ++ encN m).toArray⟩ : ByteArray).data.toList l.length = some (l, encN m) from Leb.decN_put (by omega) hlx (encN m) (Int.le_refl _)] at H3
  have H4 := fun w => takeNums_any ⟨(encN m).toArray⟩ (size_of (by omega)) m.length (by omega) (by omega) w
  rw [show decN (⟨(encN m).toArray⟩ : ByteArray).data.toList m.length = some (m, []) from by
    have h := Leb.decN_put (show m.length < 18446744073709551616 by omega) hmx [] (Int.le_refl _)
    rw [List.append_nil] at h
    exact h] at H4
  have H5 := fun w => takeNums_any ⟨(encN l).toArray⟩ (size_of (by omega)) ((l.length : Int) - 1) (by omega) (by omega) w
  rw [show decN (⟨(encN l).toArray⟩ : ByteArray).data.toList ((l.length : Int) - 1) = none from decN_low (by omega)] at H5
  have H6 := fun u v w => nums_same l (by omega) u v w
  have H7 := fun u v w => nums_same m (by omega) u v w
  clear hlx hmx
  generalize encN l = c1 at *
  generalize encN m = c2 at *
  have hcl : ¬ 9223372036854775807 < c1.length + c2.length := by omega
  have hc0 := Below.refl w.heap.size w
  go_enter Try.func9, Try.ntmps9
  go_wp2_with fail
  refine (H1 w hu).mono ?_
  rintro e w1 ⟨rfl, hb1⟩
  have hc1 := hc0.trans (hb1.mono hc0.size)
  clear hc0 hb1
  go_wp2_with fail
  refine (H2 w1 (hv.below hc1)).mono ?_
  rintro e w2 ⟨rfl, hb2⟩
  have hc2 := hc1.trans (hb2.mono hc1.size)
  clear hc1 hb2
  go_wp2_with fail
  rw [Kit.cat_bytes]
  refine (H3 w2).mono ?_
  rintro e w3 ⟨⟨v3, rfl, hr3⟩, hb3⟩
  have hc3 := hc2.trans (hb3.mono hc2.size)
  clear hc2 hb3
  go_wp2_with fail
  refine (H4 w3).mono ?_
  rintro e w4 ⟨⟨v4, rfl, hr4⟩, hb4⟩
  have hr3 := hr3.below hb4
  have hc4 := hc3.trans (hb4.mono hc3.size)
  clear hc3 hb4
  go_wp2_with fail
  refine (H1 w4 (hu.below hc4)).mono ?_
  rintro e w5 ⟨rfl, hb5⟩
  have hr3 := hr3.below hb5
  have hr4 := hr4.below hb5
  have hc5 := hc4.trans (hb5.mono hc4.size)
  clear hc4 hb5
  go_wp2_with fail
  refine (H5 w5).mono ?_
  rintro e w6 ⟨rfl, hb6⟩
  have hr3 := hr3.below hb6
  have hr4 := hr4.below hb6
  have hc6 := hc5.trans (hb6.mono hc5.size)
  clear hc5 hb6
  go_wp2_with fail
  refine (Hf w6).mono ?_
  rintro e w7 ⟨rfl, hb7⟩
  have hr3 := hr3.below hb7
  have hr4 := hr4.below hb7
  have hc7 := hc6.trans (hb7.mono hc6.size)
  clear hc6 hb7
  go_wp2_with fail
  refine (H6 _ _ w7 hr3 (hu.below hc7)).mono ?_
  rintro e w8 ⟨rfl, hb8⟩
  have hr4 := hr4.below hb8
  have hc8 := hc7.trans (hb8.mono hc7.size)
  clear hc7 hb8
  go_wp2_with fail
  refine (H7 _ _ w8 hr4 (hv.below hc8)).mono ?_
  rintro e w9 ⟨rfl, hb9⟩
  have hc9 := hc8.trans (hb9.mono hc8.size)
  clear hc8 hb9
  go_wp2
  go_ret
  exact ⟨rfl, hc9⟩

theorem readable : ∀ t ∈ Try.f9.params.toList, Try.prog.readableRec t = true ∧ t < Try.prog.types.size := by
  rw [Try.params9]
  intro t ht
  simp only [List.mem_cons, List.not_mem_nil, or_false] at ht
  rcases ht with rfl | rfl
  all_goals exact ⟨by kernel_rfl, of_decide_eq_true (by kernel_rfl)⟩

theorem contract (H : Type) (enc : TypeId × Value → H) (W : World) (base : Nat) (args : Array Value) (ds gs : List (DataW H)) (before : List MemPlace)
    (hval : ∀ (j : Nat) t v, Try.f9.params[j]? = some t → args[j]? = some v → Value.okWide Try.prog W .any base t v)
    (hW : DataW.Whole enc Try.prog Try.f9.params.toList Rows.wireJoinsSpec.vars false W args.toList ds gs before) (hk : Rows.uptoSmall H (ds ++ gs) = true) :
    Calls Try.prog 9 args W fun e W' => ∃ v, e = .returned v ∧ Rows.wireJoinsSpec.post enc Try.prog Try.f9 false true false false W args v W' := by
  have hW' := hW
  obtain ⟨p, q, hA0, hV, rfl, hfz, hnd⟩ := hW
  have hA : DataW.TrodAll enc Try.prog W 0 (fun _ => true) true Try.f9.params.toList args.toList ds p := hA0
  rw [Try.params9] at hA hval
  obtain ⟨v0, v1, d0, d1, p0, p1, rfl, rfl, rfl, h0, h1⟩ := trodAll_two hA
  obtain ⟨rfl, rfl⟩ := trodVars_none hV
  obtain ⟨f0, hf0⟩ := h0
  obtain ⟨a0, len0, cap0, rfl⟩ := okWide_slice Try.underlying23 (hval 0 23 v0 rfl rfl)
  obtain ⟨u, l, hu0, rl, xl, bl⟩ := open_nums hf0
  simp only [Value.cells] at hu0
  obtain rfl : Value.slice a0 len0 cap0 = u := by simpa using hu0
  have bl : l.length ≤ Rows.uptoBulk d0 := bl
  obtain ⟨f1, hf1⟩ := h1
  obtain ⟨a1, len1, cap1, rfl⟩ := okWide_slice Try.underlying23 (hval 1 23 v1 rfl rfl)
  obtain ⟨v, m, hu1, rm, xm, bm⟩ := open_nums hf1
  simp only [Value.cells] at hu1
  obtain rfl : Value.slice a1 len1 cap1 = v := by simpa using hu1
  have bm : m.length ≤ Rows.uptoBulk d1 := bm
  have hb := bulk_bound hk
  simp only [List.append_nil, Rows.uptoBulkAll] at hb
  refine (walk l m xl xm (by omega) (by omega) _ _ W rl rm).mono fun e W' ⟨he, hb'⟩ => ?_
  subst he
  exact ⟨_, rfl, Kit.law_post (tb := 4) hW' laid readable rfl (by kernel_rfl) Try.underlying4 rfl rfl rfl hb'⟩

set_option maxRecDepth 100000 in
theorem lifted (os : Os) (started : os.Started) (H : Type) (enc : TypeId × Value → H) (F : Stop.Interp) :
    ReturnsInHanded {} Try.checked os 9 .any ((Rows.OpenSpec.upto Rows.wireJoinsSpec).pre6 enc Try.prog Try.f9 Rows.wireJoinsUptoRow.domain false) (((Rows.OpenSpec.upto Rows.wireJoinsSpec).at F).post enc Try.prog Try.f9 false true false false) := by
  refine returnsInHanded_of_cond (C := Try.checked) (s := Rows.OpenSpec.upto Rows.wireJoinsSpec) (k := Rows.uptoSmall) rfl own started (by kernel_rfl) Try.func9
    (OpenSpec.witness (enc := enc) (C := Try.checked) (s := Rows.OpenSpec.upto Rows.wireJoinsSpec) (k := Rows.uptoSmall) rfl false ⟨#[], #[.slice none 0 0, .slice none 0 0], []⟩ 8 (by kernel_rfl) (by kernel_rfl) (by kernel_rfl)
      (x := ([.nil, .nil], [], [])) (by kernel_rfl) rfl (by kernel_rfl)) ?_
  intro W base args ds gs before hval hW _ hk _
  exact contract H enc W base args ds gs before hval hW hk

theorem proved : Rows.WireJoinsUptoSaid :=
  OpenClaim.holds_of_cond 9 Try.f9 rfl rfl rfl rfl rfl rfl rfl ⟨rfl, rfl, rfl, rfl, rfl⟩ rfl rfl rfl rfl rfl (by kernel_rfl) Try.func9 (by kernel_rfl)
    (of_decide_eq_true (by kernel_rfl)) (by unfold Func.isWrapper; first | (rw [if_pos (by decide +kernel)]; kernel_rfl) | (rw [if_neg (by decide +kernel)]; exact ⟨rfl, rfl⟩))
    (fun os started H enc _ F => lifted os started H enc F)
end Go.Proofs.Ytelinafecnepgaa.joins
