/-
  The law WirePuts returns true whatever numbers and texts it is given, where they hold together at most 1048576 values and letters.
-/
import Derived.Test.YtelinafecnepgaaArgs
namespace Go.Proofs.Ytelinafecnepgaa.puts
open Go.RowKit Go.ChangeShapes Go.WideShapes Go.ChangeAt
open Go.Lib (uvarint uvarint_length64)
open Leb (encT encN encL encNs encTs)

set_option maxHeartbeats 2000000 in
set_option maxRecDepth 100000 in
/-- The law, where it stands at its return: s is the text that it has chosen. -/
theorem walk (x : Nat) (hx : x < 18446744073709551616) (l : List Nat) (hlx : ∀ x ∈ l, x < 18446744073709551616) (hl : (encN l).length ≤ 10485770) (t : List ByteArray) (ht : (encL (bys t)).length ≤ 10485770) (hw : weight t ≤ 1048576)
    (u v : Value) (w : World) (hu : Kit.Rd w u (nums l)) (hv : Kit.Rd w v (strs t)) :
    Calls Try.prog 3 #[.int .u64 x, u, v] w fun e w' => e = .returned (.bool true) ∧ Below w.heap.size w w' := by
  obtain ⟨a, cap, rfl⟩ := hv.form
  have hll : (strs t).length = t.length := by simp [strs]
  rw [hll] at hv ⊢
  clear hll
  have key : ∀ (s : ByteArray), s.size ≤ 1048576 → s = t.headD ⟨#[]⟩ → (∀ ad, a = some ad → t ≠ [] → w.cell? (ad.add 0) = some (.string s)) → (t ≠ [] → ∃ ad, a = some ad) →
      Calls Try.prog 3 #[.int .u64 x, u, .slice a t.length cap] w fun e w' => e = .returned (.bool true) ∧ Below w.heap.size w w' := by
    intro s hs hs0 hcell hsome
    have Hf := fun w => fixed_any w
    have H1 := fun w => putUint_any x hx w
    have H2 := fun w => rPutUint_any x hx w
    have H3 := fun w => putText_any s (by omega) w
    have H4 := fun w => rPutText_any s (by omega) w
    have H5 := fun w hu => putNums_any l hlx (by omega) u w hu
    have H6 := fun w hu => rPutNums_any l hlx (by omega) u w hu
    have H7 := fun w hv => putList_any t (by omega) (.slice a t.length cap) w hv
    have H8 := fun w hv => rPutList_any t (by omega) (.slice a t.length cap) w hv
    generalize uvarint x = c1 at *
    generalize encT s.data.toList = c2 at *
    generalize encN l = c3 at *
    generalize encL (bys t) = c4 at *
    by_cases h0 : t = []
    · subst h0
      simp only [List.headD_nil] at hs0
      subst hs0
      go_enter Try.func3, Try.ntmps3
      go_wp2_with fail
      refine (Hf w).mono ?_
      rintro e w1 ⟨rfl, hb1⟩
      go_wp2_with fail
      refine (H1 w1).mono ?_
      rintro e w2 ⟨rfl, hb2⟩
      have hc2 := hb1.trans (hb2.mono hb1.size)
      clear hb1 hb2
      go_wp2_with fail
      refine (H2 w2).mono ?_
      rintro e w3 ⟨rfl, hb3⟩
      have hc3 := hc2.trans (hb3.mono hc2.size)
      clear hc2 hb3
      go_wp2_with fail
      refine (H3 w3).mono ?_
      rintro e w4 ⟨rfl, hb4⟩
      have hc4 := hc3.trans (hb4.mono hc3.size)
      clear hc3 hb4
      go_wp2_with fail
      refine (H4 w4).mono ?_
      rintro e w5 ⟨rfl, hb5⟩
      have hc5 := hc4.trans (hb5.mono hc4.size)
      clear hc4 hb5
      go_wp2_with fail
      refine (H5 w5 (hu.below hc5)).mono ?_
      rintro e w6 ⟨rfl, hb6⟩
      have hc6 := hc5.trans (hb6.mono hc5.size)
      clear hc5 hb6
      go_wp2_with fail
      refine (H6 w6 (hu.below hc6)).mono ?_
      rintro e w7 ⟨rfl, hb7⟩
      have hc7 := hc6.trans (hb7.mono hc6.size)
      clear hc6 hb7
      go_wp2_with fail
      refine (H7 w7 (hv.below hc7)).mono ?_
      rintro e w8 ⟨rfl, hb8⟩
      have hc8 := hc7.trans (hb8.mono hc7.size)
      clear hc7 hb8
      go_wp2_with fail
      refine (H8 w8 (hv.below hc8)).mono ?_
      rintro e w9 ⟨rfl, hb9⟩
      have hc9 := hc8.trans (hb9.mono hc8.size)
      clear hc8 hb9
      go_wp2
      go_ret
      exact ⟨rfl, hc9⟩
    · obtain ⟨ad, rfl⟩ := hsome h0
      have hc0 : w.cell? ad = some (.string s) := by
        have h := hcell ad rfl h0
        simpa [Addr.add] using h
      have hlen : 0 < t.length := by
        cases t with
        | nil => exact absurd rfl h0
        | cons _ _ => simp
      have hleni : (0 : Int) < (t.length : Int) := by omega
      clear hcell hsome hs0 hlen
      go_enter Try.func3, Try.ntmps3
      go_wp2_with fail
      refine (Hf w).mono ?_
      rintro e w1 ⟨rfl, hb1⟩
      go_wp2_with fail
      refine (H1 w1).mono ?_
      rintro e w2 ⟨rfl, hb2⟩
      have hc2 := hb1.trans (hb2.mono hb1.size)
      clear hb1 hb2
      go_wp2_with fail
      refine (H2 w2).mono ?_
      rintro e w3 ⟨rfl, hb3⟩
      have hc3 := hc2.trans (hb3.mono hc2.size)
      clear hc2 hb3
      go_wp2_with fail
      refine (H3 w3).mono ?_
      rintro e w4 ⟨rfl, hb4⟩
      have hc4 := hc3.trans (hb4.mono hc3.size)
      clear hc3 hb4
      go_wp2_with fail
      refine (H4 w4).mono ?_
      rintro e w5 ⟨rfl, hb5⟩
      have hc5 := hc4.trans (hb5.mono hc4.size)
      clear hc4 hb5
      go_wp2_with fail
      refine (H5 w5 (hu.below hc5)).mono ?_
      rintro e w6 ⟨rfl, hb6⟩
      have hc6 := hc5.trans (hb6.mono hc5.size)
      clear hc5 hb6
      go_wp2_with fail
      refine (H6 w6 (hu.below hc6)).mono ?_
      rintro e w7 ⟨rfl, hb7⟩
      have hc7 := hc6.trans (hb7.mono hc6.size)
      clear hc6 hb7
      go_wp2_with fail
      refine (H7 w7 (hv.below hc7)).mono ?_
      rintro e w8 ⟨rfl, hb8⟩
      have hc8 := hc7.trans (hb8.mono hc7.size)
      clear hc7 hb8
      go_wp2_with fail
      refine (H8 w8 (hv.below hc8)).mono ?_
      rintro e w9 ⟨rfl, hb9⟩
      have hc9 := hc8.trans (hb9.mono hc8.size)
      clear hc8 hb9
      go_wp2
      go_ret
      exact ⟨rfl, hc9⟩
  cases t with
  | nil => exact key ⟨#[]⟩ (by decide) rfl (fun _ _ h => absurd rfl h) (fun h => absurd rfl h)
  | cons s0 t' =>
    obtain ⟨ad, rfl, hc⟩ := hv.at_ (k := 0) (u := .string s0) (by simp [strs])
    exact key s0 (by simp only [weight] at hw; omega) rfl (fun ad' h _ => by injection h with h; subst h; exact hc) (fun _ => ⟨ad, rfl⟩)

theorem readable3 : ∀ t ∈ Try.f3.params.toList, Try.prog.readableRec t = true ∧ t < Try.prog.types.size := by
  rw [Try.params3]
  intro t ht
  simp only [List.mem_cons, List.not_mem_nil, or_false] at ht
  rcases ht with rfl | rfl | rfl
  all_goals exact ⟨by kernel_rfl, of_decide_eq_true (by kernel_rfl)⟩

theorem contract (H : Type) (enc : TypeId × Value → H) (W : World) (base : Nat) (args : Array Value) (ds gs : List (DataW H)) (before : List MemPlace)
    (hval : ∀ (j : Nat) t v, Try.f3.params[j]? = some t → args[j]? = some v → Value.okWide Try.prog W .any base t v)
    (hW : DataW.Whole enc Try.prog Try.f3.params.toList Rows.wirePutsSpec.vars false W args.toList ds gs before) (hk : Rows.uptoSmall H (ds ++ gs) = true) :
    Calls Try.prog 3 args W fun e W' => ∃ v, e = .returned v ∧ Rows.wirePutsSpec.post enc Try.prog Try.f3 false true false false W args v W' := by
  have hW' := hW
  obtain ⟨p, q, hA0, hV, rfl, hfz, hnd⟩ := hW
  have hA : DataW.TrodAll enc Try.prog W 0 (fun _ => true) true Try.f3.params.toList args.toList ds p := hA0
  rw [Try.params3] at hA hval
  obtain ⟨v0, v1, v2, d0, d1, d2, p0, p1, p2, rfl, rfl, rfl, h0, h1, h2⟩ := trodAll_three hA
  obtain ⟨rfl, rfl⟩ := trodVars_none hV
  obtain ⟨x, rfl, rfl, rfl, wx⟩ := open_int Try.underlying22 (hval 0 22 v0 rfl rfl) h0
  have hx := bounds_u64 wx
  obtain ⟨f1, hf1⟩ := h1
  obtain ⟨a1, len1, cap1, rfl⟩ := okWide_slice Try.underlying23 (hval 1 23 v1 rfl rfl)
  obtain ⟨u, l, hu1, hu, hlx, hl⟩ := open_nums hf1
  obtain ⟨f2, hf2⟩ := h2
  obtain ⟨a2, len2, cap2, rfl⟩ := okWide_slice Try.underlying24 (hval 2 24 v2 rfl rfl)
  obtain ⟨v, t, hv1, hv, ht⟩ := open_texts hf2
  simp only [Value.cells] at hu1 hv1
  obtain rfl : Value.slice a1 len1 cap1 = u := by simpa using hu1
  obtain rfl : Value.slice a2 len2 cap2 = v := by simpa using hv1
  have hl : l.length ≤ Rows.uptoBulk d1 := hl
  have ht : weight t ≤ Rows.uptoBulk d2 := ht
  have hb := bulk_bound hk
  simp only [List.append_nil, Rows.uptoBulkAll] at hb
  obtain ⟨n, rfl⟩ := Int.eq_ofNat_of_zero_le hx.1
  refine (walk n (by omega) l hlx (encN_le hlx (by omega)) t (encL_le (by omega)) (by omega) _ _ W hu hv).mono fun e W' ⟨he, hb'⟩ => ?_
  subst he
  exact ⟨_, rfl, Kit.law_post (tb := 4) hW' laid readable3 rfl (by kernel_rfl) Try.underlying4 rfl rfl rfl hb'⟩

set_option maxRecDepth 100000 in
theorem lifted (os : Os) (started : os.Started) (H : Type) (enc : TypeId × Value → H) (F : Stop.Interp) :
    ReturnsInHanded {} Try.checked os 3 .any ((Rows.OpenSpec.upto Rows.wirePutsSpec).pre6 enc Try.prog Try.f3 Rows.wirePutsUptoRow.domain false) (((Rows.OpenSpec.upto Rows.wirePutsSpec).at F).post enc Try.prog Try.f3 false true false false) := by
  refine returnsInHanded_of_cond (C := Try.checked) (s := Rows.OpenSpec.upto Rows.wirePutsSpec) (k := Rows.uptoSmall) rfl own started (by kernel_rfl) Try.func3
    (OpenSpec.witness (enc := enc) (C := Try.checked) (s := Rows.OpenSpec.upto Rows.wirePutsSpec) (k := Rows.uptoSmall) rfl false ⟨#[], #[.int .u64 0, .slice none 0 0, .slice none 0 0], []⟩ 8 (by kernel_rfl) (by kernel_rfl) (by kernel_rfl)
      (x := ([.lit (.int .u64 0), .nil, .nil], [], [])) (by kernel_rfl) rfl (by kernel_rfl)) ?_
  intro W base args ds gs before hval hW _ hk _
  exact contract H enc W base args ds gs before hval hW hk

theorem proved : Rows.WirePutsUptoSaid :=
  OpenClaim.holds_of_cond 3 Try.f3 rfl rfl rfl rfl rfl rfl rfl ⟨rfl, rfl, rfl, rfl, rfl⟩ rfl rfl rfl rfl rfl (by kernel_rfl) Try.func3 (by kernel_rfl)
    (of_decide_eq_true (by kernel_rfl)) (by unfold Func.isWrapper; first | (rw [if_pos (by decide +kernel)]; kernel_rfl) | (rw [if_neg (by decide +kernel)]; exact ⟨rfl, rfl⟩))
    (fun os started H enc _ F => lifted os started H enc F)
end Go.Proofs.Ytelinafecnepgaa.puts
