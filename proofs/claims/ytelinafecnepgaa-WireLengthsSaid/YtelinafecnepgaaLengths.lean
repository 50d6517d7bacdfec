/-
  The law WireLengths returns true whatever number and text it is given.
-/
import Derived.Test.YtelinafecnepgaaArgs
import Derived.SizedLaws
namespace Go.Proofs.Ytelinafecnepgaa.lengths
open Go.RowKit Go.ChangeShapes Go.WideShapes Go.ChangeAt
open Go.Lib (uvarint uvarint_small uvarint_big uvarint_length64 uvarint_pos)
open Leb (encT encN encL encNs encTs dec decT decN decL)

theorem bits_count {x y k : Nat} (h : k + (uvarint y).length = (uvarint x).length + 1) (hy : 128 ≤ y) : k + 1 + (uvarint (y / 128)).length = (uvarint x).length + 1 := by
  rw [uvarint_big hy, List.length_cons] at h
  omega

set_option maxHeartbeats 2000000 in
set_option maxRecDepth 100000 in
theorem walk (x : Nat) (hx : x < 18446744073709551616) (s : ByteArray) (hs : s.size + 10 ≤ 140737488355328) (w : World) :
    Calls Try.prog 8 #[.int .u64 x, .string s] w fun e w' => e = .returned (.bool true) ∧ Below w.heap.size w w' := by
  have Hf := fun w => fixed_any w
  have H1 := fun w => putUint_any x hx w
  have H3 := fun w => putText_any s hs w
  have H4 := fun w => putUint_any s.size (by omega) w
  have hte : (encT s.data.toList).length = (uvarint s.size).length + s.size := by
    unfold encT
    rw [List.length_append, Kit.size_list]
  have h10 := uvarint_length64 hx
  have h11 := uvarint_length64 (show s.size < 18446744073709551616 by omega)
  have hte2 := Lib.hid hte
  have hte3 : (encT s.data.toList).length ≤ (uvarint s.size).length + s.size := by omega
  have hte4 : (uvarint s.size).length + s.size ≤ (encT s.data.toList).length := by omega
  clear hte
  go_enter Try.func8, Try.ntmps8
  go_wp2
  go_loop [5, 6] (fun vk vm => ∃ (k y : Nat), vk = .int .i64 k ∧ vm = .int .u64 y ∧ y ≤ x ∧ 1 ≤ k ∧ Hid (k + (uvarint y).length = (uvarint x).length + 1))
    (fun _ vm => (intOf vm).toNat)
  case atStart => exact ⟨1, x, rfl, rfl, Nat.le_refl _, Nat.le_refl _, Lib.hid (by omega)⟩
  case round =>
    obtain ⟨k, y, rfl, rfl, hy, hk1, Hk⟩ := hrel
    have hk11 : k ≤ 11 := by have := Hk.out; omega
    by_cases h128 : 127 < y
    · go_wp2
      go_round
      case rel => exact ⟨k + 1, y / 128, by go_num, by go_num, by omega, by omega, Lib.hid (bits_count Hk.out (by omega))⟩
      case measure => simp [intOf]; omega
    · have hk2 := Hk.out
      rw [uvarint_small (show y < 128 by omega), List.length_singleton] at hk2
      have hkx : (uvarint x).length = k := by omega
      have hkn : (((uvarint x).length : Int) == (k : Int)) = true := by simp [hkx]
      have hkt : (((encT s.data.toList).length : Int) == ((uvarint s.size).length : Int) + (s.size : Int)) = true := by
        rw [hte2.out]
        simp
      have hk10 : k ≤ 10 := by omega
      have hk10i : (k : Int) ≤ 10 := by omega
      clear hk2 Hk
      generalize uvarint x = c1 at *
      generalize uvarint s.size = c2 at *
      generalize encT s.data.toList = c3 at *
      have Hkx := Lib.hid hkx
      clear hkx hte2
      have hc0 := Below.refl w.heap.size w
      go_wp2_with fail
      refine (Hf w).mono ?_
      rintro e w1 ⟨rfl, hb1⟩
      have hc1 := hc0.trans (hb1.mono hc0.size)
      clear hc0 hb1
      go_wp2_with fail
      refine (H1 w1).mono ?_
      rintro e w2 ⟨rfl, hb2⟩
      have hc2 := hc1.trans (hb2.mono hc1.size)
      clear hc1 hb2
      go_wp2_with fail
      refine (H3 w2).mono ?_
      rintro e w3 ⟨rfl, hb3⟩
      have hc3 := hc2.trans (hb3.mono hc2.size)
      clear hc2 hb3
      go_wp2_with fail
      refine (H4 w3).mono ?_
      rintro e w4 ⟨rfl, hb4⟩
      have hc4 := hc3.trans (hb4.mono hc3.size)
      clear hc3 hb4
      go_wp2
      go_ret
      exact ⟨rfl, hc4⟩

theorem readable : ∀ t ∈ Try.f8.params.toList, Try.prog.readableRec t = true ∧ t < Try.prog.types.size := by
  rw [Try.params8]
  intro t ht
  simp only [List.mem_cons, List.not_mem_nil, or_false] at ht
  rcases ht with rfl | rfl
  all_goals exact ⟨by kernel_rfl, of_decide_eq_true (by kernel_rfl)⟩

theorem contract (H : Type) (enc : TypeId × Value → H) (W : World) (base : Nat) (args : Array Value) (ds gs : List (DataW H)) (before : List MemPlace)
    (hval : ∀ (j : Nat) t v, Try.f8.params[j]? = some t → args[j]? = some v → Value.okWide Try.prog W .any base t v)
    (hW : DataW.Whole enc Try.prog Try.f8.params.toList Rows.wireLengthsSpec.vars false W args.toList ds gs before) (hsz : (DataW.weightsEach Try.prog (Try.f8.params.toList ++ Rows.wireLengthsSpec.plain.varTypes Try.prog) (ds ++ gs)).all (· ≤ reachBytes) = true) :
    Calls Try.prog 8 args W fun e W' => ∃ v, e = .returned v ∧ Rows.wireLengthsSpec.post enc Try.prog Try.f8 false true false false W args v W' := by
  have hW' := hW
  obtain ⟨p, q, hA0, hV, rfl, hfz, hnd⟩ := hW
  have hA : DataW.TrodAll enc Try.prog W 0 (fun _ => true) true Try.f8.params.toList args.toList ds p := hA0
  rw [Try.params8] at hA hval hsz
  obtain ⟨v0, v1, d0, d1, p0, p1, rfl, rfl, rfl, h0, h1⟩ := trodAll_two hA
  obtain ⟨rfl, rfl⟩ := trodVars_none hV
  obtain ⟨x, rfl, rfl, rfl, wx⟩ := open_int Try.underlying22 (hval 0 22 v0 rfl rfl) h0
  have bx := bounds_u64 wx
  obtain ⟨s, rfl, rfl, rfl, ms⟩ := ChangeMaps.open_string Try.underlying9 (hval 1 9 v1 rfl rfl) h1
  have hs := sized_string hsz (j := 1) (t := 9) rfl rfl
  rw [Kit.size_list] at hs
  have hs2 : reachBytes = 140737488351232 := by decide
  obtain ⟨n, rfl⟩ := Int.eq_ofNat_of_zero_le bx.1
  refine (walk n (by omega) s (by omega) W).mono fun e W' ⟨he, hb'⟩ => ?_
  subst he
  exact ⟨_, rfl, Kit.law_post (tb := 4) hW' laid readable rfl (by kernel_rfl) Try.underlying4 rfl rfl rfl hb'⟩

set_option maxRecDepth 100000 in
theorem lifted (os : Os) (started : os.Started) (H : Type) (enc : TypeId × Value → H) :
    ReturnsInHanded {} Try.checked os 8 .any (Rows.wireLengthsSpec.pre6 enc Try.prog Try.f8 Rows.wireLengthsRow.domain false) (Rows.wireLengthsSpec.post enc Try.prog Try.f8 false true false false) := by
  refine returnsInHanded_of_change_sized (C := Try.checked) own started (by kernel_rfl) Try.func8
    (ChangeSpec.witness6 (enc := enc) (C := Try.checked) false ⟨#[], #[.int .u64 0, .string .empty], []⟩ 8 (by kernel_rfl) (by kernel_rfl) (by kernel_rfl) (by kernel_rfl)) ?_
  intro W base args ds gs before hval hW _ hsz _
  exact contract H enc W base args ds gs before hval hW hsz

theorem proved : Rows.WireLengthsSaid :=
  OpenClaim.holds_of_wide 8 Try.f8 rfl rfl rfl rfl rfl rfl rfl ⟨rfl, rfl, rfl, rfl, rfl⟩ rfl rfl rfl rfl rfl (by kernel_rfl) Try.func8 (by kernel_rfl)
    (of_decide_eq_true (by kernel_rfl)) (by unfold Func.isWrapper; first | (rw [if_pos (by decide +kernel)]; kernel_rfl) | (rw [if_neg (by decide +kernel)]; exact ⟨rfl, rfl⟩))
    (fun os started H enc _ => lifted os started H enc)
end Go.Proofs.Ytelinafecnepgaa.lengths
