/-
  The law WireTakes returns true whatever text and most it is given, where the text has at most 1048576 letters.
-/
import Derived.Test.YtelinafecnepgaaArgs
namespace Go.Proofs.Ytelinafecnepgaa.takes
open Go.RowKit Go.ChangeShapes Go.WideShapes Go.ChangeAt
open Go.Lib (uvarint uvarint_small uvarint_big uvarint_length64 uvarint_pos)
open Leb (encT encN encL encNs encTs dec decT decN decL)

/-- The parts of what is taken, whether it was or not. -/
def rOf {α : Type} : Option (α × List UInt8) → List UInt8
  | none => []
  | some x => x.2
def nOf : Option (Nat × List UInt8) → Nat
  | none => 0
  | some x => x.1
def lOf {α : Type} : Option (List α × List UInt8) → List α
  | none => []
  | some x => x.1
theorem uint_parts (o : Option (Nat × List UInt8)) : uintRes o = .tuple #[.int .u64 (nOf o), .string ⟨(rOf o).toArray⟩, .bool o.isSome] := by
  cases o <;> rfl
theorem text_parts (o : Option (List UInt8 × List UInt8)) : textRes o = .tuple #[.string ⟨(lOf o).toArray⟩, .string ⟨(rOf o).toArray⟩, .bool o.isSome] := by
  cases o <;> rfl
theorem list_parts {α : Type} {f : List α → List Value} (hf : f [] = []) {o : Option (List α × List UInt8)} {e : Ending} {w : World} (h : ListEnd f o e w) :
    ∃ v, e = .returned (.tuple #[v, .string ⟨(rOf o).toArray⟩, .bool o.isSome]) ∧ Kit.Rd w v (f (lOf o)) := by
  cases o with
  | none => exact ⟨_, h, by rw [lOf, hf]; exact Kit.Rd.nil_ w⟩
  | some x => exact h

theorem takeNs_len : ∀ (k : Nat) (s : List UInt8) (l : List Nat) (r : List UInt8), Leb.takeNs k s = some (l, r) → l.length ≤ s.length := fun k s l r h => by
  have h1 := (Leb.takeNs_some k s l r h).1
  have h2 := Leb.encNs_length l
  rw [h1, List.length_append]
  omega
theorem decN_len {s : List UInt8} {m : Int} : (lOf (decN s m)).length ≤ s.length := by
  cases h : decN s m with
  | none => simp [lOf]
  | some x =>
    obtain ⟨l, r⟩ := x
    have h1 := (Leb.decN_some h).1
    have h2 := Leb.encNs_length l
    simp only [lOf]
    rw [h1]
    unfold encN
    simp only [List.length_append]
    omega
theorem decL_len {s : List UInt8} {m : Int} : (lOf (decL s m)).length ≤ s.length := by
  cases h : decL s m with
  | none => simp [lOf]
  | some x =>
    obtain ⟨l, r⟩ := x
    have h1 := (Leb.decL_some h).1
    have h2 := Leb.encTs_length l
    simp only [lOf]
    rw [h1]
    unfold encL
    simp only [List.length_append]
    omega

set_option maxHeartbeats 4000000 in
set_option maxRecDepth 100000 in
theorem walk (s : ByteArray) (hs : s.size ≤ 1048576) (m : Int) (hm0 : -9223372036854775808 ≤ m) (hm1 : m ≤ 9223372036854775807) (w : World) :
    Calls Try.prog 4 #[.string s, .int .i64 m] w fun e w' => e = .returned (.bool true) ∧ Below w.heap.size w w' := by
  have Hf := fun w => fixed_any w
  have H1 := fun w => takeUint_any s (by omega) w
  have H2 := fun w => rTakeUint_any s (by omega) w
  have H3 := fun w => takeText_any s (by omega) m hm0 hm1 w
  have H4 := fun w => rTakeText_any s (by omega) m hm0 hm1 w
  have H5 := fun w => takeNums_any s (by omega) m hm0 hm1 w
  have H6 := fun w => rTakeNums_any s (by omega) m hm0 hm1 w
  have H7 := fun w => takeList_any s (by omega) m hm0 hm1 w
  have H8 := fun w => rTakeList_any s (by omega) m hm0 hm1 w
  have hl1 : (lOf (decN s.data.toList m)).length ≤ s.size := by have h := decN_len (s := s.data.toList) (m := m); rw [Kit.size_list] at h; exact h
  have hl2 : (lOf (decL s.data.toList m)).length ≤ s.size := by have h := decL_len (s := s.data.toList) (m := m); rw [Kit.size_list] at h; exact h
  have H9 := fun u v w => nums_same (lOf (decN s.data.toList m)) (by omega) u v w
  have H10 := fun u v w => texts_same (lOf (decL s.data.toList m)) (by omega) u v w
  rw [uint_parts] at H1 H2
  rw [text_parts] at H3 H4
  clear hl1 hl2
  generalize dec s.data.toList = o1 at *
  generalize decT s.data.toList m = o2 at *
  generalize decN s.data.toList m = o3 at *
  generalize decL s.data.toList m = o4 at *
  generalize o1.isSome = k1 at *
  generalize o2.isSome = k2 at *
  generalize nOf o1 = n1 at *
  generalize rOf o1 = q1 at *
  generalize lOf o2 = n2 at *
  generalize rOf o2 = q2 at *
  have hc0 := Below.refl w.heap.size w
  go_enter Try.func4, Try.ntmps4
  go_wp2_with fail
  refine (H1 w).mono ?_
  rintro e w1 ⟨rfl, hb1⟩
  have hc1 := hc0.trans (hb1.mono hc0.size)
  clear hc0 hb1
  go_wp2_with fail
  refine (H2 w1).mono ?_
  rintro e w2 ⟨rfl, hb2⟩
  have hc2 := hc1.trans (hb2.mono hc1.size)
  clear hc1 hb2
  go_wp2_with fail
  refine (H3 w2).mono ?_
  rintro e w3 ⟨rfl, hb3⟩
  have hc3 := hc2.trans (hb3.mono hc2.size)
  clear hc2 hb3
  go_wp2_with fail
  refine (H4 w3).mono ?_
  rintro e w4 ⟨rfl, hb4⟩
  have hc4 := hc3.trans (hb4.mono hc3.size)
  clear hc3 hb4
  go_wp2_with fail
  refine (H5 w4).mono ?_
  rintro e w5 ⟨he, hb5⟩
  obtain ⟨v5, rfl, hr5⟩ := list_parts (by rfl) he
  have hc5 := hc4.trans (hb5.mono hc4.size)
  clear hc4 hb5 he
  go_wp2_with fail
  refine (H6 w5).mono ?_
  rintro e w6 ⟨he, hb6⟩
  obtain ⟨v6, rfl, hr6⟩ := list_parts (by rfl) he
  have hr5 := hr5.below hb6
  have hc6 := hc5.trans (hb6.mono hc5.size)
  clear hc5 hb6 he
  go_wp2_with fail
  refine (H7 w6).mono ?_
  rintro e w7 ⟨he, hb7⟩
  obtain ⟨v7, rfl, hr7⟩ := list_parts (by rfl) he
  have hr5 := hr5.below hb7
  have hr6 := hr6.below hb7
  have hc7 := hc6.trans (hb7.mono hc6.size)
  clear hc6 hb7 he
  go_wp2_with fail
  refine (H8 w7).mono ?_
  rintro e w8 ⟨he, hb8⟩
  obtain ⟨v8, rfl, hr8⟩ := list_parts (by rfl) he
  have hr5 := hr5.below hb8
  have hr6 := hr6.below hb8
  have hr7 := hr7.below hb8
  have hc8 := hc7.trans (hb8.mono hc7.size)
  clear hc7 hb8 he
  generalize o3.isSome = k3 at *
  generalize rOf o3 = q3 at *
  generalize o4.isSome = k4 at *
  generalize rOf o4 = q4 at *
  go_wp2_with fail
  refine (Hf w8).mono ?_
  rintro e w9 ⟨rfl, hb9⟩
  have hr5 := hr5.below hb9
  have hr6 := hr6.below hb9
  have hr7 := hr7.below hb9
  have hr8 := hr8.below hb9
  have hc9 := hc8.trans (hb9.mono hc8.size)
  clear hc8 hb9
  go_wp2_with fail
  refine (H9 _ _ w9 hr5 hr6).mono ?_
  rintro e w10 ⟨rfl, hb10⟩
  have hr7 := hr7.below hb10
  have hr8 := hr8.below hb10
  have hc10 := hc9.trans (hb10.mono hc9.size)
  clear hc9 hb10
  go_wp2_with fail
  refine (H10 _ _ w10 hr7 hr8).mono ?_
  rintro e w11 ⟨rfl, hb11⟩
  have hc11 := hc10.trans (hb11.mono hc10.size)
  clear hc10 hb11
  go_wp2
  go_ret
  exact ⟨rfl, hc11⟩

theorem readable : ∀ t ∈ Try.f4.params.toList, Try.prog.readableRec t = true ∧ t < Try.prog.types.size := by
  rw [Try.params4]
  intro t ht
  simp only [List.mem_cons, List.not_mem_nil, or_false] at ht
  rcases ht with rfl | rfl
  all_goals exact ⟨by kernel_rfl, of_decide_eq_true (by kernel_rfl)⟩

theorem contract (H : Type) (enc : TypeId × Value → H) (W : World) (base : Nat) (args : Array Value) (ds gs : List (DataW H)) (before : List MemPlace)
    (hval : ∀ (j : Nat) t v, Try.f4.params[j]? = some t → args[j]? = some v → Value.okWide Try.prog W .any base t v)
    (hW : DataW.Whole enc Try.prog Try.f4.params.toList Rows.wireTakesSpec.vars false W args.toList ds gs before) (hk : Rows.uptoSmall H (ds ++ gs) = true) :
    Calls Try.prog 4 args W fun e W' => ∃ v, e = .returned v ∧ Rows.wireTakesSpec.post enc Try.prog Try.f4 false true false false W args v W' := by
  have hW' := hW
  obtain ⟨p, q, hA0, hV, rfl, hfz, hnd⟩ := hW
  have hA : DataW.TrodAll enc Try.prog W 0 (fun _ => true) true Try.f4.params.toList args.toList ds p := hA0
  rw [Try.params4] at hA hval
  obtain ⟨v0, v1, d0, d1, p0, p1, rfl, rfl, rfl, h0, h1⟩ := trodAll_two hA
  obtain ⟨rfl, rfl⟩ := trodVars_none hV
  obtain ⟨s, rfl, rfl, rfl, ms⟩ := ChangeMaps.open_string Try.underlying9 (hval 0 9 v0 rfl rfl) h0
  obtain ⟨m, rfl, rfl, rfl, wm⟩ := open_int Try.underlying3 (hval 1 3 v1 rfl rfl) h1
  have bm := bounds_i64 wm
  have hsl := Kit.size_list s
  have hb := bulk_bound hk
  simp only [List.append_nil, Rows.uptoBulkAll, Rows.uptoBulk] at hb
  refine (walk s (by omega) m bm.1 bm.2 W).mono fun e W' ⟨he, hb'⟩ => ?_
  subst he
  exact ⟨_, rfl, Kit.law_post (tb := 4) hW' laid readable rfl (by kernel_rfl) Try.underlying4 rfl rfl rfl hb'⟩

set_option maxRecDepth 100000 in
theorem lifted (os : Os) (started : os.Started) (H : Type) (enc : TypeId × Value → H) (F : Stop.Interp) :
    ReturnsInHanded {} Try.checked os 4 .any ((Rows.OpenSpec.upto Rows.wireTakesSpec).pre6 enc Try.prog Try.f4 Rows.wireTakesUptoRow.domain false) (((Rows.OpenSpec.upto Rows.wireTakesSpec).at F).post enc Try.prog Try.f4 false true false false) := by
  refine returnsInHanded_of_cond (C := Try.checked) (s := Rows.OpenSpec.upto Rows.wireTakesSpec) (k := Rows.uptoSmall) rfl own started (by kernel_rfl) Try.func4
    (OpenSpec.witness (enc := enc) (C := Try.checked) (s := Rows.OpenSpec.upto Rows.wireTakesSpec) (k := Rows.uptoSmall) rfl false ⟨#[], #[.string .empty, .int .i64 0], []⟩ 8 (by kernel_rfl) (by kernel_rfl) (by kernel_rfl)
      (x := ([.lit (.string []), .lit (.int .i64 0)], [], [])) (by kernel_rfl) rfl (by kernel_rfl)) ?_
  intro W base args ds gs before hval hW _ hk _
  exact contract H enc W base args ds gs before hval hW hk

theorem proved : Rows.WireTakesUptoSaid :=
  OpenClaim.holds_of_cond 4 Try.f4 rfl rfl rfl rfl rfl rfl rfl ⟨rfl, rfl, rfl, rfl, rfl⟩ rfl rfl rfl rfl rfl (by kernel_rfl) Try.func4 (by kernel_rfl)
    (of_decide_eq_true (by kernel_rfl)) (by unfold Func.isWrapper; first | (rw [if_pos (by decide +kernel)]; kernel_rfl) | (rw [if_neg (by decide +kernel)]; exact ⟨rfl, rfl⟩))
    (fun os started H enc _ F => lifted os started H enc F)
end Go.Proofs.Ytelinafecnepgaa.takes
