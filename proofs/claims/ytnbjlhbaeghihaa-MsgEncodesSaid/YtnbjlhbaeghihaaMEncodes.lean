/-
  The law MsgEncodes returns true whatever message it is given.
-/
import Derived.Test.YtnbjlhbaeghihaaMsgH
import Derived.Test.YtnbjlhbaeghihaaMsgQ
namespace Go.Proofs.Ytnbjlhbaeghihaa.mencodes
open Go.RowKit Go.ChangeShapes Go.WideShapes Go.ChangeAt
open Go.Lib (uvarint uvarint_small uvarint_big uvarint_length64 uvarint_pos)
open Leb (encT encN encL encNs encTs dec decT decN decL)
open Msg (numOf lowOf highOf form chk enc dm)

set_option maxHeartbeats 4000000 in
set_option maxRecDepth 100000 in
theorem walk (k : Int) (hk : -9223372036854775808 ≤ k ∧ k ≤ 9223372036854775807) (ns : List Nat) (ts : List (List UInt8)) (hx : ∀ x ∈ ns, x < 18446744073709551616) (hts : ∀ t ∈ ts, t.length ≤ 140737488351232)
    (vn vt : Value) (w : World) (hv : Kit.Rd w vn (nums ns)) (hvt : Kit.Rd w vt (strsL ts)) :
    Calls Try.prog 3 #[.agg #[.int .i64 k, vn, vt]] w fun e w' => e = .returned (.bool true) ∧ Below w.heap.size w w' := by
  have Hf := fun w => mFixed_any w
  have HE := fun wx (h : Below w.heap.size w wx) => encode_any k hk.1 hk.2 ns hx ts hts vn vt wx (hv.below h) (hvt.below h)
  have HR := fun wx (h : Below w.heap.size w wx) => rEncode_any k hk.1 hk.2 ns hx ts vn vt wx (hv.below h) (hvt.below h)
  have HC := fun wx (h : Below w.heap.size w wx) => check_any k hk.1 hk.2 ns hx ts hts vn vt wx (hv.below h) (hvt.below h)
  have HD := fun wx (h : Below w.heap.size w wx) => rCheck_any k hk.1 hk.2 ns hx ts vn vt wx (hv.below h) (hvt.below h)
  have pb := box_new w (.int .i64 k) vn vt 25
  clear hv hvt hts hx hk
  unfold encRes at HE HR
  by_cases hz : chk k ns ts = 0
  · rw [if_pos hz] at HE HR
    rw [hz] at HC HD
    clear hz
    generalize enc k.toNat ns ts = L at *
    go_enter Try.func3, Try.ntmps3
    go_wp2_with fail
    refine (HE _ pb.2.2.2).mono ?_
    rintro e w1 ⟨rfl, hb1⟩
    have pb := box_keep pb hb1
    clear hb1 HE
    obtain ⟨q0, q1, q2, -⟩ := id pb
    go_wp2_with fail
    refine (HR _ pb.2.2.2).mono ?_
    rintro e w2 ⟨rfl, hb2⟩
    have pb := box_keep pb hb2
    clear hb2 HR q0 q1 q2
    go_upto_region 3 with (fail)
    go_region_held3 (fun w' => w'.cell? ⟨w.heap.size, 0, none⟩ = some (.int .i64 k) ∧ w'.cell? ⟨w.heap.size, 1, none⟩ = some vn ∧ w'.cell? ⟨w.heap.size, 2, none⟩ = some vt ∧ Below w.heap.size w w')
      (first | exact ⟨pb.1, pb.2.1, pb.2.2.1, pb.2.2.2.drew⟩ | exact box_keep (by assumption) hb)
      (first
        | (go_at_call 10; refine (Hf _).mono ?_; rintro e w' ⟨rfl, hb⟩)
        | (go_at_call 11; refine (HC _ ?_).mono ?_; (exact (by assumption : _ ∧ _ ∧ _ ∧ _).2.2.2); rintro e w' ⟨rfl, hb⟩)
        | (go_at_call 12; refine (HD _ ?_).mono ?_; (exact (by assumption : _ ∧ _ ∧ _ ∧ _).2.2.2); rintro e w' ⟨rfl, hb⟩))
    all_goals (go_wp2)
    all_goals (go_ret)
    all_goals exact ⟨rfl, (by assumption : _ ∧ _ ∧ _ ∧ _).2.2.2⟩
  · rw [if_neg hz] at HE HR
    clear hz
    generalize chk k ns ts = c at *
    go_enter Try.func3, Try.ntmps3
    go_wp2_with fail
    refine (HE _ pb.2.2.2).mono ?_
    rintro e w1 ⟨rfl, hb1⟩
    have pb := box_keep pb hb1
    clear hb1 HE
    obtain ⟨q0, q1, q2, -⟩ := id pb
    go_wp2_with fail
    refine (HR _ pb.2.2.2).mono ?_
    rintro e w2 ⟨rfl, hb2⟩
    have pb := box_keep pb hb2
    clear hb2 HR q0 q1 q2
    go_upto_region 3 with (fail)
    go_region_held3 (fun w' => w'.cell? ⟨w.heap.size, 0, none⟩ = some (.int .i64 k) ∧ w'.cell? ⟨w.heap.size, 1, none⟩ = some vn ∧ w'.cell? ⟨w.heap.size, 2, none⟩ = some vt ∧ Below w.heap.size w w')
      (first | exact ⟨pb.1, pb.2.1, pb.2.2.1, pb.2.2.2.drew⟩ | exact box_keep (by assumption) hb)
      (first
        | (go_at_call 10; refine (Hf _).mono ?_; rintro e w' ⟨rfl, hb⟩)
        | (go_at_call 11; refine (HC _ ?_).mono ?_; (exact (by assumption : _ ∧ _ ∧ _ ∧ _).2.2.2); rintro e w' ⟨rfl, hb⟩)
        | (go_at_call 12; refine (HD _ ?_).mono ?_; (exact (by assumption : _ ∧ _ ∧ _ ∧ _).2.2.2); rintro e w' ⟨rfl, hb⟩))
    all_goals (go_wp2)
    all_goals (go_ret)
    all_goals exact ⟨rfl, (by assumption : _ ∧ _ ∧ _ ∧ _).2.2.2⟩

theorem readable : ∀ t ∈ Try.f3.params.toList, Try.prog.readableRec t = true ∧ t < Try.prog.types.size := by
  rw [Try.params3]
  intro t ht
  simp only [List.mem_cons, List.not_mem_nil, or_false] at ht
  subst ht
  all_goals exact ⟨by kernel_rfl, of_decide_eq_true (by kernel_rfl)⟩

theorem contract (H : Type) (enc : TypeId × Value → H) (W : World) (base : Nat) (args : Array Value) (ds gs : List (DataW H)) (before : List MemPlace)
    (hval : ∀ (j : Nat) t v, Try.f3.params[j]? = some t → args[j]? = some v → Value.okWide Try.prog W .any base t v)
    (hW : DataW.Whole enc Try.prog Try.f3.params.toList Rows.msgEncodesSpec.vars false W args.toList ds gs before) (hsz : (DataW.weightsEach Try.prog (Try.f3.params.toList ++ Rows.msgEncodesSpec.plain.varTypes Try.prog) (ds ++ gs)).all (· ≤ reachBytes) = true) :
    Calls Try.prog 3 args W fun e W' => ∃ v, e = .returned v ∧ Rows.msgEncodesSpec.post enc Try.prog Try.f3 false true false false W args v W' := by
  have hW' := hW
  obtain ⟨p, q, hA0, hV, rfl, hfz, hnd⟩ := hW
  have hA : DataW.TrodAll enc Try.prog W 0 (fun _ => true) true Try.f3.params.toList args.toList ds p := hA0
  rw [Try.params3] at hA hval hsz
  obtain ⟨v0, d0, rfl, rfl, h0⟩ := trodAll_one hA
  obtain ⟨rfl, rfl⟩ := trodVars_none hV
  obtain ⟨ak, ans, ats, avn, avt, rfl, ahk, av, avt2, ahx, aw⟩ := open_msg (hval 0 25 v0 rfl rfl) h0
  have ahts : ∀ t ∈ ats, t.length ≤ 140737488351232 := fun t ht => by
    have h := List.all_eq_true.1 hsz _ (DataW.weights_mem_each (j := 0) (t := 25) rfl rfl t.length (aw t ht))
    have hr : reachBytes = 140737488351232 := by decide
    rw [hr] at h
    simpa using h
  refine (walk ak ahk ans ats ahx ahts avn avt W av avt2).mono fun e W' ⟨he, hb'⟩ => ?_
  subst he
  exact ⟨_, rfl, Kit.law_post (tb := 4) hW' laid readable rfl (by kernel_rfl) Try.underlying4 rfl rfl rfl hb'⟩

set_option maxRecDepth 100000 in
theorem lifted (os : Os) (started : os.Started) (H : Type) (enc : TypeId × Value → H) :
    ReturnsInHanded {} Try.checked os 3 .any (Rows.msgEncodesSpec.pre6 enc Try.prog Try.f3 Rows.msgEncodesRow.domain false) (Rows.msgEncodesSpec.post enc Try.prog Try.f3 false true false false) := by
  refine returnsInHanded_of_change_sized (C := Try.checked) own started (by kernel_rfl) Try.func3
    (ChangeSpec.witness6 (enc := enc) (C := Try.checked) false ⟨#[], #[.agg #[.int .i64 0, .slice none 0 0, .slice none 0 0]], []⟩ 8 (by kernel_rfl) (by kernel_rfl) (by kernel_rfl) (by kernel_rfl)) ?_
  intro W base args ds gs before hval hW _ hsz _
  exact contract H enc W base args ds gs before hval hW hsz

theorem proved : Rows.MsgEncodesSaid :=
  OpenClaim.holds_of_wide 3 Try.f3 rfl rfl rfl rfl rfl rfl rfl ⟨rfl, rfl, rfl, rfl, rfl⟩ rfl rfl rfl rfl rfl (by kernel_rfl) Try.func3 (by kernel_rfl)
    (of_decide_eq_true (by kernel_rfl)) (by unfold Func.isWrapper; first | (rw [if_pos (by decide +kernel)]; kernel_rfl) | (rw [if_neg (by decide +kernel)]; exact ⟨rfl, rfl⟩))
    (fun os started H enc _ => lifted os started H enc)
end Go.Proofs.Ytnbjlhbaeghihaa.mencodes
