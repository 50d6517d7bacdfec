/-
  The law MsgDecodes returns true whatever bytes it is given.
-/
import Derived.Test.YtnbjlhbaeghihaaMsgH
import Derived.Test.YtnbjlhbaeghihaaMsgP
namespace Go.Proofs.Ytnbjlhbaeghihaa.mdecodes
open Go.RowKit Go.ChangeShapes Go.WideShapes Go.ChangeAt
open Go.Lib (uvarint uvarint_small uvarint_big uvarint_length64 uvarint_pos)
open Leb (encT encN encL encNs encTs dec decT decN decL)
open Msg (numOf lowOf highOf form chk enc dm)

set_option maxHeartbeats 4000000 in
set_option maxRecDepth 100000 in
theorem walk (l : List UInt8) (hl : l.length ≤ 140737488355328) (w : World) :
    Calls Try.prog 4 #[.string ⟨l.toArray⟩] w fun e w' => e = .returned (.bool true) ∧ Below w.heap.size w w' := by
  have Hf := fun w => mFixed_any w
  have H1 := fun w => decode_any l (by omega) w
  have H2 := fun w => rDecode_any l (by omega) w
  have c0 := Below.refl w.heap.size w
  cases hd : dm l with
  | error e1 =>
    have HI := fun w => rIs_any 0 0 [] [] [] [] (by simp) (by simp) (.slice none 0 0) (.slice none 0 0) (.slice none 0 0) (.slice none 0 0) w (Kit.Rd.nil_ w) (Kit.Rd.nil_ w) (Kit.Rd.nil_ w) (Kit.Rd.nil_ w)
    rw [show isMsg 0 0 [] [] [] [] = true from by simp [isMsg]] at HI
    rw [hd] at H1 H2
    simp only [DecEnd] at H1 H2
    clear hd
    go_enter Try.func4, Try.ntmps4
    go_wp2_with fail
    refine (H1 _).mono ?_
    rintro e w1 ⟨rfl, hb1⟩
    have c1 := (c0.trans (hb1.mono c0.size)).alloc (c0.trans (hb1.mono c0.size)).size (.cells #[.int .i64 0, .slice none 0 0, .slice none 0 0] 25)
    have A1 := Three.new w1 (.int .i64 0) (.slice none 0 0) (.slice none 0 0) 25
    clear c0 hb1 H1
    go_wp2_with fail
    refine (H2 _).mono ?_
    rintro e w2 ⟨rfl, hb2⟩
    have c2 := (c1.trans (hb2.mono c1.size)).alloc (c1.trans (hb2.mono c1.size)).size (.cells #[.int .i64 0, .slice none 0 0, .slice none 0 0] 25)
    have A2 := (A1.below hb2).alloc (.cells #[.int .i64 0, .slice none 0 0, .slice none 0 0] 25)
    have B2 := Three.new w2 (.int .i64 0) (.slice none 0 0) (.slice none 0 0) 25
    clear c1 A1 hb2 H2
    go_wp2_with fail
    refine (Hf _).mono ?_
    rintro e w3 ⟨rfl, hb3⟩
    have c3 := c2.trans (hb3.mono c2.size)
    have A3 := A2.below hb3
    have B3 := B2.below hb3
    clear c2 A2 B2 hb3
    obtain ⟨-, ⟨p0, p1, p2⟩, -⟩ := A3.parts
    obtain ⟨-, ⟨q0, q1, q2⟩, -⟩ := B3.parts
    go_wp2_with fail
    refine (HI _ ).mono ?_
    rintro e w4 ⟨rfl, hb4⟩
    have c4 := c3.trans (hb4.mono c3.size)
    clear c3 A3 B3 hb4 p0 p1 p2 q0 q1 q2
    go_wp2
    go_ret
    exact ⟨rfl, c4⟩
  | ok m =>
    obtain ⟨k, ns, ts⟩ := m
    obtain ⟨hle, hk8, hform, hx, hlen⟩ := Msg.dm_some hd
    have HI := fun vn vn' vt vt' w (h1 : Kit.Rd w vn (nums ns)) (h2 : Kit.Rd w vn' (nums ns)) (h3 : Kit.Rd w vt (strsL ts)) (h4 : Kit.Rd w vt' (strsL ts)) => rIs_any (k : Int) (k : Int) ns ns ts ts (by have := hform.1; have := Msg.numOf_le k; omega) (by have := hform.2.2; have := Msg.highOf_le k; omega) vn vn' vt vt' w h1 h2 h3 h4
    rw [show isMsg (k : Int) (k : Int) ns ns ts ts = true from by simp [isMsg]] at HI
    rw [hd] at H1 H2
    clear hd hle hk8 hform hx hlen
    go_enter Try.func4, Try.ntmps4
    go_wp2_with fail
    refine (H1 _).mono ?_
    rintro e w1 ⟨⟨vn, vt, rfl, hrn, hrt⟩, hb1⟩
    obtain ⟨an, cn, rfl⟩ := hrn.form
    obtain ⟨av, cv, rfl⟩ := hrt.form
    have c1 := (c0.trans (hb1.mono c0.size)).alloc (c0.trans (hb1.mono c0.size)).size (.cells #[.int .i64 k, .slice an (nums ns).length cn, .slice av (strsL ts).length cv] 25)
    have A1 := Three.new w1 (.int .i64 k) (.slice an (nums ns).length cn) (.slice av (strsL ts).length cv) 25
    have hbx : Below w1.heap.size w1 (w1.alloc (.cells #[.int .i64 k, .slice an (nums ns).length cn, .slice av (strsL ts).length cv] 25)) := (Below.refl _ w1).alloc (Nat.le_refl _) _
    have hrn1 := hrn.below hbx
    have hrt1 := hrt.below hbx
    clear hrn hrt H1 hb1 c0 hbx
    go_wp2_with fail
    refine (H2 _).mono ?_
    rintro e w2 ⟨⟨vn2, vt2, rfl, hrn', hrt'⟩, hb2⟩
    obtain ⟨an2, cn2, rfl⟩ := hrn'.form
    obtain ⟨av2, cv2, rfl⟩ := hrt'.form
    have hby : Below w2.heap.size w2 (w2.alloc (.cells #[.int .i64 k, .slice an2 (nums ns).length cn2, .slice av2 (strsL ts).length cv2] 25)) := (Below.refl _ w2).alloc (Nat.le_refl _) _
    have c2 := (c1.trans (hb2.mono c1.size)).alloc (c1.trans (hb2.mono c1.size)).size (.cells #[.int .i64 k, .slice an2 (nums ns).length cn2, .slice av2 (strsL ts).length cv2] 25)
    have A2 := (A1.below hb2).below hby
    have B2 := Three.new w2 (.int .i64 k) (.slice an2 (nums ns).length cn2) (.slice av2 (strsL ts).length cv2) 25
    have hrn2 := (hrn1.below hb2).below hby
    have hrt2 := (hrt1.below hb2).below hby
    have hrn'2 := hrn'.below hby
    have hrt'2 := hrt'.below hby
    clear c1 A1 hb2 H2 hrn1 hrt1 hrn' hrt' hby
    go_wp2_with fail
    refine (Hf _).mono ?_
    rintro e w3 ⟨rfl, hb3⟩
    have c3 := c2.trans (hb3.mono c2.size)
    have A3 := A2.below hb3
    have B3 := B2.below hb3
    have hrn3 := hrn2.below hb3
    have hrt3 := hrt2.below hb3
    have hrn'3 := hrn'2.below hb3
    have hrt'3 := hrt'2.below hb3
    clear hrn2 hrt2 hrn'2 hrt'2
    clear c2 A2 B2 hb3
    obtain ⟨-, ⟨p0, p1, p2⟩, -⟩ := A3.parts
    obtain ⟨-, ⟨q0, q1, q2⟩, -⟩ := B3.parts
    go_wp2_with fail
    refine (HI _ _ _ _ _ hrn3 hrn'3 hrt3 hrt'3).mono ?_
    rintro e w4 ⟨rfl, hb4⟩
    have c4 := c3.trans (hb4.mono c3.size)
    clear c3 A3 B3 hb4 p0 p1 p2 q0 q1 q2
    go_wp2
    go_ret
    exact ⟨rfl, c4⟩

theorem readable : ∀ t ∈ Try.f4.params.toList, Try.prog.readableRec t = true ∧ t < Try.prog.types.size := by
  rw [Try.params4]
  intro t ht
  simp only [List.mem_cons, List.not_mem_nil, or_false] at ht
  subst ht
  all_goals exact ⟨by kernel_rfl, of_decide_eq_true (by kernel_rfl)⟩

theorem contract (H : Type) (enc : TypeId × Value → H) (W : World) (base : Nat) (args : Array Value) (ds gs : List (DataW H)) (before : List MemPlace)
    (hval : ∀ (j : Nat) t v, Try.f4.params[j]? = some t → args[j]? = some v → Value.okWide Try.prog W .any base t v)
    (hW : DataW.Whole enc Try.prog Try.f4.params.toList Rows.msgDecodesSpec.vars false W args.toList ds gs before) (hsz : (DataW.weightsEach Try.prog (Try.f4.params.toList ++ Rows.msgDecodesSpec.plain.varTypes Try.prog) (ds ++ gs)).all (· ≤ reachBytes) = true) :
    Calls Try.prog 4 args W fun e W' => ∃ v, e = .returned v ∧ Rows.msgDecodesSpec.post enc Try.prog Try.f4 false true false false W args v W' := by
  have hW' := hW
  obtain ⟨p, q, hA0, hV, rfl, hfz, hnd⟩ := hW
  have hA : DataW.TrodAll enc Try.prog W 0 (fun _ => true) true Try.f4.params.toList args.toList ds p := hA0
  rw [Try.params4] at hA hval hsz
  obtain ⟨v0, d0, rfl, rfl, h0⟩ := trodAll_one hA
  obtain ⟨rfl, rfl⟩ := trodVars_none hV
  obtain ⟨s, rfl, rfl, rfl, ms⟩ := ChangeMaps.open_string Try.underlying9 (hval 0 9 v0 rfl rfl) h0
  have hz := sized_string hsz (j := 0) (t := 9) rfl rfl
  have hr : reachBytes = 140737488351232 := by decide
  rw [hr] at hz
  have hwalk := walk s.data.toList (by omega) W
  rw [← Kit.bytes_of_data s] at hwalk
  refine (hwalk).mono fun e W' ⟨he, hb'⟩ => ?_
  subst he
  exact ⟨_, rfl, Kit.law_post (tb := 4) hW' laid readable rfl (by kernel_rfl) Try.underlying4 rfl rfl rfl hb'⟩

set_option maxRecDepth 100000 in
theorem lifted (os : Os) (started : os.Started) (H : Type) (enc : TypeId × Value → H) :
    ReturnsInHanded {} Try.checked os 4 .any (Rows.msgDecodesSpec.pre6 enc Try.prog Try.f4 Rows.msgDecodesRow.domain false) (Rows.msgDecodesSpec.post enc Try.prog Try.f4 false true false false) := by
  refine returnsInHanded_of_change_sized (C := Try.checked) own started (by kernel_rfl) Try.func4
    (ChangeSpec.witness6 (enc := enc) (C := Try.checked) false ⟨#[], #[.string .empty], []⟩ 8 (by kernel_rfl) (by kernel_rfl) (by kernel_rfl) (by kernel_rfl)) ?_
  intro W base args ds gs before hval hW _ hsz _
  exact contract H enc W base args ds gs before hval hW hsz

theorem proved : Rows.MsgDecodesSaid :=
  OpenClaim.holds_of_wide 4 Try.f4 rfl rfl rfl rfl rfl rfl rfl ⟨rfl, rfl, rfl, rfl, rfl⟩ rfl rfl rfl rfl rfl (by kernel_rfl) Try.func4 (by kernel_rfl)
    (of_decide_eq_true (by kernel_rfl)) (by unfold Func.isWrapper; first | (rw [if_pos (by decide +kernel)]; kernel_rfl) | (rw [if_neg (by decide +kernel)]; exact ⟨rfl, rfl⟩))
    (fun os started H enc _ => lifted os started H enc)
end Go.Proofs.Ytnbjlhbaeghihaa.mdecodes
