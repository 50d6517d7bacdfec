/-
  The law MsgOnce returns true whatever bytes it is given.
-/
import Derived.Test.YtnbjlhbaeghihaaMsgH
namespace Go.Proofs.Ytnbjlhbaeghihaa.monce
open Go.RowKit Go.ChangeShapes Go.WideShapes Go.ChangeAt
open Go.Lib (uvarint uvarint_small uvarint_big uvarint_length64 uvarint_pos)
open Leb (encT encN encL encNs encTs dec decT decN decL)
open Msg (numOf lowOf highOf form chk enc dm)

set_option maxHeartbeats 4000000 in
set_option maxRecDepth 100000 in
theorem walk (l : List UInt8) (hl : l.length ≤ 140737488355328) (c : UInt8) (w : World) :
    Calls Try.prog 6 #[.string ⟨l.toArray⟩, .int .u8 (c.toNat : Int)] w fun e w' => e = .returned (.bool true) ∧ Below w.heap.size w w' := by
  have Hf := fun w => mFixed_any w
  have H1 := fun w => decode_any l (by omega) w
  have c0 := Below.refl w.heap.size w
  cases hd : dm l with
  | error e1 =>
    have hne := dm_err hd
    rw [hd] at H1
    simp only [DecEnd] at H1
    clear hd
    go_enter Try.func6, Try.ntmps6
    go_wp2_with fail
    refine (H1 _).mono ?_
    rintro e w1 ⟨rfl, hb1⟩
    have c1 := c0.trans (hb1.mono c0.size)
    clear c0 hb1
    have c1 := c1.alloc c1.size (.cells #[.int .i64 0, .slice none 0 0, .slice none 0 0] 25)
    go_wp2_with fail
    refine (Hf _).mono ?_
    rintro e w2 ⟨rfl, hb2⟩
    have c2 := c1.trans (hb2.mono c1.size)
    clear c1 hb2
    go_wp2_with fail
    refine (Hf _).mono ?_
    rintro e w3 ⟨rfl, hb3⟩
    have c3 := c2.trans (hb3.mono c2.size)
    clear c2 hb3
    go_wp2
    go_ret
    exact ⟨rfl, c3⟩
  | ok m =>
    obtain ⟨k, ns, ts⟩ := m
    rw [hd] at H1
    obtain ⟨hle, hk8, hform, hx, hlen⟩ := Msg.dm_some hd
    have hts := texts_small (k := k) (ns := ns) (by rw [← hle]; exact hlen)
    have hz : chk (k : Int) ns ts = 0 := Msg.chk_ok hk8 hform (by rw [← hle]; exact hlen)
    have HE := fun vn vt wx (h1 : Kit.Rd wx vn (nums ns)) (h2 : Kit.Rd wx vt (strsL ts)) => encode_any (k : Int) (by omega) (by omega) ns hx ts hts vn vt wx h1 h2
    unfold encRes at HE
    rw [if_pos hz, Int.toNat_natCast, ← hle] at HE
    obtain ⟨e2, he2⟩ := dm_add hd c
    have hpos : 0 < l.length := by rw [hle]; exact Msg.enc_pos k ns ts
    obtain ⟨n, hn⟩ : ∃ n, l.length = n + 1 := ⟨l.length - 1, by omega⟩
    obtain ⟨e3, he3⟩ := dm_cut hd (k := n) (by omega)
    have H2 := fun w => decode_any (l ++ [c]) (by rw [List.length_append, List.length_singleton]; omega) w
    have H3 := fun w => decode_any (l.take n) (by rw [List.length_take]; omega) w
    rw [he2] at H2
    rw [he3] at H3
    simp only [DecEnd] at H2 H3
    have hn2 := dm_err he2
    have hn3 := dm_err he3
    have hext : (⟨l.toArray⟩ : ByteArray).extract 0 n = ⟨(l.take n).toArray⟩ := by
      rw [Kit.bytes_of_data ((⟨l.toArray⟩ : ByteArray).extract 0 n), take_of]
    have hcat : (⟨l.toArray⟩ : ByteArray) ++ ⟨[c].toArray⟩ = ⟨(l ++ [c]).toArray⟩ := Kit.cat_bytes l ⟨[c].toArray⟩
    rw [← hext] at H3
    rw [← hcat] at H2
    have hw1 : IntKind.i64.wrap ((l.length : Int) - 1) = (n : Int) := by rw [IntKind.wrap_i64]; omega
    have hlt : (n : Int) ≤ (l.length : Int) := by omega
    have hroom : ¬ 9223372036854775807 < l.length + 1 := by omega
    clear hext hcat he2 he3 hd hz hts hform hk8 hx hpos hle
    have Hn := Lib.hid hn
    clear hn
    go_enter Try.func6, Try.ntmps6
    go_wp2_with fail
    refine (H1 _).mono ?_
    rintro e w1 ⟨⟨vn, vt, rfl, hrn, hrt⟩, hb1⟩
    obtain ⟨an, cn, rfl⟩ := hrn.form
    obtain ⟨av, cv, rfl⟩ := hrt.form
    have c1 := (c0.trans (hb1.mono c0.size)).alloc (c0.trans (hb1.mono c0.size)).size (.cells #[.int .i64 k, .slice an (nums ns).length cn, .slice av (strsL ts).length cv] 25)
    have T1 := Three.new w1 (.int .i64 k) (.slice an (nums ns).length cn) (.slice av (strsL ts).length cv) 25
    have hbx : Below w1.heap.size w1 (w1.alloc (.cells #[.int .i64 k, .slice an (nums ns).length cn, .slice av (strsL ts).length cv] 25)) := (Below.refl _ w1).alloc (Nat.le_refl _) _
    have hrn1 := hrn.below hbx
    have hrt1 := hrt.below hbx
    clear hrn hrt H1 hb1 c0 hbx
    go_wp2_with fail
    refine (Hf _).mono ?_
    rintro e w2 ⟨rfl, hb2⟩
    have c2 := c1.trans (hb2.mono c1.size)
    have T2 := T1.below hb2
    have hrn2 := hrn1.below hb2
    have hrt2 := hrt1.below hb2
    clear hrn1 hrt1 T1 c1 hb2
    obtain ⟨-, ⟨q0, q1, q2⟩, -⟩ := T2.parts
    go_wp2_with fail
    refine (HE _ _ _ hrn2 hrt2).mono ?_
    rintro e w3 ⟨rfl, hb3⟩
    have c3 := c2.trans (hb3.mono c2.size)
    clear c2 hb3 T2 q0 q1 q2 hrn2 hrt2 HE
    have hcv : (convert 36 9 (.slice (some ⟨w3.heap.size, 0, none⟩) 1 1)).run Try.prog (w3.alloc (.cells #[.int .u8 (c.toNat : Int)] 5)) = .ok (.string ⟨[c].toArray⟩) (w3.alloc (.cells #[.int .u8 (c.toNat : Int)] 5)) :=
      conv_any (World.ownsRow_lit (base := 0) (e := 5) (size := 1) w3 #[.int .u8 (c.toNat : Int)] 1 (Nat.zero_le _) (by decide) rfl)
    have c3' := c3.alloc c3.size (.cells #[.int .u8 (c.toNat : Int)] 5)
    clear c3
    go_wp2_with fail
    refine (H2 _).mono ?_
    rintro e w4 ⟨rfl, hb4⟩
    have c4 := c3'.trans (hb4.mono c3'.size)
    clear c3' hb4 hcv H2
    have c4' := c4.alloc c4.size (.cells #[.int .i64 0, .slice none 0 0, .slice none 0 0] 25)
    clear c4
    go_wp2_with fail
    refine (H3 _).mono ?_
    rintro e w5 ⟨rfl, hb5⟩
    have c5 := c4'.trans (hb5.mono c4'.size)
    clear c4' hb5 H3
    go_wp2
    go_ret
    exact ⟨rfl, c5.alloc c5.size _⟩

theorem readable : ∀ t ∈ Try.f6.params.toList, Try.prog.readableRec t = true ∧ t < Try.prog.types.size := by
  rw [Try.params6]
  intro t ht
  simp only [List.mem_cons, List.not_mem_nil, or_false] at ht
  rcases ht with rfl | rfl
  all_goals exact ⟨by kernel_rfl, of_decide_eq_true (by kernel_rfl)⟩

theorem contract (H : Type) (enc : TypeId × Value → H) (W : World) (base : Nat) (args : Array Value) (ds gs : List (DataW H)) (before : List MemPlace)
    (hval : ∀ (j : Nat) t v, Try.f6.params[j]? = some t → args[j]? = some v → Value.okWide Try.prog W .any base t v)
    (hW : DataW.Whole enc Try.prog Try.f6.params.toList Rows.msgOnceSpec.vars false W args.toList ds gs before) (hsz : (DataW.weightsEach Try.prog (Try.f6.params.toList ++ Rows.msgOnceSpec.plain.varTypes Try.prog) (ds ++ gs)).all (· ≤ reachBytes) = true) :
    Calls Try.prog 6 args W fun e W' => ∃ v, e = .returned v ∧ Rows.msgOnceSpec.post enc Try.prog Try.f6 false true false false W args v W' := by
  have hW' := hW
  obtain ⟨p, q, hA0, hV, rfl, hfz, hnd⟩ := hW
  have hA : DataW.TrodAll enc Try.prog W 0 (fun _ => true) true Try.f6.params.toList args.toList ds p := hA0
  rw [Try.params6] at hA hval hsz
  obtain ⟨v0, v1, d0, d1, p0, p1, rfl, rfl, rfl, h0, h1⟩ := trodAll_two hA
  obtain ⟨rfl, rfl⟩ := trodVars_none hV
  obtain ⟨s, rfl, rfl, rfl, ms⟩ := ChangeMaps.open_string Try.underlying9 (hval 0 9 v0 rfl rfl) h0
  obtain ⟨c, rfl, rfl, rfl, wc⟩ := open_int Try.underlying5 (hval 1 5 v1 rfl rfl) h1
  have bc : 0 ≤ c ∧ c ≤ 255 := bounds_u8 wc
  have hz := sized_string hsz (j := 0) (t := 9) rfl rfl
  have hr : reachBytes = 140737488351232 := by decide
  rw [hr] at hz
  have hce : ((c.toNat.toUInt8).toNat : Int) = c := by rw [Leb.toNat_small (by omega)]; omega
  have hwalk := walk s.data.toList (by omega) c.toNat.toUInt8 W
  rw [hce, ← Kit.bytes_of_data s] at hwalk
  refine (hwalk).mono fun e W' ⟨he, hb'⟩ => ?_
  subst he
  exact ⟨_, rfl, Kit.law_post (tb := 4) hW' laid readable rfl (by kernel_rfl) Try.underlying4 rfl rfl rfl hb'⟩

set_option maxRecDepth 100000 in
theorem lifted (os : Os) (started : os.Started) (H : Type) (enc : TypeId × Value → H) :
    ReturnsInHanded {} Try.checked os 6 .any (Rows.msgOnceSpec.pre6 enc Try.prog Try.f6 Rows.msgOnceRow.domain false) (Rows.msgOnceSpec.post enc Try.prog Try.f6 false true false false) := by
  refine returnsInHanded_of_change_sized (C := Try.checked) own started (by kernel_rfl) Try.func6
    (ChangeSpec.witness6 (enc := enc) (C := Try.checked) false ⟨#[], #[.string .empty, .int .u8 0], []⟩ 8 (by kernel_rfl) (by kernel_rfl) (by kernel_rfl) (by kernel_rfl)) ?_
  intro W base args ds gs before hval hW _ hsz _
  exact contract H enc W base args ds gs before hval hW hsz

theorem proved : Rows.MsgOnceSaid :=
  OpenClaim.holds_of_wide 6 Try.f6 rfl rfl rfl rfl rfl rfl rfl ⟨rfl, rfl, rfl, rfl, rfl⟩ rfl rfl rfl rfl rfl (by kernel_rfl) Try.func6 (by kernel_rfl)
    (of_decide_eq_true (by kernel_rfl)) (by unfold Func.isWrapper; first | (rw [if_pos (by decide +kernel)]; kernel_rfl) | (rw [if_neg (by decide +kernel)]; exact ⟨rfl, rfl⟩))
    (fun os started H enc _ => lifted os started H enc)
end Go.Proofs.Ytnbjlhbaeghihaa.monce
