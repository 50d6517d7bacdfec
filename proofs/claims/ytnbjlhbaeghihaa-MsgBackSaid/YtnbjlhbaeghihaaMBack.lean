/-
  The law MsgBack returns true whatever two messages it is given.
-/
import Derived.Test.YtnbjlhbaeghihaaMsgH
namespace Go.Proofs.Ytnbjlhbaeghihaa.mback
open Go.RowKit Go.ChangeShapes Go.WideShapes Go.ChangeAt
open Go.Lib (uvarint uvarint_small uvarint_big uvarint_length64 uvarint_pos)
open Leb (encT encN encL encNs encTs dec decT decN decL)
open Msg (numOf lowOf highOf form chk enc dm)

theorem isMsg_same (k : Int) (ns : List Nat) (ts : List (List UInt8)) : isMsg k k ns ns ts ts = true := by simp [isMsg]

theorem encRes_form (k : Int) (ns : List Nat) (ts : List (List UInt8)) : ∃ s e, encRes k ns ts = .tuple #[.string s, .int .i64 e] := by
  unfold encRes
  split
  · exact ⟨_, _, rfl⟩
  · exact ⟨_, _, rfl⟩

set_option maxHeartbeats 4000000 in
set_option maxRecDepth 100000 in
theorem walk (k k' : Int) (hk : -9223372036854775808 ≤ k ∧ k ≤ 9223372036854775807) (hk' : -9223372036854775808 ≤ k' ∧ k' ≤ 9223372036854775807) (ns ns' : List Nat) (ts ts' : List (List UInt8))
    (hx : ∀ x ∈ ns, x < 18446744073709551616) (hx' : ∀ x ∈ ns', x < 18446744073709551616) (hts : ∀ t ∈ ts, t.length ≤ 140737488351232) (hts' : ∀ t ∈ ts', t.length ≤ 140737488351232)
    (vn vn' vt vt' : Value) (w : World) (hv : Kit.Rd w vn (nums ns)) (hv' : Kit.Rd w vn' (nums ns')) (hvt : Kit.Rd w vt (strsL ts)) (hvt' : Kit.Rd w vt' (strsL ts')) :
    Calls Try.prog 5 #[.agg #[.int .i64 k, vn, vt], .agg #[.int .i64 k', vn', vt']] w fun e w' => e = .returned (.bool true) ∧ Below w.heap.size w w' := by
  have Hf := fun w => mFixed_any w
  have HE := fun wx (h : Below w.heap.size w wx) => encode_any k hk.1 hk.2 ns hx ts hts vn vt wx (hv.below h) (hvt.below h)
  have HE' := fun wx (h : Below w.heap.size w wx) => encode_any k' hk'.1 hk'.2 ns' hx' ts' hts' vn' vt' wx (hv'.below h) (hvt'.below h)
  have T1 := (Three.new w (.int .i64 k) vn vt 25).alloc (.cells #[.int .i64 k', vn', vt'] 25)
  have T2 := Three.new (w.alloc (.cells #[.int .i64 k, vn, vt] 25)) (.int .i64 k') vn' vt' 25
  rw [World.size_alloc] at T2
  have c0 : Below w.heap.size w ((w.alloc (.cells #[.int .i64 k, vn, vt] 25)).alloc (.cells #[.int .i64 k', vn', vt'] 25)) := ((Below.refl _ w).alloc (Nat.le_refl _) _).alloc (by simp) _
  unfold encRes at HE
  by_cases hz : chk k ns ts = 0
  · obtain ⟨n, rfl, hn8, hform, hlen⟩ := Msg.chk_zero hz
    rw [if_pos hz, Int.toNat_natCast] at HE
    have hdm := Msg.dm_enc hn8 hx hform hlen
    have HD := fun w => decode_any (enc n ns ts) (by omega) w
    rw [hdm] at HD
    have HI := fun vn2 vt2 wx (h : Below w.heap.size w wx) (h1 : Kit.Rd wx vn2 (nums ns)) (h2 : Kit.Rd wx vt2 (strsL ts)) => rIs_any (n : Int) (n : Int) ns ns ts ts (by have := hform.1; have := Msg.numOf_le n; omega) (by have := hform.2.2; have := Msg.highOf_le n; omega) vn2 vn vt2 vt wx h1 (hv.below h) h2 (hvt.below h)
    rw [isMsg_same] at HI
    by_cases hz' : chk k' ns' ts' = 0
    · obtain ⟨n', rfl, hn8', hform', hlen'⟩ := Msg.chk_zero hz'
      have HJ := fun wx (h : Below w.heap.size w wx) => rIs_any (n : Int) (n' : Int) ns ns' ts ts' (by have := hform.1; have := Msg.numOf_le n; omega) (by have := hform.2.2; have := Msg.highOf_le n; omega) vn vn' vt vt' wx (hv.below h) (hv'.below h) (hvt.below h) (hvt'.below h)
      unfold encRes at HE'
      rw [if_pos hz', Int.toNat_natCast] at HE'
      have heq : ∃ b : Bool, (enc n ns ts == enc n' ns' ts') = b ∧ isMsg n n' ns ns' ts ts' = b := by
        by_cases hs : (n : Int) = (n' : Int) ∧ ns = ns' ∧ ts = ts'
        · obtain ⟨h1, rfl, rfl⟩ := hs
          obtain rfl : n = n' := by omega
          exact ⟨true, by simp, isMsg_same _ _ _⟩
        · refine ⟨false, ?_, decide_eq_false hs⟩
          rw [beq_eq_false_iff_ne]
          intro h
          obtain ⟨h1, h2, h3⟩ := Msg.enc_inj hn8 hx hform hlen hn8' hx' hform' h
          exact hs ⟨by omega, h2, h3⟩
      obtain ⟨b, hb1, hb2⟩ := heq
      rw [hb2] at HJ
      clear hdm hform hform' hv hv' hvt hvt' hts hts' hx hx' hk hk' hz hz' hb2 hlen'
      generalize enc n ns ts = L at *
      generalize enc n' ns' ts' = L' at *
      go_enter Try.func5, Try.ntmps5
      go_wp2_with fail
      refine (HE _ c0).mono ?_
      rintro e w1 ⟨rfl, hb1⟩
      have c1 := c0.trans (hb1.mono c0.size)
      have T1 := T1.below hb1
      have T2 := T2.below hb1
      clear c0 hb1 HE
      obtain ⟨-, ⟨p0, p1, p2⟩, -⟩ := T1.parts
      obtain ⟨-, ⟨q0, q1, q2⟩, -⟩ := T2.parts
      go_wp2_with fail
      refine (HE' _ c1).mono ?_
      rintro e w2 ⟨rfl, hb2⟩
      have c2 := c1.trans (hb2.mono c1.size)
      have T1 := T1.below hb2
      have T2 := T2.below hb2
      clear c1 hb2 HE'
      obtain ⟨-, ⟨p0, p1, p2⟩, -⟩ := T1.parts
      obtain ⟨-, ⟨q0, q1, q2⟩, -⟩ := T2.parts
      go_wp2_with fail
      refine (Hf _).mono ?_
      rintro e w3 ⟨rfl, hb3⟩
      have c3 := c2.trans (hb3.mono c2.size)
      have T1 := T1.below hb3
      have T2 := T2.below hb3
      clear c2 hb3
      obtain ⟨-, ⟨p0, p1, p2⟩, -⟩ := T1.parts
      obtain ⟨-, ⟨q0, q1, q2⟩, -⟩ := T2.parts
      go_wp2_with fail
      refine (HD _).mono ?_
      rintro e w4 ⟨⟨vn2, vt2, rfl, hr1, hr2⟩, hb4⟩
      obtain ⟨an, cn, rfl⟩ := hr1.form
      obtain ⟨av, cv, rfl⟩ := hr2.form
      have c4 := (c3.trans (hb4.mono c3.size)).alloc (c3.trans (hb4.mono c3.size)).size (.cells #[.int .i64 n, .slice an (nums ns).length cn, .slice av (strsL ts).length cv] 25)
      have T3 := Three.new w4 (.int .i64 n) (.slice an (nums ns).length cn) (.slice av (strsL ts).length cv) 25
      have hbx : Below w4.heap.size w4 (w4.alloc (.cells #[.int .i64 n, .slice an (nums ns).length cn, .slice av (strsL ts).length cv] 25)) := (Below.refl _ w4).alloc (Nat.le_refl _) _
      have hr1 := hr1.below hbx
      have hr2 := hr2.below hbx
      have T1 := (T1.below hb4).below hbx
      have T2 := (T2.below hb4).below hbx
      clear hbx hb4 c3 HD
      obtain ⟨-, ⟨p0, p1, p2⟩, -⟩ := T1.parts
      obtain ⟨-, ⟨q0, q1, q2⟩, -⟩ := T2.parts
      obtain ⟨-, ⟨s0, s1, s2⟩, -⟩ := T3.parts
      go_wp2_with fail
      refine (HI _ _ _ c4 hr1 hr2).mono ?_
      rintro e w5 ⟨rfl, hb5⟩
      have c5 := c4.trans (hb5.mono c4.size)
      have T1 := T1.below hb5
      have T2 := T2.below hb5
      clear hb5 c4 HI s0 s1 s2 T3 hr1 hr2
      obtain ⟨-, ⟨p0, p1, p2⟩, -⟩ := T1.parts
      obtain ⟨-, ⟨q0, q1, q2⟩, -⟩ := T2.parts
      go_wp2_with fail
      refine (HJ _ c5).mono ?_
      rintro e w6 ⟨rfl, hb6⟩
      have c6 := c5.trans (hb6.mono c5.size)
      clear hb6 c5 HJ T1 T2 p0 p1 p2 q0 q1 q2
      cases b with
      | true =>
        go_wp2
        go_ret
        exact ⟨rfl, c6⟩
      | false =>
        go_wp2
        go_ret
        exact ⟨rfl, c6⟩
    · unfold encRes at HE'
      rw [if_neg hz'] at HE'
      have hz3 : (((chk k' ns' ts' : Nat) : Int) != 0) = true := by rw [bne_iff_ne]; omega
      clear hdm hform hv hv' hvt hvt' hts hts' hx hx' hk hk' hz hz'
      generalize enc n ns ts = L at *
      generalize chk k' ns' ts' = c9 at *
      go_enter Try.func5, Try.ntmps5
      go_wp2_with fail
      refine (HE _ c0).mono ?_
      rintro e w1 ⟨rfl, hb1⟩
      have c1 := c0.trans (hb1.mono c0.size)
      have T1 := T1.below hb1
      have T2 := T2.below hb1
      clear c0 hb1 HE
      obtain ⟨-, ⟨p0, p1, p2⟩, -⟩ := T1.parts
      obtain ⟨-, ⟨q0, q1, q2⟩, -⟩ := T2.parts
      go_wp2_with fail
      refine (HE' _ c1).mono ?_
      rintro e w2 ⟨rfl, hb2⟩
      have c2 := c1.trans (hb2.mono c1.size)
      have T1 := T1.below hb2
      have T2 := T2.below hb2
      clear c1 hb2 HE'
      obtain ⟨-, ⟨p0, p1, p2⟩, -⟩ := T1.parts
      obtain ⟨-, ⟨q0, q1, q2⟩, -⟩ := T2.parts
      go_wp2_with fail
      refine (Hf _).mono ?_
      rintro e w3 ⟨rfl, hb3⟩
      have c3 := c2.trans (hb3.mono c2.size)
      have T1 := T1.below hb3
      have T2 := T2.below hb3
      clear c2 hb3
      obtain ⟨-, ⟨p0, p1, p2⟩, -⟩ := T1.parts
      obtain ⟨-, ⟨q0, q1, q2⟩, -⟩ := T2.parts
      go_wp2_with fail
      refine (HD _).mono ?_
      rintro e w4 ⟨⟨vn2, vt2, rfl, hr1, hr2⟩, hb4⟩
      obtain ⟨an, cn, rfl⟩ := hr1.form
      obtain ⟨av, cv, rfl⟩ := hr2.form
      have c4 := (c3.trans (hb4.mono c3.size)).alloc (c3.trans (hb4.mono c3.size)).size (.cells #[.int .i64 n, .slice an (nums ns).length cn, .slice av (strsL ts).length cv] 25)
      have T3 := Three.new w4 (.int .i64 n) (.slice an (nums ns).length cn) (.slice av (strsL ts).length cv) 25
      have hbx : Below w4.heap.size w4 (w4.alloc (.cells #[.int .i64 n, .slice an (nums ns).length cn, .slice av (strsL ts).length cv] 25)) := (Below.refl _ w4).alloc (Nat.le_refl _) _
      have hr1 := hr1.below hbx
      have hr2 := hr2.below hbx
      have T1 := (T1.below hb4).below hbx
      have T2 := (T2.below hb4).below hbx
      clear hbx hb4 c3 HD
      obtain ⟨-, ⟨p0, p1, p2⟩, -⟩ := T1.parts
      obtain ⟨-, ⟨q0, q1, q2⟩, -⟩ := T2.parts
      obtain ⟨-, ⟨s0, s1, s2⟩, -⟩ := T3.parts
      go_wp2_with fail
      refine (HI _ _ _ c4 hr1 hr2).mono ?_
      rintro e w5 ⟨rfl, hb5⟩
      have c5 := c4.trans (hb5.mono c4.size)
      have T1 := T1.below hb5
      have T2 := T2.below hb5
      clear hb5 c4 HI s0 s1 s2 T3 hr1 hr2
      obtain ⟨-, ⟨p0, p1, p2⟩, -⟩ := T1.parts
      obtain ⟨-, ⟨q0, q1, q2⟩, -⟩ := T2.parts
      go_wp2
      go_ret
      exact ⟨rfl, c5⟩
  · rw [if_neg hz] at HE
    have hz3 : (((chk k ns ts : Nat) : Int) != 0) = true := by rw [bne_iff_ne]; omega
    clear hz hv hv' hvt hvt' hts hts' hx hx' hk hk'
    generalize chk k ns ts = c9 at *
    obtain ⟨s9, e9, hr9⟩ := encRes_form k' ns' ts'
    rw [hr9] at HE'
    clear hr9
    go_enter Try.func5, Try.ntmps5
    go_wp2_with fail
    refine (HE _ c0).mono ?_
    rintro e w1 ⟨rfl, hb1⟩
    have c1 := c0.trans (hb1.mono c0.size)
    have T1 := T1.below hb1
    have T2 := T2.below hb1
    clear c0 hb1 HE
    obtain ⟨-, ⟨p0, p1, p2⟩, -⟩ := T1.parts
    obtain ⟨-, ⟨q0, q1, q2⟩, -⟩ := T2.parts
    go_wp2_with fail
    refine (HE' _ c1).mono ?_
    rintro e w2 ⟨rfl, hb2⟩
    have c2 := c1.trans (hb2.mono c1.size)
    have T1 := T1.below hb2
    have T2 := T2.below hb2
    clear c1 hb2 HE'
    obtain ⟨-, ⟨p0, p1, p2⟩, -⟩ := T1.parts
    obtain ⟨-, ⟨q0, q1, q2⟩, -⟩ := T2.parts
    go_wp2_with fail
    refine (Hf _).mono ?_
    rintro e w3 ⟨rfl, hb3⟩
    have c3 := c2.trans (hb3.mono c2.size)
    have T1 := T1.below hb3
    have T2 := T2.below hb3
    clear c2 hb3
    obtain ⟨-, ⟨p0, p1, p2⟩, -⟩ := T1.parts
    obtain ⟨-, ⟨q0, q1, q2⟩, -⟩ := T2.parts
    go_wp2
    go_ret
    exact ⟨rfl, c3⟩

theorem readable : ∀ t ∈ Try.f5.params.toList, Try.prog.readableRec t = true ∧ t < Try.prog.types.size := by
  rw [Try.params5]
  intro t ht
  simp only [List.mem_cons, List.not_mem_nil, or_false] at ht
  rcases ht with rfl | rfl
  all_goals exact ⟨by kernel_rfl, of_decide_eq_true (by kernel_rfl)⟩

theorem contract (H : Type) (enc : TypeId × Value → H) (W : World) (base : Nat) (args : Array Value) (ds gs : List (DataW H)) (before : List MemPlace)
    (hval : ∀ (j : Nat) t v, Try.f5.params[j]? = some t → args[j]? = some v → Value.okWide Try.prog W .any base t v)
    (hW : DataW.Whole enc Try.prog Try.f5.params.toList Rows.msgBackSpec.vars false W args.toList ds gs before) (hsz : (DataW.weightsEach Try.prog (Try.f5.params.toList ++ Rows.msgBackSpec.plain.varTypes Try.prog) (ds ++ gs)).all (· ≤ reachBytes) = true) :
    Calls Try.prog 5 args W fun e W' => ∃ v, e = .returned v ∧ Rows.msgBackSpec.post enc Try.prog Try.f5 false true false false W args v W' := by
  have hW' := hW
  obtain ⟨p, q, hA0, hV, rfl, hfz, hnd⟩ := hW
  have hA : DataW.TrodAll enc Try.prog W 0 (fun _ => true) true Try.f5.params.toList args.toList ds p := hA0
  rw [Try.params5] at hA hval hsz
  obtain ⟨v0, v1, d0, d1, p0, p1, rfl, rfl, rfl, h0, h1⟩ := trodAll_two hA
  obtain ⟨rfl, rfl⟩ := trodVars_none hV
  obtain ⟨ak, ans, ats, avn, avt, rfl, ahk, av, avt2, ahx, aw⟩ := open_msg (hval 0 25 v0 rfl rfl) h0
  have ahts : ∀ t ∈ ats, t.length ≤ 140737488351232 := fun t ht => by
    have h := List.all_eq_true.1 hsz _ (DataW.weights_mem_each (j := 0) (t := 25) rfl rfl t.length (aw t ht))
    have hr : reachBytes = 140737488351232 := by decide
    rw [hr] at h
    simpa using h
  obtain ⟨bk, bns, bts, bvn, bvt, rfl, bhk, bv, bvt2, bhx, bw⟩ := open_msg (hval 1 25 v1 rfl rfl) h1
  have bhts : ∀ t ∈ bts, t.length ≤ 140737488351232 := fun t ht => by
    have h := List.all_eq_true.1 hsz _ (DataW.weights_mem_each (j := 1) (t := 25) rfl rfl t.length (bw t ht))
    have hr : reachBytes = 140737488351232 := by decide
    rw [hr] at h
    simpa using h
  refine (walk ak bk ahk bhk ans bns ats bts ahx bhx ahts bhts avn bvn avt bvt W av bv avt2 bvt2).mono fun e W' ⟨he, hb'⟩ => ?_
  subst he
  exact ⟨_, rfl, Kit.law_post (tb := 4) hW' laid readable rfl (by kernel_rfl) Try.underlying4 rfl rfl rfl hb'⟩

set_option maxRecDepth 100000 in
theorem lifted (os : Os) (started : os.Started) (H : Type) (enc : TypeId × Value → H) :
    ReturnsInHanded {} Try.checked os 5 .any (Rows.msgBackSpec.pre6 enc Try.prog Try.f5 Rows.msgBackRow.domain false) (Rows.msgBackSpec.post enc Try.prog Try.f5 false true false false) := by
  refine returnsInHanded_of_change_sized (C := Try.checked) own started (by kernel_rfl) Try.func5
    (ChangeSpec.witness6 (enc := enc) (C := Try.checked) false ⟨#[], #[.agg #[.int .i64 0, .slice none 0 0, .slice none 0 0], .agg #[.int .i64 0, .slice none 0 0, .slice none 0 0]], []⟩ 8 (by kernel_rfl) (by kernel_rfl) (by kernel_rfl) (by kernel_rfl)) ?_
  intro W base args ds gs before hval hW _ hsz _
  exact contract H enc W base args ds gs before hval hW hsz

theorem proved : Rows.MsgBackSaid :=
  OpenClaim.holds_of_wide 5 Try.f5 rfl rfl rfl rfl rfl rfl rfl ⟨rfl, rfl, rfl, rfl, rfl⟩ rfl rfl rfl rfl rfl (by kernel_rfl) Try.func5 (by kernel_rfl)
    (of_decide_eq_true (by kernel_rfl)) (by unfold Func.isWrapper; first | (rw [if_pos (by decide +kernel)]; kernel_rfl) | (rw [if_neg (by decide +kernel)]; exact ⟨rfl, rfl⟩))
    (fun os started H enc _ => lifted os started H enc)
end Go.Proofs.Ytnbjlhbaeghihaa.mback
