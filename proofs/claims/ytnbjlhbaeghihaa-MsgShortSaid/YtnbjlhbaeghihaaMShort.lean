/-
  The law MsgShort returns true whatever message and cut it is given.
-/
import Derived.Test.YtnbjlhbaeghihaaMsgH
namespace Go.Proofs.Ytnbjlhbaeghihaa.mshort
open Go.RowKit Go.ChangeShapes Go.WideShapes Go.ChangeAt
open Go.Lib (uvarint uvarint_small uvarint_big uvarint_length64 uvarint_pos)
open Leb (encT encN encL encNs encTs dec decT decN decL)
open Msg (numOf lowOf highOf form chk enc dm)

set_option maxHeartbeats 4000000 in
set_option maxRecDepth 100000 in
theorem walk (k : Int) (hk : -9223372036854775808 ≤ k ∧ k ≤ 9223372036854775807) (ns : List Nat) (ts : List (List UInt8)) (hx : ∀ x ∈ ns, x < 18446744073709551616) (hts : ∀ t ∈ ts, t.length ≤ 140737488351232)
    (vn vt : Value) (c : Int) (w : World) (hv : Kit.Rd w vn (nums ns)) (hvt : Kit.Rd w vt (strsL ts)) :
    Calls Try.prog 7 #[.agg #[.int .i64 k, vn, vt], .int .i64 c] w fun e w' => e = .returned (.bool true) ∧ Below w.heap.size w w' := by
  have Hf := fun w => mFixed_any w
  have HE := fun wx (h : Below w.heap.size w wx) => encode_any k hk.1 hk.2 ns hx ts hts vn vt wx (hv.below h) (hvt.below h)
  have c0 : Below w.heap.size w (w.alloc (.cells #[.int .i64 k, vn, vt] 25)) := (Below.refl _ w).alloc (Nat.le_refl _) _
  unfold encRes at HE
  by_cases hz : chk k ns ts = 0
  · obtain ⟨n, rfl, hn8, hform, hlen⟩ := Msg.chk_zero hz
    rw [if_pos hz, Int.toNat_natCast] at HE
    have hdm := Msg.dm_enc hn8 hx hform hlen
    have Hcut := fun q (h : q < (enc n ns ts).length) => Lib.hid (dm_cut hdm h)
    clear hz hdm hform hv hvt hts hx hk
    generalize enc n ns ts = L at *
    by_cases h0 : c < 0
    · go_enter Try.func7, Try.ntmps7
      go_wp2_with fail
      refine (HE _ c0).mono ?_
      rintro e w1 ⟨rfl, hb1⟩
      have c1 := c0.trans (hb1.mono c0.size)
      clear HE c0 hb1
      go_wp2_with fail
      refine (Hf _).mono ?_
      rintro e w2 ⟨rfl, hb2⟩
      have c2 := c1.trans (hb2.mono c1.size)
      clear c1 hb2
      go_wp2_with fail
      refine (Hf _).mono ?_
      rintro e w3 ⟨rfl, hb3⟩
      have c3 := c2.trans (hb3.mono c2.size)
      clear c2 hb3
      go_wp2
      go_ret
      exact ⟨rfl, c3⟩
    · obtain ⟨q, rfl⟩ := Int.eq_ofNat_of_zero_le (show 0 ≤ c by omega)
      have h0i : decide ((q : Int) < 0) = false := by rw [decide_eq_false_iff_not]; omega
      by_cases h1 : L.length ≤ q
      · have h1i : (L.length : Int) ≤ (q : Int) := by omega
        go_enter Try.func7, Try.ntmps7
        go_wp2_with fail
        refine (HE _ c0).mono ?_
        rintro e w1 ⟨rfl, hb1⟩
        have c1 := c0.trans (hb1.mono c0.size)
        clear HE c0 hb1
        go_wp2_with fail
        refine (Hf _).mono ?_
        rintro e w2 ⟨rfl, hb2⟩
        have c2 := c1.trans (hb2.mono c1.size)
        clear c1 hb2
        go_wp2_with fail
        refine (Hf _).mono ?_
        rintro e w3 ⟨rfl, hb3⟩
        have c3 := c2.trans (hb3.mono c2.size)
        clear c2 hb3
        go_wp2
        go_ret
        exact ⟨rfl, c3⟩
      · have h1i : (q : Int) < (L.length : Int) := by omega
        have h1d : decide ((L.length : Int) ≤ (q : Int)) = false := by rw [decide_eq_false_iff_not]; omega
        obtain ⟨e', he'⟩ := (Hcut q (by omega)).out
        have HD := fun w => decode_any (L.take q) (by rw [List.length_take]; omega) w
        rw [he'] at HD
        simp only [DecEnd] at HD
        have hne := dm_err he'
        have hext : (⟨L.toArray⟩ : ByteArray).extract 0 q = ⟨(L.take q).toArray⟩ := by
          rw [Kit.bytes_of_data ((⟨L.toArray⟩ : ByteArray).extract 0 q), take_of]
        rw [← hext] at HD
        clear Hcut he' hext
        go_enter Try.func7, Try.ntmps7
        go_wp2_with fail
        refine (HE _ c0).mono ?_
        rintro e w1 ⟨rfl, hb1⟩
        have c1 := c0.trans (hb1.mono c0.size)
        clear HE c0 hb1
        go_wp2_with fail
        refine (Hf _).mono ?_
        rintro e w2 ⟨rfl, hb2⟩
        have c2 := c1.trans (hb2.mono c1.size)
        clear c1 hb2
        go_wp2_with fail
        refine (HD _).mono ?_
        rintro e w3 ⟨rfl, hb3⟩
        have c3 := c2.trans (hb3.mono c2.size)
        clear c2 hb3
        go_wp2
        go_ret
        exact ⟨rfl, c3.alloc c3.size _⟩
  · rw [if_neg hz] at HE
    have hz3 : ((chk k ns ts : Nat) : Int) != 0 := by rw [bne_iff_ne]; omega
    clear hz hv hvt hts hx hk
    generalize chk k ns ts = c5 at *
    go_enter Try.func7, Try.ntmps7
    go_wp2_with fail
    refine (HE _ c0).mono ?_
    rintro e w1 ⟨rfl, hb1⟩
    have c1 := c0.trans (hb1.mono c0.size)
    clear HE c0 hb1
    go_wp2_with fail
    refine (Hf _).mono ?_
    rintro e w2 ⟨rfl, hb2⟩
    have c2 := c1.trans (hb2.mono c1.size)
    clear c1 hb2
    go_wp2_with fail
    refine (Hf _).mono ?_
    rintro e w3 ⟨rfl, hb3⟩
    have c3 := c2.trans (hb3.mono c2.size)
    clear c2 hb3
    go_wp2
    go_ret
    exact ⟨rfl, c3⟩

theorem readable : ∀ t ∈ Try.f7.params.toList, Try.prog.readableRec t = true ∧ t < Try.prog.types.size := by
  rw [Try.params7]
  intro t ht
  simp only [List.mem_cons, List.not_mem_nil, or_false] at ht
  rcases ht with rfl | rfl
  all_goals exact ⟨by kernel_rfl, of_decide_eq_true (by kernel_rfl)⟩

theorem contract (H : Type) (enc : TypeId × Value → H) (W : World) (base : Nat) (args : Array Value) (ds gs : List (DataW H)) (before : List MemPlace)
    (hval : ∀ (j : Nat) t v, Try.f7.params[j]? = some t → args[j]? = some v → Value.okWide Try.prog W .any base t v)
    (hW : DataW.Whole enc Try.prog Try.f7.params.toList Rows.msgShortSpec.vars false W args.toList ds gs before) (hsz : (DataW.weightsEach Try.prog (Try.f7.params.toList ++ Rows.msgShortSpec.plain.varTypes Try.prog) (ds ++ gs)).all (· ≤ reachBytes) = true) :
    Calls Try.prog 7 args W fun e W' => ∃ v, e = .returned v ∧ Rows.msgShortSpec.post enc Try.prog Try.f7 false true false false W args v W' := by
  have hW' := hW
  obtain ⟨p, q, hA0, hV, rfl, hfz, hnd⟩ := hW
  have hA : DataW.TrodAll enc Try.prog W 0 (fun _ => true) true Try.f7.params.toList args.toList ds p := hA0
  rw [Try.params7] at hA hval hsz
  obtain ⟨v0, v1, d0, d1, p0, p1, rfl, rfl, rfl, h0, h1⟩ := trodAll_two hA
  obtain ⟨rfl, rfl⟩ := trodVars_none hV
  obtain ⟨ak, ans, ats, avn, avt, rfl, ahk, av, avt2, ahx, aw⟩ := open_msg (hval 0 25 v0 rfl rfl) h0
  have ahts : ∀ t ∈ ats, t.length ≤ 140737488351232 := fun t ht => by
    have h := List.all_eq_true.1 hsz _ (DataW.weights_mem_each (j := 0) (t := 25) rfl rfl t.length (aw t ht))
    have hr : reachBytes = 140737488351232 := by decide
    rw [hr] at h
    simpa using h
  obtain ⟨c, rfl, rfl, rfl, wc⟩ := open_int Try.underlying3 (hval 1 3 v1 rfl rfl) h1
  have bc := bounds_i64 wc
  refine (walk ak ahk ans ats ahx ahts avn avt c W av avt2).mono fun e W' ⟨he, hb'⟩ => ?_
  subst he
  exact ⟨_, rfl, Kit.law_post (tb := 4) hW' laid readable rfl (by kernel_rfl) Try.underlying4 rfl rfl rfl hb'⟩

set_option maxRecDepth 100000 in
theorem lifted (os : Os) (started : os.Started) (H : Type) (enc : TypeId × Value → H) :
    ReturnsInHanded {} Try.checked os 7 .any (Rows.msgShortSpec.pre6 enc Try.prog Try.f7 Rows.msgShortRow.domain false) (Rows.msgShortSpec.post enc Try.prog Try.f7 false true false false) := by
  refine returnsInHanded_of_change_sized (C := Try.checked) own started (by kernel_rfl) Try.func7
    (ChangeSpec.witness6 (enc := enc) (C := Try.checked) false ⟨#[], #[.agg #[.int .i64 0, .slice none 0 0, .slice none 0 0], .int .i64 0], []⟩ 8 (by kernel_rfl) (by kernel_rfl) (by kernel_rfl) (by kernel_rfl)) ?_
  intro W base args ds gs before hval hW _ hsz _
  exact contract H enc W base args ds gs before hval hW hsz

theorem proved : Rows.MsgShortSaid :=
  OpenClaim.holds_of_wide 7 Try.f7 rfl rfl rfl rfl rfl rfl rfl ⟨rfl, rfl, rfl, rfl, rfl⟩ rfl rfl rfl rfl rfl (by kernel_rfl) Try.func7 (by kernel_rfl)
    (of_decide_eq_true (by kernel_rfl)) (by unfold Func.isWrapper; first | (rw [if_pos (by decide +kernel)]; kernel_rfl) | (rw [if_neg (by decide +kernel)]; exact ⟨rfl, rfl⟩))
    (fun os started H enc _ => lifted os started H enc)
end Go.Proofs.Ytnbjlhbaeghihaa.mshort
