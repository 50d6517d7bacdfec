/-
  The document's Load, Begin.
-/
import Derived.Test.YtolanlnabdbolaaSltE
import Derived.Test.YtolanlnabdbolaaDskU
namespace Go.Proofs.Ytolanlnabdbolaa
open Go.RowKit
namespace Slt
open Dsk

set_option maxRecDepth 100000 in
set_option maxHeartbeats 2000000 in
theorem rLoad_any {w : World} {p : Nat} {K : Nat → Prop} {D : Dk} (h : Ref w p K D) (hl : D.pend.length < 2000) (a b : Int) :
    Calls Try.prog 23 #[.pointer (some ⟨p, 0, none⟩), .int .i64 a, .int .i64 b] w fun e w' => e = .returned (.tuple #[.int .u64 ((load D a b).1 : Int), .string (load D a b).2]) ∧ Below w.heap.size w w' := by
  have HA := rRead_any h hl a
  have HB := fun w (h : Ref w p K D) => rRead_any h hl b
  have HN := fun w => rNewest_any (D.read a).1 (D.read b).1 w
  have e : nw (un (D.read a).1) (un (D.read b).1) = new D a b := rfl
  have e2 : load D a b = (new D a b).2 := rfl
  rw [e] at HN
  rw [e2]
  have FH := Lib.hid h
  clear e e2 h
  generalize (D.read a).1 = ta at *
  generalize (D.read a).2 = ya at *
  generalize (D.read b).1 = tb at *
  generalize (D.read b).2 = yb at *
  generalize new D a b = x at *
  obtain ⟨k, n, t⟩ := x
  go_enter Try.func23, Try.ntmps23
  go_wp2_with fail
  refine HA.mono ?_
  rintro e w1 ⟨rfl, b1⟩
  go_wp2_with fail
  refine (HB _ (FH.out.below b1)).mono ?_
  rintro e w2 ⟨rfl, b2⟩
  have c2 := b1.trans (b2.mono b1.size)
  go_wp2_with fail
  refine (HN _).mono ?_
  rintro e w3 ⟨rfl, b3⟩
  have c3 := c2.trans (b3.mono c2.size)
  go_wp2
  go_ret2
  exact ⟨rfl, c3⟩

theorem read_ok (D : Dk) (a : Int) : (D.read a).2 = D.there a := by
  unfold Dk.read
  split
  · rename_i h; rw [h]
  · rename_i h; exact (by simpa using h : D.there a = false).symm

set_option maxRecDepth 100000 in
set_option maxHeartbeats 4000000 in
theorem rBegin_any {w : World} {p : Nat} {K : Nat → Prop} {D : Dk} (h : Ref w p K D) (hl : D.pend.length < 900) (a b : Int) (t : ByteArray) :
    Calls Try.prog 17 #[.pointer (some ⟨p, 0, none⟩), .int .i64 a, .int .i64 b, .string t] w fun e w' => e = .returned (.bool (can D a b t)) ∧ ∃ K', Ref w' p K' (begin_ D a b t) ∧ Step K w K' w' := by
  have HA := rRead_any h (by omega) a
  have HB := fun w (h : Ref w p K D) => rRead_any h (by omega) b
  rw [read_ok] at HA
  simp only [read_ok] at HB
  have HN := fun w => rNewest_any (D.read a).1 (D.read b).1 w
  rw [show nw (un (D.read a).1) (un (D.read b).1) = new D a b from rfl] at HN
  have hlt := load_lt D a b
  have hn : (new D a b).2.1 = (load D a b).1 := rfl
  have hok := h.ok
  have z1 := hok.z1
  have z2 := hok.z2
  have FH := Lib.hid h
  have HC := fun w' (h' : Below w.heap.size w w') => (show ∃ g sc pv, RefAt w' p K D g sc pv from FH.out.below h')
  by_cases ha : D.there a = true
  · by_cases hb : D.there b = true
    · by_cases hab : a = b
      · obtain ⟨e1, e2⟩ := can_no (D := D) (a := a) (b := b) (t := t) (fun h => h.1 hab)
        rw [e1, e2]
        subst hab
        rw [ha] at HA HB
        clear e1 e2 h
        generalize (D.read a).1 = ta at *
        go_enter Try.func17, Try.ntmps17
        go_wp2_with fail
        refine HA.mono ?_
        rintro e w1 ⟨rfl, b1⟩
        go_wp2_with fail
        refine (HB _ (FH.out.below b1)).mono ?_
        rintro e w2 ⟨rfl, b2⟩
        have c2 := b1.trans (b2.mono b1.size)
        clear b1 b2
        go_wp2
        go_ret
        exact ⟨rfl, K, FH.out.below c2, Step.below c2 K⟩
      · have g0 : (a == b) = false := by simpa using hab
        rw [hn] at HN
        by_cases hc1 : (load D a b).1 + 1 < 18446744073709551616
        · have HF := fun w => rFrame_any ((load D a b).1 + 1) hc1 t (D.size : Int) w
          have ew : IntKind.u64.wrap (((load D a b).1 : Int) + 1) = (((load D a b).1 + 1 : Nat) : Int) := by rw [wraps_u64 _ (by omega) (by omega)]; rfl
          by_cases hs : t.size + 18 ≤ D.size
          · have hc : can D a b t = true := can_iff.2 ⟨hab, ha, hb, hc1, hs⟩
            have hf : fits ((load D a b).1 + 1) t (D.size : Int) = true := by unfold fits; rw [decide_eq_true_iff]; omega
            have hw := where_there ha hb
            have HW := fun w (h : Ref w p K D) => rWrite_any h (by omega) (where_ D a b) (body ((load D a b).1 + 1) t D.size)
            rw [(write_body hw hs).1, ← begin_is hc] at HW
            rw [frame_good hf] at HF
            rw [show ((D.size : Int)).toNat = D.size from rfl] at HF
            rw [hc]
            rw [ha] at HA
            rw [hb] at HB
            by_cases hq : (new D a b).1 = 1
            · have hwe : where_ D a b = b := by unfold where_; rw [if_pos hq]
              rw [hwe] at HW
              have gq : ((new D a b).1 : Int) = 1 := by omega
              have gn : ((new D a b).1 == 1) = true := by rw [hq]; rfl
              clear hwe hc hf hw hs h ha hb hok hn
              generalize body ((load D a b).1 + 1) t D.size = fr at *
              generalize begin_ D a b t = D2 at *
              generalize (load D a b).1 = n at *
              generalize (new D a b).2.2 = x at *
              rw [hq] at HN
              clear hq
              generalize (new D a b).1 = k at *
              generalize (D.read a).1 = ta at *
              generalize (D.read b).1 = tb at *
              go_enter Try.func17, Try.ntmps17
              go_wp2_with fail
              refine HA.mono ?_
              rintro e w1 ⟨rfl, b1⟩
              go_wp2_with fail
              refine (HB _ (FH.out.below b1)).mono ?_
              rintro e w2 ⟨rfl, b2⟩
              have c2 := b1.trans (b2.mono b1.size)
              clear b1 b2
              go_wp2_with fail
              refine (HN _).mono ?_
              rintro e w3 ⟨rfl, b3⟩
              have c3 := c2.trans (b3.mono c2.size)
              obtain ⟨g, sc, pv, hat⟩ := HC _ c3
              have q0 := hat.c0
              clear c2 b3 HC hat
              go_wp2_with fail
              refine (HF _).mono ?_
              rintro e w4 ⟨rfl, b4⟩
              have c4 := c3.trans (b4.mono c3.size)
              clear q0 c3 b4
              go_wp2_with fail
              refine (HW _ (FH.out.below c4)).mono ?_
              rintro e w5 ⟨rfl, K5, h5, st⟩
              go_wp2
              go_ret
              exact ⟨rfl, K5, h5, (Step.below c4 K).trans st⟩
            · have hwe : where_ D a b = a := by unfold where_; rw [if_neg hq]
              rw [hwe] at HW
              have gq : (((new D a b).1 : Int) == 1) = false := by rw [beq_eq_false_iff_ne]; omega
              have gn : ((new D a b).1 == 1) = false := by rw [beq_eq_false_iff_ne]; exact hq
              clear hwe hc hf hw hs h ha hb hok hn
              generalize body ((load D a b).1 + 1) t D.size = fr at *
              generalize begin_ D a b t = D2 at *
              generalize (load D a b).1 = n at *
              generalize (new D a b).2.2 = x at *
              clear hq
              generalize (new D a b).1 = k at *
              generalize (D.read a).1 = ta at *
              generalize (D.read b).1 = tb at *
              go_enter Try.func17, Try.ntmps17
              go_wp2_with fail
              refine HA.mono ?_
              rintro e w1 ⟨rfl, b1⟩
              go_wp2_with fail
              refine (HB _ (FH.out.below b1)).mono ?_
              rintro e w2 ⟨rfl, b2⟩
              have c2 := b1.trans (b2.mono b1.size)
              clear b1 b2
              go_wp2_with fail
              refine (HN _).mono ?_
              rintro e w3 ⟨rfl, b3⟩
              have c3 := c2.trans (b3.mono c2.size)
              obtain ⟨g, sc, pv, hat⟩ := HC _ c3
              have q0 := hat.c0
              clear c2 b3 HC hat
              go_wp2_with fail
              refine (HF _).mono ?_
              rintro e w4 ⟨rfl, b4⟩
              have c4 := c3.trans (b4.mono c3.size)
              clear q0 c3 b4
              go_wp2_with fail
              refine (HW _ (FH.out.below c4)).mono ?_
              rintro e w5 ⟨rfl, K5, h5, st⟩
              go_wp2
              go_ret
              exact ⟨rfl, K5, h5, (Step.below c4 K).trans st⟩
          · obtain ⟨e1, e2⟩ := can_no (D := D) (a := a) (b := b) (t := t) (fun h => hs h.2.2.2.2)
            have hf : fits ((load D a b).1 + 1) t (D.size : Int) = false := by unfold fits; rw [decide_eq_false_iff_not]; omega
            rw [frame_bad hf] at HF
            rw [e1, e2]
            rw [ha] at HA
            rw [hb] at HB
            clear e1 e2 hf hs h ha hb hok hn
            generalize (load D a b).1 = n at *
            generalize (new D a b).2.2 = x at *
            generalize (new D a b).1 = k at *
            generalize (D.read a).1 = ta at *
            generalize (D.read b).1 = tb at *
            go_enter Try.func17, Try.ntmps17
            go_wp2_with fail
            refine HA.mono ?_
            rintro e w1 ⟨rfl, b1⟩
            go_wp2_with fail
            refine (HB _ (FH.out.below b1)).mono ?_
            rintro e w2 ⟨rfl, b2⟩
            have c2 := b1.trans (b2.mono b1.size)
            clear b1 b2
            go_wp2_with fail
            refine (HN _).mono ?_
            rintro e w3 ⟨rfl, b3⟩
            have c3 := c2.trans (b3.mono c2.size)
            obtain ⟨g, sc, pv, hat⟩ := HC _ c3
            have q0 := hat.c0
            clear c2 b3 HC hat
            go_wp2_with fail
            refine (HF _).mono ?_
            rintro e w4 ⟨rfl, b4⟩
            have c4 := c3.trans (b4.mono c3.size)
            clear q0 c3 b4
            go_wp2
            go_ret
            exact ⟨rfl, K, FH.out.below c4, Step.below c4 K⟩
        · obtain ⟨e1, e2⟩ := can_no (D := D) (a := a) (b := b) (t := t) (fun h => hc1 h.2.2.2.1)
          have HF := fun w => rFrame_any 0 (by omega) t (D.size : Int) w
          have ew : IntKind.u64.wrap (((load D a b).1 : Int) + 1) = ((0 : Nat) : Int) := by rw [IntKind.wrap_u64]; omega
          have hf : fits 0 t (D.size : Int) = false := by unfold fits; rw [decide_eq_false_iff_not]; omega
          rw [frame_bad hf] at HF
          rw [e1, e2]
          rw [ha] at HA
          rw [hb] at HB
          clear e1 e2 hf h ha hb hok hn
          generalize (load D a b).1 = n at *
          generalize (new D a b).2.2 = x at *
          generalize (new D a b).1 = k at *
          generalize (D.read a).1 = ta at *
          generalize (D.read b).1 = tb at *
          go_enter Try.func17, Try.ntmps17
          go_wp2_with fail
          refine HA.mono ?_
          rintro e w1 ⟨rfl, b1⟩
          go_wp2_with fail
          refine (HB _ (FH.out.below b1)).mono ?_
          rintro e w2 ⟨rfl, b2⟩
          have c2 := b1.trans (b2.mono b1.size)
          clear b1 b2
          go_wp2_with fail
          refine (HN _).mono ?_
          rintro e w3 ⟨rfl, b3⟩
          have c3 := c2.trans (b3.mono c2.size)
          obtain ⟨g, sc, pv, hat⟩ := HC _ c3
          have q0 := hat.c0
          clear c2 b3 HC hat
          go_wp2_with fail
          refine (HF _).mono ?_
          rintro e w4 ⟨rfl, b4⟩
          have c4 := c3.trans (b4.mono c3.size)
          clear q0 c3 b4
          go_wp2
          go_ret
          exact ⟨rfl, K, FH.out.below c4, Step.below c4 K⟩
    · obtain ⟨e1, e2⟩ := can_no (D := D) (a := a) (b := b) (t := t) (fun h => hb h.2.2.1)
      rw [e1, e2]
      rw [ha] at HA
      rw [show D.there b = false by simpa using hb] at HB
      clear e1 e2 h
      generalize (D.read a).1 = ta at *
      generalize (D.read b).1 = tb at *
      go_enter Try.func17, Try.ntmps17
      go_wp2_with fail
      refine HA.mono ?_
      rintro e w1 ⟨rfl, b1⟩
      go_wp2_with fail
      refine (HB _ (FH.out.below b1)).mono ?_
      rintro e w2 ⟨rfl, b2⟩
      have c2 := b1.trans (b2.mono b1.size)
      clear b1 b2
      go_wp2
      go_ret
      exact ⟨rfl, K, FH.out.below c2, Step.below c2 K⟩
  · obtain ⟨e1, e2⟩ := can_no (D := D) (a := a) (b := b) (t := t) (fun h => ha h.2.1)
    rw [e1, e2]
    rw [show D.there a = false by simpa using ha] at HA
    clear e1 e2 h
    generalize (D.read a).1 = ta at *
    generalize (D.read b).1 = tb at *
    generalize D.there b = yb at *
    go_enter Try.func17, Try.ntmps17
    go_wp2_with fail
    refine HA.mono ?_
    rintro e w1 ⟨rfl, b1⟩
    go_wp2_with fail
    refine (HB _ (FH.out.below b1)).mono ?_
    rintro e w2 ⟨rfl, b2⟩
    have c2 := b1.trans (b2.mono b1.size)
    clear b1 b2
    go_wp2
    go_ret
    exact ⟨rfl, K, FH.out.below c2, Step.below c2 K⟩
end Slt
end Go.Proofs.Ytolanlnabdbolaa
