/-
  Package slot: Begin, Save.
-/
import Derived.Test.YtolanlnabdbolaaSltF
import Derived.Test.YtolanlnabdbolaaDskB
import Derived.Test.YtolanlnabdbolaaDskE
namespace Go.Proofs.Ytolanlnabdbolaa
open Go.RowKit
namespace Slt
open Dsk

set_option maxRecDepth 100000 in
set_option maxHeartbeats 4000000 in
theorem begin_any {w : World} {p : Nat} {K : Nat → Prop} {D : Dk} (h : Mem w p K D) (hl : D.pend.length < 900) (a b : Int) (t : ByteArray) :
    Calls Try.prog 16 #[.pointer (some ⟨p, 0, none⟩), .int .i64 a, .int .i64 b, .string t] w fun e w' => e = .returned (.bool (can D a b t)) ∧ ∃ K', Mem w' p K' (begin_ D a b t) ∧ Step K w K' w' := by
  have HA := shas_any h a
  have HB := shas_any h b
  by_cases hab : a = b
  · obtain ⟨e1, e2⟩ := can_no (D := D) (t := t) (fun h => h.1 hab)
    rw [e1, e2]
    subst hab
    have FH := Lib.hid h
    clear e1 e2 h HA HB
    go_enter Try.func16, Try.ntmps16
    go_wp2
    go_ret
    exact ⟨rfl, K, FH.out, Step.refl _ _⟩
  · have g0 : (a == b) = false := by simpa using hab
    by_cases ha : D.there a = true
    · by_cases hb : D.there b = true
      · have HN := newest_any h (by omega) a b
        have HZ := fun w (h : Mem w p K D) => size_same h
        have hlt := load_lt D a b
        have hn : (new D a b).2.1 = (load D a b).1 := rfl
        have hok := h.ok
        have z1 := hok.z1
        have z2 := hok.z2
        by_cases hc1 : (load D a b).1 + 1 < 18446744073709551616
        · have HF := fun w => frame_any ((load D a b).1 + 1) hc1 t (D.size : Int) w
          have ew : IntKind.u64.wrap (((load D a b).1 : Int) + 1) = (((load D a b).1 + 1 : Nat) : Int) := by rw [wraps_u64 _ (by omega) (by omega)]; rfl
          by_cases hs : t.size + 18 ≤ D.size
          · have hc : can D a b t = true := can_iff.2 ⟨hab, ha, hb, hc1, hs⟩
            have hf : fits ((load D a b).1 + 1) t (D.size : Int) = true := by unfold fits; rw [decide_eq_true_iff]; omega
            have hw := where_there ha hb
            have HW := fun w (h : Mem w p K D) => write_any h (by omega) (where_ D a b) (body ((load D a b).1 + 1) t D.size)
            rw [(write_body hw hs).1, ← begin_is hc] at HW
            rw [frame_good hf] at HF
            rw [hc]
            rw [ha] at HA
            rw [hb] at HB
            rw [show ((D.size : Int)).toNat = D.size from rfl] at HF
            unfold newRes at HN
            rw [hn] at HN
            have FH := Lib.hid h
            by_cases hq : (new D a b).1 = 1
            · have hwe : where_ D a b = b := by unfold where_; rw [if_pos hq]
              rw [decide_eq_true hq] at HN
              rw [hwe] at HW
              clear hq hwe hc hf hw hs h ha hb hok hn hab
              generalize body ((load D a b).1 + 1) t D.size = fr at *
              generalize begin_ D a b t = D2 at *
              generalize (load D a b).1 = n at *
              generalize (new D a b).2.2 = x at *
              go_enter Try.func16, Try.ntmps16
              go_wp2_with fail
              refine HA.mono ?_
              rintro e w1 ⟨rfl, rfl⟩
              go_wp2_with fail
              refine HB.mono ?_
              rintro e w1 ⟨rfl, rfl⟩
              go_wp2_with fail
              refine HN.mono ?_
              rintro e w1 ⟨rfl, b1⟩
              have h1 := FH.out.below b1
              go_wp2_with fail
              refine (HZ _ h1).mono ?_
              rintro e w2 ⟨rfl, rfl⟩
              go_wp2_with fail
              refine (HF _).mono ?_
              rintro e w3 ⟨rfl, b3⟩
              have c3 := b1.trans (b3.mono b1.size)
              have h3 := h1.below b3
              clear h1 b1 b3
              go_wp2_with fail
              refine (HW _ h3).mono ?_
              rintro e w4 ⟨rfl, K4, h4, st⟩
              go_wp2
              go_ret
              exact ⟨rfl, K4, h4, (Step.below c3 K).trans st⟩
            · have hwe : where_ D a b = a := by unfold where_; rw [if_neg hq]
              rw [decide_eq_false hq] at HN
              rw [hwe] at HW
              clear hq hwe hc hf hw hs h ha hb hok hn hab
              generalize body ((load D a b).1 + 1) t D.size = fr at *
              generalize begin_ D a b t = D2 at *
              generalize (load D a b).1 = n at *
              generalize (new D a b).2.2 = x at *
              go_enter Try.func16, Try.ntmps16
              go_wp2_with fail
              refine HA.mono ?_
              rintro e w1 ⟨rfl, rfl⟩
              go_wp2_with fail
              refine HB.mono ?_
              rintro e w1 ⟨rfl, rfl⟩
              go_wp2_with fail
              refine HN.mono ?_
              rintro e w1 ⟨rfl, b1⟩
              have h1 := FH.out.below b1
              go_wp2_with fail
              refine (HZ _ h1).mono ?_
              rintro e w2 ⟨rfl, rfl⟩
              go_wp2_with fail
              refine (HF _).mono ?_
              rintro e w3 ⟨rfl, b3⟩
              have c3 := b1.trans (b3.mono b1.size)
              have h3 := h1.below b3
              clear h1 b1 b3
              go_wp2_with fail
              refine (HW _ h3).mono ?_
              rintro e w4 ⟨rfl, K4, h4, st⟩
              go_wp2
              go_ret
              exact ⟨rfl, K4, h4, (Step.below c3 K).trans st⟩
          · obtain ⟨e1, e2⟩ := can_no (D := D) (a := a) (b := b) (t := t) (fun h => hs h.2.2.2.2)
            have hf : fits ((load D a b).1 + 1) t (D.size : Int) = false := by unfold fits; rw [decide_eq_false_iff_not]; omega
            rw [frame_bad hf] at HF
            rw [e1, e2]
            rw [ha] at HA
            rw [hb] at HB
            unfold newRes at HN
            rw [hn] at HN
            have FH := Lib.hid h
            clear e1 e2 hf hs h ha hb hok hn hab
            generalize (load D a b).1 = n at *
            generalize (new D a b).2.2 = x at *
            generalize decide ((new D a b).1 = 1) = y at *
            go_enter Try.func16, Try.ntmps16
            go_wp2_with fail
            refine HA.mono ?_
            rintro e w1 ⟨rfl, rfl⟩
            go_wp2_with fail
            refine HB.mono ?_
            rintro e w1 ⟨rfl, rfl⟩
            go_wp2_with fail
            refine HN.mono ?_
            rintro e w1 ⟨rfl, b1⟩
            have h1 := FH.out.below b1
            go_wp2_with fail
            refine (HZ _ h1).mono ?_
            rintro e w2 ⟨rfl, rfl⟩
            go_wp2_with fail
            refine (HF _).mono ?_
            rintro e w3 ⟨rfl, b3⟩
            have c3 := b1.trans (b3.mono b1.size)
            have h3 := h1.below b3
            clear h1 b1 b3
            go_wp2
            go_ret
            exact ⟨rfl, K, FH.out.below c3, Step.below c3 K⟩
        · obtain ⟨e1, e2⟩ := can_no (D := D) (a := a) (b := b) (t := t) (fun h => hc1 h.2.2.2.1)
          have HF := fun w => frame_any 0 (by omega) t (D.size : Int) w
          have ew : IntKind.u64.wrap (((load D a b).1 : Int) + 1) = ((0 : Nat) : Int) := by rw [IntKind.wrap_u64]; omega
          have hf : fits 0 t (D.size : Int) = false := by unfold fits; rw [decide_eq_false_iff_not]; omega
          rw [frame_bad hf] at HF
          rw [e1, e2]
          rw [ha] at HA
          rw [hb] at HB
          unfold newRes at HN
          rw [hn] at HN
          have FH := Lib.hid h
          clear e1 e2 hf h ha hb hok hn hab
          generalize (load D a b).1 = n at *
          generalize (new D a b).2.2 = x at *
          generalize decide ((new D a b).1 = 1) = y at *
          go_enter Try.func16, Try.ntmps16
          go_wp2_with fail
          refine HA.mono ?_
          rintro e w1 ⟨rfl, rfl⟩
          go_wp2_with fail
          refine HB.mono ?_
          rintro e w1 ⟨rfl, rfl⟩
          go_wp2_with fail
          refine HN.mono ?_
          rintro e w1 ⟨rfl, b1⟩
          have h1 := FH.out.below b1
          go_wp2_with fail
          refine (HZ _ h1).mono ?_
          rintro e w2 ⟨rfl, rfl⟩
          go_wp2_with fail
          refine (HF _).mono ?_
          rintro e w3 ⟨rfl, b3⟩
          have c3 := b1.trans (b3.mono b1.size)
          have h3 := h1.below b3
          clear h1 b1 b3
          go_wp2
          go_ret
          exact ⟨rfl, K, FH.out.below c3, Step.below c3 K⟩
      · obtain ⟨e1, e2⟩ := can_no (D := D) (a := a) (b := b) (t := t) (fun h => hb h.2.2.1)
        rw [e1, e2]
        rw [ha] at HA
        rw [show D.there b = false by simpa using hb] at HB
        have FH := Lib.hid h
        clear e1 e2 h
        go_enter Try.func16, Try.ntmps16
        go_wp2_with fail
        refine HA.mono ?_
        rintro e w1 ⟨rfl, rfl⟩
        go_wp2_with fail
        refine HB.mono ?_
        rintro e w1 ⟨rfl, rfl⟩
        go_wp2
        go_ret
        exact ⟨rfl, K, FH.out, Step.refl _ _⟩
    · obtain ⟨e1, e2⟩ := can_no (D := D) (a := a) (b := b) (t := t) (fun h => ha h.2.1)
      rw [e1, e2]
      rw [show D.there a = false by simpa using ha] at HA
      have FH := Lib.hid h
      clear e1 e2 h
      go_enter Try.func16, Try.ntmps16
      go_wp2_with fail
      refine HA.mono ?_
      rintro e w1 ⟨rfl, rfl⟩
      go_wp2
      go_ret
      exact ⟨rfl, K, FH.out, Step.refl _ _⟩

set_option maxRecDepth 100000 in
set_option maxHeartbeats 4000000 in
theorem save_any {w : World} {p : Nat} {K : Nat → Prop} {D : Dk} (h : Mem w p K D) (hl : D.pend.length < 900) (a b : Int) (t : ByteArray) :
    Calls Try.prog 19 #[.pointer (some ⟨p, 0, none⟩), .int .i64 a, .int .i64 b, .string t] w fun e w' => e = .returned (.bool (can D a b t)) ∧ ∃ K', Mem w' p K' (save D a b t) ∧ Step K w K' w' := by
  have HB := begin_any h hl a b t
  have HF := fun w K (h : Mem w p K (begin_ D a b t)) => flush_any h (by have := pend_begin D a b t; omega)
  by_cases hc : can D a b t = true
  · have e : save D a b t = (begin_ D a b t).flush := by unfold save; rw [if_pos hc]
    rw [e]
    rw [hc] at HB ⊢
    clear e hc h hl
    generalize (begin_ D a b t).flush = D3 at *
    generalize begin_ D a b t = D2 at *
    go_enter Try.func19, Try.ntmps19
    go_wp2_with fail
    refine HB.mono ?_
    rintro e w1 ⟨rfl, K1, h1, s1⟩
    go_wp2_with fail
    refine (HF _ _ h1).mono ?_
    rintro e w2 ⟨rfl, h2, b2⟩
    go_wp2
    go_ret
    exact ⟨rfl, K1, h2, s1.trans ⟨b2, fun _ h => .inl h⟩⟩
  · have e : save D a b t = D := by unfold save; rw [if_neg hc]
    have e2 : begin_ D a b t = D := by unfold begin_; rw [if_neg hc]
    have e3 : can D a b t = false := by simpa using hc
    rw [e]
    rw [e3] at HB ⊢
    rw [e2] at HB
    clear e e2 e3 hc HF h hl
    go_enter Try.func19, Try.ntmps19
    go_wp2_with fail
    refine HB.mono ?_
    rintro e w1 ⟨rfl, K1, h1, s1⟩
    go_wp2
    go_ret
    exact ⟨rfl, K1, h1, s1⟩
end Slt
end Go.Proofs.Ytolanlnabdbolaa
