/-
  The document's disk: Crash.
-/
import Derived.Test.YtolanlnabdbolaaDskS
import Derived.StillTailTactics
namespace Go.Proofs.Ytolanlnabdbolaa
open Go.RowKit
namespace Dsk

set_option maxRecDepth 100000 in
set_option maxHeartbeats 20000000 in
theorem rCrash_any {w : World} {p : Nat} {K : Nat → Prop} {D : Dk} (h : Ref w p K D) (hl : D.pend.length < 2000) {keep : List Int} {v : Value} (hv : RdK K w v (ints keep)) :
    Calls Try.prog 40 #[.pointer (some ⟨p, 0, none⟩), v] w fun e w' => e = .returned (.tuple #[]) ∧ Ref w' p K (D.crash keep) ∧ Kit.But K w w' := by
  have HK : ∀ k, Dk.keepOf keep D.size k ≤ D.size := fun k => Dk.keepOf_le keep D.size k
  have eD : D.crash keep = D.settle (Dk.keepOf keep D.size) := rfl
  rw [eD]
  clear eD
  obtain ⟨va, vc, rfl⟩ := hv.form
  rw [ints_len] at hv ⊢
  obtain ⟨g, sc, pv, h⟩ := h
  obtain ⟨a, cap, rfl, -, -⟩ := h.form
  generalize hn : D.pend.length = n at *
  go_enter Try.func40, Try.ntmps40
  go_wp2
  go_loopw [4] (fun vi wr => ∃ k : Nat, k ≤ n ∧ vi = .int .i64 (k : Int) ∧ RefAt wr p K ⟨D.size, after (Dk.keepOf keep D.size) D.pend D.safe k, D.pend⟩ g sc (.slice a n cap) ∧ Kit.But K w wr)
    (fun vi _ => n - (intOf vi).toNat)
  case atStart => exact ⟨0, Nat.zero_le _, rfl, h, Kit.But.refl K w⟩
  case round =>
    obtain ⟨k, hk, rfl, hM, hB⟩ := hrel
    have q2 := hM.c2
    by_cases hlt : k < n
    · obtain ⟨x, hx⟩ : ∃ x, D.pend[k]? = some x := ⟨_, List.getElem?_eq_getElem (by omega)⟩
      obtain ⟨q, rfl, hq, hat⟩ := hM.pendAt cellsR_len rfl hx
      have p0 : wr.cell? ⟨q, k * 4, none⟩ = some (.int .i64 0) := hat 0 (by decide)
      have p1 : wr.cell? ⟨q, k * 4 + 1, none⟩ = some (.int .i64 (x.at_ : Int)) := hat 1 (by decide)
      have p2 : wr.cell? ⟨q, k * 4 + 2, none⟩ = some (.string x.text) := hat 2 (by decide)
      have p3 : wr.cell? ⟨q, k * 4 + 3, none⟩ = some (.slice none 0 0) := hat 3 (by decide)
      have q0 := hM.c0
      have hxo := h.ok.pendAt hx
      obtain ⟨cc, hcE⟩ : ∃ cc, Dk.keepOf keep D.size k = cc := ⟨_, rfl⟩
      have es : after (Dk.keepOf keep D.size) D.pend D.safe (k + 1) = (after (Dk.keepOf keep D.size) D.pend D.safe k).set x.at_ (cut x.text ((after (Dk.keepOf keep D.size) D.pend D.safe k).getD x.at_ ⟨#[]⟩) cc) := by rw [← hcE]; exact after_succ hx
      have hck : cc ≤ D.size := by rw [← hcE]; exact HK k
      have h2 := h.ok.z2
      have hsl := after_length (Dk.keepOf keep D.size) D.pend D.safe k
      have hv1 := hv.but hB
      generalize after (Dk.keepOf keep D.size) D.pend D.safe k = SS at *
      have g1 : (k : Int) < (n : Int) := by omega
      have l1 : x.at_ < SS.length := by rw [hsl]; exact hxo.1
      have l2 : (x.at_ : Int) < (SS.length : Int) := by omega
      have oz : (SS.getD x.at_ ⟨#[]⟩).size = D.size := hM.ok.safeAt l1
      have tz : x.text.size = D.size := hxo.2
      have l3 : cc ≤ x.text.size := by omega
      have l4 : cc ≤ (SS.getD x.at_ ⟨#[]⟩).size := by omega
      have l5 : (9223372036854775807 < (SS.getD x.at_ ⟨#[]⟩).size) = False := eq_false (by omega)
      have HZ := Lib.hid (And.intro oz tz)
      have HE := Lib.hid es
      have hkeep : (keep[k]? = none ∧ cc = 0) ∨ (∃ c, keep[k]? = some c ∧ c < 0 ∧ cc = 0) ∨ (∃ c, keep[k]? = some c ∧ ¬ c < 0 ∧ (D.size : Int) < c ∧ cc = D.size) ∨ (∃ c, keep[k]? = some c ∧ ¬ c < 0 ∧ ¬ (D.size : Int) < c ∧ c = (cc : Int)) := by
        rw [← hcE]
        unfold Dk.keepOf
        cases hkk : keep[k]? with
        | none => exact .inl ⟨rfl, rfl⟩
        | some c =>
          dsimp only
          by_cases h1 : c < 0
          · exact .inr (.inl ⟨c, rfl, h1, by rw [if_pos h1]⟩)
          · by_cases h2 : (D.size : Int) < c
            · exact .inr (.inr (.inl ⟨c, rfl, h1, h2, by rw [if_neg h1, if_pos h2]⟩))
            · exact .inr (.inr (.inr ⟨c, rfl, h1, h2, by rw [if_neg h1, if_neg h2]; omega⟩))
      clear h hx es hat hxo hsl oz tz hcE hv
      rcases hkeep with ⟨hkk, rfl⟩ | ⟨c, hkk, hc1, rfl⟩ | ⟨c, hkk, hc1, hc2, rfl⟩ | ⟨c, hkk, hc1, hc2, rfl⟩
      · have hkl : keep.length ≤ k := List.getElem?_eq_none_iff.1 hkk
        have g2 : ¬ (k : Int) < (keep.length : Int) := by omega
        clear hkk hv1
        go_upto_region 11 with (fail)
        clear g2 hkl
        have bn := below_lit wr (.cells #[.int .i64 0, .int .i64 (x.at_ : Int), .string x.text, .slice none 0 0] 44)
        have hM3 := hM.alloc (.cells #[.int .i64 0, .int .i64 (x.at_ : Int), .string x.text, .slice none 0 0] 44)
        have bx3 := Box.new wr #[.int .i64 0, .int .i64 (x.at_ : Int), .string x.text, .slice none 0 0] 44
        have hB3 := hB.trans (Kit.But.of_below bn (Nat.le_refl _) K)
        obtain ⟨w3, hw3⟩ : ∃ w3, w3 = wr.alloc (.cells #[.int .i64 0, .int .i64 (x.at_ : Int), .string x.text, .slice none 0 0] 44) := ⟨_, rfl⟩
        rw [← hw3] at hM3 bx3 hB3 ⊢
        have y1 : w3.drew.cell? ⟨wr.heap.size, 1, none⟩ = some (.int .i64 (x.at_ : Int)) := bx3.drew.cell (j := 1) rfl
        have y2 : w3.drew.cell? ⟨wr.heap.size, 2, none⟩ = some (.string x.text) := bx3.drew.cell (j := 2) rfl
        have c1 := hM3.drew.c1
        have sg := hM3.drew.safeAt (k := x.at_) l1
        have fg := hM3.drew.safeFree x.at_
        have HM3 := Lib.hid (And.intro hM3 hB3)
        clear hM hM3 bx3 hB3 hB p0 p1 p2 p3 q0 q2 bn hw3
        generalize hoo : SS.getD x.at_ ⟨#[]⟩ = o at *
        generalize x.text = tx at *
        generalize x.at_ = ax at *
        go_still_tail 22, (by kernel_rfl)
        change wpList _ _ _ _ _ w3.drew
        have hM5 := HM3.out.1.drew
        have hB5 := HM3.out.2.drew
        generalize w3.drew = w5 at *
        have k1 := hM5.c1
        have k2 := hM5.safeFree ax
        have ect : cut tx o 0 = o := by simp [cut]
        have hst := hM5.store (k := ax) (t := cut tx o 0) (by decide) (by decide) (cut_size HZ.out.2 HZ.out.1 hck)
        have hbt := hB5.setCell (p := ⟨g, ax, none⟩) (fun _ => hM5.kg) (.string (cut tx o 0))
        rw [ect] at hst hbt
        have FF := Lib.hid (And.intro hst hbt)
        have e3 : wrap64 ((k : Int) + 1) = (k : Int) + 1 := by unfold wrap64; omega
        have EC := Lib.hid ect
        clear hM5 hB5 hst hbt ect
        go_wp2
        go_roundw
        case rel => exact ⟨k + 1, hlt, rfl, by rw [HE.out, EC.out]; exact FF.out.1, FF.out.2⟩
        case measure =>
          have l5 : (intOf (.int .i64 ((k : Int) + 1))).toNat = k + 1 := rfl
          have l6 : (intOf (.int .i64 (k : Int))).toNat = k := rfl
          rw [l5, l6]
          clear l5 l6 e3
          omega
      · have hkl : k < keep.length := (List.getElem?_eq_some_iff.1 hkk).1
        have g2 : (k : Int) < (keep.length : Int) := by omega
        obtain ⟨ad, rfl, hkc⟩ := hv1.rd.at_ (ints_at hkk)
        clear hkk hv1
        go_upto_region 11 with (fail)
        clear hkc hc1 hkl g2
        have bn := below_lit wr (.cells #[.int .i64 0, .int .i64 (x.at_ : Int), .string x.text, .slice none 0 0] 44)
        have hM3 := hM.alloc (.cells #[.int .i64 0, .int .i64 (x.at_ : Int), .string x.text, .slice none 0 0] 44)
        have bx3 := Box.new wr #[.int .i64 0, .int .i64 (x.at_ : Int), .string x.text, .slice none 0 0] 44
        have hB3 := hB.trans (Kit.But.of_below bn (Nat.le_refl _) K)
        obtain ⟨w3, hw3⟩ : ∃ w3, w3 = wr.alloc (.cells #[.int .i64 0, .int .i64 (x.at_ : Int), .string x.text, .slice none 0 0] 44) := ⟨_, rfl⟩
        rw [← hw3] at hM3 bx3 hB3 ⊢
        have y1 : w3.drew.cell? ⟨wr.heap.size, 1, none⟩ = some (.int .i64 (x.at_ : Int)) := bx3.drew.cell (j := 1) rfl
        have y2 : w3.drew.cell? ⟨wr.heap.size, 2, none⟩ = some (.string x.text) := bx3.drew.cell (j := 2) rfl
        have c1 := hM3.drew.c1
        have sg := hM3.drew.safeAt (k := x.at_) l1
        have fg := hM3.drew.safeFree x.at_
        have HM3 := Lib.hid (And.intro hM3 hB3)
        clear hM hM3 bx3 hB3 hB p0 p1 p2 p3 q0 q2 bn hw3
        generalize hoo : SS.getD x.at_ ⟨#[]⟩ = o at *
        generalize x.text = tx at *
        generalize x.at_ = ax at *
        go_still_tail 22, (by kernel_rfl)
        change wpList _ _ _ _ _ w3.drew
        have hM5 := HM3.out.1.drew
        have hB5 := HM3.out.2.drew
        generalize w3.drew = w5 at *
        have k1 := hM5.c1
        have k2 := hM5.safeFree ax
        have ect : cut tx o 0 = o := by simp [cut]
        have hst := hM5.store (k := ax) (t := cut tx o 0) (by decide) (by decide) (cut_size HZ.out.2 HZ.out.1 hck)
        have hbt := hB5.setCell (p := ⟨g, ax, none⟩) (fun _ => hM5.kg) (.string (cut tx o 0))
        rw [ect] at hst hbt
        have FF := Lib.hid (And.intro hst hbt)
        have e3 : wrap64 ((k : Int) + 1) = (k : Int) + 1 := by unfold wrap64; omega
        have EC := Lib.hid ect
        clear hM5 hB5 hst hbt ect
        go_wp2
        go_roundw
        case rel => exact ⟨k + 1, hlt, rfl, by rw [HE.out, EC.out]; exact FF.out.1, FF.out.2⟩
        case measure =>
          have l5 : (intOf (.int .i64 ((k : Int) + 1))).toNat = k + 1 := rfl
          have l6 : (intOf (.int .i64 (k : Int))).toNat = k := rfl
          rw [l5, l6]
          clear l5 l6 e3
          omega
      · have hkl : k < keep.length := (List.getElem?_eq_some_iff.1 hkk).1
        have g2 : (k : Int) < (keep.length : Int) := by omega
        obtain ⟨ad, rfl, hkc⟩ := hv1.rd.at_ (ints_at hkk)
        clear hkk hv1
        go_upto_region 11 with (fail)
        clear hkc hc1 hc2 hkl g2
        have bn := below_lit wr (.cells #[.int .i64 0, .int .i64 (x.at_ : Int), .string x.text, .slice none 0 0] 44)
        have hM3 := hM.alloc (.cells #[.int .i64 0, .int .i64 (x.at_ : Int), .string x.text, .slice none 0 0] 44)
        have bx3 := Box.new wr #[.int .i64 0, .int .i64 (x.at_ : Int), .string x.text, .slice none 0 0] 44
        have hB3 := hB.trans (Kit.But.of_below bn (Nat.le_refl _) K)
        obtain ⟨w3, hw3⟩ : ∃ w3, w3 = wr.alloc (.cells #[.int .i64 0, .int .i64 (x.at_ : Int), .string x.text, .slice none 0 0] 44) := ⟨_, rfl⟩
        rw [← hw3] at hM3 bx3 hB3 ⊢
        have y1 : w3.drew.cell? ⟨wr.heap.size, 1, none⟩ = some (.int .i64 (x.at_ : Int)) := bx3.drew.cell (j := 1) rfl
        have y2 : w3.drew.cell? ⟨wr.heap.size, 2, none⟩ = some (.string x.text) := bx3.drew.cell (j := 2) rfl
        have c1 := hM3.drew.c1
        have sg := hM3.drew.safeAt (k := x.at_) l1
        have fg := hM3.drew.safeFree x.at_
        have HM3 := Lib.hid (And.intro hM3 hB3)
        clear hM hM3 bx3 hB3 hB p0 p1 p2 p3 q0 q2 bn hw3
        generalize hoo : SS.getD x.at_ ⟨#[]⟩ = o at *
        generalize x.text = tx at *
        generalize x.at_ = ax at *
        go_still_tail 22, (by kernel_rfl)
        change wpList _ _ _ _ _ w3.drew
        have hM5 := HM3.out.1.drew
        have hB5 := HM3.out.2.drew
        generalize w3.drew = w5 at *
        have k1 := hM5.c1
        have k2 := hM5.safeFree ax
        have ect : cut tx o D.size = tx.extract 0 D.size ++ o.extract D.size o.size := by rfl
        have hst := hM5.store (k := ax) (t := cut tx o D.size) (by decide) (by decide) (cut_size HZ.out.2 HZ.out.1 hck)
        have hbt := hB5.setCell (p := ⟨g, ax, none⟩) (fun _ => hM5.kg) (.string (cut tx o D.size))
        rw [ect] at hst hbt
        have FF := Lib.hid (And.intro hst hbt)
        have e3 : wrap64 ((k : Int) + 1) = (k : Int) + 1 := by unfold wrap64; omega
        have EC := Lib.hid ect
        clear hM5 hB5 hst hbt ect
        go_wp2
        go_roundw
        case rel => exact ⟨k + 1, hlt, rfl, by rw [HE.out, EC.out]; exact FF.out.1, FF.out.2⟩
        case measure =>
          have l5 : (intOf (.int .i64 ((k : Int) + 1))).toNat = k + 1 := rfl
          have l6 : (intOf (.int .i64 (k : Int))).toNat = k := rfl
          rw [l5, l6]
          clear l5 l6 e3
          omega
      · have hkl : k < keep.length := (List.getElem?_eq_some_iff.1 hkk).1
        have g2 : (k : Int) < (keep.length : Int) := by omega
        obtain ⟨ad, rfl, hkc⟩ := hv1.rd.at_ (ints_at hkk)
        clear hkk hv1
        go_upto_region 11 with (fail)
        clear hkc hc1 hc2 hkl g2
        have bn := below_lit wr (.cells #[.int .i64 0, .int .i64 (x.at_ : Int), .string x.text, .slice none 0 0] 44)
        have hM3 := hM.alloc (.cells #[.int .i64 0, .int .i64 (x.at_ : Int), .string x.text, .slice none 0 0] 44)
        have bx3 := Box.new wr #[.int .i64 0, .int .i64 (x.at_ : Int), .string x.text, .slice none 0 0] 44
        have hB3 := hB.trans (Kit.But.of_below bn (Nat.le_refl _) K)
        obtain ⟨w3, hw3⟩ : ∃ w3, w3 = wr.alloc (.cells #[.int .i64 0, .int .i64 (x.at_ : Int), .string x.text, .slice none 0 0] 44) := ⟨_, rfl⟩
        rw [← hw3] at hM3 bx3 hB3 ⊢
        have y1 : w3.drew.cell? ⟨wr.heap.size, 1, none⟩ = some (.int .i64 (x.at_ : Int)) := bx3.drew.cell (j := 1) rfl
        have y2 : w3.drew.cell? ⟨wr.heap.size, 2, none⟩ = some (.string x.text) := bx3.drew.cell (j := 2) rfl
        have c1 := hM3.drew.c1
        have sg := hM3.drew.safeAt (k := x.at_) l1
        have fg := hM3.drew.safeFree x.at_
        have HM3 := Lib.hid (And.intro hM3 hB3)
        clear hM hM3 bx3 hB3 hB p0 p1 p2 p3 q0 q2 bn hw3
        generalize hoo : SS.getD x.at_ ⟨#[]⟩ = o at *
        generalize x.text = tx at *
        generalize x.at_ = ax at *
        go_still_tail 22, (by kernel_rfl)
        change wpList _ _ _ _ _ w3.drew
        have hM5 := HM3.out.1.drew
        have hB5 := HM3.out.2.drew
        generalize w3.drew = w5 at *
        have k1 := hM5.c1
        have k2 := hM5.safeFree ax
        have ect : cut tx o cc = tx.extract 0 cc ++ o.extract cc o.size := by rfl
        have hst := hM5.store (k := ax) (t := cut tx o cc) (by decide) (by decide) (cut_size HZ.out.2 HZ.out.1 hck)
        have hbt := hB5.setCell (p := ⟨g, ax, none⟩) (fun _ => hM5.kg) (.string (cut tx o cc))
        rw [ect] at hst hbt
        have FF := Lib.hid (And.intro hst hbt)
        have e3 : wrap64 ((k : Int) + 1) = (k : Int) + 1 := by unfold wrap64; omega
        have EC := Lib.hid ect
        clear hM5 hB5 hst hbt ect
        go_wp2
        go_roundw
        case rel => exact ⟨k + 1, hlt, rfl, by rw [HE.out, EC.out]; exact FF.out.1, FF.out.2⟩
        case measure =>
          have l5 : (intOf (.int .i64 ((k : Int) + 1))).toNat = k + 1 := rfl
          have l6 : (intOf (.int .i64 (k : Int))).toNat = k := rfl
          rw [l5, l6]
          clear l5 l6 e3
          omega
    · obtain rfl : k = n := by omega
      have g1 : ¬ (k : Int) < (k : Int) := by omega
      have hM0 : RefAt wr p K ⟨D.size, after (Dk.keepOf keep D.size) D.pend D.safe k, D.pend⟩ g sc (.slice a k cap) := hM
      have fin := hM0.dropped (by decide)
      have f2 := hM.box.frozen 2
      have finB := hB.setCell (p := ⟨p, 2, none⟩) (fun _ => h.kp) (.slice none 0 0)
      have FF := Lib.hid (And.intro fin finB)
      have HN := Lib.hid hn
      clear h hM hM0 fin finB hB hn HK hk hv
      go_wp2
      go_end0
      exact ⟨rfl, ⟨g, sc, _, by unfold Dk.settle; rw [HN.out]; exact FF.out.1⟩, FF.out.2⟩
end Dsk
end Go.Proofs.Ytolanlnabdbolaa
