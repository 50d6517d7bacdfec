/-
  The laws' fixed.
-/
import Derived.Test.YtllbcnficlbobaaMerG
import Derived.Test.YtllbcnficlbobaaMerH
import Derived.Test.YtllbcnficlbobaaMerJ
import Derived.Test.YtllbcnficlbobaaMerL
namespace Go.Proofs.Ytllbcnficlbobaa
open Go.RowKit
open Ideal Ida Mer
open Go.Lib (uvarint uvarint_small)

namespace Mera
def tn : ByteArray := ⟨#[110, 111, 100, 101, 5, 6]⟩
theorem tn_is : nodeT 5 6 = tn := by
  unfold nodeT Mer.num
  rw [uvarint_small (by decide), uvarint_small (by decide)]
  rfl
def K0 : Or := Or.new [5, 6, 7]
def A0 : Or := K0.asks (botT [sa] 2)
def B0 : Or := A0.ask (qh tn)
theorem u0 : upT [5, 6] = [tn] := by
  show [nodeT 5 6] = _
  rw [tn_is]
theorem l0 : K0.lv [sa] 1 0 = (A0, [5, 6]) := Prod.ext rfl (by decide +kernel)
theorem l1 : K0.lv [sa] 1 1 = (B0, [7]) := by
  show ((K0.lv [sa] 1 0).1.asks (upT (K0.lv [sa] 1 0).2), (K0.lv [sa] 1 0).1.vals (upT (K0.lv [sa] 1 0).2)) = _
  rw [l0]
  simp only
  rw [u0]
  exact Prod.ext rfl (by decide +kernel)
theorem ft : K0.tree [sa] 1 = [[5, 6], [7]] := by
  unfold Or.tree
  simp [List.range_succ, l0, l1]
theorem fb : K0.built [sa] 1 = B0 := by
  unfold Or.built
  rw [l1]
theorem fp : path [[5, 6], [7]] 0 = [6] := by decide
theorem fc : (B0.ask (qh (leafT sa))).climb (B0.val (qh (leafT sa))) 0 [6] = (7, B0) := by
  have h1 : B0.get (qh (leafT sa)) = some 5 := by decide +kernel
  have h2 : B0.get (qh tn) = some 7 := by decide +kernel
  rw [Or.ask_of_get h1, Or.val_of_get h1]
  show (B0.ask (qh (nodeT 5 6)), (B0.val (qh (nodeT 5 6)))).swap = _
  rw [tn_is, Or.ask_of_get h2, Or.val_of_get h2]
  rfl
theorem fsh : shaped [[5, 6], [7]] = true := by decide
theorem ff : B0.fits [[5, 6], [7]] = (true, B0) := by
  have h2 : B0.get (qh tn) = some 7 := by decide +kernel
  unfold Or.fits
  rw [if_pos fsh]
  show B0.cmp ((upT [5, 6]).zip [7] ++ []) = _
  rw [u0]
  show (if B0.val (qh tn) = 7 then (true, B0.ask (qh tn)) else (false, B0.ask (qh tn))) = _
  rw [Or.val_of_get h2, Or.ask_of_get h2]
  rfl
theorem fr : B0.rows.length = 3 := by decide +kernel
theorem lit_tree (S : Nat → Prop) (w : World) (hs : ∀ i, w.heap.size ≤ i → ¬ S i) : Kit.Tr S (((w.alloc (.cells #[.int .u64 5, .int .u64 6] 42)).alloc (.cells #[.int .u64 7] 42)).alloc (.cells #[.slice (some ⟨w.heap.size, 0, none⟩) 2 2, .slice (some ⟨w.heap.size + 1, 0, none⟩) 1 1] 22)) (.slice (some ⟨w.heap.size + 1 + 1, 0, none⟩) 2 2) [[5, 6], [7]] := by
  have h1 := Kit.Off.lit (S := S) w (nums [5, 6]) 42 (hs _ (Nat.le_refl _)) (by decide)
  have h2 := Kit.Off.lit (S := S) (w.alloc (.cells #[.int .u64 5, .int .u64 6] 42)) (nums [7]) 42 (hs _ (by simp)) (by decide)
  have h3 := Kit.Off.lit (S := S) ((w.alloc (.cells #[.int .u64 5, .int .u64 6] 42)).alloc (.cells #[.int .u64 7] 42)) [.slice (some ⟨w.heap.size, 0, none⟩) 2 2, .slice (some ⟨w.heap.size + 1, 0, none⟩) 1 1] 22 (hs _ (by simp; omega)) (by show 2 ≤ maxLen; decide)
  rw [World.size_alloc] at h2
  rw [World.size_alloc, World.size_alloc] at h3
  have b1 := Below.refl w.heap.size w
  refine ⟨_, h3, rfl, fun k x l hx hl => ?_⟩
  match k, hx, hl with
  | 0, hx, hl =>
    simp at hx hl
    subst hx
    subst hl
    exact (h1.below ((Below.refl _ _).alloc (Nat.le_refl _) _)).below ((Below.refl _ _).alloc (Nat.le_refl _) _)
  | 1, hx, hl =>
    simp at hx hl
    subst hx
    subst hl
    exact h2.below ((Below.refl _ _).alloc (Nat.le_refl _) _)
  | k + 2, hx, hl => simp at hx

set_option maxRecDepth 100000 in
set_option maxHeartbeats 8000000 in
theorem fixed_any (w : World) : Calls Try.prog 13 #[] w fun e w' => e = .returned (.bool true) ∧ Below w.heap.size w w' := by
  have s0 := laid_sl w [5, 6, 7] 42
  have c0 := below_lit w (.cells #[.int .u64 5, .int .u64 6, .int .u64 7] 42)
  have HN := new_any [5, 6, 7] (by decide) (by decide) _ _ s0
  have e97 : (⟨#[97]⟩ : ByteArray) = sa := rfl
  go_enter Try.func13, Try.ntmps13
  go_wp2_with fail
  refine HN.mono ?_
  rintro x w1 ⟨L, rfl, h, hin, b1⟩
  have c := c0.trans (b1.mono c0.size)
  have hinL : L.within w.heap.size w1.heap.size := hin.wider c0.size (Nat.le_refl _)
  have hw : ∀ i, L.own i → w.heap.size ≤ i := fun i hi => (hinL.own i hi).1
  have h : Orc w1 L K0 := h
  have hown : ∀ i, L.own i → i < w1.heap.size := fun i hi => h.lt hi
  clear s0 c0 b1 HN hin hinL
  -- the first tree
  have la := Kit.Off.lit (S := L.own) w1 (strs [sa]) 9 (fun ho => Nat.lt_irrefl _ (h.lt ho)) (by decide)
  have ha := h.alloc (.cells #[.string sa] 9)
  have HB := build_yes ha (by show K0.rows.length + 1024 < _; decide) 1 (by decide) [sa] (by decide) (by decide) _ la
  rw [ft, fb] at HB
  have c1 := c.trans ((below_lit w1 (.cells #[.string sa] 9)).mono c.size)
  clear la ha c
  go_wp2_with fail
  refine HB.mono ?_
  rintro x w2 ⟨vt, rfl, ht, h2, b2⟩
  have z2 : w1.heap.size < w2.heap.size := by have := b2.size; simp at this; omega
  replace ht := ht.weak (S' := L.own) (fun i _ hi => by have := hown i hi; simp; omega)
  have c2 := c1.trans (b2.below c1.size hw)
  clear HB b2 c1 h
  have HP := path_yes [[5, 6], [7]] fsh 0 (by decide) vt w2 ht
  rw [fp] at HP
  go_wp2_with fail
  refine HP.mono ?_
  rintro x w3 ⟨vp, rfl, hp, b3⟩
  replace hp := Kit.Off.of_own (S := L.own) hp (fun i hi => by have := hown i hi; omega)
  replace ht := ht.below b3
  replace h2 := h2.below b3
  have c3 := c2.trans (b3.mono c2.size)
  clear HP b3 c2
  have HC := climb_yes h2 (by rw [fr]; decide) sa (by decide) 0 [6] (by decide) (by decide) (by decide) vp hp
  rw [fc] at HC
  go_wp2_with fail
  refine HC.mono ?_
  rintro x w4 ⟨rfl, h4, b4⟩
  replace hp := hp.but b4
  replace ht := ht.but b4
  have c4 := c3.trans (b4.below c3.size hw)
  clear HC b4 c3 h2
  -- too many leaves
  have lc := (Kit.Off.lit (S := fun _ => False) w4 (strs [sa, sb, ⟨#[99]⟩]) 9 (fun ho => ho) (by decide)).rd
  have hB := below_lit w4 (.cells #[.string sa, .string sb, .string ⟨#[99]⟩] 9)
  have HB := build_no (h4.below hB) 1 (by decide) (by decide) [sa, sb, ⟨#[99]⟩] (by decide) _ lc
  go_wp2_with fail
  refine HB.mono ?_
  rintro x w5 ⟨rfl, b5⟩
  replace hp := (hp.below hB).below b5
  replace ht := (ht.below hB).below b5
  replace h4 := (h4.below hB).below b5
  have c5 := (c4.trans (hB.mono c4.size)).trans (b5.mono (c4.trans (hB.mono c4.size)).size)
  clear HB b5 hB lc c4
  -- the test
  have lt := lit_tree (fun _ => False) w5 (fun _ _ hf => hf)
  have b6 : Below w5.heap.size w5 (((w5.alloc (.cells #[.int .u64 5, .int .u64 6] 42)).alloc (.cells #[.int .u64 7] 42)).alloc (.cells #[.slice (some ⟨w5.heap.size, 0, none⟩) 2 2, .slice (some ⟨w5.heap.size + 1, 0, none⟩) 1 1] 22)) := (((Below.refl _ w5).alloc (Nat.le_refl _) _).alloc (by simp) _).alloc (by simp; omega) _
  have HI := is_any [[5, 6], [7]] [[5, 6], [7]] vt _ _ (ht.below b6) lt
  rw [decide_eq_true rfl] at HI
  go_wp2_with fail
  refine HI.mono ?_
  rintro x w6 ⟨rfl, b7⟩
  have b8 := b6.trans (b7.mono b6.size)
  replace hp := hp.below b8
  replace ht := ht.below b8
  replace h4 := h4.below b8
  have c6 := c5.trans (b8.mono c5.size)
  clear HI b7 b8 b6 lt c5
  have ln := lit_rd w6 [6] 42
  have b9 := below_lit w6 (.cells #[.int .u64 6] 42)
  have HM := nums_is [6] [6] (by decide) vp _ _ (hp.below b9).rd ln
  rw [decide_eq_true rfl] at HM
  go_wp2_with fail
  refine HM.mono ?_
  rintro x w7 ⟨rfl, b10⟩
  replace ht := (ht.below b9).below b10
  replace h4 := (h4.below b9).below b10
  have c7 := (c6.trans (b9.mono c6.size)).trans (b10.mono (c6.trans (b9.mono c6.size)).size)
  clear HM b9 b10 ln hp c6
  have HF := fits_any h4 (by rw [fr]; decide) [[5, 6], [7]] (fun k x hx => by
    have : ∀ l ∈ [[5, 6], [7]], ∀ x ∈ l, x < 18446744073709551616 := by decide
    rw [List.getD_eq_getElem?_getD] at hx
    cases hk : ([[5, 6], [7]] : List (List Nat))[k]? with
    | none => rw [hk] at hx; simp at hx
    | some l => rw [hk] at hx; exact this l (List.mem_of_getElem? hk) x hx) vt ht
  rw [ff] at HF
  clear ht h4
  go_wp2_with fail
  refine HF.mono ?_
  rintro x w8 ⟨rfl, h8, b8⟩
  have c8 := c7.trans (b8.below c7.size hw)
  have HD := o_drawn h8
  rw [fr] at HD
  clear HF b8 c7
  go_wp2_with fail
  refine HD.mono ?_
  rintro x w9 ⟨rfl, b9⟩
  have c9 := c8.trans (b9.mono c8.size)
  clear HD b9 c8
  go_wp2
  go_ret
  exact ⟨rfl, c9⟩
end Mera
end Go.Proofs.Ytllbcnficlbobaa
