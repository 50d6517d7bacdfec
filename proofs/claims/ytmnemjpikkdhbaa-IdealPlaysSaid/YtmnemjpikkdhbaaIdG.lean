/-
  The laws' fixed calls.
-/
import Derived.Test.YtmnemjpikkdhbaaIdF
import Derived.Laws.Strings
namespace Go.Proofs.Ytmnemjpikkdhbaa
open Go.RowKit Go.Maps
open Ideal

namespace Ida
theorem Rd_under {w w' : World} {v : Value} {xs : List Value} {B : Nat} (h : Kit.Rd w v xs) (hv : ∀ k, v.ownBlock = some k → k < B) (hb : Below B w w') : Kit.Rd w' v xs := by
  obtain ⟨a, cap, rfl, h⟩ := h
  refine ⟨a, cap, rfl, ?_⟩
  rcases h with h | ⟨ad, rfl, hc⟩
  · exact .inl h
  · refine .inr ⟨ad, rfl, fun j u hu => ?_⟩
    rw [hb.cell (by rw [Kit.add_block]; exact hv _ rfl)]
    exact hc j u hu
/-- An oracle that lies under a block's number stays while what is from there on turns. -/
theorem Orc.under {w w' : World} {L : Lay} {O : Or} {A B : Nat} (h : Orc w L O) (hin : L.within A B) (hb : Below B w w') : Orc w' L O :=
  ⟨h.1.kept (fun i hi => hb.block i (hin.own i hi).2) (Rd_under h.1.dr (fun k hk => (hin.dv k hk).2) hb), h.2⟩
theorem bytes_inj {A B : ByteArray} (h : A.toList = B.toList) : A = B := by
  rw [ByteArray.toList_eq, ByteArray.toList_eq] at h
  exact ByteArray.ext (Array.ext' h)
theorem Orc.drew {w : World} {M : Lay} {O : Or} (h : Orc w M O) : Orc w.drew M O := ⟨h.1.drew, h.2⟩
/-- A slice of numbers that was just laid. -/
theorem laid_sl (w : World) (l : List Nat) (T : TypeId) : Kit.Sl (w.alloc (.cells (nums l).toArray T)) (.slice (some ⟨w.heap.size, 0, none⟩) (nums l).length (nums l).length) (nums l) := by
  refine .inr ⟨_, _, rfl, fun j u hu => ?_⟩
  have hb : (w.alloc (.cells (nums l).toArray T)).heap[w.heap.size]? = some (.cells (nums l).toArray T (0, 0)) := (MapKept.heap_alloc w _).1
  have hadd : (⟨w.heap.size, 0, none⟩ : Addr).add j = ⟨w.heap.size, j, none⟩ := by unfold Addr.add; split <;> simp_all
  rw [hadd, Lib.cell_of_heap hb]
  simpa using hu

def sa : ByteArray := ⟨#[97]⟩
def sb : ByteArray := ⟨#[98]⟩
def F4 : Or := (((Or.new [7, 9]).ask (qh sa)).ask (qh sb)).ask (qh sa)
def G3 : Or := ((Or.new [7, 7]).ask (qh sa)).ask (qh sb)
def H3 : Or := ((Or.new [7]).meet 7).ask (qh sa)
theorem f1 : (Or.new [7, 9]).val (qh sa) = 7 := rfl
theorem f2 : ((Or.new [7, 9]).ask (qh sa)).val (qh sb) = 9 := by decide +kernel
theorem f3 : (((Or.new [7, 9]).ask (qh sa)).ask (qh sb)).val (qh sa) = 7 := by decide +kernel
theorem f4 : F4.next = 9223372036854775810 := by decide +kernel
theorem f5 : (F4.draw q0).bads = 0 := by decide +kernel
theorem f6 : (F4.draw q0).rows.length = 3 := by decide +kernel
theorem f7 : decide (0 < G3.bads) = true := by decide +kernel
theorem f8 : decide (0 < H3.bads) = true := by decide +kernel

set_option maxRecDepth 100000 in
set_option maxHeartbeats 8000000 in
theorem fixed_any (w : World) : Calls Try.prog 9 #[] w fun e w' => e = .returned (.bool true) ∧ Below w.heap.size w w' := by
  have s0 := laid_sl w [7, 9] 29
  have c0 : Below w.heap.size w (w.alloc (.cells #[.int .u64 7, .int .u64 9] 29)) := (Below.refl _ w).alloc (Nat.le_refl _) _
  go_enter Try.func9, Try.ntmps9
  go_wp2_with fail
  refine (new_any [7, 9] (by decide) (by decide) _ _ s0).mono ?_
  rintro e w1 ⟨L, rfl, ho, hin, hb⟩
  have c := c0.trans (hb.mono c0.size)
  have hinL : L.within w.heap.size w1.heap.size := hin.wider c0.size (Nat.le_refl _)
  have sz := c.size
  clear s0 c0 hb hin
  go_wp2_with fail
  refine (o_hash ho (by decide) sa (by decide)).mono ?_
  rintro e w2 ⟨rfl, h', b⟩
  rw [f1]
  have c := c.trans (b.below sz (fun i hi => (hinL.own i hi).1))
  have hinL := hinL.wider (Nat.le_refl _) b.size
  have sz := Nat.le_trans sz b.size
  have ho := h'
  clear b h'
  go_wp2_with fail
  refine (o_hash ho (by decide +kernel) sb (by decide)).mono ?_
  rintro e w3 ⟨rfl, h', b⟩
  rw [f2]
  have c := c.trans (b.below sz (fun i hi => (hinL.own i hi).1))
  have hinL := hinL.wider (Nat.le_refl _) b.size
  have sz := Nat.le_trans sz b.size
  have ho := h'
  clear b h'
  go_wp2_with fail
  refine (o_hash ho (by decide +kernel) sa (by decide)).mono ?_
  rintro e w4 ⟨rfl, h', b⟩
  rw [f3]
  have c := c.trans (b.below sz (fun i hi => (hinL.own i hi).1))
  have hinL := hinL.wider (Nat.le_refl _) b.size
  have sz := Nat.le_trans sz b.size
  have ho := h'
  clear b h'
  go_wp2_with fail
  refine (o_fresh (O := F4) ho (by decide +kernel)).mono ?_
  rintro e w5 ⟨rfl, h', b⟩
  rw [f4]
  have c := c.trans (b.below sz (fun i hi => (hinL.own i hi).1))
  have hinL := hinL.wider (Nat.le_refl _) b.size
  have sz := Nat.le_trans sz b.size
  have ho := h'
  clear b h'
  have hO := Lib.hid ho
  have cO := Lib.hid c
  have iO := Lib.hid hinL
  have sO := Lib.hid sz
  have s0 := laid_sl w5 [7, 7] 29
  have c0 : Below w5.heap.size w5 (w5.alloc (.cells #[.int .u64 7, .int .u64 7] 29)) := (Below.refl _ w5).alloc (Nat.le_refl _) _
  clear ho c hinL sz
  go_wp2_with fail
  refine (new_any [7, 7] (by decide) (by decide) _ _ s0).mono ?_
  rintro e w6 ⟨M, rfl, hp, hin, hb⟩
  have c := c0.trans (hb.mono c0.size)
  have hinM : M.within w5.heap.size w6.heap.size := hin.wider c0.size (Nat.le_refl _)
  have sz := c.size
  clear s0 c0 hb hin
  go_wp2_with fail
  refine (o_hash hp (by decide) sa (by decide)).mono ?_
  rintro e w7 ⟨rfl, h', b⟩
  have c := c.trans (b.below sz (fun i hi => (hinM.own i hi).1))
  have hinM := hinM.wider (Nat.le_refl _) b.size
  have sz := Nat.le_trans sz b.size
  have hp := h'
  clear b h'
  go_wp2_with fail
  refine (o_hash hp (by decide +kernel) sb (by decide)).mono ?_
  rintro e w8 ⟨rfl, h', b⟩
  have c := c.trans (b.below sz (fun i hi => (hinM.own i hi).1))
  have hinM := hinM.wider (Nat.le_refl _) b.size
  have sz := Nat.le_trans sz b.size
  have hp := h'
  clear b h'
  have hO := Lib.hid (hO.out.under iO.out c)
  have cO := Lib.hid (cO.out.trans (c.mono sO.out))
  have iO := Lib.hid (iO.out.wider (Nat.le_refl _) sz)
  have sO := Lib.hid (Nat.le_trans sO.out sz)
  have hP := Lib.hid hp
  have iM := Lib.hid hinM
  have s0 := laid_sl w8 [7] 29
  have c0 : Below w8.heap.size w8 (w8.alloc (.cells #[.int .u64 7] 29)) := (Below.refl _ w8).alloc (Nat.le_refl _) _
  clear hp c hinM sz
  go_wp2_with fail
  refine (new_any [7] (by decide) (by decide) _ _ s0).mono ?_
  rintro e w9 ⟨N, rfl, hq, hin, hb⟩
  have c := c0.trans (hb.mono c0.size)
  have hinN : N.within w8.heap.size w9.heap.size := hin.wider c0.size (Nat.le_refl _)
  have sz := c.size
  clear s0 c0 hb hin
  go_wp2_with fail
  refine (o_meet hq 7 (by decide)).mono ?_
  rintro e w10 ⟨rfl, h', b⟩
  have c := c.trans (b.below sz (fun i hi => (hinN.own i hi).1))
  have hinN := hinN.wider (Nat.le_refl _) b.size
  have sz := Nat.le_trans sz b.size
  have hq := h'
  clear b h'
  go_wp2_with fail
  refine (o_hash hq (by decide) sa (by decide)).mono ?_
  rintro e w11 ⟨rfl, h', b⟩
  have c := c.trans (b.below sz (fun i hi => (hinN.own i hi).1))
  have hinN := hinN.wider (Nat.le_refl _) b.size
  have sz := Nat.le_trans sz b.size
  have hq := h'
  clear b h'
  have hO := hO.out.under iO.out c
  have hP := hP.out.under iM.out c
  have cO := Lib.hid (cO.out.trans (c.mono sO.out))
  clear c hinN sz iO sO iM
  have B1 := fun w (h : Orc w L (F4.draw q0)) => o_bad h
  have B2 := fun w (h : Orc w L (F4.draw q0)) => o_drawn h
  have B3 := fun w (h : Orc w M G3) => o_bad h
  have B4 := fun w (h : Orc w N H3) => o_bad h
  simp only [f5, f6, f7, f8] at B1 B2 B3 B4
  go_wp2_with fail
  refine (B1 _ hO).mono ?_
  rintro e w12 ⟨rfl, b⟩
  have hO := hO.below b
  have hP := hP.below b
  have hq := Orc.below hq b
  have cO := Lib.hid (cO.out.trans (b.mono cO.out.size))
  clear b
  go_wp2_with fail
  refine (B2 _ hO).mono ?_
  rintro e w13 ⟨rfl, b⟩
  have hO := hO.below b
  have hP := hP.below b
  have hq := Orc.below hq b
  have cO := Lib.hid (cO.out.trans (b.mono cO.out.size))
  clear b
  go_wp2_with fail
  refine (B3 _ hP).mono ?_
  rintro e w14 ⟨rfl, b⟩
  have hq := Orc.below hq b
  have cO := Lib.hid (cO.out.trans (b.mono cO.out.size))
  clear b
  go_wp2_with fail
  refine (B4 _ hq).mono ?_
  rintro e w15 ⟨rfl, b⟩
  have cO := Lib.hid (cO.out.trans (b.mono cO.out.size))
  clear b
  go_wp2
  go_ret
  exact ⟨rfl, cO.out⟩
end Ida
end Go.Proofs.Ytmnemjpikkdhbaa
