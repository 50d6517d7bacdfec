/-
  Package keys: the laws' played and fixed calls; their argument of draws, calls and a key.
-/
import Derived.Test.YtkadkakkaodeeaaKeyA
namespace Go.Proofs.Ytkadkakkaodeeaa
open Go.RowKit Go.Maps
open Go.Lib (uvarint uvarint_length64 uvarint_small)
open Ideal

namespace Kya
open Ida
theorem start_len (l : List Nat) (hx : ∀ x ∈ l, x < 18446744073709551616) (key : Nat) (cl : List Cl) (hl : cl.length ≤ 1000000) : (((Or.new l).meet key).play cl).rows.length ≤ cl.length ∧ (((Or.new l).meet key).play cl).fine := by
  have e : ((Or.new l).meet key).rows.length = 0 := by rw [Or.rows_meet]; rfl
  have h := Or.fine_play cl ((Or.new l).meet key) (Or.fine_meet (Or.fine_new hx) key) (by omega)
  exact ⟨by have := h.2; omega, h.1⟩
theorem start_take (l : List Nat) (hx : ∀ x ∈ l, x < 18446744073709551616) (key : Nat) (cl : List Cl) : (((Or.new l).meet key).play (cl.take 200)).rows.length ≤ 200 := by
  have h := (start_len l hx key (cl.take 200) (by rw [List.length_take]; omega)).1
  rw [List.length_take] at h
  omega
theorem start_inv (l : List Nat) (key : Nat) (cl : List Cl) : (((Or.new l).meet key).play cl).Inv ∧ (((Or.new l).meet key).play cl).Met key :=
  ⟨Or.inv_play _ _ (Or.inv_meet (Or.inv_new l) key), Or.met_play _ _ (Or.met_new l key)⟩

set_option maxRecDepth 100000 in
set_option maxHeartbeats 2000000 in
theorem played_any (l : List Nat) (hl : l.length * 8 ≤ 140737488355328) (hx : ∀ x ∈ l, x < 18446744073709551616) (cl : List Cl) (hcl : ∀ c ∈ cl, CallFine c) (key : Nat) (hkey : key < 18446744073709551616) (v vc : Value) (w : World) (hv : Kit.Sl w v (nums l)) (hvc : Cls w vc cl) :
    Calls Try.prog 9 #[v, vc, .int .u64 (key : Int)] w fun e w' => ∃ L, e = .returned (ptr L) ∧ Orc w' L (((Or.new l).meet key).play (cl.take 200)) ∧ L.within w.heap.size w'.heap.size ∧ Below w.heap.size w w' := by
  have H := new_any l hl hx v w hv
  obtain ⟨a, cap, rfl, _⟩ := id hvc
  clear hv
  go_enter Try.func9, Try.ntmps9
  go_wp2_with fail
  refine H.mono ?_
  rintro e w0 ⟨L, rfl, h0, hin, hb0⟩
  clear H
  go_wp2_with fail
  refine (o_meet h0 key hkey).mono ?_
  rintro e w1 ⟨rfl, h1, b0⟩
  have hb := hb0.trans (b0.below hb0.size (fun i hi => (hin.own i hi).1))
  have hin := hin.wider (Nat.le_refl _) b0.size
  clear h0 hb0 b0
  go_wp2
  go_loopw [8] (fun vi wr => ∃ k : Nat, k ≤ cl.length ∧ k ≤ 200 ∧ vi = .int .i64 (k : Int) ∧ Orc wr L (((Or.new l).meet key).play (cl.take k)) ∧ Below w.heap.size w wr ∧ w1.heap.size ≤ wr.heap.size) (fun vi _ => cl.length - (intOf vi).toNat)
  case atStart => exact ⟨0, Nat.zero_le _, by omega, rfl, h1, hb, Nat.le_refl _⟩
  case round =>
    obtain ⟨k, hk, hk2, rfl, h2, hb2, hs2⟩ := hrel
    have hL : L.within w.heap.size wr.heap.size := hin.wider (Nat.le_refl _) hs2
    have Hin := Lib.hid hin
    have Hcl := Lib.hid hcl
    have Hs := Lib.hid hs2
    have HL := Lib.hid hL
    have Hx := Lib.hid hx
    clear hin hs2 hL h1 hb hcl hx
    by_cases hlt : k < cl.length
    · have hlt1 : (k : Int) < (cl.length : Int) := by omega
      by_cases h200 : k < 200
      · have hlt2 : (k : Int) < 200 := by omega
        have hn : (((Or.new l).meet key).play (cl.take k)).rows.length < 1152921504606846976 := by
          have := (start_len l Hx.out key (cl.take k) (by rw [List.length_take]; omega)).1
          rw [List.length_take] at this
          omega
        have HD := do_any h2 hn cl[k] (Hcl.out _ (List.getElem_mem hlt))
        have hstep : ((Or.new l).meet key).play (cl.take (k + 1)) = (((Or.new l).meet key).play (cl.take k)).step cl[k] := by rw [List.take_succ_eq_append_getElem hlt, Or.play_snoc]
        obtain ⟨ad, rfl, g0, g1, g2, g3, g4, g5⟩ := (hvc.below (hb2.mono (Nat.le_refl _))).at_ (List.getElem?_eq_getElem hlt)
        have Hst := Lib.hid hstep
        generalize cl[k] = c at *
        unfold callCells at HD
        generalize ((Or.new l).meet key).play (cl.take k) = O at *
        clear hn hstep hvc
        go_wp2_with fail
        refine HD.mono ?_
        rintro e w3 ⟨rfl, h3, b3⟩
        have hb3 := b3.below hb2.size (fun i hi => (HL.out.own i hi).1)
        have hb4 := hb2.trans hb3
        have hs3 := b3.size
        clear HD g0 g1 g2 g3 g4 g5 h2
        go_wp2
        go_roundw
        case rel => exact ⟨k + 1, by omega, by omega, by go_num, by rw [Hst.out]; exact h3, hb4, Nat.le_trans Hs.out hs3⟩
        case measure => simp [intOf]; omega
      · obtain rfl : k = 200 := by omega
        have hb5 := hb2
        clear hlt h200
        go_wp2
        go_ret
        exact ⟨L, rfl, h2, HL.out, hb2⟩
    · obtain rfl : k = cl.length := by omega
      have hd1 : decide ((cl.length : Int) < (cl.length : Int)) = false := by rw [decide_eq_false_iff_not]; omega
      have ht : cl.take 200 = cl.take cl.length := by rw [List.take_length, List.take_of_length_le hk2]
      have Ht := Lib.hid ht
      clear ht hlt
      go_wp2
      go_ret
      exact ⟨L, rfl, by rw [Ht.out]; exact h2, HL.out, hb2⟩

def t5 : ByteArray := ⟨#[107, 101, 121, 5]⟩
def t6 : ByteArray := ⟨#[107, 101, 121, 6]⟩
theorem kt5 : kt 5 = t5 := by unfold kt; rw [uvarint_small (by decide)]; rfl
theorem kt6 : kt 6 = t6 := by unfold kt; rw [uvarint_small (by decide)]; rfl
def K0 : Or := Or.new [7, 9]
def K1 : Or := K0.derive 1 [5]
def K2 : Or := K1.derive 1 [5, 6]
theorem k1 : K0.key 1 [5] = 7 := by
  show K0.val (qm 1 (kt 5)) = 7
  rw [kt5]
  decide +kernel
theorem K1_is : K1 = K0.ask (qm 1 t5) := by
  show K0.ask (qm 1 (kt 5)) = _
  rw [kt5]
theorem k2 : K1.key 1 [5, 6] = 9 := by
  show (K1.ask (qm 1 (kt 5))).val (qm (K1.val (qm 1 (kt 5))) (kt 6)) = 9
  rw [kt5, kt6, K1_is]
  decide +kernel
theorem K2_is : K2 = ((K0.ask (qm 1 t5)).ask (qm 1 t5)).ask (qm 7 t6) := by
  have e : (K0.ask (qm 1 t5)).val (qm 1 t5) = 7 := by decide +kernel
  show (K1.ask (qm 1 (kt 5))).ask (qm (K1.val (qm 1 (kt 5))) (kt 6)) = _
  rw [kt5, kt6, K1_is, e]
theorem n1 : K0.rows.length = 0 := rfl
theorem n2 : K1.rows.length = 1 := by rw [K1_is]; decide +kernel
theorem n3 : K2.rows.length = 2 := by rw [K2_is]; decide +kernel

set_option maxRecDepth 100000 in
set_option maxHeartbeats 8000000 in
theorem fixed_any (w : World) : Calls Try.prog 8 #[] w fun e w' => e = .returned (.bool true) ∧ Below w.heap.size w w' := by
  have s0 := laid_sl w [7, 9] 24
  have c0 : Below w.heap.size w (w.alloc (.cells #[.int .u64 7, .int .u64 9] 24)) := (Below.refl _ w).alloc (Nat.le_refl _) _
  go_enter Try.func8, Try.ntmps8
  go_wp2_with fail
  refine (new_any [7, 9] (by decide) (by decide) _ _ s0).mono ?_
  rintro e w1 ⟨L, rfl, ho, hin, hb⟩
  have c := c0.trans (hb.mono c0.size)
  have hinL : L.within w.heap.size w1.heap.size := hin.wider c0.size (Nat.le_refl _)
  have sz := c.size
  clear s0 c0 hb hin
  go_wp2_with fail
  refine (derive_any ho 1 (by decide) [] (by decide) (by simp) _ (Kit.Rd.nil_ _) (fun _ => by intro b hb; cases hb)).mono ?_
  rintro e w2 ⟨rfl, h', b⟩
  have c := c.trans (b.below sz (fun i hi => (hinL.own i hi).1))
  have hinL := hinL.wider (Nat.le_refl _) b.size
  have sz := Nat.le_trans sz b.size
  have ho : Orc w2 L K0 := h'
  clear b h'
  have H1 := derive_any (ho.alloc (.cells (nums [5]).toArray 24)) 1 (by decide) [5] (by rw [n1]; decide) (by decide) _ (lit_sl w2 [5] 24) (fun _ => lit_off ho _ _)
  have a1 := alloc_but w2 L.own (.cells (nums [5]).toArray 24)
  rw [k1] at H1
  clear ho
  go_wp2_with fail
  refine H1.mono ?_
  rintro e w3 ⟨rfl, h', b'⟩
  have b := a1.trans b'
  have c := c.trans (b.below sz (fun i hi => (hinL.own i hi).1))
  have hinL := hinL.wider (Nat.le_refl _) b.size
  have sz := Nat.le_trans sz b.size
  have ho : Orc w3 L K1 := h'
  clear b b' a1 h' H1
  have H1 := derive_any (ho.alloc (.cells (nums [5, 6]).toArray 24)) 1 (by decide) [5, 6] (by rw [n2]; decide) (by decide) _ (lit_sl w3 [5, 6] 24) (fun _ => lit_off ho _ _)
  have a1 := alloc_but w3 L.own (.cells (nums [5, 6]).toArray 24)
  rw [k2] at H1
  clear ho
  go_wp2_with fail
  refine H1.mono ?_
  rintro e w4 ⟨rfl, h', b'⟩
  have b := a1.trans b'
  have c := c.trans (b.below sz (fun i hi => (hinL.own i hi).1))
  have ho : Orc w4 L K2 := h'
  clear b b' a1 h' H1 hinL sz
  have HD := o_drawn ho
  rw [n3] at HD
  clear ho
  go_wp2_with fail
  refine HD.mono ?_
  rintro e w5 ⟨rfl, b⟩
  have c := c.trans (b.mono c.size)
  clear b HD
  have HT := text_any 5 (by decide) w5
  rw [kt5] at HT
  have et : t5.toList = (⟨#[107, 101, 121, 5]⟩ : ByteArray).toList := rfl
  go_wp2_with fail
  refine HT.mono ?_
  rintro e w6 ⟨rfl, b⟩
  have c := c.trans (b.mono c.size)
  clear b HT
  go_wp2
  go_ret
  exact ⟨rfl, c⟩
end Kya
end Go.Proofs.Ytkadkakkaodeeaa
