/-
  The laws' played: an oracle behind some calls.
-/
import Derived.Test.YtmnemjpikkdhbaaIdE
import Derived.Deep.Slices
namespace Go.Proofs.Ytmnemjpikkdhbaa
open Go.RowKit Go.Maps
open Ideal

namespace Ida
/-- A slice that reads as calls. -/
def Cls (w : World) (v : Value) (cl : List Cl) : Prop :=
  ∃ a cap, v = .slice a cl.length cap ∧ (cl = [] ∨ ∃ ad : Addr, a = some ad ∧ ∀ i c, cl[i]? = some c → ∀ j u, (callCells c)[j]? = some u → w.cell? (ad.add (i * 6 + j)) = some u)
theorem Cls.below {w w' : World} {v : Value} {cl : List Cl} (h : Cls w v cl) (hb : Below w.heap.size w w') : Cls w' v cl := by
  obtain ⟨a, cap, rfl, h⟩ := h
  refine ⟨a, cap, rfl, ?_⟩
  rcases h with h | ⟨ad, rfl, hc⟩
  · exact .inl h
  · exact .inr ⟨ad, rfl, fun i c hi j u hu => by
      have h1 := hc i c hi j u hu
      rw [hb.cell (World.block_lt_of_cell? _ _ h1)]
      exact h1⟩

/-- A call's six cells, as a walk meets them. -/
theorem Cls.at_ {w : World} {a : Option Addr} {n cap k : Nat} {cl : List Cl} (h : Cls w (.slice a n cap) cl) {c : Cl} (hk : cl[k]? = some c) : ∃ ad : Addr, a = some ad ∧
    w.cell? (ad.add (k * 6)) = some (.int .i64 c.d) ∧ w.cell? ⟨(ad.add (k * 6)).block, (ad.add (k * 6)).off + 1, none⟩ = some (.int .u64 (c.key : Int)) ∧ w.cell? ⟨(ad.add (k * 6)).block, (ad.add (k * 6)).off + 2, none⟩ = some (.int .u64 (c.nonce : Int)) ∧
    w.cell? ⟨(ad.add (k * 6)).block, (ad.add (k * 6)).off + 3, none⟩ = some (.int .u64 (c.h : Int)) ∧ w.cell? ⟨(ad.add (k * 6)).block, (ad.add (k * 6)).off + 4, none⟩ = some (.string c.a) ∧ w.cell? ⟨(ad.add (k * 6)).block, (ad.add (k * 6)).off + 5, none⟩ = some (.string c.b) := by
  obtain ⟨a', cap', he, h⟩ := h
  injection he with h1 h2 h3
  subst h1
  rcases h with rfl | ⟨ad, rfl, hc⟩
  · cases hk
  · have hcc := hc k c hk
    have step : ∀ j, (ad.add (k * 6)).add j = ad.add (k * 6 + j) := fun j => Go.Deep.add_add _ _ _
    refine ⟨ad, rfl, hcc 0 _ rfl, ?_, ?_, ?_, ?_, ?_⟩
    · have := hcc 1 _ rfl; rw [← step] at this; exact this
    · have := hcc 2 _ rfl; rw [← step] at this; exact this
    · have := hcc 3 _ rfl; rw [← step] at this; exact this
    · have := hcc 4 _ rfl; rw [← step] at this; exact this
    · have := hcc 5 _ rfl; rw [← step] at this; exact this

set_option maxRecDepth 100000 in
set_option maxHeartbeats 2000000 in
theorem played_any (l : List Nat) (hl : l.length * 8 ≤ 140737488355328) (hx : ∀ x ∈ l, x < 18446744073709551616) (cl : List Cl) (hcl : ∀ c ∈ cl, CallFine c) (v vc : Value) (w : World) (hv : Kit.Sl w v (nums l)) (hvc : Cls w vc cl) :
    Calls Try.prog 18 #[v, vc] w fun e w' => ∃ L, e = .returned (ptr L) ∧ Orc w' L ((Or.new l).play (cl.take 200)) ∧ L.within w.heap.size w'.heap.size ∧ Below w.heap.size w w' := by
  have H := new_any l hl hx v w hv
  obtain ⟨a, cap, rfl, _⟩ := id hvc
  clear hv
  go_enter Try.func18, Try.ntmps18
  go_wp2_with fail
  refine H.mono ?_
  rintro e w1 ⟨L, rfl, h1, hin, hb⟩
  clear H
  go_wp2
  go_loopw [6] (fun vi wr => ∃ k : Nat, k ≤ cl.length ∧ k ≤ 200 ∧ vi = .int .i64 (k : Int) ∧ Orc wr L ((Or.new l).play (cl.take k)) ∧ Below w.heap.size w wr ∧ w1.heap.size ≤ wr.heap.size) (fun vi _ => cl.length - (intOf vi).toNat)
  case atStart => exact ⟨0, Nat.zero_le _, by omega, rfl, h1, hb, Nat.le_refl _⟩
  case round =>
    obtain ⟨k, hk, hk2, rfl, h2, hb2, hs2⟩ := hrel
    have hL : L.within w.heap.size wr.heap.size := hin.wider (Nat.le_refl _) hs2
    have Hin := Lib.hid hin
    have Hcl := Lib.hid hcl
    have Hs := Lib.hid hs2
    have HL := Lib.hid hL
    have Hx := Lib.hid hx
    clear hin hs2 hL h1 hb hcl hx
    by_cases hlt : k < cl.length
    · have hlt1 : (k : Int) < (cl.length : Int) := by omega
      by_cases h200 : k < 200
      · have hlt2 : (k : Int) < 200 := by omega
        have hlen := (Or.fine_play (cl.take k) (Or.new l) (Or.fine_new Hx.out) (by simp [Or.new, List.length_take]; omega)).2
        have hn : ((Or.new l).play (cl.take k)).rows.length < 1000000 := by
          simp only [Or.new, List.length_nil, List.length_take] at hlen
          show ((Or.mk l [] [] 0).play (cl.take k)).rows.length < 1000000
          omega
        have HD := do_any h2 hn cl[k] (Hcl.out _ (List.getElem_mem hlt))
        have hstep : (Or.new l).play (cl.take (k + 1)) = ((Or.new l).play (cl.take k)).step cl[k] := by rw [List.take_succ_eq_append_getElem hlt, Or.play_snoc]
        obtain ⟨ad, rfl, g0, g1, g2, g3, g4, g5⟩ := (hvc.below (hb2.mono (Nat.le_refl _))).at_ (List.getElem?_eq_getElem hlt)
        have Hst := Lib.hid hstep
        generalize cl[k] = c at *
        unfold callCells at HD
        generalize (Or.new l).play (cl.take k) = O at *
        clear hlen hn hstep hvc
        go_wp2_with fail
        refine HD.mono ?_
        rintro e w3 ⟨rfl, h3, b3⟩
        have hb3 := b3.below hb2.size (fun i hi => (HL.out.own i hi).1)
        have hb4 := hb2.trans hb3
        have hs3 := b3.size
        clear HD g0 g1 g2 g3 g4 g5 h2
        go_wp2
        go_roundw
        case rel => exact ⟨k + 1, by omega, by omega, by go_num, by rw [Hst.out]; exact h3, hb4, Nat.le_trans Hs.out hs3⟩
        case measure => simp [intOf]; omega
      · obtain rfl : k = 200 := by omega
        have hb5 := hb2
        clear hlt h200
        go_wp2
        go_ret
        exact ⟨L, rfl, h2, HL.out, hb2⟩
    · obtain rfl : k = cl.length := by omega
      have hd1 : decide ((cl.length : Int) < (cl.length : Int)) = false := by rw [decide_eq_false_iff_not]; omega
      have ht : cl.take 200 = cl.take cl.length := by rw [List.take_length, List.take_of_length_le hk2]
      have Ht := Lib.hid ht
      clear ht hlt
      go_wp2
      go_ret
      exact ⟨L, rfl, by rw [Ht.out]; exact h2, HL.out, hb2⟩
end Ida
end Go.Proofs.Ytmnemjpikkdhbaa
