/-
  Package merkle: Leaf, Node, text, join.
-/
import Derived.Test.YtllbcnficlbobaaMerK
import Derived.Test.YtllbcnficlbobaaWalksA
namespace Go.Proofs.Ytllbcnficlbobaa
open Go.RowKit
open Go.Lib (uvarint uvarint_length64)
open Ideal Ida Mer

namespace Mera
set_option maxHeartbeats 1000000 in
theorem leaf_any {L : Lay} {O : Or} {w : World} (h : Orc w L O) (hn : O.rows.length < 1152921504606846976) (s : ByteArray) (hs : s.size + 4 ≤ maxLen) :
    Calls Try.prog 27 #[ptr L, .string s] w fun e w' => e = .returned (.int .u64 (O.val (qh (leafT s)) : Int)) ∧ Orc w' L (O.ask (qh (leafT s))) ∧ Kit.But L.own w w' := by
  have hz := leaf_size s
  have H := o_hash h hn (leafT s) (by omega)
  have hm : maxLen = 9223372036854775807 := rfl
  have ht : (9223372036854775807 < (4 : Int) + (s.size : Int)) = False := by simp; omega
  have ht2 : (9223372036854775807 < 4 + s.size) = False := by simp; omega
  have e1 : (⟨#[108, 101, 97, 102]⟩ : ByteArray) ++ s = leafT s := rfl
  rw [← e1] at H ⊢
  generalize O.val (qh (⟨#[108, 101, 97, 102]⟩ ++ s)) = v at *
  generalize O.ask (qh (⟨#[108, 101, 97, 102]⟩ ++ s)) = O2 at *
  clear h hn hz e1 hs hm
  go_enter Try.func27, Try.ntmps27
  go_wp2_with fail
  refine H.mono ?_
  rintro e w1 ⟨rfl, h1, b1⟩
  go_wp2
  go_ret
  exact ⟨rfl, h1, b1⟩

set_option maxRecDepth 100000 in
set_option maxHeartbeats 2000000 in
theorem node_any {L : Lay} {O : Or} {w : World} (h : Orc w L O) (hn : O.rows.length < 1152921504606846976) (a b : Nat) (ha : a < 18446744073709551616) (hb : b < 18446744073709551616) :
    Calls Try.prog 29 #[ptr L, .int .u64 (a : Int), .int .u64 (b : Int)] w fun e w' => e = .returned (.int .u64 (O.val (qh (nodeT a b)) : Int)) ∧ Orc w' L (O.ask (qh (nodeT a b))) ∧ Kit.But L.own w w' := by
  have HA := fun w => putUint_any a ha w
  have HB := fun w => putUint_any b hb w
  have HH := fun w' (h : Orc w' L O) => o_hash h hn (nodeT a b) (by have := node_size ha hb; unfold maxLen; omega)
  have sa := num_size ha
  have sb := num_size hb
  rw [show nodeT a b = (⟨#[110, 111, 100, 101]⟩ : ByteArray) ++ ⟨(uvarint a).toArray⟩ ++ ⟨(uvarint b).toArray⟩ from rfl] at HH ⊢
  unfold Mer.num at sa sb
  generalize (⟨(uvarint a).toArray⟩ : ByteArray) = ta at *
  generalize (⟨(uvarint b).toArray⟩ : ByteArray) = tb at *
  have f1 : (9223372036854775807 < (4 : Int) + (ta.size : Int)) = False := by simp; omega
  have g1 : (9223372036854775807 < 4 + ta.size) = False := by simp; omega
  have f2 : (9223372036854775807 < (4 : Int) + (ta.size : Int) + (tb.size : Int)) = False := by simp; omega
  have g2 : (9223372036854775807 < 4 + ta.size + tb.size) = False := by simp; omega
  generalize O.val (qh (⟨#[110, 111, 100, 101]⟩ ++ ta ++ tb)) = v at *
  generalize O.ask (qh (⟨#[110, 111, 100, 101]⟩ ++ ta ++ tb)) = O2 at *
  clear hn sa sb ha hb
  go_enter Try.func29, Try.ntmps29
  go_wp2_with fail
  refine (HA _).mono ?_
  rintro e w1 ⟨rfl, b1⟩
  replace h := h.below b1
  have c := Kit.But.of_below b1 (Nat.le_refl _) L.own
  clear b1 HA
  go_wp2_with fail
  refine (HB _).mono ?_
  rintro e w2 ⟨rfl, b2⟩
  replace h := h.below b2
  replace c := c.trans (Kit.But.of_below b2 (Nat.le_refl _) L.own)
  have HX := HH _ h
  clear b2 HB HH h
  go_wp2_with fail
  refine HX.mono ?_
  rintro e w3 ⟨rfl, h, b3⟩
  replace c := c.trans b3
  clear HX b3
  go_wp2
  go_ret
  exact ⟨rfl, h, c⟩

set_option maxHeartbeats 1000000 in
theorem text_any (ls : List ByteArray) (k : Nat) (v : Value) (w : World) (hv : Kit.Rd w v (strs ls)) :
    Calls Try.prog 34 #[v, .int .i64 (k : Int)] w fun e w' => e = .returned (.string (ls.getD k .empty)) ∧ Below w.heap.size w w' := by
  obtain ⟨a, cap, rfl⟩ := hv.form
  rw [show (strs ls).length = ls.length by simp [strs]] at hv ⊢
  by_cases hlt : k < ls.length
  · have hlt2 : (k : Int) < (ls.length : Int) := by omega
    have h0 : (0 : Int) ≤ (k : Int) := by omega
    obtain ⟨ad, rfl, hc⟩ := hv.at_ (k := k) (u := .string (ls.getD k .empty)) (by simp [strs, hlt])
    generalize ls.getD k .empty = t at *
    go_enter Try.func34, Try.ntmps34
    go_wp2
    go_ret
    exact ⟨rfl, Below.refl _ _⟩
  · have hd : decide ((k : Int) < (ls.length : Int)) = false := by rw [decide_eq_false_iff_not]; omega
    have hd2 : decide (k < ls.length) = false := by rw [decide_eq_false_iff_not]; omega
    rw [show ls.getD k .empty = .empty by rw [List.getD_eq_getElem?_getD, List.getElem?_eq_none (by omega)]; rfl]
    clear hlt
    go_enter Try.func34, Try.ntmps34
    go_wp2
    go_ret
    exact ⟨rfl, Below.refl _ _⟩

set_option maxHeartbeats 1000000 in
theorem join_any {L : Lay} {O : Or} {w : World} (h : Orc w L O) (hn : O.rows.length < 1152921504606846976) (j a b : Nat) (ha : a < 18446744073709551616) (hb : b < 18446744073709551616) :
    Calls Try.prog 39 #[ptr L, .int .i64 (j : Int), .int .u64 (a : Int), .int .u64 (b : Int)] w fun e w' => e = .returned (.int .u64 (O.val (qh (joinT j a b)) : Int)) ∧ Orc w' L (O.ask (qh (joinT j a b))) ∧ Kit.But L.own w w' := by
  unfold joinT
  by_cases hj : j % 2 = 0
  · rw [if_pos hj]
    have H := node_any h hn a b ha hb
    have g : ((j : Int) % 2 == 0) = true := by rw [beq_iff_eq]; omega
    have g2 : (j % 2 == 0) = true := by rw [beq_iff_eq]; omega
    generalize O.val (qh (nodeT a b)) = v at *
    generalize O.ask (qh (nodeT a b)) = O2 at *
    clear h hn ha hb
    go_enter Try.func39, Try.ntmps39
    go_wp2_with fail
    refine H.mono ?_
    rintro e w1 ⟨rfl, h1, b1⟩
    go_wp2
    go_ret
    exact ⟨rfl, h1, b1⟩
  · rw [if_neg hj]
    have H := node_any h hn b a hb ha
    have g : ((j : Int) % 2 == 0) = false := by rw [beq_eq_false_iff_ne]; omega
    have g2 : (j % 2 == 0) = false := by rw [beq_eq_false_iff_ne]; omega
    have g3 : j % 2 = 1 := by omega
    generalize O.val (qh (nodeT b a)) = v at *
    generalize O.ask (qh (nodeT b a)) = O2 at *
    clear h hn ha hb hj
    go_enter Try.func39, Try.ntmps39
    go_wp2_with fail
    refine H.mono ?_
    rintro e w1 ⟨rfl, h1, b1⟩
    go_wp2
    go_ret
    exact ⟨rfl, h1, b1⟩
end Mera
end Go.Proofs.Ytllbcnficlbobaa
