/-
  Package token: Issue, Check.
-/
import Derived.Test.YtbhdcocgghaifaaTokB
import Derived.Deep.RegionHeld3
import Derived.Deep.DeepCutAuto
import Derived.Laws.BitsAll
namespace Go.Proofs.Ytbhdcocgghaifaa
open Go.RowKit
open Ideal Ida

namespace Cap
theorem text_max {t : Tok} (h : fine t) : (text t).size ≤ maxLen := by
  have := text_size h
  unfold maxLen
  omega

set_option maxRecDepth 100000 in
set_option maxHeartbeats 2000000 in
theorem issue_any {L : Lay} {O : Or} {w : World} (h : Orc w L O) (hn : O.rows.length < 1152921504606846976) (k : Nat) (hk : k < 18446744073709551616) (t : Tok) (ht : fine t) :
    Calls Try.prog 28 #[ptr L, .int .u64 (k : Int), .int .u64 (t.n : Int), .int .u64 (t.v : Int), .int .u64 (t.e : Int), .int .u64 (t.r : Int)] w fun x w' => x = .returned (.agg #[.int .u64 ((O.issT k t).n : Int), .int .u64 ((O.issT k t).v : Int), .int .u64 ((O.issT k t).e : Int), .int .u64 ((O.issT k t).r : Int), .int .u64 ((O.issT k t).g : Int)]) ∧ Orc w' L (O.issO k t) ∧ Kit.But L.own w w' := by
  obtain ⟨n, v, e, r, g⟩ := t
  have h0 := (h.alloc (.cells #[.int .u64 0, .int .u64 0, .int .u64 0, .int .u64 0, .int .u64 0] 24)).alloc (.cells #[.int .u64 (n : Int), .int .u64 (v : Int), .int .u64 (e : Int), .int .u64 (r : Int), .int .u64 0] 24)
  have R0 := (Box.new w #[.int .u64 0, .int .u64 0, .int .u64 0, .int .u64 0, .int .u64 0] 24).alloc (.cells #[.int .u64 (n : Int), .int .u64 (v : Int), .int .u64 (e : Int), .int .u64 (r : Int), .int .u64 0] 24)
  have B0 := Box.new (w.alloc (.cells #[.int .u64 0, .int .u64 0, .int .u64 0, .int .u64 0, .int .u64 0] 24)) #[.int .u64 (n : Int), .int .u64 (v : Int), .int .u64 (e : Int), .int .u64 (r : Int), .int .u64 0] 24
  rw [World.size_alloc] at B0
  have c0 := (but_alloc w L.own (.cells #[.int .u64 0, .int .u64 0, .int .u64 0, .int .u64 0, .int .u64 0] 24)).alloc (.cells #[.int .u64 (n : Int), .int .u64 (v : Int), .int .u64 (e : Int), .int .u64 (r : Int), .int .u64 0] 24)
  have ro : ¬ L.own w.heap.size := fun ho => Nat.lt_irrefl _ (h.lt ho)
  have bo : ¬ L.own (w.heap.size + 1) := fun ho => by have := h.lt ho; omega
  have HT := fun w => text_any ⟨n, v, e, r, 0⟩ ⟨ht.1, ht.2.1, ht.2.2.1, ht.2.2.2.1, Nat.succ_pos _⟩ w
  have HM := fun w' (h : Orc w' L O) => o_mac h hn k hk (text ⟨n, v, e, r, 0⟩) (text_max ⟨ht.1, ht.2.1, ht.2.2.1, ht.2.2.2.1, Nat.succ_pos _⟩)
  have hdr : (O.ask (qm k (text ⟨n, v, e, r, 0⟩))).draws = O.draws := Or.draws_ask _ _
  have hkn := fun w1 (h1 : Orc w1 L (O.ask (qm k (text ⟨n, v, e, r, 0⟩)))) w' => Orc.kept_new (w' := w') h1 h hdr
  show Calls Try.prog 28 #[ptr L, .int .u64 (k : Int), .int .u64 (n : Int), .int .u64 (v : Int), .int .u64 (e : Int), .int .u64 (r : Int)] w fun x w' => x = .returned (.agg #[.int .u64 (n : Int), .int .u64 (v : Int), .int .u64 (e : Int), .int .u64 (r : Int), .int .u64 (O.val (qm k (text ⟨n, v, e, r, 0⟩)) : Int)]) ∧ Orc w' L (O.ask (qm k (text ⟨n, v, e, r, 0⟩))) ∧ Kit.But L.own w w'
  simp only at HT
  clear hdr
  generalize O.val (qm k (text ⟨n, v, e, r, 0⟩)) = c at *
  generalize O.ask (qm k (text ⟨n, v, e, r, 0⟩)) = O2 at *
  generalize text ⟨n, v, e, r, 0⟩ = tx at *
  clear h hn hk ht
  have q0 := B0.cell (j := 0) rfl
  have q1 := B0.cell (j := 1) rfl
  have q2 := B0.cell (j := 2) rfl
  have q3 := B0.cell (j := 3) rfl
  have q4 := B0.cell (j := 4) rfl
  go_enter Try.func28, Try.ntmps28
  go_wp2_with fail
  refine (HT _).mono ?_
  rintro x w1 ⟨rfl, b1⟩
  have h1 := h0.below b1
  have B1 := B0.below b1
  have R1 := R0.below b1
  have c1 := c0.trans (Kit.But.of_below b1 (Nat.le_refl _) _)
  clear B0 R0 c0 b1 h0 HT q0 q1 q2 q3 q4
  go_wp2_with fail
  refine (HM _ h1).mono ?_
  rintro x w2 ⟨rfl, h2, b2⟩
  have B2 := B1.but b2 bo
  have R2 := R1.but b2 ro
  have c2 := c1.trans b2
  clear B1 R1 c1 b2 h1 HM
  have f4 := B2.frozen 4
  have g4 := B2.cell (j := 4) rfl
  have B3 : Box (w.heap.size + 1) (w2.setCell ⟨w.heap.size + 1, 4, none⟩ (.int .u64 (c : Int))) #[.int .u64 (n : Int), .int .u64 (v : Int), .int .u64 (e : Int), .int .u64 (r : Int), .int .u64 (c : Int)] 24 := B2.set 4 (.int .u64 (c : Int))
  have R3 := R2.set_off (p := ⟨w.heap.size + 1, 4, none⟩) (by simp) (.int .u64 (c : Int))
  have c3 := c2.setCell (p := ⟨w.heap.size + 1, 4, none⟩) (fun hh => by have : w.heap.size + 1 < w.heap.size := hh; omega) (.int .u64 (c : Int))
  clear B2 R2 c2
  have q0 := B3.cell (j := 0) rfl
  have q1 := B3.cell (j := 1) rfl
  have q2 := B3.cell (j := 2) rfl
  have q3 := B3.cell (j := 3) rfl
  have q4 := B3.cell (j := 4) rfl
  have qz0 := R3.cell (j := 0) rfl
  have qz1 := R3.cell (j := 1) rfl
  have qz2 := R3.cell (j := 2) rfl
  have qz3 := R3.cell (j := 3) rfl
  have qz4 := R3.cell (j := 4) rfl
  have fr0 := R3.frozen 0
  have fr1 := R3.frozen 1
  have fr2 := R3.frozen 2
  have fr3 := R3.frozen 3
  have fr4 := R3.frozen 4
  have h4 := hkn w2 h2 _ (fun i hi => (put5_off (w := w2.setCell ⟨w.heap.size + 1, 4, none⟩ (.int .u64 (c : Int))) (b := w.heap.size) (i := i) (Nat.ne_of_lt hi) (.int .u64 (n : Int)) (.int .u64 (v : Int)) (.int .u64 (e : Int)) (.int .u64 (r : Int)) (.int .u64 (c : Int))).trans (heap_setCell_other w2 ⟨w.heap.size + 1, 4, none⟩ i _ (by simp; omega)))
  clear h2 hkn
  go_wp2
  refine bodyPost_ret (results_tok1 rfl rfl (R3.put5 (.int .u64 (n : Int)) (.int .u64 (v : Int)) (.int .u64 (e : Int)) (.int .u64 (r : Int)) (.int .u64 (c : Int)))) rfl ?_
  exact ⟨rfl, h4, but_put5 c3 (fun e => absurd e (Nat.lt_irrefl _)) _ _ _ _ _⟩

theorem bits_covers {r w : Nat} (hr : r < 18446744073709551616) (hw : w < 18446744073709551616) : (bits .andNot .u64 (w : Int) (r : Int) != 0) = !covers r w := by
  rw [Go.u64_andNot_nat w r hw hr]
  unfold covers
  generalize w &&& (18446744073709551615 - r) = x
  cases x with
  | zero => rfl
  | succ x =>
    have h1 : decide (x + 1 = 0) = false := by simp
    rw [h1]
    simp
    omega

set_option maxRecDepth 100000 in
set_option maxHeartbeats 4000000 in
theorem check_any {L : Lay} {O : Or} {w : World} (h : Orc w L O) (k : Nat) (hk : k < 18446744073709551616) (t : Tok) (ht : fine t) (v e want : Nat) (hw : want < 18446744073709551616) :
    Calls Try.prog 18 #[ptr L, .int .u64 (k : Int), .agg #[.int .u64 (t.n : Int), .int .u64 (t.v : Int), .int .u64 (t.e : Int), .int .u64 (t.r : Int), .int .u64 (t.g : Int)], .int .u64 (v : Int), .int .u64 (e : Int), .int .u64 (want : Int)] w fun x w' => x = .returned (.int .i64 (O.chk k t v e want : Int)) ∧ Orc w' L (O.chkO k t) ∧ Kit.But L.own w w' := by
  have h0 := (h.alloc (.cells #[.int .u64 (t.n : Int), .int .u64 (t.v : Int), .int .u64 (t.e : Int), .int .u64 (t.r : Int), .int .u64 (t.g : Int)] 24)).drew
  have B0 := (Box.new w #[.int .u64 (t.n : Int), .int .u64 (t.v : Int), .int .u64 (t.e : Int), .int .u64 (t.r : Int), .int .u64 (t.g : Int)] 24).drew
  have c0 := (but_alloc w L.own (.cells #[.int .u64 (t.n : Int), .int .u64 (t.v : Int), .int .u64 (t.e : Int), .int .u64 (t.r : Int), .int .u64 (t.g : Int)] 24)).drew
  have bo : ¬ L.own w.heap.size := fun ho => Nat.lt_irrefl _ (h.lt ho)
  have HT := fun w => text_any t ht w
  have HV := fun w' (h : Orc w' L O) => o_verify h k hk (text t) (text_max ht) t.g ht.2.2.2.2
  have hb := bits_covers ht.2.2.2.1 hw
  have hr : O.chk k t v e want = if O.isTag k (text t) t.g then if t.v = v then if t.e < e then 72 else if covers t.r want then 0 else 73 else 71 else 70 := rfl
  have HR := Lib.hid hr
  unfold Or.chkO
  generalize O.chk k t v e want = res at *
  generalize O.verify k (text t) t.g = O2 at *
  generalize O.isTag k (text t) t.g = y at *
  generalize text t = tx at *
  generalize covers t.r want = cv at *
  clear h hk ht hw hr
  go_enter Try.func18, Try.ntmps18
  go_upto_region 1 with (fail)
  go_region_held3 (fun w' => w'.cell? ⟨w.heap.size, 0, none⟩ = some (.int .u64 (t.n : Int)) ∧ w'.cell? ⟨w.heap.size, 1, none⟩ = some (.int .u64 (t.v : Int)) ∧ w'.cell? ⟨w.heap.size, 2, none⟩ = some (.int .u64 (t.e : Int)) ∧ w'.cell? ⟨w.heap.size, 3, none⟩ = some (.int .u64 (t.r : Int)) ∧ w'.cell? ⟨w.heap.size, 4, none⟩ = some (.int .u64 (t.g : Int)))
    (first | exact ⟨B0.cell rfl, B0.cell rfl, B0.cell rfl, B0.cell rfl, B0.cell rfl⟩ | exact ⟨B2.cell rfl, B2.cell rfl, B2.cell rfl, B2.cell rfl, B2.cell rfl⟩ | exact ⟨B3.cell rfl, B3.cell rfl, B3.cell rfl, B3.cell rfl, B3.cell rfl⟩)
    (first
      | (go_at_call 31; refine (HV _ h2).mono ?_; rintro x w3 ⟨rfl, h3, b3⟩; have B3 := B2.but b3 bo; have c3 := c2.trans b3)
      | (go_at_call 13; refine (HT _).mono ?_; rintro x w2 ⟨rfl, b2⟩; have h2 := h0.below b2; have B2 := B0.below b2; have c2 := c0.trans (Kit.But.of_below b2 (Nat.le_refl _) _)))
  have q0 := B3.cell (j := 0) rfl
  have q1 := B3.cell (j := 1) rfl
  have q2 := B3.cell (j := 2) rfl
  have q3 := B3.cell (j := 3) rfl
  have q4 := B3.cell (j := 4) rfl
  clear HT HV h2 h0 B2 B0 c2 c0 b2 b3
  cases y with
  | false =>
    have hr : res = 70 := HR.out
    subst hr
    go_wp2
    go_ret
    exact ⟨rfl, h3, c3⟩
  | true =>
  by_cases hv : t.v = v
  · have n1 : ((t.v : Int) != (v : Int)) = false := by simp [hv]
    have n2 : (t.v != v) = false := by simp [hv]
    by_cases he : t.e < e
    · have g1 : (t.e : Int) < (e : Int) := by omega
      have hr : res = 72 := by rw [HR.out, if_pos rfl, if_pos hv, if_pos he]
      subst hr
      clear hv
      go_wp2
      go_ret
      exact ⟨rfl, h3, c3⟩
    · have g1 : decide ((t.e : Int) < (e : Int)) = false := by rw [decide_eq_false_iff_not]; omega
      have g2 : decide (t.e < e) = false := by rw [decide_eq_false_iff_not]; omega
      cases cv with
      | true =>
        have hr : res = 0 := by rw [HR.out, if_pos rfl, if_pos hv, if_neg he]; rfl
        subst hr
        clear hv he
        go_wp2
        go_ret
        exact ⟨rfl, h3, c3⟩
      | false =>
        have hr : res = 73 := by rw [HR.out, if_pos rfl, if_pos hv, if_neg he]; rfl
        subst hr
        clear hv he
        go_wp2
        go_ret
        exact ⟨rfl, h3, c3⟩
  · have n1 : ((t.v : Int) != (v : Int)) = true := by simp; omega
    have n2 : (t.v != v) = true := by simp; omega
    have hr : res = 71 := by rw [HR.out, if_pos rfl, if_neg hv]
    subst hr
    clear hv
    go_wp2
    go_ret
    exact ⟨rfl, h3, c3⟩
end Cap
end Go.Proofs.Ytbhdcocgghaifaa
