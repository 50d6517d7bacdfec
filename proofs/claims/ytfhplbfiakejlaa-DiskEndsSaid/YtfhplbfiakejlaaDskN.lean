/-
  The laws' made: a disk behind some acts, two hundred at most.
-/
import Derived.Test.YtfhplbfiakejlaaDskF2
namespace Go.Proofs.Ytfhplbfiakejlaa
open Go.RowKit
namespace Dsk

theorem take_snoc {l : List Ac} {i : Nat} {c : Ac} (h : l[i]? = some c) : l.take (i + 1) = l.take i ++ [c] := by
  rw [List.take_add_one, h]
  rfl
/-- The disk behind the first acts. -/
def mk (n s : Nat) (l : List Ac) (i : Nat) : Dk := (Dk.new n s).acts (l.take i)
theorem mk_succ {n s : Nat} {l : List Ac} {i : Nat} {c : Ac} (h : l[i]? = some c) : mk n s l (i + 1) = (mk n s l i).act c := by
  unfold mk
  rw [take_snoc h, Dk.acts_snoc]
theorem mk_pend (n s : Nat) (l : List Ac) (i : Nat) : (mk n s l i).pend.length ≤ i := by
  have h := Dk.pend_acts (l.take i) (Dk.new n s)
  have h2 : (Dk.new n s).pend.length = 0 := rfl
  rw [List.length_take] at h
  unfold mk
  omega
theorem mk_same (n s : Nat) (l : List Ac) (i : Nat) : (mk n s l i).size = s ∧ (mk n s l i).safe.length = n := by
  have h := Dk.same_acts (l.take i) (Dk.new n s)
  refine ⟨h.1, h.2.trans ?_⟩
  show (List.replicate n (zeros s)).length = n
  exact List.length_replicate

set_option maxRecDepth 100000 in
set_option maxHeartbeats 8000000 in
theorem made_bad (n s : Int) (hc : Dk.can n s = false) (l : List Ac) (v : Value) (w : World) (hl : Acts w v l) :
    Calls Try.prog 19 #[.agg #[.int .i64 n, .int .i64 s, v]] w fun e w' => e = .returned (.tuple #[.pointer none, .bool false]) ∧ Below w.heap.size w w' := by
  obtain ⟨la, lc, rfl⟩ := hl.form
  have HN := fun w => new_bad n s hc w
  have X := Box.new w #[.int .i64 n, .int .i64 s, .slice la l.length lc] 24
  have c0 := below_lit w (.cells #[.int .i64 n, .int .i64 s, .slice la l.length lc] 24)
  have q0 : (w.alloc (.cells #[.int .i64 n, .int .i64 s, .slice la l.length lc] 24)).cell? ⟨w.heap.size, 0, none⟩ = some (.int .i64 n) := X.cell (j := 0) rfl
  have q1 : (w.alloc (.cells #[.int .i64 n, .int .i64 s, .slice la l.length lc] 24)).cell? ⟨w.heap.size, 1, none⟩ = some (.int .i64 s) := X.cell (j := 1) rfl
  clear X hc
  go_enter Try.func19, Try.ntmps19
  go_wp2_with fail
  refine (HN _).mono ?_
  rintro e w2 ⟨rfl, b2⟩
  have c2 := c0.trans (b2.mono c0.size)
  clear q0 q1 b2 HN
  go_wp2
  go_ret2
  exact ⟨rfl, c2⟩

set_option maxRecDepth 100000 in
set_option maxHeartbeats 8000000 in
theorem made_any (n s : Nat) (hc : Dk.can n s = true) (l : List Ac) (v : Value) (w : World) (hl : Acts w v l) :
    Calls Try.prog 19 #[.agg #[.int .i64 (n : Int), .int .i64 (s : Int), v]] w fun e w' => ∃ p K, e = .returned (.tuple #[.pointer (some ⟨p, 0, none⟩), .bool true]) ∧ Mem w' p K (mk n s l 200) ∧ (∀ i, K i → w.heap.size ≤ i) ∧ Below w.heap.size w w' := by
  have HL := Lib.hid hl
  obtain ⟨la, lc, rfl⟩ := hl.form
  have HN := fun w => new_good n s hc w
  have X := Box.new w #[.int .i64 (n : Int), .int .i64 (s : Int), .slice la l.length lc] 24
  have c0 := below_lit w (.cells #[.int .i64 (n : Int), .int .i64 (s : Int), .slice la l.length lc] 24)
  have z0 : (w.alloc (.cells #[.int .i64 (n : Int), .int .i64 (s : Int), .slice la l.length lc] 24)).heap.size = w.heap.size + 1 := World.size_alloc _ _
  have q0 : (w.alloc (.cells #[.int .i64 (n : Int), .int .i64 (s : Int), .slice la l.length lc] 24)).cell? ⟨w.heap.size, 0, none⟩ = some (.int .i64 (n : Int)) := X.cell (j := 0) rfl
  have q1 : (w.alloc (.cells #[.int .i64 (n : Int), .int .i64 (s : Int), .slice la l.length lc] 24)).cell? ⟨w.heap.size, 1, none⟩ = some (.int .i64 (s : Int)) := X.cell (j := 1) rfl
  have ZZ := Lib.hid z0
  clear hc z0 hl
  go_enter Try.func19, Try.ntmps19
  go_wp2_with fail
  refine (HN _).mono ?_
  rintro e w2 ⟨p, K, rfl, h2, hK, b2⟩
  have hK : ∀ i, K i → w.heap.size + 1 ≤ i := fun i hi => by have := hK i hi; rwa [ZZ.out] at this
  have X2 := X.below b2
  have c2 := c0.trans (b2.mono c0.size)
  have z2 : w.heap.size + 1 ≤ w2.heap.size := by have := b2.size; rwa [ZZ.out] at this
  have hD : mk n s l 0 = Dk.new n s := by simp [mk, Dk.acts]
  rw [← hD] at h2
  clear q0 q1 b2 HN X c0 hD ZZ
  go_wp2
  go_loopw [6] (fun vi wr => ∃ (i : Nat) (K : Nat → Prop), i ≤ l.length ∧ i ≤ 200 ∧ vi = .int .i64 (i : Int) ∧ Mem wr p K (mk n s l i) ∧ (∀ j, K j → w.heap.size + 1 ≤ j) ∧ Box w.heap.size wr #[.int .i64 (n : Int), .int .i64 (s : Int), .slice la l.length lc] 24 ∧ Below w.heap.size w wr ∧ w.heap.size + 1 ≤ wr.heap.size)
    (fun vi _ => 200 - (intOf vi).toNat)
  case atStart => exact ⟨0, K, Nat.zero_le _, by omega, rfl, h2, hK, X2, c2, z2⟩
  case round =>
    obtain ⟨i, K1, hi1, hi2, rfl, h3, hK3, X3, c3, z3⟩ := hrel
    have q2 : wr.cell? ⟨w.heap.size, 2, none⟩ = some (.slice la l.length lc) := X3.cell (j := 2) rfl
    clear h2 hK X2 c2 z2
    by_cases hlt : i < l.length
    · have g1 : (i : Int) < (l.length : Int) := by omega
      by_cases hlt2 : i < 200
      · have g2 : (i : Int) < 200 := by omega
        obtain ⟨c, hc⟩ : ∃ c, l[i]? = some c := ⟨_, List.getElem?_eq_getElem hlt⟩
        have hKw : ∀ j, K1 j → w.heap.size ≤ j := fun j hj => by have := hK3 j hj; omega
        obtain ⟨ad, ka, kc, rfl, a0, a1, a2, a3, hr⟩ := HL.out.at_ c3 hKw hc
        have hpd := mk_pend n s l i
        have H := do_any h3 (by omega) c ka kc hr
        have es := mk_succ (n := n) (s := s) hc
        rw [← es] at H
        have FF := Lib.hid (And.intro hK3 (And.intro X3 (And.intro c3 z3)))
        have e3 : wrap64 ((i : Int) + 1) = (i : Int) + 1 := by unfold wrap64; omega
        generalize hD2 : mk n s l (i + 1) = D2 at *
        have H2 := Lib.hid hD2
        clear hD2
        generalize (mk n s l i).said c = tx at *
        generalize (mk n s l i).done c = ty at *
        clear hc hr h3 hKw hpd X3 c3 z3 hK3 es
        go_wp2_with fail
        refine H.mono ?_
        rintro e w5 ⟨rfl, K5, h5, st⟩
        obtain ⟨hK3, X3, c3, z3⟩ := FF.out
        have f1 := st.from_ z3 hK3
        have lo := st.low z3 hK3
        have f2 := X3.low lo (Nat.lt_succ_self _)
        have f3 := c3.trans (lo.mono (Nat.le_succ _))
        have f4 := Nat.le_trans z3 st.size
        clear hK3 X3 c3 z3 st lo q2 a0 a1 a2 a3 H
        go_wp2
        go_roundw
        case rel => exact ⟨i + 1, K5, hlt, by omega, rfl, by rw [H2.out]; exact h5, f1, f2, f3, f4⟩
        case measure =>
          have l5 : (intOf (.int .i64 ((i : Int) + 1))).toNat = i + 1 := rfl
          have l6 : (intOf (.int .i64 (i : Int))).toNat = i := rfl
          rw [l5, l6]
          exact Nat.sub_lt_sub_left hlt2 (Nat.lt_succ_self i)
      · obtain rfl : i = 200 := by omega
        have hKw : ∀ j, K1 j → w.heap.size ≤ j := fun j hj => by have := hK3 j hj; omega
        clear X3 z3
        go_wp2
        go_ret2
        first | exact ⟨_, rfl, _, h3, hKw, c3⟩ | exact ⟨_, _, rfl, h3, hKw, c3⟩
    · obtain rfl : i = l.length := by omega
      have g1 : ¬ (l.length : Int) < (l.length : Int) := by omega
      have hKw : ∀ j, K1 j → w.heap.size ≤ j := fun j hj => by have := hK3 j hj; omega
      have e : mk n s l l.length = mk n s l 200 := by
        unfold mk
        rw [List.take_of_length_le (Nat.le_refl _), List.take_of_length_le (by omega)]
      rw [e] at h3
      clear X3 z3
      go_wp2
      go_ret2
      first | exact ⟨_, rfl, _, h3, hKw, c3⟩ | exact ⟨_, _, rfl, h3, hKw, c3⟩
end Dsk
end Go.Proofs.Ytfhplbfiakejlaa
