/-
  The document's disk: Write.
-/
import Derived.Test.YtolanlnabdbolaaDskR
namespace Go.Proofs.Ytolanlnabdbolaa
open Go.RowKit
namespace Dsk

theorem infoAct : ∃ i z, Try.prog.info? 44 = some i ∧ i.zero = some z ∧ i.size = 4 ∧ i.bytes = 56 ∧ z.cells.size = 4 := by
  have h : (Try.prog.info? 44).map (fun i => (i.size, i.bytes, i.zero.map (·.cells.size))) = some (4, 56, some 4) := by kernel_rfl
  cases hi : Try.prog.info? 44 with
  | none => rw [hi] at h; cases h
  | some i =>
    rw [hi] at h
    simp only [Option.map_some, Option.some.injEq, Prod.mk.injEq] at h
    obtain ⟨h1, h2, h3⟩ := h
    cases hz : i.zero with
    | none => rw [hz] at h3; cases h3
    | some z =>
      rw [hz] at h3
      exact ⟨i, z, rfl, hz, h1, h2, by simpa using h3⟩

set_option maxRecDepth 100000 in
set_option maxHeartbeats 8000000 in
theorem rWrite_any {w : World} {p : Nat} {K : Nat → Prop} {D : Dk} (h : Ref w p K D) (hl : D.pend.length < 1000) (a : Int) (t : ByteArray) :
    Calls Try.prog 39 #[.pointer (some ⟨p, 0, none⟩), .int .i64 a, .string t] w fun e w' => e = .returned (.bool (D.canWrite a t)) ∧ ∃ K', Ref w' p K' (D.write a t) ∧ Step K w K' w' := by
  have Hh := h
  obtain ⟨g, sc, pv, h⟩ := h
  have c0 := h.c0
  have c1 := h.c1
  by_cases ht : D.there a = true
  · obtain ⟨h1, h2⟩ := Dk.there_iff.1 ht
    have n1 : ¬ a < 0 := by omega
    have n2 : ¬ a ≥ (D.safe.length : Int) := by omega
    by_cases hs : t.size ≤ D.size
    · have hc : D.canWrite a t = true := by simp [Dk.canWrite, ht, hs]
      have e1 : D.write a t = D.push a.toNat (pad t D.size) := by unfold Dk.write; rw [if_pos hc]
      rw [e1, hc]
      obtain ⟨k, rfl⟩ : ∃ k : Nat, a = (k : Int) := ⟨a.toNat, by omega⟩
      have hk : k < D.safe.length := by omega
      have n3 : ¬ D.safe.length ≤ k := by omega
      rw [show ((k : Int)).toNat = k from rfl]
      have hz2 := h.ok.z2
      have HZ := fun w => rZeros_any (D.size - t.size) (by omega) w
      have hps := pad_size hs
      have ep : pad t D.size = t ++ zeros (D.size - t.size) := rfl
      have e2 : IntKind.i64.wrap ((D.size : Int) - (t.size : Int)) = ((D.size - t.size : Nat) : Int) := by rw [IntKind.wrap_i64]; omega
      have z2 : t.size + (zeros (D.size - t.size)).size ≤ 140737488355328 := by rw [zeros_size]; omega
      have g1 : decide ((t.size : Int) > (D.size : Int)) = false := by rw [decide_eq_false_iff_not]; omega
      have g2 : decide (D.size < t.size) = false := by rw [decide_eq_false_iff_not]; omega
      obtain ⟨i0, z0, hi, iz0, iz1, iz2, iz3⟩ := infoAct
      obtain ⟨pa, pc, rfl, -, -⟩ := h.form
      rw [ep] at hps ⊢
      clear e1 hc h1 h2 ht hs ep hz2
      generalize zeros (D.size - t.size) = zs at *
      have z3 : (9223372036854775807 < t.size + zs.size) = False := eq_false (by omega)
      clear z2
      have hd := h.drew
      have c2d := hd.c2
      have c0d := hd.c0
      have hpq : ∀ k, (Value.slice pa D.pend.length pc).ownBlock = some k → p ≠ k := fun k hk => row_ne_box h.pend h.box (by decide) hk
      have hF : (D.pend.length + 1) * 56 ≤ 140737488355328 := by omega
      have hG : D.pend.length + 1 ≤ maxLen := by unfold maxLen; omega
      go_enter Try.func39, Try.ntmps39
      go_upto_region 3 with (fail)
      go_region_law (first
          | (go_simp; go_at_call 13; refine (HZ _).mono ?_; rintro e w2 ⟨rfl, hb⟩; have hd2 := hd.below hb; have c2' := hd2.c2; have c2'' := (hd2.alloc (.cells #[.int .i64 0, .int .i64 (k : Int), .string (t ++ zs), .slice none 0 0] 44)).c2; have ow := (hd2.alloc (.cells #[.int .i64 0, .int .i64 (k : Int), .string (t ++ zs), .slice none 0 0] 44)).pend; have bx4 : (w2.alloc (.cells #[.int .i64 0, .int .i64 (k : Int), .string (t ++ zs), .slice none 0 0] 44)).heap[w2.heap.size]? = some (.cells #[.int .i64 0, .int .i64 (k : Int), .string (t ++ zs), .slice none 0 0] 44 (0, 0)) := (MapKept.heap_alloc w2 _).1; have hb3 := hd2.box.below (below_lit w2 (.cells #[.int .i64 0, .int .i64 (k : Int), .string (t ++ zs), .slice none 0 0] 44)); go_wp2_with fail)
          | (refine step_append_lies _ rfl _ _ 33 rfl 0 44 i0 z0 4 56 Try.underlying33 hi iz0 iz1 iz2 iz3 (by decide) (.slice pa D.pend.length pc) D.pend.length (D.pend.flatMap cellsR) rfl ow ⟨w2.heap.size, 0, none⟩ 1 1 (cellsR ⟨k, t ++ zs⟩) rfl rfl (World.news_of_block bx4) (cellsR_one _) (by decide) hG hF (Nat.zero_le _) _ rfl ?_; intro q cap2 w3 hown hg hat hlt; have k3 := (hb3.grown hg hpq).cell (j := 2) rfl; have f3 := (hb3.grown hg hpq).frozen 2))
      all_goals (have fin := (hd2.alloc (.cells #[.int .i64 0, .int .i64 (k : Int), .string (t ++ zs), .slice none 0 0] 44)).pushed (by decide) (by decide) (by decide) hk hps hown hg)
      all_goals (have stp := step_pushed (v := .slice (some ⟨q, 0, none⟩) (D.pend.length + 1) cap2) hb hg (fun k hk => h.kv k hk) h.kp hat)
      all_goals (clear hown hg hat hlt hb3 k3 f3 bx4 ow hd2 hd c0 c1 c2' c2'' c0d c2d)
      all_goals go_wp2
      all_goals go_ret
      all_goals exact ⟨rfl, _, ⟨_, _, _, fin⟩, stp⟩
    · have hc : D.canWrite a t = false := by simp [Dk.canWrite, hs]
      have e1 : D.write a t = D := by unfold Dk.write; rw [if_neg (by rw [hc]; decide)]
      have g1 : decide ((t.size : Int) > (D.size : Int)) = true := by rw [decide_eq_true_iff]; omega
      have g2 : decide (D.size < t.size) = true := by rw [decide_eq_true_iff]; omega
      rw [e1, hc]
      have FH := Lib.hid Hh
      clear h e1 hc Hh
      go_enter Try.func39, Try.ntmps39
      go_wp2
      go_ret
      exact ⟨rfl, K, FH.out, Step.refl _ _⟩
  · have hf : D.there a = false := by simpa using ht
    have hc : D.canWrite a t = false := by simp [Dk.canWrite, hf]
    have e1 : D.write a t = D := by unfold Dk.write; rw [if_neg (by rw [hc]; decide)]
    rw [e1, hc]
    have FH := Lib.hid Hh
    by_cases h1 : a < 0
    · clear h e1 hc Hh
      go_enter Try.func39, Try.ntmps39
      go_wp2
      go_ret
      exact ⟨rfl, K, FH.out, Step.refl _ _⟩
    · have h2 : a ≥ (D.safe.length : Int) := by
        have : ¬ (0 ≤ a ∧ a < (D.safe.length : Int)) := fun h => ht (Dk.there_iff.2 h)
        omega
      clear h e1 hc Hh
      go_enter Try.func39, Try.ntmps39
      go_wp2
      go_ret
      exact ⟨rfl, K, FH.out, Step.refl _ _⟩
end Dsk
end Go.Proofs.Ytolanlnabdbolaa
