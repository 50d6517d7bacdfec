/-
  Package disk: Write.
-/
import Derived.Test.YtgjejofdmfpdjaaDskA
import Derived.Lib.Hide
import Derived.Deep.RegionLaw
namespace Go.Proofs.Ytgjejofdmfpdjaa
open Go.RowKit
namespace Dsk

theorem cellsP_len (x : Wr) : (cellsP x).length = 2 := rfl
theorem cellsP_one (x : Wr) : ∀ u ∈ cellsP x, u.oneCell' = true := by
  intro u hu
  simp only [cellsP, List.mem_cons, List.not_mem_nil, or_false] at hu
  rcases hu with rfl | rfl <;> rfl
theorem infoWr : ∃ i z, Try.prog.info? 72 = some i ∧ i.zero = some z ∧ i.size = 2 ∧ i.bytes = 24 ∧ z.cells.size = 2 := by
  have h : (Try.prog.info? 72).map (fun i => (i.size, i.bytes, i.zero.map (·.cells.size))) = some (2, 24, some 2) := by kernel_rfl
  cases hi : Try.prog.info? 72 with
  | none => rw [hi] at h; cases h
  | some i =>
    rw [hi] at h
    simp only [Option.map_some, Option.some.injEq, Prod.mk.injEq] at h
    obtain ⟨h1, h2, h3⟩ := h
    cases hz : i.zero with
    | none => rw [hz] at h3; cases h3
    | some z =>
      rw [hz] at h3
      exact ⟨i, z, rfl, hz, h1, h2, by simpa using h3⟩

theorem step_pushed {K : Nat → Prop} {w w2 w3 : World} {p q : Nat} {row : Option Nat} {o : Obj} {v : Value} (hb : Below w.drew.heap.size w.drew w2) (hg : (w2.alloc o).grownBy w3 row) (hr : ∀ k, row = some k → K k) (kp : K p) (hat : row = some q ∨ q = (w2.alloc o).heap.size) :
    Step K w (fun i => K i ∨ i = q) (w3.setCell ⟨p, 2, none⟩ v) := by
  have hb : Below w.heap.size w w2 := ((Below.refl w.heap.size w).drew).trans hb
  have b1 : Kit.But K w (w2.alloc o) := (Kit.But.of_below hb (Nat.le_refl _) K).alloc o
  refine ⟨(b1.trans (Kit.But.of_grown hg (fun k hk _ => hr k hk))).setCell (fun _ => kp) v, ?_⟩
  rintro i (hi | rfl)
  · exact .inl hi
  · rcases hat with h | h
    · exact .inl (hr _ h)
    · exact .inr (by rw [h]; exact b1.size)
set_option maxRecDepth 100000 in
set_option maxHeartbeats 4000000 in
theorem write_any {w : World} {p : Nat} {K : Nat → Prop} {D : Dk} (h : Mem w p K D) (hl : D.pend.length < 1000) (a : Int) (t : ByteArray) :
    Calls Try.prog 27 #[.pointer (some ⟨p, 0, none⟩), .int .i64 a, .string t] w fun e w' => e = .returned (.bool (D.canWrite a t)) ∧ ∃ K', Mem w' p K' (D.write a t) ∧ Step K w K' w' := by
  have H := fun w (h : Mem w p K D) => has_any h a
  have Hh := h
  obtain ⟨g, sc, pv, h⟩ := h
  have c0 := h.c0
  have c2 := h.c2
  by_cases ht : D.there a = true
  · rw [ht] at H
    by_cases hs : t.size ≤ D.size
    · have hc : D.canWrite a t = true := by simp [Dk.canWrite, ht, hs]
      have e1 : D.write a t = D.push a.toNat (pad t D.size) := by unfold Dk.write; rw [if_pos hc]
      obtain ⟨h1, h2⟩ := Dk.there_iff.1 ht
      rw [e1, hc]
      obtain ⟨k, rfl⟩ : ∃ k : Nat, a = (k : Int) := ⟨a.toNat, by omega⟩
      have hk : k < D.safe.length := by omega
      rw [show ((k : Int)).toNat = k from rfl]
      have HP := fun w => padded_any t D.size hs h.ok.z2 w
      have hps := pad_size hs
      have g1 : decide ((t.size : Int) > (D.size : Int)) = false := by rw [decide_eq_false_iff_not]; omega
      have g2 : decide (D.size < t.size) = false := by rw [decide_eq_false_iff_not]; omega
      obtain ⟨i0, z0, hi, iz0, iz1, iz2, iz3⟩ := infoWr
      obtain ⟨pa, pc, rfl, -, -⟩ := h.form
      clear e1 hc h1 h2 ht hs
      generalize pad t D.size = tx at *
      go_enter Try.func27, Try.ntmps27
      go_upto_region 3 with (refine (H _ Hh).mono ?_; rintro e w1 ⟨rfl, rfl⟩)
      have hd := h.drew
      have c2d := hd.c2
      have hpq : ∀ k, (Value.slice pa D.pend.length pc).ownBlock = some k → p ≠ k := fun k hk => row_ne_box h.pend h.box (by decide) hk
      have hF : (D.pend.length + 1) * 24 ≤ 140737488355328 := by omega
      have hG : D.pend.length + 1 ≤ maxLen := by unfold maxLen; omega
      have c0d := hd.c0
      go_region_law (first
          | (go_simp; go_at_call 38; refine (HP _).mono ?_; rintro e w2 ⟨rfl, hb⟩; have hd2 := hd.below hb; have c2' := hd2.c2; have c2'' := (hd2.alloc (.cells #[.int .i64 (k : Int), .string tx] 72)).c2; have ow := (hd2.alloc (.cells #[.int .i64 (k : Int), .string tx] 72)).pend; have bx4 : (w2.alloc (.cells #[.int .i64 (k : Int), .string tx] 72)).heap[w2.heap.size]? = some (.cells #[.int .i64 (k : Int), .string tx] 72 (0, 0)) := (MapKept.heap_alloc w2 _).1; have hb3 := hd2.box.below (below_lit w2 (.cells #[.int .i64 (k : Int), .string tx] 72)); go_wp2_with fail)
          | (refine step_append_lies _ rfl _ _ 60 rfl 0 72 i0 z0 2 24 Try.underlying60 hi iz0 iz1 iz2 iz3 (by decide) (.slice pa D.pend.length pc) D.pend.length (D.pend.flatMap cellsP) rfl ow ⟨w2.heap.size, 0, none⟩ 1 1 (cellsP ⟨k, tx⟩) rfl rfl (World.news_of_block bx4) (cellsP_one _) (by decide) hG hF (Nat.zero_le _) _ rfl ?_; intro q cap2 w3 hown hg hat hlt; have k3 := (hb3.grown hg hpq).cell (j := 2) rfl; have f3 := (hb3.grown hg hpq).frozen 2))
      all_goals (have fin := (hd2.alloc (.cells #[.int .i64 (k : Int), .string tx] 72)).pushed (by decide) (by decide) (by decide) hk hps hown hg)
      all_goals (have stp := step_pushed (v := .slice (some ⟨q, 0, none⟩) (D.pend.length + 1) cap2) hb hg (fun k hk => h.kv k hk) h.kp hat)
      all_goals (clear hown hg hat hlt hb3 k3 f3 bx4 ow hd2 hd c0 c2 c2' c2'' c0d c2d)
      all_goals go_wp2
      all_goals go_ret
      all_goals exact ⟨rfl, _, ⟨_, _, _, fin⟩, stp⟩
    · have hc : D.canWrite a t = false := by simp [Dk.canWrite, hs]
      have e1 : D.write a t = D := by unfold Dk.write; rw [if_neg (by rw [hc]; decide)]
      have g1 : decide ((t.size : Int) > (D.size : Int)) = true := by rw [decide_eq_true_iff]; omega
      have g2 : decide (D.size < t.size) = true := by rw [decide_eq_true_iff]; omega
      rw [e1, hc]
      have FH := Lib.hid Hh
      clear h e1 hc
      go_enter Try.func27, Try.ntmps27
      go_wp2_with fail
      refine (H _ Hh).mono ?_
      rintro e w1 ⟨rfl, rfl⟩
      go_wp2
      go_ret
      exact ⟨rfl, K, FH.out, Step.refl _ _⟩
  · have hf : D.there a = false := by simpa using ht
    have hc : D.canWrite a t = false := by simp [Dk.canWrite, hf]
    have e1 : D.write a t = D := by unfold Dk.write; rw [if_neg (by rw [hc]; decide)]
    rw [hf] at H
    rw [e1, hc]
    have FH := Lib.hid Hh
    clear h e1 hc
    go_enter Try.func27, Try.ntmps27
    go_wp2_with fail
    refine (H _ Hh).mono ?_
    rintro e w1 ⟨rfl, rfl⟩
    go_wp2
    go_ret
    exact ⟨rfl, K, FH.out, Step.refl _ _⟩
end Dsk
end Go.Proofs.Ytgjejofdmfpdjaa
