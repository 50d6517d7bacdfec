/-
  The document's disk: Flush.
-/
import Derived.Test.YtolanlnabdbolaaDskT
namespace Go.Proofs.Ytolanlnabdbolaa
open Go.RowKit
namespace Dsk

theorem after_congr {f g : Nat → Nat} {p : List Wr} {s : List ByteArray} : ∀ k, (∀ j, j < k → f j = g j) → after f p s k = after g p s k
  | 0, _ => rfl
  | k + 1, h => by
    have ih := after_congr (p := p) (s := s) k fun j hj => h j (by omega)
    have hk := h k (Nat.lt_succ_self k)
    unfold after
    rw [ih, hk]
theorem keep_all {D : Dk} : D.crash (List.replicate D.pend.length (D.size : Int)) = D.flush := by
  unfold Dk.crash Dk.flush Dk.settle
  rw [after_congr (f := Dk.keepOf (List.replicate D.pend.length (D.size : Int)) D.size) (g := fun _ => D.size) D.pend.length fun j hj => ?_]
  unfold Dk.keepOf
  rw [List.getElem?_replicate, if_pos hj]
  dsimp only
  rw [if_neg (by omega), if_neg (by omega)]
  rfl
theorem infoInt : ∃ i z, Try.prog.info? 3 = some i ∧ i.zero = some z ∧ i.size = 1 ∧ i.bytes = 8 ∧ z.cells.size = 1 := by
  have h : (Try.prog.info? 3).map (fun i => (i.size, i.bytes, i.zero.map (·.cells.size))) = some (1, 8, some 1) := by kernel_rfl
  cases hi : Try.prog.info? 3 with
  | none => rw [hi] at h; cases h
  | some i =>
    rw [hi] at h
    simp only [Option.map_some, Option.some.injEq, Prod.mk.injEq] at h
    obtain ⟨h1, h2, h3⟩ := h
    cases hz : i.zero with
    | none => rw [hz] at h3; cases h3
    | some z =>
      rw [hz] at h3
      exact ⟨i, z, rfl, hz, h1, h2, by simpa using h3⟩
theorem ints_one (l : List Int) : ∀ u ∈ ints l, u.oneCell' = true := by
  intro u hu
  simp only [ints, List.mem_map] at hu
  obtain ⟨n, _, rfl⟩ := hu
  rfl

set_option maxRecDepth 100000 in
set_option maxHeartbeats 8000000 in
theorem rFlush_any {w : World} {p : Nat} {K : Nat → Prop} {D : Dk} (h : Ref w p K D) (hl : D.pend.length < 2000) :
    Calls Try.prog 18 #[.pointer (some ⟨p, 0, none⟩)] w fun e w' => e = .returned (.tuple #[]) ∧ Ref w' p K D.flush ∧ Kit.But K w w' := by
  have HR := Lib.hid h
  obtain ⟨g, sc, pv, h⟩ := h
  obtain ⟨pa, pc, rfl, -, -⟩ := h.form
  have HH := Lib.hid h
  have HC := fun wr sv hr hk => @rCrash_any wr p K D hr hl (List.replicate D.pend.length (D.size : Int)) sv hk
  rw [keep_all] at HC
  have b0 := below_lit w (.cells #[] 3)
  have ow := World.ownsRow_made (base := w.heap.size) (e := 3) (size := 1) w #[] 0 (Nat.le_refl _) (by unfold maxLen; omega) rfl
  obtain ⟨i0, z0, hi, iz0, iz1, iz2, iz3⟩ := infoInt
  generalize hn : D.pend.length = n at *
  generalize hD : D.flush = D2 at *
  clear h
  go_enter Try.func18, Try.ntmps18
  go_wp2
  go_loopw [2, 3] (fun vs vi wr => ∃ k : Nat, k ≤ n ∧ vi = .int .i64 (k : Int) ∧ wr.ownsRow w.heap.size 3 1 vs k (ints (List.replicate k (D.size : Int))) ∧ Below w.heap.size w wr)
    (fun _ vi _ => n - (intOf vi).toNat)
  case atStart => exact ⟨0, Nat.zero_le _, rfl, ow, b0⟩
  case round =>
    obtain ⟨k, hk, rfl, hown, hB⟩ := hrel
    have hM := HH.out.below hB
    have q0 := hM.c0
    have q2 : wr.cell? ⟨p, 2, none⟩ = some (.slice pa n pc) := hM.c2
    by_cases hlt : k < n
    · have g1 : (k : Int) < (n : Int) := by omega
      obtain ⟨va, vc, rfl, -, -⟩ := row_form hown
      have bb := below_lit wr (.cells #[.int .i64 (D.size : Int)] 3)
      have bx4 : (wr.alloc (.cells #[.int .i64 (D.size : Int)] 3)).heap[wr.heap.size]? = some (.cells #[.int .i64 (D.size : Int)] 3 (0, 0)) := (MapKept.heap_alloc wr _).1
      have ow4 := hown.alloc (.cells #[.int .i64 (D.size : Int)] 3)
      have hB4 := hB.trans (bb.mono hB.size)
      have hf1 : (k + 1) * 8 ≤ 140737488355328 := by omega
      clear hM ow b0 hown hB bb
      go_wp2_with (at_builtin; refine wpList_append_lies _ rfl _ _ 42 rfl w.heap.size 3 i0 z0 1 8 Try.underlying42 hi iz0 iz1 iz2 iz3 (by decide) _ _ _ rfl ow4 ⟨wr.heap.size, 0, none⟩ 1 1 (ints [(D.size : Int)]) rfl rfl (World.news_of_block bx4) (ints_one _) (by decide) ?c3 hf1 hB4.size _ rfl ?_)
      case c3 => unfold maxLen; omega
      intro q cap2 w5 hown5 hg hat hlt5
      have e1 : ints (List.replicate k (D.size : Int)) ++ ints [(D.size : Int)] = ints (List.replicate (k + 1) (D.size : Int)) := by simp [ints, List.replicate_succ']
      rw [e1] at hown5
      have hB5 := hB4.grown hg hB4.size (fun j hj => (ow4.lt j hj).1)
      have e3 : wrap64 ((k : Int) + 1) = (k : Int) + 1 := by unfold wrap64; omega
      clear hg hat hlt5 ow4 hB4 bx4 e1 q0 q2
      go_wp2
      go_roundw
      case rel => exact ⟨k + 1, hlt, rfl, hown5, hB5⟩
      case measure =>
        have l5 : (intOf (.int .i64 ((k : Int) + 1))).toNat = k + 1 := rfl
        have l6 : (intOf (.int .i64 (k : Int))).toNat = k := rfl
        rw [l5, l6]
        exact Nat.sub_lt_sub_left hlt (Nat.lt_succ_self k)
    · obtain rfl : k = n := by omega
      have g1 : ¬ (k : Int) < (k : Int) := by omega
      have hr := RdK.of_own (K := K) hown (fun j hj hK => by have h1 := (hown.lt j hj).1; have h2 := HR.out.lt j hK; omega)
      obtain ⟨va, vc, rfl, -, -⟩ := row_form hown
      have H := HC wr _ (HR.out.below hB) hr
      have HB := Lib.hid hB
      clear hM ow b0 hown hB hr HC
      go_wp2_with fail
      refine H.mono ?_
      rintro e w6 ⟨rfl, h6, b6⟩
      go_wp2
      go_end0
      exact ⟨rfl, h6, (Kit.But.of_below HB.out (Nat.le_refl _) K).trans b6⟩
end Dsk
end Go.Proofs.Ytolanlnabdbolaa
