/-
  Package disk: the library's Repeat of one text; New.
-/
import Derived.Test.YtgjejofdmfpdjaaDskC
import Derived.Laws.CopyOwn
namespace Go.Proofs.Ytgjejofdmfpdjaa
open Go.RowKit
namespace Dsk

theorem infoStr : ∃ i z, Try.prog.info? 9 = some i ∧ i.zero = some z ∧ i.size = 1 ∧ i.bytes = 16 ∧ z.cells.size = 1 := by
  have h : (Try.prog.info? 9).map (fun i => (i.size, i.bytes, i.zero.map (·.cells.size))) = some (1, 16, some 1) := by kernel_rfl
  cases hi : Try.prog.info? 9 with
  | none => rw [hi] at h; cases h
  | some i =>
    rw [hi] at h
    simp only [Option.map_some, Option.some.injEq, Prod.mk.injEq] at h
    obtain ⟨h1, h2, h3⟩ := h
    cases hz : i.zero with
    | none => rw [hz] at h3; cases h3
    | some z =>
      rw [hz] at h3
      exact ⟨i, z, rfl, hz, h1, h2, by simpa using h3⟩
theorem sizeStr : (Try.prog.info? 9).map (·.size) = some 1 := by kernel_rfl

/-- The first m of c cells hold a text. -/
def half (z : ByteArray) (m c : Nat) (E : List Value) : List Value := List.replicate m (.string z) ++ E.drop (E.length - (c - m))
theorem half_len {z : ByteArray} {m c : Nat} {E : List Value} (hE : E.length = c) (h : m ≤ c) : (half z m c E).length = c := by
  simp [half]; omega
theorem half_more {z : ByteArray} {m k c : Nat} {E : List Value} (hE : E.length = c) (h : m + k ≤ c) : splice (half z m c E) m (List.replicate k (.string z)) = half z (m + k) c E := by
  apply List.ext_getElem?
  intro i
  simp only [splice, half, List.getElem?_append, List.getElem?_take, List.getElem?_drop, List.getElem?_replicate, List.length_take, List.length_append, List.length_replicate, List.length_drop, hE]
  by_cases h1 : i < m
  · have : min m (m + (c - (c - (c - m)))) = m := by omega
    have h2 : i < m + k := by omega
    simp [this, h1, h2]
  · by_cases h2 : i < m + k
    · have e1 : min m (m + (c - (c - (c - m)))) = m := by omega
      have e2 : i - m < k := by omega
      simp [e1, h1, h2, e2]
    · have e1 : min m (m + (c - (c - (c - m)))) = m := by omega
      have e2 : ¬ i - m < k := by omega
      have e3 : ¬ m + k + (i - m - k) < m := by omega
      simp only [e1, h1, h2, e2, e3, if_false]
      congr 1
      omega

set_option maxRecDepth 100000 in
set_option maxHeartbeats 8000000 in
theorem repeat_any (z : ByteArray) (c : Nat) (hc1 : 1 ≤ c) (hc2 : c ≤ 256) (ad : Addr) (w : World) (hx : w.cell? ad = some (.string z)) :
    Calls Try.prog 37 #[.slice (some ad) 1 1, .int .i64 (c : Int)] w fun e w' => ∃ g, e = .returned (.slice (some ⟨g, 0, none⟩) c c) ∧ w'.ownsRow w.heap.size 9 1 (.slice (some ⟨g, 0, none⟩) c c) c (List.replicate c (.string z)) ∧ Below w.heap.size w w' := by
  have HM := fun w => Try.bits_Mul 1 c (by decide) (by omega) w
  rw [Nat.one_mul, Nat.div_eq_of_lt (by omega), Nat.mod_eq_of_lt (by omega)] at HM
  obtain ⟨i0, z0, hi, iz0, iz1, iz2, iz3⟩ := infoStr
  obtain ⟨w1, hrun, hown, hgr⟩ := run_make_full (P := Try.prog) w w.heap.size 22 9 i0 z0 1 Try.underlying22 hi iz0 iz1 .i64 .i64 c (by rw [iz2]; omega) (by unfold maxLen; omega) (Nat.le_refl _)
  have hb0 : Below w.heap.size w w1 := (Below.refl _ w).grown hgr (Nat.le_refl _) (fun k h => by cases h)
  obtain ⟨E, hE, hlen, hbox⟩ : ∃ E : List Value, E = (madeCells z0.cells (c * 1)).toList ∧ E.length = c ∧ Box w.heap.size w1 E.toArray 9 := by
    rcases hown.2 with ⟨h, _⟩ | ⟨g, cap, cur, h, hB, hg, h1, h2, h3, h4⟩
    · cases h
    · cases h
      refine ⟨_, rfl, by simpa using hown.1, ?_⟩
      have e : (madeCells z0.cells (c * 1)).toList.toArray = cur := by
        rw [← h4, List.take_of_length_le (by simp [h3])]
      rw [e]
      exact hg
  have hx1 : w1.cell? ad = some (.string z) := by rw [hb0.cell (World.block_lt_of_cell? _ _ hx)]; exact hx
  have g1 : ¬ (c : Int) < 0 := by omega
  have g2 : ¬ (9223372036854775807 : Int) < (c : Int) := by omega
  have hmin : ([Value.string z]).length = Nat.min 1 c := by show 1 = min 1 c; omega
  have hcp := run_copy_row (P := Try.prog) w1 22 22 3 9 w.heap.size 0 c c ad 1 1 E.toArray 9 [.string z] Try.underlying22 sizeStr hbox hmin (fun j v hj => by
    match j, hj with
    | 0, hj =>
      cases hj
      exact hx1
    | j + 1, hj => cases hj) (by simp [hlen]; omega) (fun v hv => by rw [List.mem_singleton.1 hv]; rfl)
  have hb1 : Box w.heap.size (w1.setRow w.heap.size (E.toArray.toList.take 0 ++ [Value.string z] ++ E.toArray.toList.drop (0 + [Value.string z].length)).toArray) (half z 1 c E).toArray 9 := by
    have h := setRow_heap w1 w.heap.size E.toArray (E.toArray.toList.take 0 ++ [Value.string z] ++ E.toArray.toList.drop (0 + [Value.string z].length)).toArray 9 (0, 0) hbox
    have e : (E.toArray.toList.take 0 ++ [Value.string z] ++ E.toArray.toList.drop (0 + [Value.string z].length)) = half z 1 c E := by
      unfold half
      rw [show E.length - (c - 1) = 1 by omega]
      rfl
    rw [e] at h ⊢
    exact h
  have hb2 : Below w.heap.size w (w1.setRow w.heap.size (E.toArray.toList.take 0 ++ [Value.string z] ++ E.toArray.toList.drop (0 + [Value.string z].length)).toArray) := below_setRow hb0 (Nat.le_refl _) _
  generalize w1.setRow w.heap.size (E.toArray.toList.take 0 ++ [Value.string z] ++ E.toArray.toList.drop (0 + [Value.string z].length)).toArray = w2 at *
  clear hb0 hx1 hx hmin hbox
  have HB := Lib.hid hb2
  clear hb2
  have e1 : IntKind.u64.wrap (c : Int) = (c : Int) := by rw [IntKind.wrap_u64]; omega
  have e2 : IntKind.i64.wrap (c : Int) = (c : Int) := by rw [IntKind.wrap_i64]; omega
  clear hown hgr hi iz0 iz1 iz2 iz3 hE
  go_enter Try.func37, Try.ntmps37
  go_wp2_with (go_at_call 48; refine (HM _).mono ?_; rintro e w9 ⟨rfl, rfl⟩)
  clear hcp hrun HM
  have hb2 := HB.out
  generalize hG : w9.heap.size = G at *
  go_loopw [8] (fun vi wr => ∃ m : Nat, 1 ≤ m ∧ m ≤ c ∧ vi = .int .i64 (m : Int) ∧ Box G wr (half z m c E).toArray 9 ∧ Below G w9 wr)
    (fun vi _ => c - (intOf vi).toNat)
  case atStart => exact ⟨1, Nat.le_refl _, hc1, rfl, hb1, hb2⟩
  case round =>
    obtain ⟨m, hm1, hm2, rfl, hX, hB⟩ := hrel
    by_cases hlt : m < c
    · have l1 : (m : Int) < (c : Int) := by omega
      have l2 : m ≤ c := hm2
      have l3 : (m = c) = False := eq_false (by omega)
      have l4 : (c = m) = False := eq_false (by omega)
      have hX2 : Box G wr.drew (half z m c E).toArray 9 := hX.drew
      have hB2 : Below G w9 wr.drew := hB.drew
      obtain ⟨k, hk⟩ : ∃ k, k = min m (c - m) := ⟨_, rfl⟩
      have hkn : (List.replicate k (Value.string z)).length = Nat.min m (c - m) := by rw [List.length_replicate]; exact hk
      have hcat : ∀ j v, (List.replicate k (Value.string z))[j]? = some v → wr.drew.cell? ((⟨G, 0, none⟩ : Addr).add j) = some v := by
        intro j v hj
        have hjk : j < k := by
          have := (List.getElem?_eq_some_iff.1 hj).1
          rwa [List.length_replicate] at this
        rw [List.getElem?_replicate, if_pos hjk] at hj
        cases hj
        rw [show (⟨G, 0, none⟩ : Addr).add j = ⟨G, j, none⟩ by (unfold Addr.add; split <;> simp_all)]
        refine hX2.cell ?_
        rw [List.getElem?_toArray]
        unfold half
        rw [List.getElem?_append_left (by rw [List.length_replicate]; omega), List.getElem?_replicate, if_pos (by omega)]
      have hfit : m + (List.replicate k (Value.string z)).length ≤ (half z m c E).length := by rw [List.length_replicate, half_len hlen hm2]; omega
      have hone : ∀ v ∈ List.replicate k (Value.string z), v.oneCell' = true := fun v hv => by rw [(List.mem_replicate.1 hv).2]; rfl
      have hcp := run_copy_row (P := Try.prog) wr.drew 22 22 3 9 G m (c - m) (c - m) ⟨G, 0, none⟩ m c (half z m c E).toArray 9 (List.replicate k (.string z)) Try.underlying22 sizeStr hX2 hkn hcat (by simpa using hfit) hone
      have hX3 : Box G (wr.drew.setRow G ((half z m c E).toArray.toList.take m ++ List.replicate k (Value.string z) ++ (half z m c E).toArray.toList.drop (m + (List.replicate k (Value.string z)).length)).toArray) (half z (m + k) c E).toArray 9 := by
        have h := setRow_heap wr.drew G (half z m c E).toArray ((half z m c E).toArray.toList.take m ++ List.replicate k (Value.string z) ++ (half z m c E).toArray.toList.drop (m + (List.replicate k (Value.string z)).length)).toArray 9 (0, 0) hX2
        have e : ((half z m c E).toArray.toList.take m ++ List.replicate k (Value.string z) ++ (half z m c E).toArray.toList.drop (m + (List.replicate k (Value.string z)).length)) = half z (m + k) c E := by
          rw [← half_more hlen (by omega : m + k ≤ c)]
          unfold splice
          rw [List.append_assoc]
        rw [e] at h ⊢
        exact h
      have hB3 : Below G w9 (wr.drew.setRow G ((half z m c E).toArray.toList.take m ++ List.replicate k (Value.string z) ++ (half z m c E).toArray.toList.drop (m + (List.replicate k (Value.string z)).length)).toArray) := below_setRow hB2 (Nat.le_refl _) _
      generalize wr.drew.setRow G ((half z m c E).toArray.toList.take m ++ List.replicate k (Value.string z) ++ (half z m c E).toArray.toList.drop (m + (List.replicate k (Value.string z)).length)).toArray = w4 at *
      rw [List.length_replicate] at hcp
      have e3 : wrap64 ((m : Int) + (k : Int)) = ((m + k : Nat) : Int) := by unfold wrap64; omega
      have HF := Lib.hid (And.intro hX3 hB3)
      have HK := Lib.hid hk
      clear hkn hcat hfit hone hX2 hB2 hX hB hb1 hb2 hX3 hB3 hk
      go_wp2
      go_region
      all_goals go_wp2
      all_goals go_roundw
      case rel => exact ⟨m + k, by omega, by have := HK.out; omega, by rw [e3], HF.out.1, HF.out.2⟩
      case measure =>
        have hk := HK.out
        have l5 : (intOf (.int .i64 (wrap64 ((m : Int) + (k : Int))))).toNat = m + k := by rw [e3]; rfl
        have l6 : (intOf (.int .i64 (m : Int))).toNat = m := rfl
        rw [l5, l6]
        clear l5 l6 e3 hcp e1 e2 g2 HF HB
        omega
    · obtain rfl : m = c := by omega
      have e : half z m m E = List.replicate m (.string z) := by
        unfold half
        rw [Nat.sub_self, Nat.sub_zero, List.drop_length, List.append_nil]
      have l1 : ¬ (m : Int) < (m : Int) := by omega
      rw [e] at hX
      have hown : wr.ownsRow G 9 1 (.slice (some ⟨G, 0, none⟩) m m) m (List.replicate m (.string z)) :=
        ⟨by simp, .inr ⟨G, m, _, rfl, Nat.le_refl _, hX, Nat.le_refl _, by unfold maxLen; omega, by simp, by simp⟩⟩
      have HF := Lib.hid (And.intro hown hB)
      have HG := Lib.hid hG
      clear hX hB hown hb1 hb2 hG
      go_wp2
      go_ret
      have hf := HF.out
      rw [← HG.out] at hf ⊢
      exact ⟨_, rfl, hf.1, hf.2⟩
end Dsk
end Go.Proofs.Ytgjejofdmfpdjaa
