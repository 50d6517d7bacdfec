/-
  WlB: WlB, WlC.
-/
import Derived.Test.YtgjejofdmfpdjaaWlM
import Derived.Test.YtgjejofdmfpdjaaShelf
import Derived.Lib.SliceRun
import Derived.Lib.Hide
import Derived.Deep.RegionLaw
import Derived.Deep.MidRow
/-! The library: strings.CutPrefix; slices.Delete on a row of records of two cells. -/
namespace Go.Proofs.Ytgjejofdmfpdjaa
open Go.RowKit
namespace Wal
open Dsk

theorem hasPrefix_size {s p : List UInt8} (h : Lib.hasPrefix s p = true) : p.length ≤ s.length := (List.isPrefixOf_iff_prefix.1 h).length_le
theorem drop_extract (s p : ByteArray) : (⟨(s.data.toList.drop p.data.toList.length).toArray⟩ : ByteArray) = s.extract p.size s.size := by
  apply Slt.bytes_inj
  rw [Kit.extract_drop, Kit.size_list]

set_option maxHeartbeats 1000000 in
theorem litePrefix_yes (s p : ByteArray) (h : Lib.hasPrefix s.data.toList p.data.toList = true) (w : World) :
    Calls Try.prog 57 #[.string s, .string p] w fun e w' => e = .returned (.tuple #[.string ⟨(s.data.toList.drop p.data.toList.length).toArray⟩, .bool true]) ∧ w' = w := by
  have H := fun w => Try.stringslite_HasPrefix s p w
  rw [h] at H
  have h1 := hasPrefix_size h
  rw [Kit.size_list, Kit.size_list] at h1
  rw [drop_extract s p]
  clear h
  go_enter Try.func57, Try.ntmps57
  go_wp2_with fail
  refine (H _).mono ?_
  rintro e w1 ⟨rfl, rfl⟩
  go_wp2
  go_ret2
  exact ⟨rfl, rfl⟩
set_option maxHeartbeats 1000000 in
theorem litePrefix_no (s p : ByteArray) (h : Lib.hasPrefix s.data.toList p.data.toList = false) (w : World) :
    Calls Try.prog 57 #[.string s, .string p] w fun e w' => e = .returned (.tuple #[.string s, .bool false]) ∧ w' = w := by
  have H := fun w => Try.stringslite_HasPrefix s p w
  rw [h] at H
  clear h
  go_enter Try.func57, Try.ntmps57
  go_wp2_with fail
  refine (H _).mono ?_
  rintro e w1 ⟨rfl, rfl⟩
  go_wp2
  go_ret2
  exact ⟨rfl, rfl⟩
set_option maxHeartbeats 1000000 in
theorem cutPrefix_yes (s p : ByteArray) (h : Lib.hasPrefix s.data.toList p.data.toList = true) (w : World) :
    Calls Try.prog 46 #[.string s, .string p] w fun e w' => e = .returned (.tuple #[.string ⟨(s.data.toList.drop p.data.toList.length).toArray⟩, .bool true]) ∧ w' = w := by
  have H := fun w => litePrefix_yes s p h w
  go_enter Try.func46, Try.ntmps46
  go_wp2_with fail
  refine (H _).mono ?_
  rintro e w1 ⟨rfl, rfl⟩
  go_wp2
  go_ret2
  exact ⟨rfl, rfl⟩
set_option maxHeartbeats 1000000 in
theorem cutPrefix_no (s p : ByteArray) (h : Lib.hasPrefix s.data.toList p.data.toList = false) (w : World) :
    Calls Try.prog 46 #[.string s, .string p] w fun e w' => e = .returned (.tuple #[.string s, .bool false]) ∧ w' = w := by
  have H := fun w => litePrefix_no s p h w
  go_enter Try.func46, Try.ntmps46
  go_wp2_with fail
  refine (H _).mono ?_
  rintro e w1 ⟨rfl, rfl⟩
  go_wp2
  go_ret2
  exact ⟨rfl, rfl⟩

/-! ### Cells of one block stored in a row -/
theorem heap_setCells {g : Nat} {e : TypeId} : ∀ (vs : List Value) (o : Nat) (w : World) (cur : Array Value), w.heap[g]? = some (.cells cur e (0, 0)) → o + vs.length ≤ cur.size →
    (w.setCells g o vs).heap[g]? = some (.cells (cur.toList.take o ++ (vs ++ cur.toList.drop (o + vs.length))).toArray e (0, 0))
  | [], o, w, cur, h, _ => by
    rw [World.setCells, h]
    simp
  | v :: vs, o, w, cur, h, hl => by
    have h1 := heap_setCell_same w g o cur e v h
    simp only [List.length_cons] at hl
    have h2 := heap_setCells vs (o + 1) _ _ h1 (by rw [Array.size_setIfInBounds]; omega)
    rw [World.setCells, h2]
    congr 3
    have ho : o < cur.toList.length := by rw [Array.length_toList]; omega
    rw [Array.toList_setIfInBounds, List.set_eq_take_append_cons_drop, if_pos ho]
    have e1 : (cur.toList.take o ++ v :: cur.toList.drop (o + 1)).take (o + 1) = cur.toList.take o ++ [v] := by
      rw [List.take_append, List.take_of_length_le (by rw [List.length_take]; omega), List.length_take, Nat.min_eq_left (Nat.le_of_lt ho), Nat.add_sub_cancel_left]
      rfl
    have e2 : (cur.toList.take o ++ v :: cur.toList.drop (o + 1)).drop (o + 1 + vs.length) = cur.toList.drop (o + (v :: vs).length) := by
      rw [List.drop_append, List.drop_of_length_le (by rw [List.length_take]; omega), List.length_take, Nat.min_eq_left (Nat.le_of_lt ho), List.nil_append, show o + 1 + vs.length - o = vs.length + 1 by omega, List.drop_succ_cons, List.drop_drop, List.length_cons]
      congr 1
      omega
    rw [e1, e2]
    simp
theorem grown_setCells (g : Nat) : ∀ (vs : List Value) (o : Nat) (w : World), w.grownBy (w.setCells g o vs) (some g)
  | [], _, w => ⟨rfl, rfl, rfl, Nat.le_refl _, fun _ _ _ => rfl⟩
  | v :: vs, o, w => by
    have h := grown_setCells g vs (o + 1) (w.setCell ⟨g, o, none⟩ v)
    exact ⟨h.os, h.tape, h.output, Nat.le_trans (by simp [World.setCell]) h.size, fun k hk hne => (h.block k (by simpa [World.setCell] using hk) hne).trans (heap_setCell_other w ⟨g, o, none⟩ k v (fun e => hne (by simp [e])))⟩
/-- What stood from j on is laid to i, and some cells behind it are written over. -/
theorem deleted {w : World} {B g n cap i j z : Nat} {e : TypeId} {xs zs : List Value} (h : w.ownsRow B e z (.slice (some ⟨g, 0, none⟩) n cap) n xs) (hij : i ≤ j) (hj : j ≤ n) (hz : zs.length = (n - (i + (n - j))) * z) :
    ((w.setCells g (i * z) (xs.drop (j * z))).setCells g ((i + (n - j)) * z) zs).ownsRow B e z (.slice (some ⟨g, 0, none⟩) (i + (n - j)) cap) (i + (n - j)) (xs.take (i * z) ++ xs.drop (j * z)) ∧
      w.grownBy ((w.setCells g (i * z) (xs.drop (j * z))).setCells g ((i + (n - j)) * z) zs) (some g) := by
  have g1 := grown_setCells g (xs.drop (j * z)) (i * z) w
  have g2 := grown_setCells g zs ((i + (n - j)) * z) (w.setCells g (i * z) (xs.drop (j * z)))
  refine ⟨?_, ⟨g2.os.trans g1.os, g2.tape.trans g1.tape, g2.output.trans g1.output, Nat.le_trans g1.size g2.size, fun k hk hne => (g2.block k (Nat.lt_of_lt_of_le hk g1.size) hne).trans (g1.block k hk hne)⟩⟩
  have hxl := h.1
  have m1 : i * z ≤ j * z := Nat.mul_le_mul_right z hij
  have m2 : j * z ≤ n * z := Nat.mul_le_mul_right z hj
  have m3 : (i + (n - j)) * z = i * z + (n * z - j * z) := by rw [Nat.add_mul, Nat.sub_mul]
  have hlen : (xs.take (i * z) ++ xs.drop (j * z)).length = (i + (n - j)) * z := by
    rw [List.length_append, List.length_take, List.length_drop]
    omega
  rcases h.2 with ⟨h', _⟩ | ⟨g', cap', cur, h', hb, hg, hnc, hcm, hcs, htake⟩
  · simp at h'
  · simp only [Value.slice.injEq, Option.some.injEq, Addr.mk.injEq, and_true, true_and] at h'
    obtain ⟨rfl, rfl⟩ := h'
    have m4 : n * z ≤ cap * z := Nat.mul_le_mul_right z hnc
    have m5 : (n - (i + (n - j))) * z = j * z - i * z := by rw [show n - (i + (n - j)) = j - i by omega, Nat.sub_mul]
    have hd : (xs.drop (j * z)).length = n * z - j * z := by rw [List.length_drop, hxl]
    have hcl : cur.toList.length = cap * z := by rw [Array.length_toList, hcs]
    have ht : xs.take (i * z) = cur.toList.take (i * z) := by rw [← htake, List.take_take, Nat.min_eq_left (by omega)]
    rw [ht]
    rw [ht] at hlen
    generalize xs.drop (j * z) = d at *
    have k1 := heap_setCells d (i * z) w cur hg (by rw [hd]; omega)
    have hs1 : (cur.toList.take (i * z) ++ (d ++ cur.toList.drop (i * z + d.length))).length = cap * z := by
      rw [List.length_append, List.length_append, List.length_take, List.length_drop, hd]
      omega
    have k2 := heap_setCells zs ((i + (n - j)) * z) _ _ k1 (by rw [List.size_toArray, hs1]; omega)
    refine ⟨hlen, .inr ⟨g, cap, _, rfl, hb, k2, by omega, hcm, ?_, ?_⟩⟩
    · rw [List.size_toArray, List.length_append, List.length_append, List.length_take, List.length_drop, List.toList_toArray, hs1]
      omega
    · rw [List.toList_toArray, List.toList_toArray, List.take_append_of_le_length (by rw [List.length_take, hs1]; omega), List.take_take, Nat.min_self, ← List.append_assoc, List.take_append_of_le_length (by rw [hlen]; omega),
        List.take_of_length_le (by rw [hlen]; omega)]

theorem run_clear_recs (w : World) (ty : TypeId) (b o n c : Nat) (hn : 0 < n) (hc : ∀ j, j < n * 2 → (w.cell? ⟨b, o + j, none⟩).isSome = true) (hf : ∀ j, j < n * 2 → w.frozen? ⟨b, o + j, none⟩ = false) :
    ∃ zs : List Value, zs.length = n * 2 ∧ (Builtin.clear_ #[48] ty #[.slice (some ⟨b, o, none⟩) n c]).run Try.prog w = .ok (.tuple #[]) (w.setCells b o zs) := by
  have hl : (Builtin.zeroCells (Value.cells (.agg #[.int .u64 0, .string ⟨#[]⟩])) n).toList.length = n * 2 := by
    simp [Builtin.zeroCells, Value.cells]
  have h1 : ∀ u ∈ (Builtin.zeroCells (Value.cells (.agg #[.int .u64 0, .string ⟨#[]⟩])) n).toList, u.oneCell' = true := by
    intro u hu
    simp only [Builtin.zeroCells, Value.cells, Array.toList_map, List.mem_map] at hu
    obtain ⟨i, _, rfl⟩ := hu
    have : i % 2 = 0 ∨ i % 2 = 1 := by omega
    rcases this with h | h
    · simp [h]; rfl
    · simp [h]; rfl
  refine ⟨_, hl, ?_⟩
  have hst := run_storeCells_cells (P := Try.prog) b o _ 0 w (by rw [hl]; simpa using hc) (by rw [hl]; simpa using hf) h1
  simp only [Nat.add_zero] at hst
  obtain ⟨m, rfl⟩ : ∃ m, n = m + 1 := ⟨n - 1, by omega⟩
  simp [Builtin.clear_, run_underlying Try.underlying48, hst]

set_option maxHeartbeats 1000000 in
/-- Nothing is deleted. -/
theorem delete_none {w : World} {a : Option Addr} {n cap i : Nat} (hi : i ≤ n) (hc : n ≤ cap) (hm : cap ≤ maxLen) (ha : a = none → n = 0 ∧ cap = 0) :
    Calls Try.prog 36 #[.slice a n cap, .int .i64 (i : Int), .int .i64 (i : Int)] w fun e w' => e = .returned (.slice a n cap) ∧ w' = w := by
  have hm' : cap ≤ 9223372036854775807 := hm
  cases a with
  | none =>
    obtain ⟨rfl, rfl⟩ := ha rfl
    obtain rfl : i = 0 := by omega
    clear ha hm
    go_enter Try.func36, Try.ntmps36
    go_wp2
    go_ret
    exact ⟨rfl, rfl⟩
  | some a =>
    clear ha hm
    go_enter Try.func36, Try.ntmps36
    go_wp2
    all_goals go_ret
    all_goals exact ⟨rfl, rfl⟩
end Wal
end Go.Proofs.Ytgjejofdmfpdjaa
/-! The library: slices.Delete on a row of records of two cells, where something is deleted. -/
namespace Go.Proofs.Ytgjejofdmfpdjaa
open Go.RowKit
namespace Wal
open Dsk

theorem infoRec : ∃ i z, Try.prog.info? 58 = some i ∧ i.zero = some z ∧ i.size = 2 ∧ i.bytes = 24 ∧ z.cells.size = 2 := by
  have h : (Try.prog.info? 58).map (fun i => (i.size, i.bytes, i.zero.map (·.cells.size))) = some (2, 24, some 2) := by kernel_rfl
  cases hi : Try.prog.info? 58 with
  | none => rw [hi] at h; cases h
  | some i =>
    rw [hi] at h
    simp only [Option.map_some, Option.some.injEq, Prod.mk.injEq] at h
    obtain ⟨h1, h2, h3⟩ := h
    cases hz : i.zero with
    | none => rw [hz] at h3; cases h3
    | some z =>
      rw [hz] at h3
      exact ⟨i, z, rfl, hz, h1, h2, by simpa using h3⟩

set_option maxRecDepth 100000 in
set_option maxHeartbeats 4000000 in
theorem delete_some {w : World} {g n cap i j : Nat} {xs : List Value} (h : w.ownsRow 0 58 2 (.slice (some ⟨g, 0, none⟩) n cap) n xs) (h1 : ∀ u ∈ xs, u.oneCell' = true) (hij : i < j) (hj : j ≤ n) :
    Calls Try.prog 36 #[.slice (some ⟨g, 0, none⟩) n cap, .int .i64 (i : Int), .int .i64 (j : Int)] w fun e w' => e = .returned (.slice (some ⟨g, 0, none⟩) (i + (n - j)) cap) ∧
      w'.ownsRow 0 58 2 (.slice (some ⟨g, 0, none⟩) (i + (n - j)) cap) (i + (n - j)) (xs.take (i * 2) ++ xs.drop (j * 2)) ∧ w.grownBy w' (some g) := by
  have hd : w.drew.ownsRow 0 58 2 (.slice (some ⟨g, 0, none⟩) n cap) n xs := h
  have hxl := h.1
  obtain ⟨a, c, e, hnc, hcm⟩ := row_form h
  cases e
  have hcm' : cap ≤ 9223372036854775807 := hcm
  obtain ⟨i0, z0, hi, iz0, iz1, iz2, iz3⟩ := infoRec
  obtain ⟨A, hA, hsrc⟩ : ∃ A : Addr, (if cap = j then some (⟨g, 0, none⟩ : Addr) else some ⟨g, j * 2, none⟩) = some A ∧ Hid (∀ t u, (xs.drop (j * 2))[t]? = some u → w.drew.cell? (A.add t) = some u) := by
    by_cases hc : cap = j
    · refine ⟨⟨g, 0, none⟩, by rw [if_pos hc], fun t u hu => ?_⟩
      rw [List.drop_of_length_le (by omega)] at hu
      cases hu
    · refine ⟨⟨g, j * 2, none⟩, by rw [if_neg hc], fun t u hu => ?_⟩
      have ht : t < n * 2 - j * 2 := by
        have := (List.getElem?_eq_some_iff.1 hu).1
        rwa [List.length_drop, hxl] at this
      rw [List.getElem?_drop] at hu
      rw [Addr.add_lit, hd.cellAt (j * 2 + t) (by omega)]
      exact hu
  have s1 : Hid ((xs.drop (j * 2)).length = (n - j) * 2) := by rw [List.length_drop, hxl]; exact (Nat.sub_mul n j 2).symm
  have s2 : Hid (∀ u ∈ xs.drop (j * 2), u.oneCell' = true) := fun u hu => h1 u (List.mem_of_mem_drop hu)
  have s3 : Hid (∀ t, t < (xs.drop (j * 2)).length → (w.drew.cell? ⟨g, 0 + i * 2 + t, none⟩).isSome = true ∧ w.drew.frozen? ⟨g, 0 + i * 2 + t, none⟩ = false) := by
    intro t ht
    rw [s1.out] at ht
    rw [Nat.zero_add]
    refine ⟨?_, hd.frozenAt _⟩
    rw [hd.cellAt (i * 2 + t) (by omega), List.getElem?_eq_getElem (by omega)]
    rfl
  have ha := fun zs (hz : zs.length = (n - (i + (n - j))) * 2) => deleted (zs := zs) hd (Nat.le_of_lt hij) hj hz
  have HA := Lib.hid ha
  obtain ⟨W1, hW1⟩ : ∃ W1, W1 = w.drew.setCells g (0 + i * 2) (xs.drop (j * 2)) := ⟨_, rfl⟩
  have k1 : ∀ t, t < (n - (i + (n - j))) * 2 → (W1.cell? ⟨g, (i + (n - j)) * 2 + t, none⟩).isSome = true := fun t ht => by
    rw [hW1]
    apply World.isSome_setCells
    rw [hd.cellAt _ (by omega), List.getElem?_eq_getElem (by omega)]
    rfl
  have k2 : ∀ t, t < (n - (i + (n - j))) * 2 → W1.frozen? ⟨g, (i + (n - j)) * 2 + t, none⟩ = false := fun t _ => by
    rw [hW1, World.frozen?_setCells]
    exact hd.frozenAt _
  obtain ⟨zs, hz, hcl⟩ : ∃ zs : List Value, zs.length = (n - (i + (n - j))) * 2 ∧ ∀ ty, (Builtin.clear_ #[48] ty #[.slice (some ⟨g, (i + (n - j)) * 2, none⟩) (n - (i + (n - j))) (cap - (i + (n - j)))]).run Try.prog W1 = .ok (.tuple #[]) (W1.setCells g ((i + (n - j)) * 2) zs) := by
    obtain ⟨zs, hz, hr⟩ := run_clear_recs W1 0 g ((i + (n - j)) * 2) (n - (i + (n - j))) (cap - (i + (n - j))) (by omega) k1 k2
    exact ⟨zs, hz, fun ty => hr⟩
  have HZ := Lib.hid hz
  have HW := Lib.hid hW1
  have hic : i ≤ cap := by omega
  have hjc : j ≤ cap := by omega
  clear hd h h1 k1 k2 ha hz hxl hW1 hcm
  go_enter Try.func36, Try.ntmps36
  go_wp2_with fail
  go_region_law (refine step_append_room rfl (.tmp 22) (.tmp 25) 48 rfl 58 i0 2 Try.underlying48 hi iz1 g 0 i cap (by simp [Act.eval, Act.put]) A (n - j) (cap - j) (xs.drop (j * 2)) (by simp [Act.eval, Act.put]) s1.out hsrc.out s2.out (by omega) s3.out ?_; rw [← HW.out])
  go_wp2
  go_ret
  rw [HW.out, Nat.zero_add]
  obtain ⟨r1, r2⟩ := HA.out zs HZ.out
  exact ⟨rfl, r1, ⟨r2.os, r2.tape, r2.output, r2.size, r2.block⟩⟩
end Wal
end Go.Proofs.Ytgjejofdmfpdjaa
