/-
  Package slot: put, take; the document's Eight.
-/
import Derived.Test.YtgjejofdmfpdjaaSlt
import Derived.Test.YtgjejofdmfpdjaaDskR
import Derived.Laws.OwnMore
import Derived.Lib.VarintBits
namespace Go.Proofs.Ytgjejofdmfpdjaa
open Go.RowKit
open Go.Lib (byteCells)
namespace Slt

/-- The row behind i of k bytes. -/
def row (n k i : Nat) : List UInt8 := List.replicate (k - i) 0 ++ be n i
theorem row_len {n k i : Nat} (h : i ≤ k) : (row n k i).length = k := by
  rw [row, List.length_append, List.length_replicate, be_len]
  omega
theorem row_zero (n k : Nat) : row n k 0 = List.replicate k 0 := by simp [row, be]
theorem row_full (n k : Nat) : row n k k = be n k := by simp [row]
theorem row_set {n k i : Nat} (h : i < k) : (byteCells (row n k i)).set (k - 1 - i) (.int .u8 ((n / 256 ^ i % 256 : Nat) : Int)) = byteCells (row n k (i + 1)) := by
  obtain ⟨d, hd⟩ : ∃ d, k - i = d + 1 := ⟨k - i - 1, by omega⟩
  have h2 : k - (i + 1) = d := by omega
  have h3 : k - 1 - i = d := by omega
  have hx : (UInt8.ofNat (n / 256 ^ i % 256)).toNat = n / 256 ^ i % 256 := by simp
  rw [row, row, hd, h2, h3, be]
  simp only [byteCells, List.map_append, List.map_replicate, List.map_cons, hx]
  rw [List.set_append_left _ _ (by simp), List.replicate_succ', List.set_append_right _ _ (by simp)]
  simp

theorem byte_of (n i : Nat) : (n : Int) / 2 ^ (8 * i) % 256 = ((n / 256 ^ i % 256 : Nat) : Int) := by
  have e : (2 : Int) ^ (8 * i) = ((256 ^ i : Nat) : Int) := by rw [Int.pow_mul]; simp
  rw [e]
  omega

set_option maxRecDepth 100000 in
set_option maxHeartbeats 2000000 in
theorem put_any (n k : Nat) (hk : k ≤ 8) (w : World) :
    Calls Try.prog 41 #[.int .u64 (n : Int), .int .i64 (k : Int)] w fun e w' => e = .returned (.string ⟨(be n k).toArray⟩) ∧ Below w.heap.size w w' := by
  obtain ⟨i0, hi, hz0, hz1, hz2⟩ := info_parts infoU8
  obtain ⟨w1, hrun, hown, hgr⟩ := run_make_full (P := Try.prog) w w.heap.size 79 5 i0 (.int .u8 0) 1 Try.underlying79 hi hz0 hz1 .i64 .i64 k (by rw [hz2]; omega) (by unfold maxLen; omega) (Nat.le_refl _)
  have hmc : (madeCells (Value.int .u8 0).cells (k * 1)).toList = byteCells (row n k 0) := by
    rw [Nat.mul_one, row_zero, Dsk.zeros_cells]
    exact toList_madeCells_one _ _
  rw [hmc] at hown
  have hb0 : Below w.heap.size w w1 := (Below.refl _ w).grown hgr (Nat.le_refl _) (fun k h => by cases h)
  clear hmc hgr hi hz0 hz1 hz2
  go_enter Try.func41, Try.ntmps41
  go_wp2
  clear hrun
  go_loopw [6, 11] (fun _ vi wr => ∃ i : Nat, i ≤ k ∧ vi = .int .i64 (i : Int) ∧ wr.ownsRow w.heap.size 5 1 (.slice (some ⟨w.heap.size, 0, none⟩) k k) k (byteCells (row n k i)) ∧ Below w.heap.size w wr)
    (fun _ vi _ => k - (intOf vi).toNat)
  case atStart => exact ⟨0, Nat.zero_le _, rfl, hown, hb0⟩
  case round =>
    obtain ⟨i, hi, rfl, hown, hB⟩ := hrel
    by_cases hlt : i < k
    · have l1 : (i : Int) < (k : Int) := by omega
      have c0 : ∃ u, wr.cell? ⟨w.heap.size, k - 1 - i, none⟩ = some (.int .u8 u) := by
        rw [hown.cellAt _ (by omega)]
        have hl : k - 1 - i < (row n k i).length := by rw [row_len hi]; omega
        exact ⟨_, by simp [byteCells, hl]; rfl⟩
      obtain ⟨u, c0⟩ := c0
      have f0 := hown.frozenAt (k - 1 - i)
      have hst := (hown.stored (k - 1 - i) (.int .u8 ((n / 256 ^ i % 256 : Nat) : Int))).1
      rw [row_set hlt] at hst
      have ev := byte_of n i
      have hB2 := hB.setCell (p := ⟨w.heap.size, k - 1 - i, none⟩) (Nat.le_refl _) (.int .u8 ((n / 256 ^ i % 256 : Nat) : Int))
      rw [← ev] at hst hB2
      clear hown hB ev
      go_wp2
      go_roundw
      case rel => exact ⟨i + 1, hlt, rfl, hst, hB2⟩
      case measure =>
        have l5 : (intOf (.int .i64 ((i : Int) + 1))).toNat = i + 1 := rfl
        have l6 : (intOf (.int .i64 (i : Int))).toNat = i := rfl
        rw [l5, l6]
        exact Nat.sub_lt_sub_left hlt (Nat.lt_succ_self i)
    · obtain rfl : i = k := by omega
      have l1 : ¬ (i : Int) < (i : Int) := by omega
      rw [row_full] at hown
      have hcv := Kit.string_of_own (P := Try.prog) (src := 79) (dst := 9) hown Try.underlying79 Try.underlying5 Try.underlying9
      clear hown
      go_wp2
      go_ret
      exact ⟨rfl, hB⟩

theorem or_byte {n b : Nat} (hb : b < 256) (hn : n * 256 + b < 18446744073709551616) : bits .or .u64 ((n : Int) * 256) (b : Int) = (n : Int) * 256 + (b : Int) :=
  bits_join .u64 64 (by decide) wraps_u64 8 _ _ (by omega) (by omega) (by omega) (by omega) (by omega) (by omega)
theorem val_le {l : List UInt8} {i : Nat} (h : l.length = i) (hi : i ≤ 7) : val l < 72057594037927936 := by
  have h1 := val_lt l
  have h2 : 256 ^ l.length ≤ 256 ^ 7 := Nat.pow_le_pow_right (by decide) (by omega)
  omega

set_option maxRecDepth 100000 in
set_option maxHeartbeats 2000000 in
theorem take_any (s : ByteArray) (hs : s.size ≤ 8) (w : World) :
    Calls Try.prog 65 #[.string s] w fun e w' => e = .returned (.int .u64 (vb s : Int)) ∧ w' = w := by
  go_enter Try.func65, Try.ntmps65
  go_wp2
  go_loopw [3, 4, 7] (fun vn _ vi wr => ∃ i : Nat, i ≤ s.size ∧ vi = .int .i64 (i : Int) ∧ vn = .int .u64 (val (s.data.toList.take i) : Int) ∧ wr = w)
    (fun _ _ vi _ => s.size - (intOf vi).toNat)
  case atStart => exact ⟨0, Nat.zero_le _, rfl, rfl, rfl⟩
  case round =>
    obtain ⟨i, hi, rfl, rfl, rfl⟩ := hrel
    by_cases hlt : i < s.size
    · have hl : (s.data.toList.take i).length = i := by rw [List.length_take, Kit.size_list]; omega
      have hv := val_le hl (by omega)
      have hb : s[i].toNat < 256 := s[i].toNat_lt
      have hnx : val (s.data.toList.take (i + 1)) = val (s.data.toList.take i) * 256 + s[i].toNat := by
        rw [List.take_add_one, List.getElem?_eq_getElem (by rw [Kit.size_list]; exact hlt)]
        exact val_snoc _ _
      have HN := Lib.hid hnx
      clear hnx hl
      generalize val (s.data.toList.take i) = v at *
      have ho := or_byte (n := v) hb (by omega)
      go_wp2
      go_roundw
      case rel => exact ⟨i + 1, hlt, rfl, by rw [HN.out]; rfl, trivial⟩
      case measure =>
        have l5 : (intOf (.int .i64 ((i : Int) + 1))).toNat = i + 1 := rfl
        have l6 : (intOf (.int .i64 (i : Int))).toNat = i := rfl
        rw [l5, l6]
        exact Nat.sub_lt_sub_left hlt (Nat.lt_succ_self i)
    · obtain rfl : i = s.size := by omega
      have e : val (s.data.toList.take s.size) = vb s := by rw [List.take_of_length_le (by rw [Kit.size_list]; exact Nat.le_refl _)]; rfl
      rw [e]
      go_wp2
      go_ret
      exact ⟨rfl, rfl⟩

theorem be_div (n i : Nat) : n / 256 ^ i / 256 = n / 256 ^ (i + 1) := by rw [Nat.div_div_eq_div_mul, Nat.pow_succ]

end Slt
end Go.Proofs.Ytgjejofdmfpdjaa
