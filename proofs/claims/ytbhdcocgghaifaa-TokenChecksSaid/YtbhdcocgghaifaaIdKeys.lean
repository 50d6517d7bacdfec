/-
  Package ideal: the keys of its tables.
-/
import Derived.Test.YtbhdcocgghaifaaRows
import Derived.Test.YtbhdcocgghaifaaTab
import Derived.Test.YtbhdcocgghaifaaIdeal
namespace Go.Proofs.Ytbhdcocgghaifaa
open Go.RowKit Go.Maps Go.WideShapes Go.ChangeMaps

namespace Ida
theorem laid : laidOutB Try.prog = true := by kernel_rfl
theorem keyNum : Keyed Try.prog 22 := int_keyed Try.underlying22
theorem keyStr : Keyed Try.prog 9 := string_keyed Try.underlying9
theorem keyMac : Keyed Try.prog 77 := Keyed.of_law (deep_law_laid laid (m := 2) (by omega) (by decide +kernel) (by kernel_rfl) (by rw [Try.underlying77]))
theorem keySeal : Keyed Try.prog 102 := Keyed.of_law (deep_law_laid laid (m := 2) (by omega) (by decide +kernel) (by kernel_rfl) (by rw [Try.underlying102]))
theorem keyOpen : Keyed Try.prog 104 := Keyed.of_law (deep_law_laid laid (m := 2) (by omega) (by decide +kernel) (by kernel_rfl) (by rw [Try.underlying104]))

/-- A number as a cell. -/
def num (n : Nat) : Value := .int .u64 (n : Int)
def macKey (x : Nat × ByteArray) : Value := .agg #[num x.1, .string x.2]
def sealKey (x : Nat × Nat × ByteArray × ByteArray) : Value := .agg #[num x.1, num x.2.1, .string x.2.2.1, .string x.2.2.2]
def openKey (x : Nat × Nat × ByteArray × Nat) : Value := .agg #[num x.1, num x.2.1, .string x.2.2.1, num x.2.2.2]
def unit : Unit → Value := fun _ => .agg #[]
theorem num_inj (x y : Nat) (h : num x = num y) : x = y := by
  injection h with _ h
  omega
theorem str_inj (x y : ByteArray) (h : Value.string x = Value.string y) : x = y := by injection h
theorem macKey_inj (x y : Nat × ByteArray) (h : macKey x = macKey y) : x = y := by
  simp only [macKey, Value.agg.injEq, Array.mk.injEq, List.cons.injEq, Value.string.injEq, and_true] at h
  exact Prod.ext (num_inj _ _ h.1) h.2
theorem sealKey_inj (x y : Nat × Nat × ByteArray × ByteArray) (h : sealKey x = sealKey y) : x = y := by
  simp only [sealKey, Value.agg.injEq, Array.mk.injEq, List.cons.injEq, Value.string.injEq, and_true] at h
  exact Prod.ext (num_inj _ _ h.1) (Prod.ext (num_inj _ _ h.2.1) (Prod.ext h.2.2.1 h.2.2.2))
theorem openKey_inj (x y : Nat × Nat × ByteArray × Nat) (h : openKey x = openKey y) : x = y := by
  simp only [openKey, Value.agg.injEq, Array.mk.injEq, List.cons.injEq, Value.string.injEq, and_true] at h
  exact Prod.ext (num_inj _ _ h.1) (Prod.ext (num_inj _ _ h.2.1) (Prod.ext h.2.2.1 (num_inj _ _ h.2.2.2)))

theorem wf_num {n : Nat} (h : n < 18446744073709551616) : (Lit.int .u64 (n : Int)).wf = true := by
  exact WalkArith.wf_u64 (by omega)
theorem at_num {n : Nat} (h : n < 18446744073709551616) : ∃ l, keyOf Try.prog 22 (num n) = some l := ⟨_, keyOf_int_mk Try.underlying22 (wf_num h)⟩
theorem at_str {s : ByteArray} (h : s.size ≤ maxLen) : ∃ l, keyOf Try.prog 9 (.string s) = some l := ⟨_, WideMaps.keyOf_string_mk Try.underlying9 h⟩
theorem sizes : ∃ m, Try.prog.types.size = m + 1 := ⟨_, (show Try.prog.types.size = (Try.prog.types.size - 1) + 1 by decide +kernel)⟩
theorem one_num : Try.prog.cellsOf 22 = 1 := by kernel_rfl
theorem one_str : Try.prog.cellsOf 9 = 1 := by kernel_rfl
theorem cells_mac : Try.prog.cellsOf 77 = 2 := by kernel_rfl
theorem cells_seal : Try.prog.cellsOf 102 = 4 := by kernel_rfl
theorem cells_open : Try.prog.cellsOf 104 = 4 := by kernel_rfl
theorem at_mac {k : Nat} {s : ByteArray} (hk : k < 18446744073709551616) (hs : s.size ≤ maxLen) : ∃ l, keyOf Try.prog 77 (macKey (k, s)) = some l := by
  obtain ⟨m, hm⟩ := sizes
  have h1 : Try.prog.keyType 77 = true := by kernel_rfl
  unfold keyOf
  rw [Try.underlying77]
  simp only [h1, Value.formed, Try.underlying77, macKey, cells_mac]
  rw [hm]
  simp [Program.keyLits, Try.underlying77, Try.underlying22, Try.underlying9, Value.cells, cells_mac, one_num, one_str, num, wf_num hk, hs]
theorem at_seal {k n : Nat} {a b : ByteArray} (hk : k < 18446744073709551616) (hn : n < 18446744073709551616) (ha : a.size ≤ maxLen) (hb : b.size ≤ maxLen) : ∃ l, keyOf Try.prog 102 (sealKey (k, n, a, b)) = some l := by
  obtain ⟨m, hm⟩ := sizes
  have h1 : Try.prog.keyType 102 = true := by kernel_rfl
  unfold keyOf
  rw [Try.underlying102]
  simp only [h1, Value.formed, Try.underlying102, sealKey, cells_seal]
  rw [hm]
  simp [Program.keyLits, Try.underlying102, Try.underlying22, Try.underlying9, Value.cells, cells_seal, one_num, one_str, num, wf_num hk, wf_num hn, ha, hb]
theorem at_open {k n : Nat} {a : ByteArray} {c : Nat} (hk : k < 18446744073709551616) (hn : n < 18446744073709551616) (ha : a.size ≤ maxLen) (hc : c < 18446744073709551616) : ∃ l, keyOf Try.prog 104 (openKey (k, n, a, c)) = some l := by
  obtain ⟨m, hm⟩ := sizes
  have h1 : Try.prog.keyType 104 = true := by kernel_rfl
  unfold keyOf
  rw [Try.underlying104]
  simp only [h1, Value.formed, Try.underlying104, openKey, cells_open]
  rw [hm]
  simp [Program.keyLits, Try.underlying104, Try.underlying22, Try.underlying9, Value.cells, cells_open, one_num, one_str, num, wf_num hk, wf_num hn, ha, wf_num hc]
end Ida
end Go.Proofs.Ytbhdcocgghaifaa
