/-
  Package msg: the shape of a kind, out of the table of shapes.
-/
import Derived.Test.YtnbjlhbaeghihaaMsg
import Derived.Test.YtnbjlhbaeghihaaBuild
import Derived.Deep.WholeRow
import Derived.Deep.DeepCutAuto
import Derived.Great.Walk
import Derived.Handy
namespace Go.Proofs.Ytnbjlhbaeghihaa
open Go.RowKit Go.Great
open Msg (numOf lowOf highOf form chk enc dm)

def table : Array Value := #[.int .i64 4, .int .i64 0, .int .i64 0, .int .i64 3, .int .i64 0, .int .i64 0, .int .i64 5, .int .i64 0, .int .i64 64, .int .i64 4, .int .i64 0, .int .i64 0, .int .i64 4, .int .i64 1, .int .i64 1, .int .i64 3, .int .i64 0, .int .i64 0, .int .i64 2, .int .i64 1, .int .i64 1, .int .i64 3, .int .i64 1, .int .i64 1]
def blank : Array Value := #[.int .i64 0, .int .i64 0, .int .i64 0, .int .i64 0, .int .i64 0, .int .i64 0, .int .i64 0, .int .i64 0, .int .i64 0, .int .i64 0, .int .i64 0, .int .i64 0, .int .i64 0, .int .i64 0, .int .i64 0, .int .i64 0, .int .i64 0, .int .i64 0, .int .i64 0, .int .i64 0, .int .i64 0, .int .i64 0, .int .i64 0, .int .i64 0]

set_option maxHeartbeats 2000000 in
set_option maxRecDepth 100000 in
theorem shapeOf_no (k : Nat) (hk : ¬ k < 8) (w : World) :
    Calls Try.prog 19 #[.int .u64 k] w fun e w' => e = .returned (.tuple #[.agg #[.int .i64 0, .int .i64 0, .int .i64 0], .bool false]) ∧ Below w.heap.size w w' := by
  go_enter Try.func19, Try.ntmps19
  go_upto_region 1 with (fail)
  apply wp_region_lit
  refine wpList_readTo rfl (some 5) rfl (.agg #[.int .i64 4, .int .i64 0, .int .i64 0]) (by kernel_rfl) ?_
  refine wpList_readTo rfl (some 6) rfl (.agg #[.int .i64 3, .int .i64 0, .int .i64 0]) (by kernel_rfl) ?_
  refine wpList_readTo rfl (some 7) rfl (.agg #[.int .i64 5, .int .i64 0, .int .i64 64]) (by kernel_rfl) ?_
  refine wpList_readTo rfl (some 8) rfl (.agg #[.int .i64 4, .int .i64 0, .int .i64 0]) (by kernel_rfl) ?_
  refine wpList_readTo rfl (some 9) rfl (.agg #[.int .i64 4, .int .i64 1, .int .i64 1]) (by kernel_rfl) ?_
  refine wpList_readTo rfl (some 10) rfl (.agg #[.int .i64 3, .int .i64 0, .int .i64 0]) (by kernel_rfl) ?_
  refine wpList_readTo rfl (some 11) rfl (.agg #[.int .i64 2, .int .i64 1, .int .i64 1]) (by kernel_rfl) ?_
  refine wpList_readTo rfl (some 12) rfl (.agg #[.int .i64 3, .int .i64 1, .int .i64 1]) (by kernel_rfl) ?_
  refine wpList_readTo rfl (some 13) rfl (.agg table) (by kernel_rfl) ?_
  refine wpList_allocTo rfl (some 4) rfl (.pointer (some ⟨(w.alloc (.cells #[.int .i64 0, .int .i64 0, .int .i64 0] 43)).heap.size, 0, none⟩)) (.cells blank 68) (by kernel_rfl) ?_
  refine wpList_store_row rfl 68 _ _ rfl _ table (by kernel_rfl) (by kernel_rfl) 68 blank (heap_alloc_last _ _) (by kernel_rfl) rfl (by kernel_rfl) ?_
  rw [World.setRow_alloc_new]
  apply wpList_nil
  simp only [Exit.then]
  go_at_K
  go_wp2
  go_returns
  exact ⟨rfl, ((Below.refl _ w).alloc (Nat.le_refl _) _).alloc (by simp) _⟩

set_option maxHeartbeats 2000000 in
set_option maxRecDepth 100000 in
theorem shapeOf_0 (w : World) :
    Calls Try.prog 19 #[.int .u64 0] w fun e w' => e = .returned (.tuple #[.agg #[.int .i64 4, .int .i64 0, .int .i64 0], .bool true]) ∧ Below w.heap.size w w' := by
  have t0 : table[0]? = some (.int .i64 4) := rfl
  have t1 : table[1]? = some (.int .i64 0) := rfl
  have t2 : table[2]? = some (.int .i64 0) := rfl
  go_enter Try.func19, Try.ntmps19
  go_upto_region 1 with (fail)
  apply wp_region_lit
  refine wpList_readTo rfl (some 5) rfl (.agg #[.int .i64 4, .int .i64 0, .int .i64 0]) (by kernel_rfl) ?_
  refine wpList_readTo rfl (some 6) rfl (.agg #[.int .i64 3, .int .i64 0, .int .i64 0]) (by kernel_rfl) ?_
  refine wpList_readTo rfl (some 7) rfl (.agg #[.int .i64 5, .int .i64 0, .int .i64 64]) (by kernel_rfl) ?_
  refine wpList_readTo rfl (some 8) rfl (.agg #[.int .i64 4, .int .i64 0, .int .i64 0]) (by kernel_rfl) ?_
  refine wpList_readTo rfl (some 9) rfl (.agg #[.int .i64 4, .int .i64 1, .int .i64 1]) (by kernel_rfl) ?_
  refine wpList_readTo rfl (some 10) rfl (.agg #[.int .i64 3, .int .i64 0, .int .i64 0]) (by kernel_rfl) ?_
  refine wpList_readTo rfl (some 11) rfl (.agg #[.int .i64 2, .int .i64 1, .int .i64 1]) (by kernel_rfl) ?_
  refine wpList_readTo rfl (some 12) rfl (.agg #[.int .i64 3, .int .i64 1, .int .i64 1]) (by kernel_rfl) ?_
  refine wpList_readTo rfl (some 13) rfl (.agg table) (by kernel_rfl) ?_
  refine wpList_allocTo rfl (some 4) rfl (.pointer (some ⟨(w.alloc (.cells #[.int .i64 0, .int .i64 0, .int .i64 0] 43)).heap.size, 0, none⟩)) (.cells blank 68) (by kernel_rfl) ?_
  refine wpList_store_row rfl 68 _ _ rfl _ table (by kernel_rfl) (by kernel_rfl) 68 blank (heap_alloc_last _ _) (by kernel_rfl) rfl (by kernel_rfl) ?_
  rw [World.setRow_alloc_new]
  apply wpList_nil
  simp only [Exit.then]
  go_at_K
  go_wp2
  go_returns
  exact ⟨rfl, ((Below.refl _ w).alloc (Nat.le_refl _) _).alloc (by simp) _⟩

set_option maxHeartbeats 2000000 in
set_option maxRecDepth 100000 in
theorem shapeOf_1 (w : World) :
    Calls Try.prog 19 #[.int .u64 1] w fun e w' => e = .returned (.tuple #[.agg #[.int .i64 3, .int .i64 0, .int .i64 0], .bool true]) ∧ Below w.heap.size w w' := by
  have t0 : table[3]? = some (.int .i64 3) := rfl
  have t1 : table[4]? = some (.int .i64 0) := rfl
  have t2 : table[5]? = some (.int .i64 0) := rfl
  go_enter Try.func19, Try.ntmps19
  go_upto_region 1 with (fail)
  apply wp_region_lit
  refine wpList_readTo rfl (some 5) rfl (.agg #[.int .i64 4, .int .i64 0, .int .i64 0]) (by kernel_rfl) ?_
  refine wpList_readTo rfl (some 6) rfl (.agg #[.int .i64 3, .int .i64 0, .int .i64 0]) (by kernel_rfl) ?_
  refine wpList_readTo rfl (some 7) rfl (.agg #[.int .i64 5, .int .i64 0, .int .i64 64]) (by kernel_rfl) ?_
  refine wpList_readTo rfl (some 8) rfl (.agg #[.int .i64 4, .int .i64 0, .int .i64 0]) (by kernel_rfl) ?_
  refine wpList_readTo rfl (some 9) rfl (.agg #[.int .i64 4, .int .i64 1, .int .i64 1]) (by kernel_rfl) ?_
  refine wpList_readTo rfl (some 10) rfl (.agg #[.int .i64 3, .int .i64 0, .int .i64 0]) (by kernel_rfl) ?_
  refine wpList_readTo rfl (some 11) rfl (.agg #[.int .i64 2, .int .i64 1, .int .i64 1]) (by kernel_rfl) ?_
  refine wpList_readTo rfl (some 12) rfl (.agg #[.int .i64 3, .int .i64 1, .int .i64 1]) (by kernel_rfl) ?_
  refine wpList_readTo rfl (some 13) rfl (.agg table) (by kernel_rfl) ?_
  refine wpList_allocTo rfl (some 4) rfl (.pointer (some ⟨(w.alloc (.cells #[.int .i64 0, .int .i64 0, .int .i64 0] 43)).heap.size, 0, none⟩)) (.cells blank 68) (by kernel_rfl) ?_
  refine wpList_store_row rfl 68 _ _ rfl _ table (by kernel_rfl) (by kernel_rfl) 68 blank (heap_alloc_last _ _) (by kernel_rfl) rfl (by kernel_rfl) ?_
  rw [World.setRow_alloc_new]
  apply wpList_nil
  simp only [Exit.then]
  go_at_K
  go_wp2
  go_returns
  exact ⟨rfl, ((Below.refl _ w).alloc (Nat.le_refl _) _).alloc (by simp) _⟩

set_option maxHeartbeats 2000000 in
set_option maxRecDepth 100000 in
theorem shapeOf_2 (w : World) :
    Calls Try.prog 19 #[.int .u64 2] w fun e w' => e = .returned (.tuple #[.agg #[.int .i64 5, .int .i64 0, .int .i64 64], .bool true]) ∧ Below w.heap.size w w' := by
  have t0 : table[6]? = some (.int .i64 5) := rfl
  have t1 : table[7]? = some (.int .i64 0) := rfl
  have t2 : table[8]? = some (.int .i64 64) := rfl
  go_enter Try.func19, Try.ntmps19
  go_upto_region 1 with (fail)
  apply wp_region_lit
  refine wpList_readTo rfl (some 5) rfl (.agg #[.int .i64 4, .int .i64 0, .int .i64 0]) (by kernel_rfl) ?_
  refine wpList_readTo rfl (some 6) rfl (.agg #[.int .i64 3, .int .i64 0, .int .i64 0]) (by kernel_rfl) ?_
  refine wpList_readTo rfl (some 7) rfl (.agg #[.int .i64 5, .int .i64 0, .int .i64 64]) (by kernel_rfl) ?_
  refine wpList_readTo rfl (some 8) rfl (.agg #[.int .i64 4, .int .i64 0, .int .i64 0]) (by kernel_rfl) ?_
  refine wpList_readTo rfl (some 9) rfl (.agg #[.int .i64 4, .int .i64 1, .int .i64 1]) (by kernel_rfl) ?_
  refine wpList_readTo rfl (some 10) rfl (.agg #[.int .i64 3, .int .i64 0, .int .i64 0]) (by kernel_rfl) ?_
  refine wpList_readTo rfl (some 11) rfl (.agg #[.int .i64 2, .int .i64 1, .int .i64 1]) (by kernel_rfl) ?_
  refine wpList_readTo rfl (some 12) rfl (.agg #[.int .i64 3, .int .i64 1, .int .i64 1]) (by kernel_rfl) ?_
  refine wpList_readTo rfl (some 13) rfl (.agg table) (by kernel_rfl) ?_
  refine wpList_allocTo rfl (some 4) rfl (.pointer (some ⟨(w.alloc (.cells #[.int .i64 0, .int .i64 0, .int .i64 0] 43)).heap.size, 0, none⟩)) (.cells blank 68) (by kernel_rfl) ?_
  refine wpList_store_row rfl 68 _ _ rfl _ table (by kernel_rfl) (by kernel_rfl) 68 blank (heap_alloc_last _ _) (by kernel_rfl) rfl (by kernel_rfl) ?_
  rw [World.setRow_alloc_new]
  apply wpList_nil
  simp only [Exit.then]
  go_at_K
  go_wp2
  go_returns
  exact ⟨rfl, ((Below.refl _ w).alloc (Nat.le_refl _) _).alloc (by simp) _⟩

set_option maxHeartbeats 2000000 in
set_option maxRecDepth 100000 in
theorem shapeOf_3 (w : World) :
    Calls Try.prog 19 #[.int .u64 3] w fun e w' => e = .returned (.tuple #[.agg #[.int .i64 4, .int .i64 0, .int .i64 0], .bool true]) ∧ Below w.heap.size w w' := by
  have t0 : table[9]? = some (.int .i64 4) := rfl
  have t1 : table[10]? = some (.int .i64 0) := rfl
  have t2 : table[11]? = some (.int .i64 0) := rfl
  go_enter Try.func19, Try.ntmps19
  go_upto_region 1 with (fail)
  apply wp_region_lit
  refine wpList_readTo rfl (some 5) rfl (.agg #[.int .i64 4, .int .i64 0, .int .i64 0]) (by kernel_rfl) ?_
  refine wpList_readTo rfl (some 6) rfl (.agg #[.int .i64 3, .int .i64 0, .int .i64 0]) (by kernel_rfl) ?_
  refine wpList_readTo rfl (some 7) rfl (.agg #[.int .i64 5, .int .i64 0, .int .i64 64]) (by kernel_rfl) ?_
  refine wpList_readTo rfl (some 8) rfl (.agg #[.int .i64 4, .int .i64 0, .int .i64 0]) (by kernel_rfl) ?_
  refine wpList_readTo rfl (some 9) rfl (.agg #[.int .i64 4, .int .i64 1, .int .i64 1]) (by kernel_rfl) ?_
  refine wpList_readTo rfl (some 10) rfl (.agg #[.int .i64 3, .int .i64 0, .int .i64 0]) (by kernel_rfl) ?_
  refine wpList_readTo rfl (some 11) rfl (.agg #[.int .i64 2, .int .i64 1, .int .i64 1]) (by kernel_rfl) ?_
  refine wpList_readTo rfl (some 12) rfl (.agg #[.int .i64 3, .int .i64 1, .int .i64 1]) (by kernel_rfl) ?_
  refine wpList_readTo rfl (some 13) rfl (.agg table) (by kernel_rfl) ?_
  refine wpList_allocTo rfl (some 4) rfl (.pointer (some ⟨(w.alloc (.cells #[.int .i64 0, .int .i64 0, .int .i64 0] 43)).heap.size, 0, none⟩)) (.cells blank 68) (by kernel_rfl) ?_
  refine wpList_store_row rfl 68 _ _ rfl _ table (by kernel_rfl) (by kernel_rfl) 68 blank (heap_alloc_last _ _) (by kernel_rfl) rfl (by kernel_rfl) ?_
  rw [World.setRow_alloc_new]
  apply wpList_nil
  simp only [Exit.then]
  go_at_K
  go_wp2
  go_returns
  exact ⟨rfl, ((Below.refl _ w).alloc (Nat.le_refl _) _).alloc (by simp) _⟩

set_option maxHeartbeats 2000000 in
set_option maxRecDepth 100000 in
theorem shapeOf_4 (w : World) :
    Calls Try.prog 19 #[.int .u64 4] w fun e w' => e = .returned (.tuple #[.agg #[.int .i64 4, .int .i64 1, .int .i64 1], .bool true]) ∧ Below w.heap.size w w' := by
  have t0 : table[12]? = some (.int .i64 4) := rfl
  have t1 : table[13]? = some (.int .i64 1) := rfl
  have t2 : table[14]? = some (.int .i64 1) := rfl
  go_enter Try.func19, Try.ntmps19
  go_upto_region 1 with (fail)
  apply wp_region_lit
  refine wpList_readTo rfl (some 5) rfl (.agg #[.int .i64 4, .int .i64 0, .int .i64 0]) (by kernel_rfl) ?_
  refine wpList_readTo rfl (some 6) rfl (.agg #[.int .i64 3, .int .i64 0, .int .i64 0]) (by kernel_rfl) ?_
  refine wpList_readTo rfl (some 7) rfl (.agg #[.int .i64 5, .int .i64 0, .int .i64 64]) (by kernel_rfl) ?_
  refine wpList_readTo rfl (some 8) rfl (.agg #[.int .i64 4, .int .i64 0, .int .i64 0]) (by kernel_rfl) ?_
  refine wpList_readTo rfl (some 9) rfl (.agg #[.int .i64 4, .int .i64 1, .int .i64 1]) (by kernel_rfl) ?_
  refine wpList_readTo rfl (some 10) rfl (.agg #[.int .i64 3, .int .i64 0, .int .i64 0]) (by kernel_rfl) ?_
  refine wpList_readTo rfl (some 11) rfl (.agg #[.int .i64 2, .int .i64 1, .int .i64 1]) (by kernel_rfl) ?_
  refine wpList_readTo rfl (some 12) rfl (.agg #[.int .i64 3, .int .i64 1, .int .i64 1]) (by kernel_rfl) ?_
  refine wpList_readTo rfl (some 13) rfl (.agg table) (by kernel_rfl) ?_
  refine wpList_allocTo rfl (some 4) rfl (.pointer (some ⟨(w.alloc (.cells #[.int .i64 0, .int .i64 0, .int .i64 0] 43)).heap.size, 0, none⟩)) (.cells blank 68) (by kernel_rfl) ?_
  refine wpList_store_row rfl 68 _ _ rfl _ table (by kernel_rfl) (by kernel_rfl) 68 blank (heap_alloc_last _ _) (by kernel_rfl) rfl (by kernel_rfl) ?_
  rw [World.setRow_alloc_new]
  apply wpList_nil
  simp only [Exit.then]
  go_at_K
  go_wp2
  go_returns
  exact ⟨rfl, ((Below.refl _ w).alloc (Nat.le_refl _) _).alloc (by simp) _⟩

set_option maxHeartbeats 2000000 in
set_option maxRecDepth 100000 in
theorem shapeOf_5 (w : World) :
    Calls Try.prog 19 #[.int .u64 5] w fun e w' => e = .returned (.tuple #[.agg #[.int .i64 3, .int .i64 0, .int .i64 0], .bool true]) ∧ Below w.heap.size w w' := by
  have t0 : table[15]? = some (.int .i64 3) := rfl
  have t1 : table[16]? = some (.int .i64 0) := rfl
  have t2 : table[17]? = some (.int .i64 0) := rfl
  go_enter Try.func19, Try.ntmps19
  go_upto_region 1 with (fail)
  apply wp_region_lit
  refine wpList_readTo rfl (some 5) rfl (.agg #[.int .i64 4, .int .i64 0, .int .i64 0]) (by kernel_rfl) ?_
  refine wpList_readTo rfl (some 6) rfl (.agg #[.int .i64 3, .int .i64 0, .int .i64 0]) (by kernel_rfl) ?_
  refine wpList_readTo rfl (some 7) rfl (.agg #[.int .i64 5, .int .i64 0, .int .i64 64]) (by kernel_rfl) ?_
  refine wpList_readTo rfl (some 8) rfl (.agg #[.int .i64 4, .int .i64 0, .int .i64 0]) (by kernel_rfl) ?_
  refine wpList_readTo rfl (some 9) rfl (.agg #[.int .i64 4, .int .i64 1, .int .i64 1]) (by kernel_rfl) ?_
  refine wpList_readTo rfl (some 10) rfl (.agg #[.int .i64 3, .int .i64 0, .int .i64 0]) (by kernel_rfl) ?_
  refine wpList_readTo rfl (some 11) rfl (.agg #[.int .i64 2, .int .i64 1, .int .i64 1]) (by kernel_rfl) ?_
  refine wpList_readTo rfl (some 12) rfl (.agg #[.int .i64 3, .int .i64 1, .int .i64 1]) (by kernel_rfl) ?_
  refine wpList_readTo rfl (some 13) rfl (.agg table) (by kernel_rfl) ?_
  refine wpList_allocTo rfl (some 4) rfl (.pointer (some ⟨(w.alloc (.cells #[.int .i64 0, .int .i64 0, .int .i64 0] 43)).heap.size, 0, none⟩)) (.cells blank 68) (by kernel_rfl) ?_
  refine wpList_store_row rfl 68 _ _ rfl _ table (by kernel_rfl) (by kernel_rfl) 68 blank (heap_alloc_last _ _) (by kernel_rfl) rfl (by kernel_rfl) ?_
  rw [World.setRow_alloc_new]
  apply wpList_nil
  simp only [Exit.then]
  go_at_K
  go_wp2
  go_returns
  exact ⟨rfl, ((Below.refl _ w).alloc (Nat.le_refl _) _).alloc (by simp) _⟩

set_option maxHeartbeats 2000000 in
set_option maxRecDepth 100000 in
theorem shapeOf_6 (w : World) :
    Calls Try.prog 19 #[.int .u64 6] w fun e w' => e = .returned (.tuple #[.agg #[.int .i64 2, .int .i64 1, .int .i64 1], .bool true]) ∧ Below w.heap.size w w' := by
  have t0 : table[18]? = some (.int .i64 2) := rfl
  have t1 : table[19]? = some (.int .i64 1) := rfl
  have t2 : table[20]? = some (.int .i64 1) := rfl
  go_enter Try.func19, Try.ntmps19
  go_upto_region 1 with (fail)
  apply wp_region_lit
  refine wpList_readTo rfl (some 5) rfl (.agg #[.int .i64 4, .int .i64 0, .int .i64 0]) (by kernel_rfl) ?_
  refine wpList_readTo rfl (some 6) rfl (.agg #[.int .i64 3, .int .i64 0, .int .i64 0]) (by kernel_rfl) ?_
  refine wpList_readTo rfl (some 7) rfl (.agg #[.int .i64 5, .int .i64 0, .int .i64 64]) (by kernel_rfl) ?_
  refine wpList_readTo rfl (some 8) rfl (.agg #[.int .i64 4, .int .i64 0, .int .i64 0]) (by kernel_rfl) ?_
  refine wpList_readTo rfl (some 9) rfl (.agg #[.int .i64 4, .int .i64 1, .int .i64 1]) (by kernel_rfl) ?_
  refine wpList_readTo rfl (some 10) rfl (.agg #[.int .i64 3, .int .i64 0, .int .i64 0]) (by kernel_rfl) ?_
  refine wpList_readTo rfl (some 11) rfl (.agg #[.int .i64 2, .int .i64 1, .int .i64 1]) (by kernel_rfl) ?_
  refine wpList_readTo rfl (some 12) rfl (.agg #[.int .i64 3, .int .i64 1, .int .i64 1]) (by kernel_rfl) ?_
  refine wpList_readTo rfl (some 13) rfl (.agg table) (by kernel_rfl) ?_
  refine wpList_allocTo rfl (some 4) rfl (.pointer (some ⟨(w.alloc (.cells #[.int .i64 0, .int .i64 0, .int .i64 0] 43)).heap.size, 0, none⟩)) (.cells blank 68) (by kernel_rfl) ?_
  refine wpList_store_row rfl 68 _ _ rfl _ table (by kernel_rfl) (by kernel_rfl) 68 blank (heap_alloc_last _ _) (by kernel_rfl) rfl (by kernel_rfl) ?_
  rw [World.setRow_alloc_new]
  apply wpList_nil
  simp only [Exit.then]
  go_at_K
  go_wp2
  go_returns
  exact ⟨rfl, ((Below.refl _ w).alloc (Nat.le_refl _) _).alloc (by simp) _⟩

set_option maxHeartbeats 2000000 in
set_option maxRecDepth 100000 in
theorem shapeOf_7 (w : World) :
    Calls Try.prog 19 #[.int .u64 7] w fun e w' => e = .returned (.tuple #[.agg #[.int .i64 3, .int .i64 1, .int .i64 1], .bool true]) ∧ Below w.heap.size w w' := by
  have t0 : table[21]? = some (.int .i64 3) := rfl
  have t1 : table[22]? = some (.int .i64 1) := rfl
  have t2 : table[23]? = some (.int .i64 1) := rfl
  go_enter Try.func19, Try.ntmps19
  go_upto_region 1 with (fail)
  apply wp_region_lit
  refine wpList_readTo rfl (some 5) rfl (.agg #[.int .i64 4, .int .i64 0, .int .i64 0]) (by kernel_rfl) ?_
  refine wpList_readTo rfl (some 6) rfl (.agg #[.int .i64 3, .int .i64 0, .int .i64 0]) (by kernel_rfl) ?_
  refine wpList_readTo rfl (some 7) rfl (.agg #[.int .i64 5, .int .i64 0, .int .i64 64]) (by kernel_rfl) ?_
  refine wpList_readTo rfl (some 8) rfl (.agg #[.int .i64 4, .int .i64 0, .int .i64 0]) (by kernel_rfl) ?_
  refine wpList_readTo rfl (some 9) rfl (.agg #[.int .i64 4, .int .i64 1, .int .i64 1]) (by kernel_rfl) ?_
  refine wpList_readTo rfl (some 10) rfl (.agg #[.int .i64 3, .int .i64 0, .int .i64 0]) (by kernel_rfl) ?_
  refine wpList_readTo rfl (some 11) rfl (.agg #[.int .i64 2, .int .i64 1, .int .i64 1]) (by kernel_rfl) ?_
  refine wpList_readTo rfl (some 12) rfl (.agg #[.int .i64 3, .int .i64 1, .int .i64 1]) (by kernel_rfl) ?_
  refine wpList_readTo rfl (some 13) rfl (.agg table) (by kernel_rfl) ?_
  refine wpList_allocTo rfl (some 4) rfl (.pointer (some ⟨(w.alloc (.cells #[.int .i64 0, .int .i64 0, .int .i64 0] 43)).heap.size, 0, none⟩)) (.cells blank 68) (by kernel_rfl) ?_
  refine wpList_store_row rfl 68 _ _ rfl _ table (by kernel_rfl) (by kernel_rfl) 68 blank (heap_alloc_last _ _) (by kernel_rfl) rfl (by kernel_rfl) ?_
  rw [World.setRow_alloc_new]
  apply wpList_nil
  simp only [Exit.then]
  go_at_K
  go_wp2
  go_returns
  exact ⟨rfl, ((Below.refl _ w).alloc (Nat.le_refl _) _).alloc (by simp) _⟩

def shapeRes (k : Nat) : Value :=
  if k < 8 then .tuple #[.agg #[.int .i64 (numOf k : Nat), .int .i64 (lowOf k : Nat), .int .i64 (highOf k : Nat)], .bool true] else .tuple #[.agg #[.int .i64 0, .int .i64 0, .int .i64 0], .bool false]

theorem shapeOf_any (k : Nat) (w : World) :
    Calls Try.prog 19 #[.int .u64 k] w fun e w' => e = .returned (shapeRes k) ∧ Below w.heap.size w w' := by
  by_cases hk : k < 8
  · rcases Msg.eight hk with rfl | rfl | rfl | rfl | rfl | rfl | rfl | rfl
    · exact shapeOf_0 w
    · exact shapeOf_1 w
    · exact shapeOf_2 w
    · exact shapeOf_3 w
    · exact shapeOf_4 w
    · exact shapeOf_5 w
    · exact shapeOf_6 w
    · exact shapeOf_7 w
  · unfold shapeRes
    rw [if_neg hk]
    exact shapeOf_no k hk w
end Go.Proofs.Ytnbjlhbaeghihaa
