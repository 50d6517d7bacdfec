/-
  Three numbers compared as an array.
-/
import Derived.Test.YtkadkakkaodeeaaKeyC
import Derived.Laws.StructEq
import Derived.ChangeKeysEq
namespace Go.Proofs.Ytkadkakkaodeeaa.Kya
open Go.RowKit Ida

theorem plain_num : Try.prog.plainKey 24 = true := by kernel_rfl
theorem three_eql (a0 a1 a2 b0 b1 b2 : Int) (w : World) : (binOp .eql 45 (.agg #[.int .u64 a0, .int .u64 a1, .int .u64 a2]) (.agg #[.int .u64 b0, .int .u64 b1, .int .u64 b2])).run Try.prog w = .ok (.bool (a0 == b0 && a1 == b1 && a2 == b2)) w := by
  obtain ⟨i, hi⟩ := info_of_underlying (P := Try.prog) (t := 24) Try.underlying24
  have p0 : ∀ (a b c : Int), (part 24 #[.int .u64 a, .int .u64 b, .int .u64 c] (0 * 1)).run Try.prog w = .ok (.int .u64 a) w := fun a b c => run_part_plain w plain_num rfl
  have p1 : ∀ (a b c : Int), (part 24 #[.int .u64 a, .int .u64 b, .int .u64 c] (1 * 1)).run Try.prog w = .ok (.int .u64 b) w := fun a b c => run_part_plain w plain_num rfl
  have p2 : ∀ (a b c : Int), (part 24 #[.int .u64 a, .int .u64 b, .int .u64 c] (2 * 1)).run Try.prog w = .ok (.int .u64 c) w := fun a b c => run_part_plain w plain_num rfl
  have q : ∀ (a b : Int), (Op.equalIn 9999 24 (.int .u64 a) (.int .u64 b)).run Try.prog w = .ok (a == b) w := fun a b => run_equalIn_int w 9998 _ _ _ a b Try.underlying24
  have e := run_equalIn_array w 9999 #[.int .u64 a0, .int .u64 a1, .int .u64 a2] #[.int .u64 b0, .int .u64 b1, .int .u64 b2] Try.underlying45 hi
  rw [run_eql_struct, e, one_num, show List.range 3 = [0, 1, 2] from rfl]
  simp only [Op.eqItems, Sem.run_bind, Sem.run_ite, Sem.run_pure, p0, p1, p2, q, Result.andThen_ok]
  cases a0 == b0 <;> cases a1 == b1 <;> cases a2 == b2 <;> simp
end Go.Proofs.Ytkadkakkaodeeaa.Kya
