/-
  What == says of two sums.
-/
import Derived.Test.YtgfblndmblgeeaaYMBase
import Derived.Laws.Tables
import Derived.Laws.Cover2
namespace Go.Proofs.Ytgfblndmblgeeaa
open Go.RowKit
theorem sum_in (a b c d : Int) (w : World) : (Op.equalIn 10000 46 (.agg #[.int .u64 a, .int .u64 b]) (.agg #[.int .u64 c, .int .u64 d])).run Try.prog w = .ok (a == c && b == d) w := by
  have u3 := Try.underlying44
  have a3 := Try.isAgg44
  have z3 := Try.sizeOf44
  rw [show (10000 : Nat) = 9999 + 1 from rfl, Op.equalIn]
  simp only [Sem.run_bind, run_underlying Try.underlying46, Result.andThen_ok]
  simp only [Std.Legacy.Range.forIn_eq_forIn_range', Std.Legacy.Range.size, Nat.sub_zero, Nat.add_sub_cancel, Nat.div_one, List.range'_succ, List.range'_zero, List.forIn_cons, List.forIn_nil]
  go_simp
  by_cases h1 : a = c <;> by_cases h2 : b = d <;> simp [h1, h2]

theorem sum_run (a b c d : Int) (w : World) : (binOp .eql 46 (.agg #[.int .u64 a, .int .u64 b]) (.agg #[.int .u64 c, .int .u64 d])).run Try.prog w = .ok (.bool (a == c && b == d)) w := by
  rw [run_eql_struct, sum_in]; rfl

theorem sum_ne_run (a b c d : Int) (w : World) : (binOp .neq 46 (.agg #[.int .u64 a, .int .u64 b]) (.agg #[.int .u64 c, .int .u64 d])).run Try.prog w = .ok (.bool (!(a == c && b == d))) w := by
  rw [run_neq_struct, sum_in]; rfl

theorem sum_same (a b : Int) (w : World) : (binOp .eql 46 (.agg #[.int .u64 a, .int .u64 b]) (.agg #[.int .u64 a, .int .u64 b])).run Try.prog w = .ok (.bool true) w := by
  rw [sum_run]; simp

theorem sum_yes {a b c d : Int} (h1 : a = c) (h2 : b = d) (w : World) : (binOp .eql 46 (.agg #[.int .u64 a, .int .u64 b]) (.agg #[.int .u64 c, .int .u64 d])).run Try.prog w = .ok (.bool true) w := by
  rw [sum_run, h1, h2]; simp

theorem sum_ne_no {a b c d : Int} (h1 : a = c) (h2 : b = d) (w : World) : (binOp .neq 46 (.agg #[.int .u64 a, .int .u64 b]) (.agg #[.int .u64 c, .int .u64 d])).run Try.prog w = .ok (.bool false) w := by
  rw [sum_ne_run, h1, h2]; simp

end Go.Proofs.Ytgfblndmblgeeaa
