/-
  Tallies: their three cells, what == says of two, and of sums within them.
-/
import Derived.Test.YtgfblndmblgeeaaYMEq
namespace Go.Proofs.Ytgfblndmblgeeaa
open Go.RowKit
set_option linter.unusedVariables false
/-- The three cells of a tally's block. -/
theorem tri {w : World} {i : Nat} {a b c : Value} {T : TypeId} (h : w.heap[i]? = some (.cells #[a, b, c] T (0, 0))) :
    w.cell? ⟨i, 0, none⟩ = some a ∧ w.cell? ⟨i, 1, none⟩ = some b ∧ w.cell? ⟨i, 2, none⟩ = some c ∧ w.frozen? ⟨i, 0, none⟩ = false ∧ w.frozen? ⟨i, 1, none⟩ = false ∧ w.frozen? ⟨i, 2, none⟩ = false :=
  ⟨by simp [World.cell?, h], by simp [World.cell?, h], by simp [World.cell?, h], frozen_of_row w i 0 _ _ h, frozen_of_row w i 1 _ _ h, frozen_of_row w i 2 _ _ h⟩

/-- A store into another block. -/
theorem cell_apart {X : World} {i k : Nat} {p : Addr} {u v : Value} (h : X.cell? p = some v) (hne : p.block ≠ i) : (X.setCell ⟨i, k, none⟩ u).cell? p = some v :=
  (World.cell?_setCell_other _ _ _ _ (fun e => hne (by rw [← e]))).trans h

theorem sum_in9 (a b c d : Int) (w : World) : (Op.equalIn 9999 46 (.agg #[.int .u64 a, .int .u64 b]) (.agg #[.int .u64 c, .int .u64 d])).run Try.prog w = .ok (a == c && b == d) w := by
  have u3 := Try.underlying44
  have a3 := Try.isAgg44
  have z3 := Try.sizeOf44
  rw [show (9999 : Nat) = 9998 + 1 from rfl, Op.equalIn]
  simp only [Sem.run_bind, run_underlying Try.underlying46, Result.andThen_ok]
  simp only [Std.Legacy.Range.forIn_eq_forIn_range', Std.Legacy.Range.size, Nat.sub_zero, Nat.add_sub_cancel, Nat.div_one, List.range'_succ, List.range'_zero, List.forIn_cons, List.forIn_nil]
  go_simp
  by_cases h1 : a = c <;> by_cases h2 : b = d <;> simp [h1, h2]

theorem tal_in (n a b m c d : Int) (w : World) : (Op.equalIn 10000 48 (.agg #[.int .i64 n, .int .u64 a, .int .u64 b]) (.agg #[.int .i64 m, .int .u64 c, .int .u64 d])).run Try.prog w = .ok (n == m && (a == c && b == d)) w := by
  have e := sum_in9 a b c d w
  rw [show (10000 : Nat) = 9999 + 1 from rfl]
  go_simp
  by_cases h1 : n = m <;> by_cases h2 : a = c <;> by_cases h3 : b = d <;> simp [h1, h2, h3]

theorem tal_run (n a b m c d : Int) (w : World) : (binOp .eql 48 (.agg #[.int .i64 n, .int .u64 a, .int .u64 b]) (.agg #[.int .i64 m, .int .u64 c, .int .u64 d])).run Try.prog w = .ok (.bool (n == m && (a == c && b == d))) w := by
  rw [run_eql_struct, tal_in]; rfl

theorem tal_ne_run (n a b m c d : Int) (w : World) : (binOp .neq 48 (.agg #[.int .i64 n, .int .u64 a, .int .u64 b]) (.agg #[.int .i64 m, .int .u64 c, .int .u64 d])).run Try.prog w = .ok (.bool (!(n == m && (a == c && b == d)))) w := by
  rw [run_neq_struct, tal_in]; rfl

theorem tal_same (n a b : Int) (w : World) : (binOp .eql 48 (.agg #[.int .i64 n, .int .u64 a, .int .u64 b]) (.agg #[.int .i64 n, .int .u64 a, .int .u64 b])).run Try.prog w = .ok (.bool true) w := by
  rw [tal_run]; simp

theorem tal_ne_same (n a b : Int) (w : World) : (binOp .neq 48 (.agg #[.int .i64 n, .int .u64 a, .int .u64 b]) (.agg #[.int .i64 n, .int .u64 a, .int .u64 b])).run Try.prog w = .ok (.bool false) w := by
  rw [tal_ne_run]; simp

end Go.Proofs.Ytgfblndmblgeeaa
