/-
  Entries and versions compared.
-/
import Derived.Test.YtfkdhambbpkmpaaMgPlain
import Derived.Laws.StructEq
namespace Go.Proofs.Ytfkdhambbpkmpaa
open Go.RowKit
set_option linter.unusedVariables false
/-- Are two entries the same? -/
def enEqB (a b : En) : Bool := (a.k.toList == b.k.toList) && ((a.c == b.c && a.n == b.n) && ((a.v.toList == b.v.toList) && (a.d == b.d)))
theorem enEqB_iff (a b : En) : enEqB a b = true ↔ a = b := by
  obtain ⟨k, c, n, v, d⟩ := a
  obtain ⟨k', c', n', v', d'⟩ := b
  simp only [enEqB, Bool.and_eq_true, beq_iff_eq, En.mk.injEq]
  constructor
  · rintro ⟨h1, ⟨h2, h3⟩, h4, h5⟩
    exact ⟨toList_inj h1, h2, h3, toList_inj h4, h5⟩
  · rintro ⟨rfl, rfl, rfl, rfl, rfl⟩
    exact ⟨rfl, ⟨rfl, rfl⟩, rfl, rfl⟩
theorem enEqB_same (a : En) : enEqB a a = true := (enEqB_iff a a).2 rfl
theorem enEqB_ne {a b : En} (h : a ≠ b) : enEqB a b = false := by
  cases h2 : enEqB a b
  · rfl
  · exact absurd ((enEqB_iff a b).1 h2) h
theorem verq_run (a n b m : Int) (w : World) : (binOp .eql 29 (.agg #[.int .i64 a, .int .i64 n]) (.agg #[.int .i64 b, .int .i64 m])).run Try.prog w = .ok (.bool (a == b && n == m)) w := by
  by_cases h1 : a = b <;> by_cases h2 : n = m
  all_goals
    go_simp
    try simp [h1, h2]
theorem verne_run (a n b m : Int) (w : World) : (binOp .neq 29 (.agg #[.int .i64 a, .int .i64 n]) (.agg #[.int .i64 b, .int .i64 m])).run Try.prog w = .ok (.bool (!(a == b && n == m))) w := by
  by_cases h1 : a = b <;> by_cases h2 : n = m
  all_goals
    go_simp
    try simp [h1, h2]
theorem ent_in (a b : En) (w : World) : (Op.equalIn 10000 31 (.agg #[.string a.k, .int .i64 a.c, .int .i64 a.n, .string a.v, .bool a.d]) (.agg #[.string b.k, .int .i64 b.c, .int .i64 b.n, .string b.v, .bool b.d])).run Try.prog w = .ok (enEqB a b) w := by
  unfold enEqB
  rw [show (10000 : Nat) = 9999 + 1 from rfl]
  cases h1 : (a.k.toList == b.k.toList) <;> by_cases h2 : a.c = b.c <;> by_cases h5 : a.n = b.n <;> cases h3 : (a.v.toList == b.v.toList) <;> cases h4 : (a.d == b.d)
  all_goals
    go_simp
    try simp [h2, h5]
theorem ent_eq (a b : En) (w : World) : (binOp .eql 31 (.agg #[.string a.k, .int .i64 a.c, .int .i64 a.n, .string a.v, .bool a.d]) (.agg #[.string b.k, .int .i64 b.c, .int .i64 b.n, .string b.v, .bool b.d])).run Try.prog w = .ok (.bool (enEqB a b)) w := by
  rw [run_eql_struct, ent_in]; rfl
theorem ent_ne (a b : En) (w : World) : (binOp .neq 31 (.agg #[.string a.k, .int .i64 a.c, .int .i64 a.n, .string a.v, .bool a.d]) (.agg #[.string b.k, .int .i64 b.c, .int .i64 b.n, .string b.v, .bool b.d])).run Try.prog w = .ok (.bool (!enEqB a b)) w := by
  rw [run_neq_struct, ent_in]; rfl
end Go.Proofs.Ytfkdhambbpkmpaa
