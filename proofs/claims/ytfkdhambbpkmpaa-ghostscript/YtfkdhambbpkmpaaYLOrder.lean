/-
  The law ItemOrder, walked: it returns true at any three versions.
-/
import Derived.Test.YtfkdhambbpkmpaaYIVer
import Derived.Laws.StructEq
namespace Go.Proofs.Ytfkdhambbpkmpaa
open Go.RowKit
theorem compare_at {a n b m q : Int} (h : Vs.cmp a n b m = q) (w : World) : Calls Try.prog 38 #[.agg #[.int .i64 a, .int .i64 n], .agg #[.int .i64 b, .int .i64 m]] w fun e w' => e = .returned (.int .i64 q) ∧ Below w.heap.size w w' := by
  subst h; exact compare_any a n b m w

theorem compareRef_at {a n b m q : Int} (h : Vs.cmp a n b m = q) (w : World) : Calls Try.prog 41 #[.agg #[.int .i64 a, .int .i64 n], .agg #[.int .i64 b, .int .i64 m]] w fun e w' => e = .returned (.int .i64 q) ∧ Below w.heap.size w w' := by
  subst h; exact compareRef_any a n b m w

theorem cmp_three (a n b m : Int) : Vs.cmp a n b m = 1 ∧ (b < a ∨ (a = b ∧ m < n)) ∨ Vs.cmp a n b m = 0 ∧ a = b ∧ n = m ∨ Vs.cmp a n b m = -1 ∧ (a < b ∨ (a = b ∧ n < m)) := by
  unfold Vs.cmp Vs.c2
  by_cases h1 : b < a
  · rw [if_pos h1]; omega
  · by_cases h2 : a < b
    · rw [if_neg h1, if_pos h2]; omega
    · by_cases h3 : m < n
      · rw [if_neg h1, if_neg h2, if_pos h3]; omega
      · by_cases h4 : n < m
        · rw [if_neg h1, if_neg h2, if_neg h3, if_pos h4]; omega
        · rw [if_neg h1, if_neg h2, if_neg h3, if_neg h4]; omega

end Go.Proofs.Ytfkdhambbpkmpaa
