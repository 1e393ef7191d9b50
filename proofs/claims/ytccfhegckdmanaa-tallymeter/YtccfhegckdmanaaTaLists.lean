/-
  Lists of tallies and of bools in memory; what tallies come to, one by one.
-/
import Derived.Test.YtccfhegckdmanaaTaBase
namespace Go.Proofs.Ytccfhegckdmanaa
open Go.RowKit
set_option linter.unusedVariables false

/-- A tally, plain. -/
structure Tl where
  n : Int
  a : Int
  b : Int

/-- A list of tallies in memory. -/
def TalsIn (w : World) (a : Option Addr) (len cap : Nat) (T : Nat → Tl) : Prop :=
  len ≤ cap ∧ cap ≤ maxLen ∧ (len = 0 ∨ ∃ b off, a = some ⟨b, off, none⟩ ∧ b < w.heap.size ∧ ∀ i, i < len →
    w.cell? ⟨b, off + i * 3, none⟩ = some (.int .i64 (T i).n) ∧ w.cell? ⟨b, off + i * 3 + 1, none⟩ = some (.int .u64 (T i).a) ∧ w.cell? ⟨b, off + i * 3 + 2, none⟩ = some (.int .u64 (T i).b))

/-- A list of bools in memory. -/
def BoolsIn (w : World) (a : Option Addr) (len cap : Nat) (T : Nat → Bool) : Prop :=
  len ≤ cap ∧ cap ≤ maxLen ∧ (len = 0 ∨ ∃ b off, a = some ⟨b, off, none⟩ ∧ b < w.heap.size ∧ ∀ i, i < len → w.cell? ⟨b, off + i, none⟩ = some (.bool (T i)))

/-- What the first j tallies come to: counts, and both lanes. -/
def sN (T : Nat → Tl) : Nat → Int
  | 0 => 0
  | j + 1 => IntKind.i64.wrap (sN T j + (T j).n)
def sA (T : Nat → Tl) : Nat → Int
  | 0 => 0
  | j + 1 => IntKind.u64.wrap (sA T j + (T j).a)
def sB (T : Nat → Tl) : Nat → Int
  | 0 => 0
  | j + 1 => IntKind.u64.wrap (sB T j + (T j).b)

/-- A tally added on either side of two. -/
theorem stepL {x y s t : Int} (h : IntKind.i64.wrap (x + y) = s) : IntKind.i64.wrap (IntKind.i64.wrap (x + t) + y) = IntKind.i64.wrap (s + t) := by
  subst h; rw [IntKind.wrap_i64, IntKind.wrap_i64, IntKind.wrap_i64, IntKind.wrap_i64]; omega
theorem stepR {x y s t : Int} (h : IntKind.i64.wrap (x + y) = s) : IntKind.i64.wrap (x + IntKind.i64.wrap (t + y)) = IntKind.i64.wrap (s + t) := by
  subst h; rw [IntKind.wrap_i64, IntKind.wrap_i64, IntKind.wrap_i64, IntKind.wrap_i64]; omega
theorem stepLu {x y s t : Int} (h : IntKind.u64.wrap (x + y) = s) : IntKind.u64.wrap (IntKind.u64.wrap (x + t) + y) = IntKind.u64.wrap (s + t) := by
  subst h; rw [IntKind.wrap_u64, IntKind.wrap_u64, IntKind.wrap_u64, IntKind.wrap_u64]; omega
theorem stepRu {x y s t : Int} (h : IntKind.u64.wrap (x + y) = s) : IntKind.u64.wrap (x + IntKind.u64.wrap (t + y)) = IntKind.u64.wrap (s + t) := by
  subst h; rw [IntKind.wrap_u64, IntKind.wrap_u64, IntKind.wrap_u64, IntKind.wrap_u64]; omega

end Go.Proofs.Ytccfhegckdmanaa
