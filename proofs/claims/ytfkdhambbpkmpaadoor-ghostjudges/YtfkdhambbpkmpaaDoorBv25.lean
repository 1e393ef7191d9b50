/-
  Twins of the code.
-/
import Derived.Test.YtfkdhambbpkmpaaDoorBv24
namespace Go.Proofs.YtfkdhambbpkmpaaDoor
open Go.RowKit
set_option linter.unusedVariables false
theorem rgV_form (o : Option Rg) : ∃ lo hi op, rgV o = .agg #[.string lo, .string hi, .bool op] := by
  cases o with
  | none => exact ⟨_, _, _, rfl⟩
  | some r => exact ⟨_, _, _, rfl⟩
end Go.Proofs.YtfkdhambbpkmpaaDoor
