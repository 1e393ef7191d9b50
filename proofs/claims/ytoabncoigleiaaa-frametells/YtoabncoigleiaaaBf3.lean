/-
  What is wrong with one part that has no fields but its own: the document's own (Items and Reply).
-/
import Derived.Test.YtoabncoigleiaaaBf1
namespace Go.Proofs.Ytoabncoigleiaaa
open Go.RowKit
set_option linter.unusedVariables false
end Go.Proofs.Ytoabncoigleiaaa
