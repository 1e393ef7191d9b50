/-
  Judge of the document and of the code, where both maps have come to the newest.
-/
import Derived.Test.YtfkdhambbpkmpaaDoorBv12
import Derived.Deep.CutBlock
import Derived.Deep.DeepCutAuto
namespace Go.Proofs.YtfkdhambbpkmpaaDoor
open Go.RowKit
set_option linter.unusedVariables false
end Go.Proofs.YtfkdhambbpkmpaaDoor
