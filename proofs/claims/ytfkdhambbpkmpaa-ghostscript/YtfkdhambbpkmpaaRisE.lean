/-
  Lists of entries by rising keys.
-/
import Derived.Test.YtfkdhambbpkmpaaYMBase
import Derived.Test.YtfkdhambbpkmpaaYTrOrd
namespace Go.Proofs.Ytfkdhambbpkmpaa
open Go.RowKit
set_option linter.unusedVariables false

/-- Keys rise. -/
def RisesE (l : List En) : Prop := l.Pairwise (fun a b => kLt a.k b.k = true)

end Go.Proofs.Ytfkdhambbpkmpaa
