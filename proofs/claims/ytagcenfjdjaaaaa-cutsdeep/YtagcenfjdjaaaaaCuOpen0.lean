/-
  What these laws' proofs need of the library, and the program's knob.
-/
import Derived.Test.YtagcenfjdjaaaaaCuPlain
import Derived.ProofKit
import Derived.OpenShut
import Derived.ShutString
import Derived.SizedLaws
import Derived.HandedShaped
import Derived.Lib.SmallJoins
import Derived.Deep.Slices
import Derived.Deep.CondSized
import Derived.ChangeOld
namespace Go.Proofs.Ytagcenfjdjaaaaa
open Go.ChangeShapes Go.WideShapes Go.ChangeAt Go.RowKit
set_option linter.unusedVariables false

theorem own : ownKnob Try.prog.godebug = none := by kernel_rfl
theorem laidOut : laidOutB Try.prog = true := by kernel_rfl

end Go.Proofs.Ytagcenfjdjaaaaa
