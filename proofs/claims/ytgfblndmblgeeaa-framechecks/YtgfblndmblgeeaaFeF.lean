/-
  First, the code's.
-/
import Derived.Test.YtgfblndmblgeeaaFeB
import Derived.Deep.DeepCutAuto
namespace Go.Proofs.Ytgfblndmblgeeaa
open Go.RowKit
set_option linter.unusedVariables false
/-- The one part of a first frame. -/
def P1 (c x z : Int) : Nat → Pm := fun _ => ⟨1, ⟨#[]⟩, ⟨#[]⟩, true, c, x, z, none, 0, 0, fun _ => ⟨⟨#[]⟩, 0, 0, ⟨#[]⟩, false⟩⟩
theorem P1_no (c x z : Int) (n : Nat) : NoEnts (P1 c x z) n := fun _ _ => ⟨rfl, rfl, rfl⟩
theorem P1_in {w : World} {k : Nat} {c x z : Int} (h : w.heap[k]? = some (.cells #[.int .i64 1, .string ⟨#[]⟩, .string ⟨#[]⟩, .bool true, .int .i64 c, .int .u64 x, .int .u64 z, .slice none 0 0] 51 (0, 0))) : PartsIn w (some ⟨k, 0, none⟩) 1 1 (P1 c x z) := by
  refine ⟨Nat.le_refl _, by unfold maxLen; omega, .inr ⟨k, 0, rfl, (Array.getElem?_eq_some_iff.1 h).1, fun i hi => ⟨?_, (P1_no c x z 1).in_ _ i hi⟩⟩⟩
  obtain rfl : i = 0 := by omega
  exact oct8 h
theorem P1_tot (c x z : Int) : totE (P1 c x z) 1 = 0 := rfl
end Go.Proofs.Ytgfblndmblgeeaa
