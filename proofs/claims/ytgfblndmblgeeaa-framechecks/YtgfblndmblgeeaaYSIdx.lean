/-
  slices.ContainsFunc of Empty over every slice of ranges.
-/
import Derived.Test.YtgfblndmblgeeaaYSNb
import Derived.Test.YtgfblndmblgeeaaYSMeet
namespace Go.Proofs.Ytgfblndmblgeeaa
open Go.RowKit
/-- Is one of the first n ranges empty? -/
def anyE (T : Nat → Rg) (n : Nat) : Bool := (List.range n).any fun i => (T i).emp

theorem anyE_false {T : Nat → Rg} {n : Nat} (h : ∀ j, j < n → (T j).emp = false) : anyE T n = false := by
  simp only [anyE, List.any_eq_false, List.mem_range]
  intro j hj; simp [h j hj]

theorem anyE_true {T : Nat → Rg} {n j : Nat} (hj : j < n) (h : (T j).emp = true) : anyE T n = true := by
  simp only [anyE, List.any_eq_true, List.mem_range]
  exact ⟨j, hj, h⟩



end Go.Proofs.Ytgfblndmblgeeaa
