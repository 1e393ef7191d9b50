/-
  The law CutsBounds, walked.
-/
import Derived.Test.YtagcenfjdjaaaabCuTurn
namespace Go.Proofs.Ytagcenfjdjaaaab
open Go.RowKit
set_option linter.unusedVariables false

set_option maxHeartbeats 3200000 in
theorem cbounds_walk (b d l : Int) (w : World) : Calls Try.prog 3 #[.int .i64 b, .int .i64 d, .int .i64 l] w fun e w' => e = .returned (.bool true) ∧ Below w.heap.size w w' := by
  have h1 := depth_any b w
  have h2 := rdepth_any b w
  have h3 := turns_any b w
  have h4 := rturns_any b w
  have h5 := moves_any d l w
  have h6 := rmoves_any d l w
  have h7 : (if 2 ≤ b ∧ b ≤ 16 then 2 * (dep b.toNat : Int) + 4 else 0) ≤ 63 := by
    have := dep_le b.toNat
    split <;> omega
  generalize (if 2 ≤ b ∧ b ≤ 16 then (dep b.toNat : Int) else 0) = k at *
  generalize (if 2 ≤ b ∧ b ≤ 16 then 2 * (dep b.toNat : Int) + 4 else 0) = t at *
  generalize (if 2 ≤ b ∧ b ≤ 16 then (0 : Int) else 1) = x at *
  generalize (if 0 ≤ d ∧ d ≤ 512 ∧ 1 ≤ l ∧ l ≤ 32 then d * (l + 1) else 0) = z at *
  generalize (if 0 ≤ d ∧ d ≤ 512 ∧ 1 ≤ l ∧ l ≤ 32 then (0 : Int) else 1) = y at *
  have H1 := aside h1
  have H2 := aside h2
  have H3 := aside h3
  have H4 := aside h4
  have H5 := aside h5
  have H6 := aside h6
  clear h1 h2 h3 h4 h5 h6
  go_enter Try.func3, Try.ntmps3
  go_wp2_with fail
  refine H1.out.mono ?_
  rintro e w1 ⟨rfl, hw⟩
  subst hw
  go_wp2_with fail
  refine H2.out.mono ?_
  rintro e w1 ⟨rfl, hw⟩
  subst hw
  go_wp2_with fail
  refine H3.out.mono ?_
  rintro e w1 ⟨rfl, hw⟩
  subst hw
  go_wp2_with fail
  refine H4.out.mono ?_
  rintro e w1 ⟨rfl, hw⟩
  subst hw
  go_wp2_with fail
  refine H5.out.mono ?_
  rintro e w1 ⟨rfl, hw⟩
  subst hw
  go_wp2_with fail
  refine H6.out.mono ?_
  rintro e w1 ⟨rfl, hw⟩
  subst hw
  clear H1 H2 H3 H4 H5 H6
  by_cases hx : x = 0
  · subst hx
    go_wp2
    go_ret
    exact ⟨rfl, Below.refl _ _⟩
  · go_wp2
    go_ret
    exact ⟨rfl, Below.refl _ _⟩

end Go.Proofs.Ytagcenfjdjaaaab
