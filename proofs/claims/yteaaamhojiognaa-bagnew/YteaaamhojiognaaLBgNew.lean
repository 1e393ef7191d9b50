/-
  The law BagNew, walked.
-/
import Derived.Test.YteaaamhojiognaaBgI
namespace Go.Proofs.Yteaaamhojiognaa
open Go.RowKit
set_option linter.unusedVariables false

set_option maxHeartbeats 3200000 in
theorem bnew_walk (room : Int) (w : World) : Calls Try.prog 5 #[.int .i64 room] w fun e w' => e = .returned (.bool true) ∧ Below w.heap.size w w' := by
  by_cases hr : room < 1 ∨ 512 < room
  · have HR := aside hr
    have h1 : ¬ room < 1 → 512 < room := fun h => by rcases hr with h2 | h2; exact absurd h2 h; exact h2
    go_enter Try.func5, Try.ntmps5
    go_wp2_with fail
    refine (shown18 _).mono ?_
    rintro e w1 ⟨rfl, b1⟩
    have B1 := aside b1
    clear b1 hr h1
    go_wp2_with fail
    refine (bnew_bad room HR.out _).mono ?_
    rintro e w2 ⟨rfl, b2⟩
    have B2 := aside (bthen B1.out b2)
    clear b2
    by_cases h1 : room < 1
    · go_wp2
      go_ret
      exact ⟨rfl, B2.out⟩
    · have h2 : (512 : Int) < room := by rcases HR.out with h | h; exact absurd h h1; exact h
      go_wp2
      go_ret
      exact ⟨rfl, B2.out⟩
  · obtain ⟨n, rfl⟩ : ∃ n : Nat, room = (n : Int) := ⟨room.toNat, by omega⟩
    have h1 : ¬ ((n : Int) < 1) := by omega
    have h2 : ¬ ((512 : Int) < (n : Int)) := by omega
    have H3 := aside (show 1 ≤ n ∧ n ≤ 512 from by omega)
    clear hr
    go_enter Try.func5, Try.ntmps5
    go_wp2_with fail
    refine (shown18 _).mono ?_
    rintro e w1 ⟨rfl, b1⟩
    have B1 := aside b1
    clear b1
    go_wp2_with fail
    refine (bnew_ok n H3.out.1 H3.out.2 _).mono ?_
    rintro e w2 ⟨b, rfl, hb, b2⟩
    have B2 := aside (bthen B1.out b2)
    have HL := aside (blen_any hb)
    have HO := aside (blost_any hb)
    clear b2 hb
    go_wp2_with fail
    refine HL.out.mono ?_
    rintro e w3 ⟨rfl, rfl⟩
    go_wp2_with fail
    refine HO.out.mono ?_
    rintro e w4 ⟨rfl, rfl⟩
    go_wp2
    go_ret
    exact ⟨rfl, B2.out⟩
end Go.Proofs.Yteaaamhojiognaa
