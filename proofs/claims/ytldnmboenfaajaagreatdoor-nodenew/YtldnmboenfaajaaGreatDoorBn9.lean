/-
  The law NodeNew, walked for every argument.
-/
import Derived.Test.YtldnmboenfaajaaGreatDoorBn8
namespace Go.Proofs.YtldnmboenfaajaaGreatDoor
open Go.RowKit
set_option linter.unusedVariables false
set_option maxHeartbeats 3200000 in
set_option maxRecDepth 100000 in
theorem lnonew_walk (nd b l t r : Int) (w : World) : Calls Tryz.prog 3 #[.int .i64 nd, .agg #[.int .i64 b, .int .i64 l, .int .i64 t, .int .i64 r]] w fun e w' => e = .returned (.bool true) ∧ Below w.heap.size w w' := by
  have B0 := aside (bnew w (.cells #[.int .i64 b, .int .i64 l, .int .i64 t, .int .i64 r] 23))
  have K0 := aside (heap_alloc_new w (.cells #[.int .i64 b, .int .i64 l, .int .i64 t, .int .i64 r] 23))
  obtain ⟨q0, q1, q2, q3, -⟩ := quad K0.out
  have C := aside (nnew_any nd b l t r (w.alloc (.cells #[.int .i64 b, .int .i64 l, .int .i64 t, .int .i64 r] 23)))
  go_enter Tryz.func3, Tryz.ntmps3
  go_wp2_with fail
  refine C.out.mono ?_
  rintro e w1 ⟨b1, ⟨hn, rfl⟩ | ⟨hn, nb, sb, g, tb, d, rfl, h1, h2, h3⟩⟩
  · have HN := aside hn
    have B1 := aside (bthen B0.out b1)
    clear q0 q1 q2 q3
    obtain ⟨q0, q1, q2, q3, -⟩ := quad (blk_on K0.out b1)
    have C2 := aside (rnew17 nd b l t r w1)
    clear b1 hn C B0 K0
    go_wp2_with fail
    refine C2.out.mono ?_
    rintro e w2 ⟨b2, ⟨-, rfl⟩ | ⟨h, -⟩⟩
    · have B2 := aside (bthen B1.out b2)
      clear b2 C2 q0 q1 q2 q3
      go_wp2
      go_ret
      exact ⟨rfl, B2.out⟩
    · exact absurd h HN.out
  · have HN := aside hn
    have B1 := aside (bthen B0.out b1)
    have H1 := aside h1
    have H2 := aside h2
    have H3 := aside h3
    clear q0 q1 q2 q3
    obtain ⟨q0, q1, q2, q3, -⟩ := quad (blk_on K0.out b1)
    have C2 := aside (rnew17 nd b l t r w1)
    clear b1 hn C B0 K0 h1 h2 h3
    go_wp2_with fail
    refine C2.out.mono ?_
    rintro e w2 ⟨b2, ⟨h, -⟩ | ⟨-, rb, db, dd, rfl, y1, y2, y3⟩⟩
    · exact absurd HN.out h
    · have B2 := aside (bthen B1.out b2)
      have CL := aside (looks_any (blk_on H1.out b2) (H2.out.below b2) (H3.out.on b2) y1 y2 y3)
      clear b2 C2 q0 q1 q2 q3 y1 y2 y3
      go_wp2_with fail
      refine CL.out.mono ?_
      rintro e w3 ⟨rfl, b3⟩
      have B3 := aside (bthen B2.out b3)
      clear b3 CL
      go_wp2
      go_ret
      exact ⟨rfl, B3.out⟩
end Go.Proofs.YtldnmboenfaajaaGreatDoor
