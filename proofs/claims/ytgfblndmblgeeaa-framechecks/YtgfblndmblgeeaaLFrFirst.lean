/-
  The law FrameFirst, walked: it returns true at any node, name and tally.
-/
import Derived.Test.YtgfblndmblgeeaaFeR
namespace Go.Proofs.Ytgfblndmblgeeaa
open Go.RowKit
set_option linter.unusedVariables false
set_option maxHeartbeats 400000 in
theorem closing_pos (fr tz o l n tn : Int) (a : Option Addr) (len cap : Nat) (w : World) (hpos : 0 < len) : Calls Try.prog 23 #[.agg #[.int .i64 fr, .int .i64 tz, .int .i64 o, .int .i64 l, .int .i64 n, .int .i64 tn, .slice a len cap]] w fun e w' => e = .returned (.bool false) ∧ Below w.heap.size w w' := by
  have b : ((len : Int) == 0) = false := by simp; omega
  clear hpos
  go_enter Try.func23, Try.ntmps23
  go_wp2
  go_ret
  exact ⟨rfl, bnew w _⟩
set_option maxHeartbeats 1600000 in
theorem entries_any (fr tz o l n tn : Int) (a : Option Addr) (len cap : Nat) (P : Nat → Pm) (w : World) (h : PartsIn w a len cap P) (hT : totE P len ≤ 4611686018427387904) {q : Nat} (hq : totE P len = q) : Calls Try.prog 25 #[.agg #[.int .i64 fr, .int .i64 tz, .int .i64 o, .int .i64 l, .int .i64 n, .int .i64 tn, .slice a len cap]] w fun e w' => e = .returned (.int .i64 (q : Int)) ∧ Below w.heap.size w w' := by
  have BX := aside (bnew w (.cells #[.int .i64 fr, .int .i64 tz, .int .i64 o, .int .i64 l, .int .i64 n, .int .i64 tn, .slice a len cap] 26))
  have C := aside (count_of (h.keep BX.out) hT hq)
  clear h hT hq
  go_enter Try.func25, Try.ntmps25
  go_wp2_with fail
  refine C.out.mono ?_
  rintro e w1 ⟨rfl, b1⟩
  have B1 := aside (bthen BX.out b1)
  clear b1 C BX
  go_wp2
  go_ret
  exact ⟨rfl, B1.out⟩
theorem nil_in (w : World) (P : Nat → Pm) : PartsIn w none 0 0 P := ⟨Nat.le_refl _, Nat.zero_le _, .inl rfl⟩
theorem same_self (p : Pm) : SamePm p p := ⟨rfl, rfl, rfl, rfl, rfl, rfl, rfl, rfl, fun _ _ => rfl⟩
end Go.Proofs.Ytgfblndmblgeeaa
