/-
  Add and Less by their answers.
-/
import Derived.Test.YtlieljnaecbmdaaDoorMAdd
namespace Go.Proofs.YtlieljnaecbmdaaDoor
open Go.RowKit
set_option linter.unusedVariables false

theorem add_at {a0 a1 b0 b1 s0 s1 : Int} (h0 : IntKind.u64.wrap (a0 + b0) = s0) (h1 : IntKind.u64.wrap (a1 + b1) = s1) (w : World) :
    Calls Tryd.prog 14 #[.agg #[.int .u64 a0, .int .u64 a1], .agg #[.int .u64 b0, .int .u64 b1]] w fun e w' => e = .returned (.agg #[.int .u64 s0, .int .u64 s1]) ∧ Below w.heap.size w w' := by
  subst h0 h1; exact add_any _ _ _ _ w

theorem addRef_at {a0 a1 b0 b1 s0 s1 : Int} (h0 : IntKind.u64.wrap (a0 + b0) = s0) (h1 : IntKind.u64.wrap (a1 + b1) = s1) (w : World) :
    Calls Tryd.prog 15 #[.agg #[.int .u64 a0, .int .u64 a1], .agg #[.int .u64 b0, .int .u64 b1]] w fun e w' => e = .returned (.agg #[.int .u64 s0, .int .u64 s1]) ∧ Below w.heap.size w w' := by
  subst h0 h1; exact addRef_any _ _ _ _ w

theorem less_at {a0 a1 b0 b1 s0 s1 : Int} (h0 : IntKind.u64.wrap (a0 - b0) = s0) (h1 : IntKind.u64.wrap (a1 - b1) = s1) (w : World) :
    Calls Tryd.prog 16 #[.agg #[.int .u64 a0, .int .u64 a1], .agg #[.int .u64 b0, .int .u64 b1]] w fun e w' => e = .returned (.agg #[.int .u64 s0, .int .u64 s1]) ∧ Below w.heap.size w w' := by
  subst h0 h1; exact less_any _ _ _ _ w

theorem lessRef_at {a0 a1 b0 b1 s0 s1 : Int} (h0 : IntKind.u64.wrap (a0 - b0) = s0) (h1 : IntKind.u64.wrap (a1 - b1) = s1) (w : World) :
    Calls Tryd.prog 17 #[.agg #[.int .u64 a0, .int .u64 a1], .agg #[.int .u64 b0, .int .u64 b1]] w fun e w' => e = .returned (.agg #[.int .u64 s0, .int .u64 s1]) ∧ Below w.heap.size w w' := by
  subst h0 h1; exact lessRef_any _ _ _ _ w

end Go.Proofs.YtlieljnaecbmdaaDoor
