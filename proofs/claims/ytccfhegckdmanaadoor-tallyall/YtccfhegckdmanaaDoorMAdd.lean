/-
  Add and Less of the code and of the document: lane by lane, modulo 2^64.
-/
import Derived.Test.YtccfhegckdmanaaDoorMBase
namespace Go.Proofs.YtccfhegckdmanaaDoor
open Go.RowKit
set_option linter.unusedVariables false

/-- The memory in Add's and Less's loop: the first sum, the second, the result. -/
def add3 (w : World) (x0 x1 b0 b1 r0 r1 : Int) : World :=
  ((w.alloc (.cells #[.int .u64 x0, .int .u64 x1] 26)).alloc (.cells #[.int .u64 b0, .int .u64 b1] 26)).alloc (.cells #[.int .u64 r0, .int .u64 r1] 26)

theorem add3_below (w : World) (x0 x1 b0 b1 r0 r1 : Int) : Below w.heap.size w (add3 w x0 x1 b0 b1 r0 r1) := ((bnew w _).alloc (by simp) _).alloc (by simp; omega) _

def AddRel (w : World) (a0 a1 b0 b1 s0 s1 : Int) (i : Value) (wr : World) : Prop :=
  (i = .int .i64 0 ∧ wr = add3 w a0 a1 b0 b1 0 0) ∨ (i = .int .i64 1 ∧ wr = (add3 w s0 a1 b0 b1 0 0).drew) ∨ (i = .int .i64 2 ∧ wr = (add3 w s0 s1 b0 b1 0 0).drew.drew)

set_option maxHeartbeats 1600000 in
set_option maxRecDepth 100000 in
theorem add_any (a0 a1 b0 b1 : Int) (w : World) :
    Calls Tryd.prog 16 #[.agg #[.int .u64 a0, .int .u64 a1], .agg #[.int .u64 b0, .int .u64 b1]] w fun e w' => e = .returned (.agg #[.int .u64 (IntKind.u64.wrap (a0 + b0)), .int .u64 (IntKind.u64.wrap (a1 + b1))]) ∧ Below w.heap.size w w' := by
  go_enter Tryd.func16, Tryd.ntmps16
  go_wp2
  go_loopw [6] (fun i wr => AddRel w a0 a1 b0 b1 (IntKind.u64.wrap (a0 + b0)) (IntKind.u64.wrap (a1 + b1)) i wr) (fun i _ => 2 - (intOf i).toNat)
  case atStart => exact .inl ⟨rfl, rfl⟩
  case round =>
    obtain ⟨rfl, rfl⟩ | ⟨rfl, rfl⟩ | ⟨rfl, rfl⟩ := hrel
    · unfold add3
      go_wp2
      go_region
      go_wp2
      go_roundw
      case rel => exact .inr (.inl ⟨rfl, rfl⟩)
      case measure => simp [intOf]
    · unfold add3
      go_wp2
      go_region
      go_wp2
      go_roundw
      case rel => exact .inr (.inr ⟨rfl, rfl⟩)
      case measure => simp [intOf]
    · unfold add3
      go_wp2
      exact bodyPost_ret (v := .agg #[.int .u64 (IntKind.u64.wrap (a0 + b0)), .int .u64 (IntKind.u64.wrap (a1 + b1))]) (by simp [results, Tryd.results16, go_sem]) rfl ⟨rfl, (add3_below w (IntKind.u64.wrap (a0 + b0)) (IntKind.u64.wrap (a1 + b1)) b0 b1 (IntKind.u64.wrap (a0 + b0)) (IntKind.u64.wrap (a1 + b1))).drew.drew⟩

set_option maxHeartbeats 1600000 in
set_option maxRecDepth 100000 in
theorem less_any (a0 a1 b0 b1 : Int) (w : World) :
    Calls Tryd.prog 18 #[.agg #[.int .u64 a0, .int .u64 a1], .agg #[.int .u64 b0, .int .u64 b1]] w fun e w' => e = .returned (.agg #[.int .u64 (IntKind.u64.wrap (a0 - b0)), .int .u64 (IntKind.u64.wrap (a1 - b1))]) ∧ Below w.heap.size w w' := by
  go_enter Tryd.func18, Tryd.ntmps18
  go_wp2
  go_loopw [6] (fun i wr => AddRel w a0 a1 b0 b1 (IntKind.u64.wrap (a0 - b0)) (IntKind.u64.wrap (a1 - b1)) i wr) (fun i _ => 2 - (intOf i).toNat)
  case atStart => exact .inl ⟨rfl, rfl⟩
  case round =>
    obtain ⟨rfl, rfl⟩ | ⟨rfl, rfl⟩ | ⟨rfl, rfl⟩ := hrel
    · unfold add3
      go_wp2
      go_region
      go_wp2
      go_roundw
      case rel => exact .inr (.inl ⟨rfl, rfl⟩)
      case measure => simp [intOf]
    · unfold add3
      go_wp2
      go_region
      go_wp2
      go_roundw
      case rel => exact .inr (.inr ⟨rfl, rfl⟩)
      case measure => simp [intOf]
    · unfold add3
      go_wp2
      exact bodyPost_ret (v := .agg #[.int .u64 (IntKind.u64.wrap (a0 - b0)), .int .u64 (IntKind.u64.wrap (a1 - b1))]) (by simp [results, Tryd.results18, go_sem]) rfl ⟨rfl, (add3_below w (IntKind.u64.wrap (a0 - b0)) (IntKind.u64.wrap (a1 - b1)) b0 b1 (IntKind.u64.wrap (a0 - b0)) (IntKind.u64.wrap (a1 - b1))).drew.drew⟩

set_option maxHeartbeats 1600000 in
set_option maxRecDepth 100000 in
theorem addRef_any (a0 a1 b0 b1 : Int) (w : World) :
    Calls Tryd.prog 21 #[.agg #[.int .u64 a0, .int .u64 a1], .agg #[.int .u64 b0, .int .u64 b1]] w fun e w' => e = .returned (.agg #[.int .u64 (IntKind.u64.wrap (a0 + b0)), .int .u64 (IntKind.u64.wrap (a1 + b1))]) ∧ Below w.heap.size w w' := by
  go_enter Tryd.func21, Tryd.ntmps21
  go_wp2
  exact bodyPost_ret (v := .agg #[.int .u64 (IntKind.u64.wrap (a0 + b0)), .int .u64 (IntKind.u64.wrap (a1 + b1))]) (by simp [results, Tryd.results21, go_sem]) rfl ⟨rfl, add3_below w a0 a1 b0 b1 (IntKind.u64.wrap (a0 + b0)) (IntKind.u64.wrap (a1 + b1))⟩


end Go.Proofs.YtccfhegckdmanaaDoor
