/-
  The law MixOf, walked.
-/
import Derived.Test.YtlieljnaecbmdaaDoorMShown
import Derived.Test.YtlieljnaecbmdaaDoorMRef
namespace Go.Proofs.YtlieljnaecbmdaaDoor
open Go.RowKit
set_option linter.unusedVariables false

/-- The version's block, and the frame. -/
structure VSt (w W : World) (c n : Int) : Prop where
  below : Below w.heap.size w W
  blk : W.heap[w.heap.size]? = some (.cells #[.int .i64 c, .int .i64 n] 23 (0, 0))

theorem VSt.keep {w W W2 : World} {c n : Int} (h : VSt w W c n) (b : Below W.heap.size W W2) : VSt w W2 c n := ⟨bthen h.below b, blk_on h.blk b⟩

theorem vst_new (w : World) (c n : Int) : VSt w (w.alloc (.cells #[.int .i64 c, .int .i64 n] 23)).drew c n := ⟨(bnew w _).drew, heap_alloc_new w _⟩

set_option maxHeartbeats 1600000 in
set_option maxRecDepth 100000 in
theorem lof_walk (k : ByteArray) (c n : Int) (w : World) (L : Lanes w) (hk : k.size ≤ 140737488351232) :
    Calls Tryd.prog 3 #[.string k, .agg #[.int .i64 c, .int .i64 n]] w fun e w' => e = .returned (.bool true) ∧ Below w.heap.size w w' := by
  have C1 := aside (fun (W : World) (h : Lanes W) => of_any k c n W h (by omega))
  have C2 := aside (fun (W : World) => ofRef_any k c n W hk)
  unfold ofV at C1 C2
  generalize of0 k c n = x0 at *
  generalize of1 k c n = x1 at *
  have sm := sum_same x0 x1
  have LL := aside L
  have S0 := aside (vst_new w c n)
  clear L hk
  go_enter Tryd.func3, Tryd.ntmps3
  go_wp2_with fail
  go_region_with (first
    | (go_at_call 9; refine (shown_any _ (LL.out.keep S0.out.below)).mono ?_; rintro e w1 ⟨rfl, b1⟩; have S1 := aside (S0.out.keep b1); obtain ⟨p0, p1, -, -⟩ := pair S1.out.blk; clear b1)
    | (go_at_call 10; refine (C1.out _ (LL.out.keep S1.out.below)).mono ?_; rintro e w2 ⟨rfl, b2⟩; have S2 := aside (S1.out.keep b2); obtain ⟨q0, q1, -, -⟩ := pair S2.out.blk; clear b2)
    | (go_at_call 11; refine (C2.out _).mono ?_; rintro e w3 ⟨rfl, b3⟩; have S3 := aside (S2.out.keep b3); clear b3))
  all_goals
    go_wp2
    go_ret
    exact ⟨rfl, S3.out.below⟩

end Go.Proofs.YtlieljnaecbmdaaDoor
