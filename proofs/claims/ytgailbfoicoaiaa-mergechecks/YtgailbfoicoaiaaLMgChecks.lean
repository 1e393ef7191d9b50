/-
  The law MergeChecks, walked.
-/
import Derived.Test.YtgailbfoicoaiaaMgKept
namespace Go.Proofs.Ytgailbfoicoaiaa
open Go.RowKit
set_option linter.unusedVariables false

set_option maxHeartbeats 6400000 in
set_option maxRecDepth 100000 in
theorem lmchecks_walk (a : Option Addr) (la ca : Nat) (Ma : List En) (w : World) (ha : Lst w a la ca Ma) (hform : (a = none ∧ la = 0 ∧ ca = 0) ∨ ∃ y, a = some y) :
    Calls Try.prog 5 #[.slice a la ca] w fun e w' => e = .returned (.bool true) ∧ Below w.heap.size w w' := by
  have La := aside ha
  have HF := aside hform
  have CB := aside (beyond1 ha)
  obtain ⟨q, hq⟩ : ∃ q, ckL Ma = q := ⟨_, rfl⟩
  have HCK := aside hq
  clear ha hform hq
  go_enter Try.func5, Try.ntmps5
  go_wp2_with fail
  refine CB.out.mono ?_
  rintro e w1 ⟨p, rfl, hp, b1⟩
  have BW := aside b1
  replace La := aside (La.out.keep b1)
  have HP := aside hp
  clear b1 hp CB
  cases p
  case true =>
    go_wp2
    go_ret
    exact ⟨rfl, BW.out⟩
  have HN := aside (show la ≤ 1073741824 from by have h1 := HP.out rfl; have h2 := La.out.len; omega)
  clear HP
  go_wp2_with fail
  refine (copied_any a la ca Ma _ La.out HF.out HN.out).mono ?_
  rintro e w2 ⟨g, rfl, hc, b2⟩
  have CP := aside hc
  replace BW := aside (bthen BW.out b2)
  replace La := aside (La.out.keep b2)
  clear hc b2
  go_wp2_with fail
  refine (mchkL (CP.out.lst La.out.keys) HCK.out).mono ?_
  rintro e w3 ⟨rfl, b3⟩
  replace CP := aside (CP.out.keep b3)
  replace BW := aside (bthen BW.out b3)
  replace La := aside (La.out.keep b3)
  clear b3
  go_wp2_with fail
  refine (rchkL La.out HCK.out).mono ?_
  rintro e w4 ⟨rfl, b4⟩
  replace CP := aside (CP.out.keep b4)
  replace BW := aside (bthen BW.out b4)
  replace La := aside (La.out.keep b4)
  clear b4
  go_wp2_with fail
  refine (kept_any CP.out La.out HN.out).mono ?_
  rintro e w5 ⟨rfl, b5⟩
  replace BW := aside (bthen BW.out b5)
  clear b5
  go_wp2
  go_ret
  exact ⟨rfl, BW.out⟩

end Go.Proofs.Ytgailbfoicoaiaa
