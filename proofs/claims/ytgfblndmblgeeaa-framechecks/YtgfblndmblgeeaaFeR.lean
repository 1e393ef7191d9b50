/-
  First, the document's own.
-/
import Derived.Test.YtgfblndmblgeeaaFeF
namespace Go.Proofs.Ytgfblndmblgeeaa
open Go.RowKit
set_option linter.unusedVariables false
theorem chkR_of {fr tz o l n tn : Int} {a : Option Addr} {len cap : Nat} {P : Nat → Pm} {w : World} (h : PartsIn w a len cap P) {q : Int} (hq : fChk fr tz o l n tn P len = q) :
    Calls Try.prog 13 #[.agg #[.int .i64 fr, .int .i64 tz, .int .i64 o, .int .i64 l, .int .i64 n, .int .i64 tn, .slice a len cap]] w fun e w' => e = .returned (.int .i64 q) ∧ Below w.heap.size w w' := by
  subst hq
  exact chkR_any fr tz o l n tn a len cap P w h
end Go.Proofs.Ytgfblndmblgeeaa
