/-
  Two maps side by side, step by step: plain; rows of pairs in memory.
  Pairs, the document's own: two maps side by side, as a list.
  The iterator that goes through two maps side by side: what it hands to a loop's body.
  Lists that a loop over pairs makes.
  In, the code's: what of a list is in a range.
  What entries come to: the document's All.
  The document's store: what All goes through, what Fold tells.
  held and same of the images.
-/
import Derived.Test.YtlbkcndmljlnmaaDoorBx19
import Derived.Test.YtlbkcndmljlnmaaDoorBx24
import Derived.Test.YtlbkcndmljlnmaaDoorBx21
import Derived.Test.YtlbkcndmljlnmaaDoorBx22
import Derived.Test.YtlbkcndmljlnmaaDoorBx16
import Derived.Deep.RegionHeld
import Derived.Test.YtlbkcndmljlnmaaDoorBx18
import Derived.Test.YtlbkcndmljlnmaaDoorBx7
import Derived.Test.YtlbkcndmljlnmaaDoorBx6
import Derived.Deep.RegionWith
import Derived.Test.YtlbkcndmljlnmaaDoorBx25
namespace Go.Proofs.YtlbkcndmljlnmaaDoor
open Go.RowKit
set_option linter.unusedVariables false
end Go.Proofs.YtlbkcndmljlnmaaDoor
namespace Go.Proofs.YtlbkcndmljlnmaaDoor
open Go.RowKit
set_option linter.unusedVariables false
theorem ents_five {w : World} {b o len cap : Nat} {T : Nat → En} (h : EntsIn w (some ⟨b, o, none⟩) len cap T) {i : Nat} (hi : i < len) {x : En} (hx : T i = x) :
    w.cell? ⟨b, o + i * 5, none⟩ = some (.string x.k) ∧ w.cell? ⟨b, o + i * 5 + 1, none⟩ = some (.int .i64 x.c) ∧ w.cell? ⟨b, o + i * 5 + 2, none⟩ = some (.int .i64 x.n) ∧ w.cell? ⟨b, o + i * 5 + 3, none⟩ = some (.string x.v) ∧ w.cell? ⟨b, o + i * 5 + 4, none⟩ = some (.bool x.d) := by
  rcases h.2.2 with h0 | ⟨b', o', e, -, hc⟩
  · omega
  · cases e
    have := (hc i hi).1
    rw [hx] at this
    exact this
end Go.Proofs.YtlbkcndmljlnmaaDoor
namespace Go.Proofs.YtlbkcndmljlnmaaDoor
open Go.RowKit Go.Shelf
set_option linter.unusedVariables false
attribute [local go_sem] Oper.semAt_some
end Go.Proofs.YtlbkcndmljlnmaaDoor
namespace Go.Proofs.YtlbkcndmljlnmaaDoor
open Go.RowKit Go.Shelf
set_option linter.unusedVariables false
end Go.Proofs.YtlbkcndmljlnmaaDoor
namespace Go.Proofs.YtlbkcndmljlnmaaDoor
open Go.RowKit
set_option linter.unusedVariables false
end Go.Proofs.YtlbkcndmljlnmaaDoor
namespace Go.Proofs.YtlbkcndmljlnmaaDoor
open Go.RowKit
set_option linter.unusedVariables false
def f0 (e : En) : Int := of0 e.k e.c e.n
def f1 (e : En) : Int := of1 e.k e.c e.n
end Go.Proofs.YtlbkcndmljlnmaaDoor
namespace Go.Proofs.YtlbkcndmljlnmaaDoor
open Go.RowKit
set_option linter.unusedVariables false
end Go.Proofs.YtlbkcndmljlnmaaDoor
namespace Go.Proofs.YtlbkcndmljlnmaaDoor
open Go.RowKit
set_option linter.unusedVariables false
attribute [local go_sem] Oper.semAt_some
end Go.Proofs.YtlbkcndmljlnmaaDoor
