/-
  Max, the code's.
  The document's Max.
  Above, the code's.
-/
import Derived.Test.YtpbkjffiohfkcaaGreatDoorBo25
import Derived.Test.YtpbkjffiohfkcaaGreatDoorBo22
namespace Go.Proofs.YtpbkjffiohfkcaaGreatDoor
open Go.RowKit Go.Shelf
set_option linter.unusedVariables false
attribute [local go_sem] Oper.semAt_some
end Go.Proofs.YtpbkjffiohfkcaaGreatDoor
namespace Go.Proofs.YtpbkjffiohfkcaaGreatDoor
open Go.RowKit
set_option linter.unusedVariables false
/-- What a pair of two maps is: two of one key, or one alone. -/
theorem pr_two {a b : List En} (ha : MapL a) (hb : MapL b) {p : En × En} (h : p ∈ prs a b) : (1 ≤ p.1.c ∧ 1 ≤ p.2.c ∧ 0 ≤ p.1.n ∧ 0 ≤ p.2.n ∧ p.1.k = p.2.k) ∨ (1 ≤ p.1.c ∧ 0 ≤ p.1.n ∧ p.2 = eZ) ∨ (p.1 = eZ ∧ 1 ≤ p.2.c ∧ 0 ≤ p.2.n) := by
  rcases (mem_prs a b ha.rises hb.rises p).1 h with ⟨h1, h2, h3⟩ | ⟨h1, h2, h3⟩ | ⟨h1, h2, h3⟩
  · exact .inl ⟨(ha.pos h1).1, (hb.pos h2).1, (ha.pos h1).2, (hb.pos h2).2, h3⟩
  · exact .inr (.inl ⟨(ha.pos h1).1, (ha.pos h1).2, h2⟩)
  · exact .inr (.inr ⟨h1, (hb.pos h2).1, (hb.pos h2).2⟩)
theorem pr_none {x y : En} (h : (1 ≤ x.c ∧ 1 ≤ y.c ∧ 0 ≤ x.n ∧ 0 ≤ y.n ∧ x.k = y.k) ∨ (1 ≤ x.c ∧ 0 ≤ x.n ∧ y = eZ) ∨ (x = eZ ∧ 1 ≤ y.c ∧ 0 ≤ y.n)) (h0 : x.c = 0) : x = eZ ∧ 1 ≤ y.c ∧ 0 ≤ y.n := by
  rcases h with h | h | h
  · omega
  · omega
  · exact h
set_option maxHeartbeats 800000 in
theorem none_any (x : En) (w : World) {q : Bool} (hq : (x.c == 0) = q) : Calls Tryz.prog 69 #[.agg #[.string x.k, .int .i64 x.c, .int .i64 x.n, .string x.v, .bool x.d]] w fun e w' => e = .returned (.bool q) ∧ Below w.heap.size w w' := by
  subst hq
  go_enter Tryz.func69, Tryz.ntmps69
  go_wp2
  go_ret
  exact ⟨rfl, bnew _ _⟩
end Go.Proofs.YtpbkjffiohfkcaaGreatDoor
namespace Go.Proofs.YtpbkjffiohfkcaaGreatDoor
open Go.RowKit Go.Shelf
set_option linter.unusedVariables false
attribute [local go_sem] Oper.semAt_some
/-- What the loop of Above keeps: the two results' boxes, what was there, what the iterator reads. -/
structure AbC (w : World) (rb Ba Bb : Nat) (a : Option Addr) (la ca : Nat) (A : Nat → En) (b : Option Addr) (lb cb : Nat) (B : Nat → En) (X : World) : Prop where
  r0 : X.heap[rb]? = some (.cells #[.bool false] 4 (0, 0))
  r1 : X.heap[rb + 1]? = some (.cells #[.int .i64 0] 34 (0, 0))
  below : Below w.heap.size w X
  sd : SD Ba Bb a la ca A b lb cb B X
theorem AbC.own {w : World} {rb : Nat} {Ba Bb : Nat} {a : Option Addr} {la ca : Nat} {A : Nat → En} {b : Option Addr} {lb cb : Nat} {B : Nat → En} {X Y : World} {C : Nat} {row : Option Nat} (hC : w.heap.size ≤ C) (h : AbC w rb Ba Bb a la ca A b lb cb B X) (hg : X.grownBy Y row) (hr : ∀ r, row = some r → C ≤ r ∧ ∃ o : Obj, X.heap[r]? = some o ∧ o.isCells = false) : AbC w rb Ba Bb a la ca A b lb cb B Y :=
  ⟨cells_ownM h.r0 hg (fun r e => (hr r e).2), cells_ownM h.r1 hg (fun r e => (hr r e).2), h.below.grown hg h.below.size (fun k e => by have := (hr k e).1; omega), h.sd.own hg (fun r e => (hr r e).2)⟩
theorem AbC.keep {w : World} {rb : Nat} {Ba Bb : Nat} {a : Option Addr} {la ca : Nat} {A : Nat → En} {b : Option Addr} {lb cb : Nat} {B : Nat → En} {X Y : World} (h : AbC w rb Ba Bb a la ca A b lb cb B X) (bb : Below X.heap.size X Y) : AbC w rb Ba Bb a la ca A b lb cb B Y := h.own (C := w.heap.size) (Nat.le_refl _) (grown_below bb) (fun r e => by cases e)
end Go.Proofs.YtpbkjffiohfkcaaGreatDoor
