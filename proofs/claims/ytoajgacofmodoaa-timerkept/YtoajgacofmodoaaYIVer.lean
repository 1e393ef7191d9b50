/-
  Versions: which may be, how they compare, which is the next; the code's calls and the document's own, each as a plain function.
-/
import Derived.Test.YtoajgacofmodoaaYBytes1
import Derived.Below
import Derived.Test.YtoajgacofmodoaaYMBase
import Derived.Test.YtoajgacofmodoaaYTrBase
namespace Go.Proofs.Ytoajgacofmodoaa
open Go.RowKit
theorem ret_i64 {a b : Int} (h : a = b) : Ending.returned (.int .i64 a) = .returned (.int .i64 b) := by rw [h]

/-- Two numbers. -/
def Vs.c2 (x y : Int) : Int := if y < x then 1 else if x < y then -1 else 0

/-- Two versions. -/
def Vs.cmp (a n b m : Int) : Int := if b < a then 1 else if a < b then -1 else Vs.c2 n m

/-- Whether a version may be. -/
def Vs.chk (c n : Int) : Int := if c < 1 ∨ 1099511627776 < c ∨ n < 0 ∨ 8 ≤ n then 30 else 0

/-- The next version: its numbers, and the error. -/
def Vs.nx (clock node : Int) : Int × Int × Int :=
  if node < 0 ∨ 8 ≤ node ∨ clock < 0 ∨ 1099511627776 < clock then (0, 0, 30) else if clock = 1099511627776 then (0, 0, 33) else (clock + 1, node, 0)

def Vs.nxV (r : Int × Int × Int) : Value := .tuple #[.agg #[.int .i64 r.1, .int .i64 r.2.1], .int .i64 r.2.2]

set_option maxHeartbeats 400000 in
theorem isNaN_any (x : Int) (w : World) : Calls Try.prog 33 #[.int .i64 x] w fun e w' => e = .returned (.bool false) ∧ w' = w := by
  go_enter Try.func33, Try.ntmps33
  go_wp2
  go_ret
  exact ⟨by simp, rfl⟩

theorem c2_lt {x y : Int} (h : x < y) : Vs.c2 x y = -1 := by unfold Vs.c2; rw [if_neg (by omega), if_pos h]

theorem c2_gt {x y : Int} (h : y < x) : Vs.c2 x y = 1 := by unfold Vs.c2; rw [if_pos h]

theorem c2_eq (x : Int) : Vs.c2 x x = 0 := by unfold Vs.c2; rw [if_neg (by omega), if_neg (by omega)]

set_option maxHeartbeats 400000 in
theorem cmpI_any (x y : Int) (w : World) : Calls Try.prog 28 #[.int .i64 x, .int .i64 y] w fun e w' => e = .returned (.int .i64 (Vs.c2 x y)) ∧ w' = w := by
  rcases Int.lt_trichotomy x y with h | h | h
  · go_enter Try.func28, Try.ntmps28
    go_wp2_with (go_at_call 33; refine (isNaN_any _ _).mono ?_; rintro e w1 ⟨rfl, rfl⟩)
    go_ret
    exact ⟨ret_i64 (c2_lt h).symm, rfl⟩
  · subst h
    go_enter Try.func28, Try.ntmps28
    go_wp2_with (go_at_call 33; refine (isNaN_any _ _).mono ?_; rintro e w1 ⟨rfl, rfl⟩)
    go_ret
    exact ⟨ret_i64 (c2_eq x).symm, rfl⟩
  · have h' : ¬ x < y := by omega
    go_enter Try.func28, Try.ntmps28
    go_wp2_with (go_at_call 33; refine (isNaN_any _ _).mono ?_; rintro e w1 ⟨rfl, rfl⟩)
    go_ret
    exact ⟨ret_i64 (c2_gt h).symm, rfl⟩

theorem cmpI_at {x y q : Int} (h : Vs.c2 x y = q) (w : World) : Calls Try.prog 28 #[.int .i64 x, .int .i64 y] w fun e w' => e = .returned (.int .i64 q) ∧ w' = w := by
  subst h; exact cmpI_any x y w

theorem cmp_lt {a b : Int} (h : a < b) (n m : Int) : Vs.cmp a n b m = -1 := by unfold Vs.cmp; rw [if_neg (by omega), if_pos h]

theorem cmp_gt {a b : Int} (h : b < a) (n m : Int) : Vs.cmp a n b m = 1 := by unfold Vs.cmp; rw [if_pos h]

theorem cmp_eq (a n m : Int) : Vs.cmp a n a m = Vs.c2 n m := by unfold Vs.cmp; rw [if_neg (by omega), if_neg (by omega)]



theorem chk_bad1 {c : Int} (n : Int) (h : c < 1) : Vs.chk c n = 30 := by unfold Vs.chk; rw [if_pos (.inl h)]

theorem chk_bad2 {c : Int} (n : Int) (h : 1099511627776 < c) : Vs.chk c n = 30 := by unfold Vs.chk; rw [if_pos (.inr (.inl h))]

theorem chk_bad3 (c : Int) {n : Int} (h : n < 0) : Vs.chk c n = 30 := by unfold Vs.chk; rw [if_pos (.inr (.inr (.inl h)))]

theorem chk_bad4 (c : Int) {n : Int} (h : 8 ≤ n) : Vs.chk c n = 30 := by unfold Vs.chk; rw [if_pos (.inr (.inr (.inr h)))]

theorem chk_ok {c n : Int} (h1 : ¬ c < 1) (h2 : ¬ 1099511627776 < c) (h3 : ¬ n < 0) (h4 : ¬ 8 ≤ n) : Vs.chk c n = 0 := by unfold Vs.chk; rw [if_neg (by omega)]

/-- Whether a number is a node's. -/
def nodeB (n : Int) : Bool := decide (0 ≤ n) && decide (n < 8)

theorem node_no1 {n : Int} (h : n < 0) : nodeB n = false := by simp [nodeB]; omega

theorem node_no2 {n : Int} (h : 8 ≤ n) : nodeB n = false := by simp [nodeB]; omega

theorem node_yes {n : Int} (h1 : ¬ n < 0) (h2 : ¬ 8 ≤ n) : nodeB n = true := by simp [nodeB]; omega







end Go.Proofs.Ytoajgacofmodoaa
