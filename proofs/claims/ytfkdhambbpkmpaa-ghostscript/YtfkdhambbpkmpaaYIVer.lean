/-
  Versions: which may be, how they compare, which is the next; the code's calls and the document's own, each as a plain function.
-/
import Derived.Test.YtfkdhambbpkmpaaYBytes1
import Derived.Below
import Derived.Test.YtfkdhambbpkmpaaYMBase
import Derived.Test.YtfkdhambbpkmpaaYTrBase
namespace Go.Proofs.Ytfkdhambbpkmpaa
open Go.RowKit
theorem ret_i64 {a b : Int} (h : a = b) : Ending.returned (.int .i64 a) = .returned (.int .i64 b) := by rw [h]

/-- Two numbers. -/
def Vs.c2 (x y : Int) : Int := if y < x then 1 else if x < y then -1 else 0

/-- Two versions. -/
def Vs.cmp (a n b m : Int) : Int := if b < a then 1 else if a < b then -1 else Vs.c2 n m

/-- Whether a version may be. -/
def Vs.chk (c n : Int) : Int := if c < 1 ∨ 1099511627776 < c ∨ n < 0 ∨ 8 ≤ n then 30 else 0

/-- The next version: its numbers, and the error. -/
def Vs.nx (clock node : Int) : Int × Int × Int :=
  if node < 0 ∨ 8 ≤ node ∨ clock < 0 ∨ 1099511627776 < clock then (0, 0, 30) else if clock = 1099511627776 then (0, 0, 33) else (clock + 1, node, 0)

def Vs.nxV (r : Int × Int × Int) : Value := .tuple #[.agg #[.int .i64 r.1, .int .i64 r.2.1], .int .i64 r.2.2]

set_option maxHeartbeats 400000 in
theorem isNaN_any (x : Int) (w : World) : Calls Try.prog 45 #[.int .i64 x] w fun e w' => e = .returned (.bool false) ∧ w' = w := by
  go_enter Try.func45, Try.ntmps45
  go_wp2
  go_ret
  exact ⟨by simp, rfl⟩

theorem c2_lt {x y : Int} (h : x < y) : Vs.c2 x y = -1 := by unfold Vs.c2; rw [if_neg (by omega), if_pos h]

theorem c2_gt {x y : Int} (h : y < x) : Vs.c2 x y = 1 := by unfold Vs.c2; rw [if_pos h]

theorem c2_eq (x : Int) : Vs.c2 x x = 0 := by unfold Vs.c2; rw [if_neg (by omega), if_neg (by omega)]

set_option maxHeartbeats 400000 in
theorem cmpI_any (x y : Int) (w : World) : Calls Try.prog 43 #[.int .i64 x, .int .i64 y] w fun e w' => e = .returned (.int .i64 (Vs.c2 x y)) ∧ w' = w := by
  rcases Int.lt_trichotomy x y with h | h | h
  · go_enter Try.func43, Try.ntmps43
    go_wp2_with (go_at_call 45; refine (isNaN_any _ _).mono ?_; rintro e w1 ⟨rfl, rfl⟩)
    go_ret
    exact ⟨ret_i64 (c2_lt h).symm, rfl⟩
  · subst h
    go_enter Try.func43, Try.ntmps43
    go_wp2_with (go_at_call 45; refine (isNaN_any _ _).mono ?_; rintro e w1 ⟨rfl, rfl⟩)
    go_ret
    exact ⟨ret_i64 (c2_eq x).symm, rfl⟩
  · have h' : ¬ x < y := by omega
    go_enter Try.func43, Try.ntmps43
    go_wp2_with (go_at_call 45; refine (isNaN_any _ _).mono ?_; rintro e w1 ⟨rfl, rfl⟩)
    go_ret
    exact ⟨ret_i64 (c2_gt h).symm, rfl⟩

theorem cmpI_at {x y q : Int} (h : Vs.c2 x y = q) (w : World) : Calls Try.prog 43 #[.int .i64 x, .int .i64 y] w fun e w' => e = .returned (.int .i64 q) ∧ w' = w := by
  subst h; exact cmpI_any x y w

theorem cmp_lt {a b : Int} (h : a < b) (n m : Int) : Vs.cmp a n b m = -1 := by unfold Vs.cmp; rw [if_neg (by omega), if_pos h]

theorem cmp_gt {a b : Int} (h : b < a) (n m : Int) : Vs.cmp a n b m = 1 := by unfold Vs.cmp; rw [if_pos h]

theorem cmp_eq (a n m : Int) : Vs.cmp a n a m = Vs.c2 n m := by unfold Vs.cmp; rw [if_neg (by omega), if_neg (by omega)]

set_option maxHeartbeats 400000 in
theorem compare_any (a n b m : Int) (w : World) : Calls Try.prog 38 #[.agg #[.int .i64 a, .int .i64 n], .agg #[.int .i64 b, .int .i64 m]] w fun e w' => e = .returned (.int .i64 (Vs.cmp a n b m)) ∧ Below w.heap.size w w' := by
  rcases Int.lt_trichotomy a b with h | h | h
  · go_enter Try.func38, Try.ntmps38
    go_wp2_with (go_at_call 43; refine (cmpI_at (c2_lt h) _).mono ?_; rintro e w1 ⟨rfl, rfl⟩)
    go_ret
    exact ⟨ret_i64 (cmp_lt h n m).symm, bthen (bnew w _) (bnew _ _)⟩
  · subst h
    go_enter Try.func38, Try.ntmps38
    go_wp2_with fail
    refine (cmpI_at (c2_eq a) _).mono ?_
    rintro e w1 ⟨rfl, rfl⟩
    go_wp2_with fail
    refine (cmpI_any n m _).mono ?_
    rintro e w1 ⟨rfl, rfl⟩
    go_wp2
    go_ret
    exact ⟨ret_i64 (cmp_eq a n m).symm, bthen (bnew w _) (bnew _ _)⟩
  · go_enter Try.func38, Try.ntmps38
    go_wp2_with (go_at_call 43; refine (cmpI_at (c2_gt h) _).mono ?_; rintro e w1 ⟨rfl, rfl⟩)
    go_ret
    exact ⟨ret_i64 (cmp_gt h n m).symm, bthen (bnew w _) (bnew _ _)⟩

set_option maxHeartbeats 400000 in
theorem compareRef_any (a n b m : Int) (w : World) : Calls Try.prog 41 #[.agg #[.int .i64 a, .int .i64 n], .agg #[.int .i64 b, .int .i64 m]] w fun e w' => e = .returned (.int .i64 (Vs.cmp a n b m)) ∧ Below w.heap.size w w' := by
  rcases Int.lt_trichotomy a b with h | h | h
  · have h' : ¬ b < a := by omega
    go_enter Try.func41, Try.ntmps41
    go_wp2
    go_ret
    exact ⟨ret_i64 (cmp_lt h n m).symm, bthen (bnew w _) (bnew _ _)⟩
  · subst h
    have h' : ¬ a < a := by omega
    rcases Int.lt_trichotomy n m with g | g | g
    · have g' : ¬ m < n := by omega
      go_enter Try.func41, Try.ntmps41
      go_wp2
      go_ret
      exact ⟨ret_i64 (by rw [cmp_eq, c2_lt g]), bthen (bnew w _) (bnew _ _)⟩
    · subst g
      have g' : ¬ n < n := by omega
      go_enter Try.func41, Try.ntmps41
      go_wp2
      go_ret
      exact ⟨ret_i64 (by rw [cmp_eq, c2_eq]), bthen (bnew w _) (bnew _ _)⟩
    · go_enter Try.func41, Try.ntmps41
      go_wp2
      go_ret
      exact ⟨ret_i64 (by rw [cmp_eq, c2_gt g]), bthen (bnew w _) (bnew _ _)⟩
  · go_enter Try.func41, Try.ntmps41
    go_wp2
    go_ret
    exact ⟨ret_i64 (cmp_gt h n m).symm, bthen (bnew w _) (bnew _ _)⟩

theorem chk_bad1 {c : Int} (n : Int) (h : c < 1) : Vs.chk c n = 30 := by unfold Vs.chk; rw [if_pos (.inl h)]

theorem chk_bad2 {c : Int} (n : Int) (h : 1099511627776 < c) : Vs.chk c n = 30 := by unfold Vs.chk; rw [if_pos (.inr (.inl h))]

theorem chk_bad3 (c : Int) {n : Int} (h : n < 0) : Vs.chk c n = 30 := by unfold Vs.chk; rw [if_pos (.inr (.inr (.inl h)))]

theorem chk_bad4 (c : Int) {n : Int} (h : 8 ≤ n) : Vs.chk c n = 30 := by unfold Vs.chk; rw [if_pos (.inr (.inr (.inr h)))]

theorem chk_ok {c n : Int} (h1 : ¬ c < 1) (h2 : ¬ 1099511627776 < c) (h3 : ¬ n < 0) (h4 : ¬ 8 ≤ n) : Vs.chk c n = 0 := by unfold Vs.chk; rw [if_neg (by omega)]

/-- Whether a number is a node's. -/
def nodeB (n : Int) : Bool := decide (0 ≤ n) && decide (n < 8)

theorem node_no1 {n : Int} (h : n < 0) : nodeB n = false := by simp [nodeB]; omega

theorem node_no2 {n : Int} (h : 8 ≤ n) : nodeB n = false := by simp [nodeB]; omega

theorem node_yes {n : Int} (h1 : ¬ n < 0) (h2 : ¬ 8 ≤ n) : nodeB n = true := by simp [nodeB]; omega

set_option maxHeartbeats 400000 in
theorem isNode_any (n : Int) (w : World) : Calls Try.prog 44 #[.int .i64 n] w fun e w' => e = .returned (.bool (nodeB n)) ∧ w' = w := by
  by_cases h1 : n < 0
  · have h1' : ¬ 0 ≤ n := by omega
    go_enter Try.func44, Try.ntmps44
    go_wp2
    go_ret
    exact ⟨ret_bool (by simp [nodeB]; omega), rfl⟩
  · have h1' : 0 ≤ n := by omega
    go_enter Try.func44, Try.ntmps44
    go_wp2
    go_ret
    exact ⟨ret_bool (by simp [nodeB]; omega), rfl⟩

theorem isNode_at {n : Int} {q : Bool} (h : nodeB n = q) (w : World) : Calls Try.prog 44 #[.int .i64 n] w fun e w' => e = .returned (.bool q) ∧ w' = w := by
  subst h; exact isNode_any n w

set_option maxHeartbeats 800000 in
theorem checkVersion_any (c n : Int) (w : World) : Calls Try.prog 42 #[.agg #[.int .i64 c, .int .i64 n]] w fun e w' => e = .returned (.int .i64 (Vs.chk c n)) ∧ Below w.heap.size w w' := by
  by_cases h1 : c < 1
  · go_enter Try.func42, Try.ntmps42
    go_wp2
    go_ret
    exact ⟨ret_i64 (chk_bad1 n h1).symm, bnew w _⟩
  by_cases h2 : 1099511627776 < c
  · go_enter Try.func42, Try.ntmps42
    go_wp2
    go_ret
    exact ⟨ret_i64 (chk_bad2 n h2).symm, bnew w _⟩
  by_cases h3 : n < 0
  · go_enter Try.func42, Try.ntmps42
    go_wp2_with (go_at_call 44; refine (isNode_at (node_no1 h3) _).mono ?_; rintro e w1 ⟨rfl, rfl⟩)
    go_ret
    exact ⟨ret_i64 (chk_bad3 c h3).symm, bnew w _⟩
  by_cases h4 : 8 ≤ n
  · go_enter Try.func42, Try.ntmps42
    go_wp2_with (go_at_call 44; refine (isNode_at (node_no2 h4) _).mono ?_; rintro e w1 ⟨rfl, rfl⟩)
    go_ret
    exact ⟨ret_i64 (chk_bad4 c h4).symm, bnew w _⟩
  · go_enter Try.func42, Try.ntmps42
    go_wp2_with (go_at_call 44; refine (isNode_at (node_yes h3 h4) _).mono ?_; rintro e w1 ⟨rfl, rfl⟩)
    go_ret
    exact ⟨ret_i64 (chk_ok (by omega) (by omega) (by omega) (by omega)).symm, bnew w _⟩

set_option maxHeartbeats 800000 in
theorem checkVersionRef_any (c n : Int) (w : World) : Calls Try.prog 39 #[.agg #[.int .i64 c, .int .i64 n]] w fun e w' => e = .returned (.int .i64 (Vs.chk c n)) ∧ Below w.heap.size w w' := by
  by_cases h1 : c < 1
  · go_enter Try.func39, Try.ntmps39
    go_wp2
    go_ret
    exact ⟨ret_i64 (chk_bad1 n h1).symm, bnew w _⟩
  by_cases h2 : 1099511627776 < c
  · go_enter Try.func39, Try.ntmps39
    go_wp2
    go_ret
    exact ⟨ret_i64 (chk_bad2 n h2).symm, bnew w _⟩
  by_cases h3 : n < 0
  · go_enter Try.func39, Try.ntmps39
    go_wp2
    go_ret
    exact ⟨ret_i64 (chk_bad3 c h3).symm, bnew w _⟩
  by_cases h4 : 8 ≤ n
  · go_enter Try.func39, Try.ntmps39
    go_wp2
    go_ret
    exact ⟨ret_i64 (chk_bad4 c h4).symm, bnew w _⟩
  · go_enter Try.func39, Try.ntmps39
    go_wp2
    go_ret
    exact ⟨ret_i64 (chk_ok (by omega) (by omega) (by omega) (by omega)).symm, bnew w _⟩

theorem checkVersion_at {c n q : Int} (h : Vs.chk c n = q) (w : World) : Calls Try.prog 42 #[.agg #[.int .i64 c, .int .i64 n]] w fun e w' => e = .returned (.int .i64 q) ∧ Below w.heap.size w w' := by
  subst h; exact checkVersion_any c n w

theorem checkVersionRef_at {c n q : Int} (h : Vs.chk c n = q) (w : World) : Calls Try.prog 39 #[.agg #[.int .i64 c, .int .i64 n]] w fun e w' => e = .returned (.int .i64 q) ∧ Below w.heap.size w w' := by
  subst h; exact checkVersionRef_any c n w

end Go.Proofs.Ytfkdhambbpkmpaa
