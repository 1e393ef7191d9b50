/-
  Versions: which may be, how they compare, which is the next; the code's calls and the document's own, each as a plain function.
-/
import Derived.Test.YtnjbglnkhgholabDoorBytes1
import Derived.Below
namespace Go.Proofs.YtnjbglnkhgholabDoor
open Go.RowKit

theorem ret_i64 {a b : Int} (h : a = b) : Ending.returned (.int .i64 a) = .returned (.int .i64 b) := by rw [h]
theorem ret_bool {a b : Bool} (h : a = b) : Ending.returned (.bool a) = .returned (.bool b) := by rw [h]
theorem bthen {w w1 w2 : World} (h : Below w.heap.size w w1) (h2 : Below w1.heap.size w1 w2) : Below w.heap.size w w2 := h.trans (h2.mono h.size)
theorem bnew (w : World) (o : Obj) : Below w.heap.size w (w.alloc o) := (Below.refl _ w).alloc (Nat.le_refl _) _

/-- Two numbers. -/
def Vs.c2 (x y : Int) : Int := if y < x then 1 else if x < y then -1 else 0
/-- Two versions. -/
def Vs.cmp (a n b m : Int) : Int := if b < a then 1 else if a < b then -1 else Vs.c2 n m
/-- Whether a version may be. -/
def Vs.chk (c n : Int) : Int := if c < 1 ∨ 1099511627776 < c ∨ n < 0 ∨ 8 ≤ n then 30 else 0
/-- The next version: its numbers, and the error. -/
def Vs.nx (clock node : Int) : Int × Int × Int :=
  if node < 0 ∨ 8 ≤ node ∨ clock < 0 ∨ 1099511627776 < clock then (0, 0, 30) else if clock = 1099511627776 then (0, 0, 33) else (clock + 1, node, 0)
def Vs.nxV (r : Int × Int × Int) : Value := .tuple #[.agg #[.int .i64 r.1, .int .i64 r.2.1], .int .i64 r.2.2]


theorem chk_bad1 {c : Int} (n : Int) (h : c < 1) : Vs.chk c n = 30 := by unfold Vs.chk; rw [if_pos (.inl h)]
theorem chk_bad2 {c : Int} (n : Int) (h : 1099511627776 < c) : Vs.chk c n = 30 := by unfold Vs.chk; rw [if_pos (.inr (.inl h))]
theorem chk_bad3 (c : Int) {n : Int} (h : n < 0) : Vs.chk c n = 30 := by unfold Vs.chk; rw [if_pos (.inr (.inr (.inl h)))]
theorem chk_bad4 (c : Int) {n : Int} (h : 8 ≤ n) : Vs.chk c n = 30 := by unfold Vs.chk; rw [if_pos (.inr (.inr (.inr h)))]
theorem chk_ok {c n : Int} (h1 : ¬ c < 1) (h2 : ¬ 1099511627776 < c) (h3 : ¬ n < 0) (h4 : ¬ 8 ≤ n) : Vs.chk c n = 0 := by unfold Vs.chk; rw [if_neg (by omega)]

/-- Whether a number is a node's. -/
def nodeB (n : Int) : Bool := decide (0 ≤ n) && decide (n < 8)
theorem node_no1 {n : Int} (h : n < 0) : nodeB n = false := by simp [nodeB]; omega
theorem node_no2 {n : Int} (h : 8 ≤ n) : nodeB n = false := by simp [nodeB]; omega
theorem node_yes {n : Int} (h1 : ¬ n < 0) (h2 : ¬ 8 ≤ n) : nodeB n = true := by simp [nodeB]; omega

set_option maxHeartbeats 400000 in
theorem isNode_any (n : Int) (w : World) : Calls Tryd.prog 27 #[.int .i64 n] w fun e w' => e = .returned (.bool (nodeB n)) ∧ w' = w := by
  by_cases h1 : n < 0
  · have h1' : ¬ 0 ≤ n := by omega
    go_enter Tryd.func27, Tryd.ntmps27
    go_wp2
    go_ret
    exact ⟨ret_bool (by simp [nodeB]; omega), rfl⟩
  · have h1' : 0 ≤ n := by omega
    go_enter Tryd.func27, Tryd.ntmps27
    go_wp2
    go_ret
    exact ⟨ret_bool (by simp [nodeB]; omega), rfl⟩

theorem isNode_at {n : Int} {q : Bool} (h : nodeB n = q) (w : World) : Calls Tryd.prog 27 #[.int .i64 n] w fun e w' => e = .returned (.bool q) ∧ w' = w := by
  subst h; exact isNode_any n w

set_option maxHeartbeats 800000 in
theorem checkVersion_any (c n : Int) (w : World) : Calls Tryd.prog 19 #[.agg #[.int .i64 c, .int .i64 n]] w fun e w' => e = .returned (.int .i64 (Vs.chk c n)) ∧ Below w.heap.size w w' := by
  by_cases h1 : c < 1
  · go_enter Tryd.func19, Tryd.ntmps19
    go_wp2
    go_ret
    exact ⟨ret_i64 (chk_bad1 n h1).symm, bnew w _⟩
  by_cases h2 : 1099511627776 < c
  · go_enter Tryd.func19, Tryd.ntmps19
    go_wp2
    go_ret
    exact ⟨ret_i64 (chk_bad2 n h2).symm, bnew w _⟩
  by_cases h3 : n < 0
  · go_enter Tryd.func19, Tryd.ntmps19
    go_wp2_with (go_at_call 27; refine (isNode_at (node_no1 h3) _).mono ?_; rintro e w1 ⟨rfl, rfl⟩)
    go_ret
    exact ⟨ret_i64 (chk_bad3 c h3).symm, bnew w _⟩
  by_cases h4 : 8 ≤ n
  · go_enter Tryd.func19, Tryd.ntmps19
    go_wp2_with (go_at_call 27; refine (isNode_at (node_no2 h4) _).mono ?_; rintro e w1 ⟨rfl, rfl⟩)
    go_ret
    exact ⟨ret_i64 (chk_bad4 c h4).symm, bnew w _⟩
  · go_enter Tryd.func19, Tryd.ntmps19
    go_wp2_with (go_at_call 27; refine (isNode_at (node_yes h3 h4) _).mono ?_; rintro e w1 ⟨rfl, rfl⟩)
    go_ret
    exact ⟨ret_i64 (chk_ok (by omega) (by omega) (by omega) (by omega)).symm, bnew w _⟩

set_option maxHeartbeats 800000 in
theorem checkVersionRef_any (c n : Int) (w : World) : Calls Tryd.prog 21 #[.agg #[.int .i64 c, .int .i64 n]] w fun e w' => e = .returned (.int .i64 (Vs.chk c n)) ∧ Below w.heap.size w w' := by
  by_cases h1 : c < 1
  · go_enter Tryd.func21, Tryd.ntmps21
    go_wp2
    go_ret
    exact ⟨ret_i64 (chk_bad1 n h1).symm, bnew w _⟩
  by_cases h2 : 1099511627776 < c
  · go_enter Tryd.func21, Tryd.ntmps21
    go_wp2
    go_ret
    exact ⟨ret_i64 (chk_bad2 n h2).symm, bnew w _⟩
  by_cases h3 : n < 0
  · go_enter Tryd.func21, Tryd.ntmps21
    go_wp2
    go_ret
    exact ⟨ret_i64 (chk_bad3 c h3).symm, bnew w _⟩
  by_cases h4 : 8 ≤ n
  · go_enter Tryd.func21, Tryd.ntmps21
    go_wp2
    go_ret
    exact ⟨ret_i64 (chk_bad4 c h4).symm, bnew w _⟩
  · go_enter Tryd.func21, Tryd.ntmps21
    go_wp2
    go_ret
    exact ⟨ret_i64 (chk_ok (by omega) (by omega) (by omega) (by omega)).symm, bnew w _⟩

theorem checkVersion_at {c n q : Int} (h : Vs.chk c n = q) (w : World) : Calls Tryd.prog 19 #[.agg #[.int .i64 c, .int .i64 n]] w fun e w' => e = .returned (.int .i64 q) ∧ Below w.heap.size w w' := by
  subst h; exact checkVersion_any c n w
theorem checkVersionRef_at {c n q : Int} (h : Vs.chk c n = q) (w : World) : Calls Tryd.prog 21 #[.agg #[.int .i64 c, .int .i64 n]] w fun e w' => e = .returned (.int .i64 q) ∧ Below w.heap.size w w' := by
  subst h; exact checkVersionRef_any c n w

end Go.Proofs.YtnjbglnkhgholabDoor
