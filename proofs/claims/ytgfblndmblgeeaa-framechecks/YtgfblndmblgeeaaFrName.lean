/-
  Names of sessions: which may be, how they compare; the code's calls and the document's own, each as a plain function.
-/
import Derived.Test.YtgfblndmblgeeaaYLOrder
namespace Go.Proofs.Ytgfblndmblgeeaa
open Go.RowKit
set_option linter.unusedVariables false
/-- Two names. -/
def Nm.cmp (a l n b m k : Int) : Int := if b < a then 1 else if a < b then -1 else Vs.cmp l n m k
/-- Whether a name may be. -/
def Nm.chk (a l n : Int) : Int := if a < 0 ∨ 8 ≤ a then 110 else if l < 1 ∨ 1048576 < l ∨ n < 1 ∨ 1048576 < n then 111 else 0
theorem Nm.lt {a b : Int} (h : a < b) (l n m k : Int) : Nm.cmp a l n b m k = -1 := by unfold Nm.cmp; rw [if_neg (by omega), if_pos h]
theorem Nm.gt {a b : Int} (h : b < a) (l n m k : Int) : Nm.cmp a l n b m k = 1 := by unfold Nm.cmp; rw [if_pos h]
theorem Nm.eq (a l n m k : Int) : Nm.cmp a l n a m k = Vs.cmp l n m k := by unfold Nm.cmp; rw [if_neg (by omega), if_neg (by omega)]
theorem Nm.three (a l n b m k : Int) : Nm.cmp a l n b m k = 1 ∧ (b < a ∨ (a = b ∧ (m < l ∨ (l = m ∧ k < n)))) ∨ Nm.cmp a l n b m k = 0 ∧ a = b ∧ l = m ∧ n = k ∨ Nm.cmp a l n b m k = -1 ∧ (a < b ∨ (a = b ∧ (l < m ∨ (l = m ∧ n < k)))) := by
  rcases Int.lt_trichotomy a b with h | h | h
  · exact .inr (.inr ⟨Nm.lt h _ _ _ _, .inl h⟩)
  · subst h
    rw [Nm.eq]
    rcases cmp_three l n m k with h | h | h
    · exact .inl ⟨h.1, .inr ⟨rfl, h.2⟩⟩
    · exact .inr (.inl ⟨h.1, rfl, h.2.1, h.2.2⟩)
    · exact .inr (.inr ⟨h.1, .inr ⟨rfl, h.2⟩⟩)
  · exact .inl ⟨Nm.gt h _ _ _ _, .inl h⟩
set_option maxHeartbeats 400000 in
theorem fnode_any (n : Int) (w : World) : Calls Try.prog 61 #[.int .i64 n] w fun e w' => e = .returned (.bool (nodeB n)) ∧ w' = w := by
  by_cases h1 : n < 0
  · have h0 : ¬ 0 ≤ n := by omega
    go_enter Try.func61, Try.ntmps61
    go_wp2
    go_ret
    exact ⟨ret_bool (node_no1 (by omega)).symm, rfl⟩
  · have h0 : 0 ≤ n := by omega
    by_cases h2 : 8 ≤ n
    · have h3 : ¬ n < 8 := by omega
      go_enter Try.func61, Try.ntmps61
      go_wp2
      go_ret
      exact ⟨ret_bool (node_no2 (by omega)).symm, rfl⟩
    · have h3 : n < 8 := by omega
      go_enter Try.func61, Try.ntmps61
      go_wp2
      go_ret
      exact ⟨ret_bool (node_yes (by omega) (by omega)).symm, rfl⟩
theorem fnode_at {n : Int} {q : Bool} (h : nodeB n = q) (w : World) : Calls Try.prog 61 #[.int .i64 n] w fun e w' => e = .returned (.bool q) ∧ w' = w := by
  subst h; exact fnode_any n w
set_option maxHeartbeats 1600000 in
theorem nchk_any (a l n : Int) (w : World) : Calls Try.prog 35 #[.agg #[.int .i64 a, .int .i64 l, .int .i64 n]] w fun e w' => e = .returned (.int .i64 (Nm.chk a l n)) ∧ Below w.heap.size w w' := by
  by_cases h1 : a < 0
  · skip
    go_enter Try.func35, Try.ntmps35
    go_wp2_with fail
    refine (fnode_at (node_no1 (by omega)) _).mono ?_
    rintro e w1 ⟨rfl, rfl⟩
    go_wp2
    go_ret
    exact ⟨ret_i64 (by unfold Nm.chk; rw [if_pos (by omega)]), bnew w _⟩
  · by_cases h2 : 8 ≤ a
    · skip
      go_enter Try.func35, Try.ntmps35
      go_wp2_with fail
      refine (fnode_at (node_no2 (by omega)) _).mono ?_
      rintro e w1 ⟨rfl, rfl⟩
      go_wp2
      go_ret
      exact ⟨ret_i64 (by unfold Nm.chk; rw [if_pos (by omega)]), bnew w _⟩
    · by_cases h3 : l < 1
      · skip
        go_enter Try.func35, Try.ntmps35
        go_wp2_with fail
        refine (fnode_at (node_yes (by omega) (by omega)) _).mono ?_
        rintro e w1 ⟨rfl, rfl⟩
        go_wp2
        go_ret
        exact ⟨ret_i64 (by unfold Nm.chk; rw [if_neg (by omega), if_pos (by omega)]), bnew w _⟩
      · by_cases h4 : 1048576 < l
        · skip
          go_enter Try.func35, Try.ntmps35
          go_wp2_with fail
          refine (fnode_at (node_yes (by omega) (by omega)) _).mono ?_
          rintro e w1 ⟨rfl, rfl⟩
          go_wp2
          go_ret
          exact ⟨ret_i64 (by unfold Nm.chk; rw [if_neg (by omega), if_pos (by omega)]), bnew w _⟩
        · by_cases h5 : n < 1
          · skip
            go_enter Try.func35, Try.ntmps35
            go_wp2_with fail
            refine (fnode_at (node_yes (by omega) (by omega)) _).mono ?_
            rintro e w1 ⟨rfl, rfl⟩
            go_wp2
            go_ret
            exact ⟨ret_i64 (by unfold Nm.chk; rw [if_neg (by omega), if_pos (by omega)]), bnew w _⟩
          · by_cases h6 : 1048576 < n
            · skip
              go_enter Try.func35, Try.ntmps35
              go_wp2_with fail
              refine (fnode_at (node_yes (by omega) (by omega)) _).mono ?_
              rintro e w1 ⟨rfl, rfl⟩
              go_wp2
              go_ret
              exact ⟨ret_i64 (by unfold Nm.chk; rw [if_neg (by omega), if_pos (by omega)]), bnew w _⟩
            · skip
              go_enter Try.func35, Try.ntmps35
              go_wp2_with fail
              refine (fnode_at (node_yes (by omega) (by omega)) _).mono ?_
              rintro e w1 ⟨rfl, rfl⟩
              go_wp2
              go_ret
              exact ⟨ret_i64 (by unfold Nm.chk; rw [if_neg (by omega), if_neg (by omega)]), bnew w _⟩
set_option maxHeartbeats 1600000 in
theorem nchkR_any (a l n : Int) (w : World) : Calls Try.prog 39 #[.agg #[.int .i64 a, .int .i64 l, .int .i64 n]] w fun e w' => e = .returned (.int .i64 (Nm.chk a l n)) ∧ Below w.heap.size w w' := by
  by_cases h1 : a < 0
  · skip
    go_enter Try.func39, Try.ntmps39
    go_wp2
    go_ret
    exact ⟨ret_i64 (by unfold Nm.chk; rw [if_pos (by omega)]), bnew w _⟩
  · by_cases h2 : 8 ≤ a
    · skip
      go_enter Try.func39, Try.ntmps39
      go_wp2
      go_ret
      exact ⟨ret_i64 (by unfold Nm.chk; rw [if_pos (by omega)]), bnew w _⟩
    · by_cases h3 : l < 1
      · skip
        go_enter Try.func39, Try.ntmps39
        go_wp2
        go_ret
        exact ⟨ret_i64 (by unfold Nm.chk; rw [if_neg (by omega), if_pos (by omega)]), bnew w _⟩
      · by_cases h4 : 1048576 < l
        · skip
          go_enter Try.func39, Try.ntmps39
          go_wp2
          go_ret
          exact ⟨ret_i64 (by unfold Nm.chk; rw [if_neg (by omega), if_pos (by omega)]), bnew w _⟩
        · by_cases h5 : n < 1
          · skip
            go_enter Try.func39, Try.ntmps39
            go_wp2
            go_ret
            exact ⟨ret_i64 (by unfold Nm.chk; rw [if_neg (by omega), if_pos (by omega)]), bnew w _⟩
          · by_cases h6 : 1048576 < n
            · skip
              go_enter Try.func39, Try.ntmps39
              go_wp2
              go_ret
              exact ⟨ret_i64 (by unfold Nm.chk; rw [if_neg (by omega), if_pos (by omega)]), bnew w _⟩
            · skip
              go_enter Try.func39, Try.ntmps39
              go_wp2
              go_ret
              exact ⟨ret_i64 (by unfold Nm.chk; rw [if_neg (by omega), if_neg (by omega)]), bnew w _⟩
theorem nchk_at {a l n q : Int} (h : Nm.chk a l n = q) (w : World) : Calls Try.prog 35 #[.agg #[.int .i64 a, .int .i64 l, .int .i64 n]] w fun e w' => e = .returned (.int .i64 q) ∧ Below w.heap.size w w' := by
  subst h; exact nchk_any a l n w
theorem nchkR_at {a l n q : Int} (h : Nm.chk a l n = q) (w : World) : Calls Try.prog 39 #[.agg #[.int .i64 a, .int .i64 l, .int .i64 n]] w fun e w' => e = .returned (.int .i64 q) ∧ Below w.heap.size w w' := by
  subst h; exact nchkR_any a l n w
theorem name_run (a l n b m k : Int) (w : World) : (binOp .eql 23 (.agg #[.int .i64 a, .int .i64 l, .int .i64 n]) (.agg #[.int .i64 b, .int .i64 m, .int .i64 k])).run Try.prog w = .ok (.bool (a == b && (l == m && n == k))) w := by
  rw [run_eql_struct, show (10000 : Nat) = 9999 + 1 from rfl]
  go_simp
  by_cases h1 : a = b <;> by_cases h2 : l = m <;> by_cases h3 : n = k <;> simp [h1, h2, h3]
end Go.Proofs.Ytgfblndmblgeeaa
