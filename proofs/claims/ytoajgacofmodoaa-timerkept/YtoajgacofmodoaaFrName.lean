/-
  Names of sessions: which may be, how they compare; the code's calls and the document's own, each as a plain function.
-/
import Derived.Test.YtoajgacofmodoaaYLOrder
namespace Go.Proofs.Ytoajgacofmodoaa
open Go.RowKit
set_option linter.unusedVariables false
/-- Two names. -/
def Nm.cmp (a l n b m k : Int) : Int := if b < a then 1 else if a < b then -1 else Vs.cmp l n m k
/-- Whether a name may be. -/
def Nm.chk (a l n : Int) : Int := if a < 0 ∨ 8 ≤ a then 110 else if l < 1 ∨ 1048576 < l ∨ n < 1 ∨ 1048576 < n then 111 else 0
theorem Nm.lt {a b : Int} (h : a < b) (l n m k : Int) : Nm.cmp a l n b m k = -1 := by unfold Nm.cmp; rw [if_neg (by omega), if_pos h]
theorem Nm.gt {a b : Int} (h : b < a) (l n m k : Int) : Nm.cmp a l n b m k = 1 := by unfold Nm.cmp; rw [if_pos h]
theorem Nm.eq (a l n m k : Int) : Nm.cmp a l n a m k = Vs.cmp l n m k := by unfold Nm.cmp; rw [if_neg (by omega), if_neg (by omega)]
theorem Nm.three (a l n b m k : Int) : Nm.cmp a l n b m k = 1 ∧ (b < a ∨ (a = b ∧ (m < l ∨ (l = m ∧ k < n)))) ∨ Nm.cmp a l n b m k = 0 ∧ a = b ∧ l = m ∧ n = k ∨ Nm.cmp a l n b m k = -1 ∧ (a < b ∨ (a = b ∧ (l < m ∨ (l = m ∧ n < k)))) := by
  rcases Int.lt_trichotomy a b with h | h | h
  · exact .inr (.inr ⟨Nm.lt h _ _ _ _, .inl h⟩)
  · subst h
    rw [Nm.eq]
    rcases cmp_three l n m k with h | h | h
    · exact .inl ⟨h.1, .inr ⟨rfl, h.2⟩⟩
    · exact .inr (.inl ⟨h.1, rfl, h.2.1, h.2.2⟩)
    · exact .inr (.inr ⟨h.1, .inr ⟨rfl, h.2⟩⟩)
  · exact .inl ⟨Nm.gt h _ _ _ _, .inl h⟩
set_option maxHeartbeats 400000 in
theorem order_any (x y : Int) (w : World) : Calls Try.prog 37 #[.int .i64 x, .int .i64 y] w fun e w' => e = .returned (.int .i64 (Vs.c2 x y)) ∧ w' = w := by
  rcases Int.lt_trichotomy x y with h | h | h
  · go_enter Try.func37, Try.ntmps37
    go_wp2
    go_ret
    exact ⟨ret_i64 (c2_lt h).symm, rfl⟩
  · subst h
    go_enter Try.func37, Try.ntmps37
    go_wp2
    go_ret
    exact ⟨ret_i64 (c2_eq x).symm, rfl⟩
  · have h' : ¬ x < y := by omega
    go_enter Try.func37, Try.ntmps37
    go_wp2
    go_ret
    exact ⟨ret_i64 (c2_gt h).symm, rfl⟩
theorem order_at {x y q : Int} (h : Vs.c2 x y = q) (w : World) : Calls Try.prog 37 #[.int .i64 x, .int .i64 y] w fun e w' => e = .returned (.int .i64 q) ∧ w' = w := by
  subst h; exact order_any x y w
set_option maxHeartbeats 1600000 in
theorem ncmpR_any (a l n b m k : Int) (w : World) : Calls Try.prog 34 #[.agg #[.int .i64 a, .int .i64 l, .int .i64 n], .agg #[.int .i64 b, .int .i64 m, .int .i64 k]] w fun e w' => e = .returned (.int .i64 (Nm.cmp a l n b m k)) ∧ Below w.heap.size w w' := by
  rcases Int.lt_trichotomy a b with h | h | h
  · skip
    have hne : ¬ a = b := by omega
    have hnb : (a == b) = false := by simp; omega
    go_enter Try.func34, Try.ntmps34
    go_wp2_with fail
    refine (order_at (c2_lt h) _).mono ?_
    rintro e w1 ⟨rfl, rfl⟩
    go_wp2
    go_ret
    exact ⟨ret_i64 ((Nm.lt h _ _ _ _).symm), bthen (bnew w _) (bnew _ _)⟩
  · subst h
    rcases Int.lt_trichotomy l m with h | h | h
    · skip
      have hne : ¬ l = m := by omega
      have hnb : (l == m) = false := by simp; omega
      go_enter Try.func34, Try.ntmps34
      go_wp2_with fail
      refine (order_at (c2_lt h) _).mono ?_
      rintro e w1 ⟨rfl, rfl⟩
      go_wp2
      go_ret
      exact ⟨ret_i64 (by rw [Nm.eq, cmp_lt h]), bthen (bnew w _) (bnew _ _)⟩
    · subst h
      go_enter Try.func34, Try.ntmps34
      go_wp2_with fail
      refine (order_any n k _).mono ?_
      rintro e w1 ⟨rfl, rfl⟩
      go_wp2
      go_ret
      exact ⟨ret_i64 (by rw [Nm.eq, cmp_eq]), bthen (bnew w _) (bnew _ _)⟩
    · skip
      have hne : ¬ l = m := by omega
      have hnb : (l == m) = false := by simp; omega
      go_enter Try.func34, Try.ntmps34
      go_wp2_with fail
      refine (order_at (c2_gt h) _).mono ?_
      rintro e w1 ⟨rfl, rfl⟩
      go_wp2
      go_ret
      exact ⟨ret_i64 (by rw [Nm.eq, cmp_gt h]), bthen (bnew w _) (bnew _ _)⟩
  · skip
    have hne : ¬ a = b := by omega
    have hnb : (a == b) = false := by simp; omega
    go_enter Try.func34, Try.ntmps34
    go_wp2_with fail
    refine (order_at (c2_gt h) _).mono ?_
    rintro e w1 ⟨rfl, rfl⟩
    go_wp2
    go_ret
    exact ⟨ret_i64 ((Nm.gt h _ _ _ _).symm), bthen (bnew w _) (bnew _ _)⟩
theorem ncmpR_at {a l n b m k q : Int} (h : Nm.cmp a l n b m k = q) (w : World) : Calls Try.prog 34 #[.agg #[.int .i64 a, .int .i64 l, .int .i64 n], .agg #[.int .i64 b, .int .i64 m, .int .i64 k]] w fun e w' => e = .returned (.int .i64 q) ∧ Below w.heap.size w w' := by
  subst h; exact ncmpR_any a l n b m k w
theorem name_run (a l n b m k : Int) (w : World) : (binOp .eql 29 (.agg #[.int .i64 a, .int .i64 l, .int .i64 n]) (.agg #[.int .i64 b, .int .i64 m, .int .i64 k])).run Try.prog w = .ok (.bool (a == b && (l == m && n == k))) w := by
  rw [run_eql_struct, show (10000 : Nat) = 9999 + 1 from rfl]
  go_simp
  by_cases h1 : a = b <;> by_cases h2 : l = m <;> by_cases h3 : n = k <;> simp [h1, h2, h3]
end Go.Proofs.Ytoajgacofmodoaa
