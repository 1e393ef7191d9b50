/-
  compareNames, compare of the code's timer.
-/
import Derived.Test.YtoajgacofmodoaaTmA
import Derived.Sort.Grow
namespace Go.Proofs.Ytoajgacofmodoaa
open Go.RowKit
set_option linter.unusedVariables false

set_option maxHeartbeats 3200000 in
set_option maxRecDepth 100000 in
theorem tcn_any (a l n b m k : Int) (w : World) : Calls Try.prog 29 #[.agg #[.int .i64 a, .int .i64 l, .int .i64 n], .agg #[.int .i64 b, .int .i64 m, .int .i64 k]] w fun e w' => e = .returned (.int .i64 (Nm.cmp a l n b m k)) ∧ ∃ os, w' = Go.Sort.grow w os := by
  have GR := aside (show ∃ os, ((w.alloc (.cells #[.int .i64 a, .int .i64 l, .int .i64 n] 29)).alloc (.cells #[.int .i64 b, .int .i64 m, .int .i64 k] 29)) = Go.Sort.grow w os from ⟨_, by rw [Go.Sort.alloc_eq_grow, Go.Sort.alloc_eq_grow, Go.Sort.grow_grow]⟩)
  rcases Int.lt_trichotomy a b with h | h | h
  · skip
    go_enter Try.func29, Try.ntmps29
    go_wp2_with fail
    refine (cmpI_at (c2_lt h) _).mono ?_
    rintro e w1 ⟨rfl, rfl⟩
    go_wp2
    go_ret
    exact ⟨ret_i64 ((Nm.lt h _ _ _ _).symm), GR.out⟩
  · subst h
    rcases Int.lt_trichotomy l m with h | h | h
    · skip
      go_enter Try.func29, Try.ntmps29
      go_wp2_with fail
      refine (cmpI_at (c2_eq a) _).mono ?_
      rintro e w1 ⟨rfl, rfl⟩
      go_wp2_with fail
      refine (cmpI_at (c2_lt h) _).mono ?_
      rintro e w1 ⟨rfl, rfl⟩
      go_wp2
      go_ret
      exact ⟨ret_i64 (by rw [Nm.eq, cmp_lt h]), GR.out⟩
    · subst h
      go_enter Try.func29, Try.ntmps29
      go_wp2_with fail
      refine (cmpI_at (c2_eq a) _).mono ?_
      rintro e w1 ⟨rfl, rfl⟩
      go_wp2_with fail
      refine (cmpI_at (c2_eq l) _).mono ?_
      rintro e w1 ⟨rfl, rfl⟩
      go_wp2_with fail
      refine (cmpI_any n k _).mono ?_
      rintro e w1 ⟨rfl, rfl⟩
      go_wp2
      go_ret
      exact ⟨ret_i64 (by rw [Nm.eq, cmp_eq]), GR.out⟩
    · skip
      go_enter Try.func29, Try.ntmps29
      go_wp2_with fail
      refine (cmpI_at (c2_eq a) _).mono ?_
      rintro e w1 ⟨rfl, rfl⟩
      go_wp2_with fail
      refine (cmpI_at (c2_gt h) _).mono ?_
      rintro e w1 ⟨rfl, rfl⟩
      go_wp2
      go_ret
      exact ⟨ret_i64 (by rw [Nm.eq, cmp_gt h]), GR.out⟩
  · skip
    go_enter Try.func29, Try.ntmps29
    go_wp2_with fail
    refine (cmpI_at (c2_gt h) _).mono ?_
    rintro e w1 ⟨rfl, rfl⟩
    go_wp2
    go_ret
    exact ⟨ret_i64 ((Nm.gt h _ _ _ _).symm), GR.out⟩

theorem acmp_lt {a b : Alm} (h : a.2 < b.2) : acmp a b = -1 := by unfold acmp; rw [if_pos h]
theorem acmp_gt {a b : Alm} (h : b.2 < a.2) : acmp a b = 1 := by unfold acmp; rw [if_neg (by omega), if_pos h]
theorem acmp_eq (n m : Nam) (t : Int) : acmp (n, t) (m, t) = Nm.cmp n.1 n.2.1 n.2.2 m.1 m.2.1 m.2.2 := by unfold acmp; rw [if_neg (by simp), if_neg (by simp)]
set_option maxHeartbeats 3200000 in
set_option maxRecDepth 100000 in
theorem tcmp_any (a l n t b m k s : Int) (w : World) : Calls Try.prog 19 #[.agg #[.int .i64 a, .int .i64 l, .int .i64 n, .int .i64 t], .agg #[.int .i64 b, .int .i64 m, .int .i64 k, .int .i64 s]] w fun e w' => e = .returned (.int .i64 (acmp ((a, l, n), t) ((b, m, k), s))) ∧ ∃ os, w' = Go.Sort.grow w os := by
  obtain ⟨V, hV⟩ : ∃ V, ((w.alloc (.cells #[.int .i64 a, .int .i64 l, .int .i64 n, .int .i64 t] 62)).alloc (.cells #[.int .i64 b, .int .i64 m, .int .i64 k, .int .i64 s] 62)) = V := ⟨_, rfl⟩
  have GR := aside (show ∃ os, V = Go.Sort.grow w os from ⟨_, by rw [← hV, Go.Sort.alloc_eq_grow, Go.Sort.alloc_eq_grow, Go.Sort.grow_grow]⟩)
  rw [← hV] at GR
  clear hV
  rcases Int.lt_trichotomy t s with h | h | h
  · go_enter Try.func19, Try.ntmps19
    go_wp2_with fail
    refine (cmpI_at (c2_lt h) _).mono ?_
    rintro e w1 ⟨rfl, rfl⟩
    go_wp2
    go_ret
    exact ⟨ret_i64 (acmp_lt h).symm, GR.out⟩
  · subst h
    go_enter Try.func19, Try.ntmps19
    go_wp2_with fail
    refine (cmpI_at (c2_eq t) _).mono ?_
    rintro e w1 ⟨rfl, rfl⟩
    go_wp2_with fail
    refine (tcn_any a l n b m k _).mono ?_
    rintro e w1 ⟨rfl, os, rfl⟩
    obtain ⟨os0, h0⟩ := GR.out
    rw [h0, Go.Sort.grow_grow]
    go_wp2
    go_ret
    exact ⟨ret_i64 (acmp_eq (a, l, n) (b, m, k) t).symm, _, rfl⟩
  · go_enter Try.func19, Try.ntmps19
    go_wp2_with fail
    refine (cmpI_at (c2_gt h) _).mono ?_
    rintro e w1 ⟨rfl, rfl⟩
    go_wp2
    go_ret
    exact ⟨ret_i64 (acmp_gt h).symm, GR.out⟩

end Go.Proofs.Ytoajgacofmodoaa
