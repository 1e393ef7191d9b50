/-
  Next, the code's and the document's own, as one plain function; and what it promises.
-/
import Derived.Test.YtlgcdcjhflihiaaDoorBstorefills25
namespace Go.Proofs.YtlgcdcjhflihiaaDoor
open Go.RowKit
theorem nx_bad {clock node : Int} (h : node < 0 ∨ 8 ≤ node ∨ clock < 0 ∨ 1099511627776 < clock) : Vs.nx clock node = (0, 0, 30) := by unfold Vs.nx; rw [if_pos h]

theorem nx_worn {clock node : Int} (h : ¬ (node < 0 ∨ 8 ≤ node ∨ clock < 0 ∨ 1099511627776 < clock)) (h2 : clock = 1099511627776) : Vs.nx clock node = (0, 0, 33) := by unfold Vs.nx; rw [if_neg h, if_pos h2]

theorem nx_ok {clock node : Int} (h : ¬ (node < 0 ∨ 8 ≤ node ∨ clock < 0 ∨ 1099511627776 < clock)) (h2 : clock ≠ 1099511627776) : Vs.nx clock node = (clock + 1, node, 0) := by unfold Vs.nx; rw [if_neg h, if_neg h2]

theorem ret_nx {r s : Int × Int × Int} (h : r = s) : Ending.returned (Vs.nxV r) = .returned (Vs.nxV s) := by rw [h]

theorem bnew_set (w : World) (o : Obj) (p : Addr) (hp : p.block = w.heap.size) (u : Value) : Below w.heap.size w ((w.alloc o).setCell p u) := (bnew w o).setCell (by omega) u

set_option maxHeartbeats 1600000 in
theorem next_any (clock node : Int) (w : World) : Calls Tryd.prog 52 #[.int .i64 clock, .int .i64 node] w fun e w' => e = .returned (Vs.nxV (Vs.nx clock node)) ∧ Below w.heap.size w w' := by
  by_cases h3 : node < 0
  · go_enter Tryd.func52, Tryd.ntmps52
    go_wp2_with (go_at_call 74; refine (isNode_at (node_no1 h3) _).mono ?_; rintro e w1 ⟨rfl, rfl⟩)
    refine bodyPost_ret (v := .tuple #[.agg #[.int .i64 0, .int .i64 0], .int .i64 30]) (by simp [results, Tryd.results52, go_sem]) rfl ⟨ret_nx (nx_bad (by omega)).symm, ?_⟩
    exact bnew w _
  by_cases h4 : 8 ≤ node
  · go_enter Tryd.func52, Tryd.ntmps52
    go_wp2_with (go_at_call 74; refine (isNode_at (node_no2 h4) _).mono ?_; rintro e w1 ⟨rfl, rfl⟩)
    refine bodyPost_ret (v := .tuple #[.agg #[.int .i64 0, .int .i64 0], .int .i64 30]) (by simp [results, Tryd.results52, go_sem]) rfl ⟨ret_nx (nx_bad (by omega)).symm, ?_⟩
    exact bnew w _
  have hN := node_yes h3 h4
  by_cases h1 : clock < 0
  · go_enter Tryd.func52, Tryd.ntmps52
    go_wp2_with (go_at_call 74; refine (isNode_at hN _).mono ?_; rintro e w1 ⟨rfl, rfl⟩)
    refine bodyPost_ret (v := .tuple #[.agg #[.int .i64 0, .int .i64 0], .int .i64 30]) (by simp [results, Tryd.results52, go_sem]) rfl ⟨ret_nx (nx_bad (by omega)).symm, ?_⟩
    exact bnew w _
  by_cases h2 : 1099511627776 < clock
  · go_enter Tryd.func52, Tryd.ntmps52
    go_wp2_with (go_at_call 74; refine (isNode_at hN _).mono ?_; rintro e w1 ⟨rfl, rfl⟩)
    refine bodyPost_ret (v := .tuple #[.agg #[.int .i64 0, .int .i64 0], .int .i64 30]) (by simp [results, Tryd.results52, go_sem]) rfl ⟨ret_nx (nx_bad (by omega)).symm, ?_⟩
    exact bnew w _
  by_cases h5 : clock = 1099511627776
  · subst h5
    go_enter Tryd.func52, Tryd.ntmps52
    go_wp2_with (go_at_call 74; refine (isNode_at hN _).mono ?_; rintro e w1 ⟨rfl, rfl⟩)
    refine bodyPost_ret (v := .tuple #[.agg #[.int .i64 0, .int .i64 0], .int .i64 33]) (by simp [results, Tryd.results52, go_sem]) rfl ⟨ret_nx (nx_worn (by omega) rfl).symm, ?_⟩
    exact bnew w _
  · have h6 : clock ≤ 1099511627776 := by omega
    have h7 : 0 ≤ clock := by omega
    go_enter Tryd.func52, Tryd.ntmps52
    go_wp2_with (go_at_call 74; refine (isNode_at hN _).mono ?_; rintro e w1 ⟨rfl, rfl⟩)
    refine bodyPost_ret (v := .tuple #[.agg #[.int .i64 (clock + 1), .int .i64 node], .int .i64 0]) (by simp [results, Tryd.results52, go_sem]) rfl ⟨ret_nx (nx_ok (by omega) h5).symm, ?_⟩
    exact bnew w _


/-- Next, by its three numbers. -/
theorem next_at {clock node c n e : Int} (h : Vs.nx clock node = (c, n, e)) (w : World) : Calls Tryd.prog 52 #[.int .i64 clock, .int .i64 node] w fun r w' => r = .returned (.tuple #[.agg #[.int .i64 c, .int .i64 n], .int .i64 e]) ∧ Below w.heap.size w w' := by
  have := next_any clock node w
  rw [h] at this
  exact this


/-- The ways of Next. -/
theorem nx_cases (clock node : Int) : Vs.nx clock node = (0, 0, 30) ∨ Vs.nx clock node = (0, 0, 33) ∨ (Vs.nx clock node = (clock + 1, node, 0) ∧ 0 ≤ clock ∧ clock < 1099511627776 ∧ 0 ≤ node ∧ node < 8) := by
  by_cases h : node < 0 ∨ 8 ≤ node ∨ clock < 0 ∨ 1099511627776 < clock
  · exact .inl (nx_bad h)
  · by_cases h2 : clock = 1099511627776
    · exact .inr (.inl (nx_worn h h2))
    · exact .inr (.inr ⟨nx_ok h h2, by omega, by omega, by omega, by omega⟩)

end Go.Proofs.YtlgcdcjhflihiaaDoor
