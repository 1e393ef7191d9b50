/-
  append to a bag's row: either the row stays the bag's, or it is left as it lay.
-/
import Derived.Test.YteaaamhojiognaaBgW
namespace Go.Proofs.Yteaaamhojiognaa
open Go.RowKit
set_option linter.unusedVariables false

set_option maxHeartbeats 1600000 in
/-- As op_append_pk; where the row is a new one, no old block has turned. -/
theorem op_append_pk_at {w : World} {o : Oper} {act : Act} {K : Act → World → Prop} {Q : Exit → Act → World → Prop} (s x : Operand)
    (ho : o.op = .call { callee := .builtin .append, args := #[s, x], argTypes := #[48, 48] })
    (B n m : Nat) (v : Value) (l r : List Pk) (hs : act.eval s = v) (hown : w.ownsRow B 39 4 v n (pkCells l)) (y : Addr) (c : Nat) (hx : act.eval x = .slice (some y) m c) (hm : r.length = m)
    (hc : ∀ (j : Nat) (u : Value), (pkCells r)[j]? = some u → w.cell? (y.add j) = some u) (hlen : (n + m) * 48 ≤ 140737488351232) (hB : B ≤ w.heap.size)
    (h : ∀ v' w', w'.ownsRow B 39 4 v' (n + m) (pkCells (l ++ r)) → w.grownBy w' v.ownBlock → (v'.ownBlock = v.ownBlock ∨ (v'.ownBlock = some w.heap.size ∧ w.grownBy w' none)) → K (act.put o.dst v') w') : o.wp Try.prog act w K Q := by
  obtain ⟨i0, hi, hz0, hz1, hz2⟩ := info_parts infoPk
  obtain ⟨v', w', hr, h2, h3, h4, h5⟩ := run_append_own_at (P := Try.prog) w B 48 o.type 39 i0 _ 4 48 Try.underlying48 hi hz0 hz1 hz2 rfl (by decide) v n (pkCells l) hown y m c (pkCells r) (by rw [pkCells_length, hm]) hc (pkCells_one _) (by unfold maxLen; omega) (by omega) hB
  have h6 : v'.ownBlock = v.ownBlock ∨ (v'.ownBlock = some w.heap.size ∧ w.grownBy w' none) := by
    rcases hown.2 with ⟨rfl, hx0⟩ | ⟨g, cap, cur, rfl, hbg, hg, hnc, hcm, hcs, htake⟩
    · exact h5.imp id (fun e => ⟨e, h3⟩)
    · by_cases hroom : n + m ≤ cap
      · have hr2 := run_append_room (P := Try.prog) w 48 o.type 39 i0 Try.underlying48 hi g n cap cur hg y m c (pkCells r) (by rw [pkCells_length, hm, hz1]) hc (pkCells_one _) hroom (by rw [pkCells_length, hcs, hm, hz1, ← Nat.add_mul]; exact Nat.mul_le_mul_right _ hroom)
        rw [hr] at hr2
        injection hr2 with e1 e2
        exact .inl (by rw [e1]; rfl)
      · obtain ⟨v2, w2, hr2, h7, h8⟩ := run_append_arg_grows (P := Try.prog) w 48 o.type 39 i0 _ 4 48 Try.underlying48 hi hz0 hz1 hz2 rfl (by decide) ⟨g, 0, none⟩ n cap (pkCells l) hown.1 (hown.cells (g := g) rfl) y m c (pkCells r) (by rw [pkCells_length, hm]) hc (by omega) (by unfold maxLen; omega) (by omega)
        rw [hr] at hr2
        injection hr2 with e1 e2
        subst e1 e2
        refine h5.imp id (fun e => ⟨e, h8⟩)
  unfold Oper.wp execOp
  simp only [ho, resolve, invoke, builtin, Sem.run_bind, Sem.run_pure, Result.andThen_ok, List.map_toArray, List.map_cons, List.map_nil, hs, hx, hr]
  rw [← pkCells_append] at h2
  exact h v' w' h2 h3 h6
end Go.Proofs.Yteaaamhojiognaa
