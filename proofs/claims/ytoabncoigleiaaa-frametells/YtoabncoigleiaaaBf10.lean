/-
  Two entries appended to an owned row: in its room, or in a new block.
-/
import Derived.Test.YtoabncoigleiaaaBf8
import Derived.ArgAppend
namespace Go.Proofs.Ytoabncoigleiaaa
open Go.RowKit
set_option linter.unusedVariables false
theorem op_append_two {w : World} {o : Oper} {act : Act} {K : Act → World → Prop} {Q : Exit → Act → World → Prop} (s x : Operand)
    (ho : o.op = .call { callee := .builtin .append, args := #[s, x], argTypes := #[49, 49] })
    (B n g0 c0 : Nat) (A : List En) (hs : act.eval s = .slice (some ⟨g0, 0, none⟩) n c0) (hA : w.ownsRow B 55 5 (.slice (some ⟨g0, 0, none⟩) n c0) n (entCells A)) (b c : Nat) (e f : En) (hx : act.eval x = .slice (some ⟨b, 0, none⟩) 2 c)
    (hb : w.heap[b]? = some (.cells #[.string e.k, .int .i64 e.c, .int .i64 e.n, .string e.v, .bool e.d, .string f.k, .int .i64 f.c, .int .i64 f.n, .string f.v, .bool f.d] 55 (0, 0))) (hlen : (n + 2) * 56 ≤ 140737488351232) (hB : B ≤ w.heap.size)
    (h : ∀ g cap w', w'.ownsRow B 55 5 (.slice (some ⟨g, 0, none⟩) (n + 2) cap) (n + 2) (entCells (A ++ [e, f])) → w.grownBy w' (some g0) → (g = g0 ∨ w.heap.size ≤ g) → K (act.put o.dst (.slice (some ⟨g, 0, none⟩) (n + 2) cap)) w') : o.wp Try.prog act w K Q := by
  obtain ⟨i0, hi, hz0, hz1, hz2⟩ := info_parts infoEnt
  have hc : ∀ j u, (entVals e ++ entVals f)[j]? = some u → w.cell? ((⟨b, 0, none⟩ : Addr).add j) = some u := World.news_of_block (cs := #[.string e.k, .int .i64 e.c, .int .i64 e.n, .string e.v, .bool e.d, .string f.k, .int .i64 f.c, .int .i64 f.n, .string f.v, .bool f.d]) (t := 55) (fr := (0, 0)) hb
  have h1c : ∀ u ∈ entVals e ++ entVals f, u.oneCell' = true := fun u hu => entCells_one [e, f] u (by simpa [entCells] using hu)
  have e1 : entCells A ++ (entVals e ++ entVals f) = entCells (A ++ [e, f]) := by rw [entCells_append]; simp [entCells]
  by_cases hroom : n + 2 ≤ c0
  · obtain ⟨w', hrun, r1, r2⟩ := run_append_fits (P := Try.prog) w B 49 o.type 55 i0 5 Try.underlying49 hi hz1 g0 n c0 (entCells A) hA ⟨b, 0, none⟩ 2 c (entVals e ++ entVals f) rfl hc h1c hroom
    unfold Oper.wp
    simp [execOp, ho, resolve, invoke, builtin, hs, hx, hrun, Result.andThen]
    rw [e1] at r1
    exact h g0 c0 w' r1 r2 (.inl rfl)
  · have hl : (entCells A).length = n * 5 := hA.1
    obtain ⟨v', w', hrun, r1, r2⟩ := run_append_arg_grows (P := Try.prog) w 49 o.type 55 i0 _ 5 56 Try.underlying49 hi hz0 hz1 hz2 rfl (by decide) ⟨g0, 0, none⟩ n c0 (entCells A) hl (fun j u hj => by
      have hjl : j < n * 5 := by rw [← hl]; exact (List.getElem?_eq_some_iff.1 hj).1
      rw [Addr.add_lit, Nat.zero_add, hA.cellAt j (by omega)]
      exact hj) ⟨b, 0, none⟩ 2 c (entVals e ++ entVals f) rfl hc (by omega) (by unfold maxLen; omega) (by omega)
    unfold Oper.wp
    simp [execOp, ho, resolve, invoke, builtin, hs, hx, hrun, Result.andThen]
    rw [e1] at r1
    rcases r1.2 with ⟨h1, h2⟩ | ⟨g, cap', cur, rfl, hge, _⟩
    · omega
    · obtain ⟨k1, k2, k3, k4, k5⟩ := r2
      exact h g cap' w' (own_low r1 hB) ⟨k1, k2, k3, k4, fun k hk _ => k5 k hk (by simp)⟩ (.inr hge)
end Go.Proofs.Ytoabncoigleiaaa
