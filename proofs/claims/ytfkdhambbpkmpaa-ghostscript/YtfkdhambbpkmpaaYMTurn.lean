/-
  What MixTurned needs: a place among n; rows of entries that grow and shrink side by side; sums of lists.
-/
import Derived.Test.YtfkdhambbpkmpaaYMRows
import Derived.Maps.AppendAt
namespace Go.Proofs.Ytfkdhambbpkmpaa
open Go.RowKit
set_option linter.unusedVariables false

/-- One entry appended to an owned row, as one operation: and where the new row lies. -/
theorem op_append_ent_at {w : World} {o : Oper} {act : Act} {K : Act → World → Prop} {Q : Exit → Act → World → Prop} (s x : Operand)
    (ho : o.op = .call { callee := .builtin .append, args := #[s, x], argTypes := #[32, 32] })
    (B n : Nat) (v : Value) (l : List En) (hs : act.eval s = v) (hown : w.ownsRow B 31 5 v n (entCells l)) (b c : Nat) (e : En) (hx : act.eval x = .slice (some ⟨b, 0, none⟩) 1 c)
    (hb : w.heap[b]? = some (.cells #[.string e.k, .int .i64 e.c, .int .i64 e.n, .string e.v, .bool e.d] 31 (0, 0))) (hlen : n * 56 ≤ 140737488351232) (hB : B ≤ w.heap.size)
    (h : ∀ g cap w', w'.ownsRow B 31 5 (.slice (some ⟨g, 0, none⟩) (n + 1) cap) (n + 1) (entCells (l ++ [e])) → w.grownBy w' v.ownBlock → (v.ownBlock = some g ∨ g = w.heap.size) → K (act.put o.dst (.slice (some ⟨g, 0, none⟩) (n + 1) cap)) w') : o.wp Try.prog act w K Q := by
  obtain ⟨i0, hi, hz0, hz1, hz2⟩ := info_parts infoEnt
  obtain ⟨v', w', hr, h2, h3, h4, h5⟩ := run_append_own_at (P := Try.prog) w B 32 o.type 31 i0 _ 5 56 Try.underlying32 hi hz0 hz1 hz2 rfl (by decide) v n (entCells l) hown ⟨b, 0, none⟩ 1 c (entVals e) rfl
    (World.news_of_block (cs := #[.string e.k, .int .i64 e.c, .int .i64 e.n, .string e.v, .bool e.d]) (t := 31) (fr := (0, 0)) hb) (fun u hu => entCells_one [e] u (by simpa [entCells] using hu)) (by unfold maxLen; omega) (by omega) hB
  have e1 : entCells l ++ entVals e = entCells (l ++ [e]) := by rw [entCells_append]; simp [entCells]
  rw [e1] at h2
  unfold Oper.wp execOp
  simp only [ho, resolve, invoke, builtin, Sem.run_bind, Sem.run_pure, Result.andThen_ok, List.map_toArray, List.map_cons, List.map_nil, hs, hx, hr]
  rcases h2.2 with ⟨g1, g2⟩ | ⟨g, cap', cur, rfl, _⟩
  · omega
  · refine h g cap' w' h2 h3 ?_
    rcases h5 with h5 | h5
    · exact .inl h5.symm
    · simp [Value.ownBlock] at h5; exact .inr h5

/-- An owned row's slice, in letters. -/
theorem own_slice {w : World} {B : Nat} {e : TypeId} {s : Nat} {v : Value} {n : Nat} {xs : List Value} (h : w.ownsRow B e s v n xs) : ∃ a c, v = .slice a n c ∧ n ≤ c ∧ c ≤ maxLen ∧ ((a = none ∧ n = 0 ∧ c = 0) ∨ ∃ g, a = some ⟨g, 0, none⟩ ∧ B ≤ g) := by
  rcases h.2 with ⟨rfl, rfl⟩ | ⟨g, cap, cur, rfl, hb, _, hn, hm, _⟩
  · exact ⟨none, 0, rfl, Nat.le_refl _, Nat.zero_le _, .inl ⟨rfl, rfl, rfl⟩⟩
  · exact ⟨_, cap, rfl, hn, hm, .inr ⟨g, rfl, hb⟩⟩

/-- One row appended to another, as one operation. -/
theorem op_append_rows {V w : World} {o : Oper} {act : Act} {K : Act → World → Prop} {Q : Exit → Act → World → Prop} (s x : Operand)
    (ho : o.op = .call { callee := .builtin .append, args := #[s, x], argTypes := #[32, 32] })
    (n m : Nat) (v u : Value) (A R : List En) (hs : act.eval s = v) (hx : act.eval x = u) (hA : w.ownsRow V.heap.size 31 5 v n (entCells A)) (hR : w.ownsRow V.heap.size 31 5 u m (entCells R))
    (hlen : (n + m) * 56 ≤ 140737488351232) (hB : Below V.heap.size V w)
    (h : ∀ v' w', w'.ownsRow V.heap.size 31 5 v' (n + m) (entCells (A ++ R)) → Below V.heap.size V w' → K (act.put o.dst v') w') : o.wp Try.prog act w K Q := by
  obtain ⟨i0, hi, hz0, hz1, hz2⟩ := info_parts infoEnt
  rcases hR.2 with ⟨rfl, rfl⟩ | ⟨g, cap, cur, rfl, hb, hg, hn, hm, hc1, hc2⟩
  · have hrun := run_append_owned_none (P := Try.prog) (w := w) V.heap.size 32 o.type 31 i0 5 Try.underlying32 hi _ _ _ hA
    have hR0 : R = [] := by have := hR.1; rw [entCells_length] at this; exact List.length_eq_zero_iff.1 (by omega)
    subst hR0
    unfold Oper.wp
    simp [execOp, ho, resolve, invoke, builtin, hs, hx, hrun, Result.andThen]
    have hA' : w.ownsRow V.heap.size 31 5 v (n + 0) (entCells (A ++ [])) := by rw [List.append_nil]; exact hA
    exact h v w hA' hB
  · refine wp_append_own w s x _ ho V.heap.size 31 i0 _ 5 56 Try.underlying32 hi hz0 hz1 hz2 rfl (by decide) _ _ _ hs hA ⟨g, 0, none⟩ m cap (entCells R) hx (by have := hR.1; exact this) (fun j y hj => hR.cells (g := g) rfl j y hj) (entCells_one _) (by unfold maxLen; omega) (by omega) hB.size ?_
    intro v' w' ho' hg' _
    rw [← entCells_append] at ho'
    exact h v' w' ho' (hB.grown hg' hB.size (fun k hk => (hA.lt k hk).1))

/-- An owned row, one shorter. -/
theorem own_shrink {w : World} {B g m cap : Nat} {l : List En} (h : w.ownsRow B 31 5 (.slice (some ⟨g, 0, none⟩) (m + 1) cap) (m + 1) (entCells l)) : w.ownsRow B 31 5 (.slice (some ⟨g, 0, none⟩) m cap) m (entCells (l.take m)) := by
  have hl : l.length = m + 1 := by have := h.1; rw [entCells_length] at this; omega
  have ht : entCells (l.take m) = (entCells l).take (m * 5) := by
    have hs : entCells l = entCells (l.take m) ++ entCells (l.drop m) := by rw [← entCells_append, List.take_append_drop]
    rw [hs]
    exact (List.take_left' (by rw [entCells_length, List.length_take]; omega)).symm
  refine ⟨by rw [entCells_length, List.length_take]; omega, ?_⟩
  rcases h.2 with ⟨h1, _⟩ | ⟨g', cap', cur, h1, h2, h3, h4, h5, h6, h7⟩
  · cases h1
  · injection h1 with e1 e2 e3
    injection e1 with e1
    injection e1 with e1
    subst e1 e3
    refine .inr ⟨g, cap, cur, rfl, h2, h3, by omega, h5, h6, ?_⟩
    rw [ht, ← h7, List.take_take, Nat.min_eq_left (by omega)]

theorem entCells_put : ∀ (l : List En) (j : Nat) (e : En), j < l.length → (((((entCells l).set (j * 5) (.string e.k)).set (j * 5 + 1) (.int .i64 e.c)).set (j * 5 + 2) (.int .i64 e.n)).set (j * 5 + 3) (.string e.v)).set (j * 5 + 4) (.bool e.d) = entCells (l.set j e)
  | [], j, e, h => by simp at h
  | x :: t, 0, e, h => by simp [entCells, entVals]
  | x :: t, j + 1, e, h => by
    have ih := entCells_put t j e (by simpa using h)
    simp only [entCells, List.set_cons_succ]
    rw [List.set_append_right _ _ (by simp [entVals]; omega), List.set_append_right _ _ (by simp [entVals]; omega), List.set_append_right _ _ (by simp [entVals]; omega), List.set_append_right _ _ (by simp [entVals]; omega), List.set_append_right _ _ (by simp [entVals]; omega)]
    simp only [show (entVals x).length = 5 from rfl]
    rw [show (j + 1) * 5 - 5 = j * 5 from by omega, show (j + 1) * 5 + 1 - 5 = j * 5 + 1 from by omega, show (j + 1) * 5 + 2 - 5 = j * 5 + 2 from by omega, show (j + 1) * 5 + 3 - 5 = j * 5 + 3 from by omega, show (j + 1) * 5 + 4 - 5 = j * 5 + 4 from by omega, ih]

/-- An entry stored into an owned row. -/
theorem own_put {w : World} {B g n cap j : Nat} {l : List En} (h : w.ownsRow B 31 5 (.slice (some ⟨g, 0, none⟩) n cap) n (entCells l)) (e : En) (hj : j < l.length) :
    (((((w.setCell ⟨g, j * 5, none⟩ (.string e.k)).setCell ⟨g, j * 5 + 1, none⟩ (.int .i64 e.c)).setCell ⟨g, j * 5 + 2, none⟩ (.int .i64 e.n)).setCell ⟨g, j * 5 + 3, none⟩ (.string e.v)).setCell ⟨g, j * 5 + 4, none⟩ (.bool e.d)).ownsRow B 31 5 (.slice (some ⟨g, 0, none⟩) n cap) n (entCells (l.set j e)) := by
  rw [← entCells_put l j e hj]
  exact (((((h.stored (j * 5) _).1.stored (j * 5 + 1) _).1.stored (j * 5 + 2) _).1.stored (j * 5 + 3) _).1.stored (j * 5 + 4) _).1

/-- The last entry laid in the place of another, and the list one shorter: what was there but the other. -/
def pulled (R : List En) (m k : Nat) : List En := (R.set k (nthE R m)).take m

theorem pulled_sum (f : En → Int) (R : List En) (m k : Nat) (hl : R.length = m + 1) (hk : k < m + 1) : ((pulled R m k).map f).sum + f (nthE R k) = (R.map f).sum := by
  have hz : R = R.take m ++ [nthE R m] := by
    have h1 := List.take_append_drop m R
    have h2 : R.drop m = [nthE R m] := by
      rw [List.drop_eq_getElem_cons (by omega), List.drop_of_length_le (by omega)]
      have := nthE_get (l := R) (i := m) (by omega)
      rw [List.getElem?_eq_getElem (by omega)] at this
      simpa using this
    rw [h2] at h1
    exact h1.symm
  have hP : (R.take m).length = m := by rw [List.length_take]; omega
  generalize hp : R.take m = P at *
  generalize hq : nthE R m = z at *
  unfold pulled
  rw [hq]
  by_cases hkm : k = m
  · subst hkm
    rw [hq, hz, List.set_append_right _ _ (by omega), List.take_append_of_le_length (by omega), List.take_of_length_le (by omega)]
    simp
  · have hkP : k < P.length := by omega
    have hn : nthE R k = P[k] := by
      have := nthE_get (l := R) (i := k) (by omega)
      rw [hz, List.getElem?_append_left hkP, List.getElem?_eq_getElem hkP, ← hz] at this
      simpa using this.symm
    rw [hn, hz, List.set_append_left _ _ hkP, List.take_append_of_le_length (by simp; omega), List.take_of_length_le (by simp; omega)]
    have key : ∀ (P : List En) (k : Nat) (h : k < P.length), ((P.set k z).map f).sum + f P[k] = (P.map f).sum + f z := by
      intro P
      induction P with
      | nil => intro k h; simp at h
      | cons x t ih =>
        intro k h
        cases k with
        | zero => simp; omega
        | succ k =>
          have := ih k (by simpa using h)
          simp only [List.set_cons_succ, List.map_cons, List.sum_cons, List.getElem_cons_succ]
          omega
    have := key P k hkP
    rw [List.map_append, List.sum_append]
    simp only [List.map_cons, List.map_nil, List.sum_cons, List.sum_nil]
    omega

theorem pulled_length (R : List En) (m k : Nat) (hl : R.length = m + 1) : (pulled R m k).length = m := by
  unfold pulled; rw [List.length_take, List.length_set]; omega

theorem pulled_keys {R : List En} {m k : Nat} (hl : R.length = m + 1) (h : KeysOk R) : KeysOk (pulled R m k) := by
  intro e he
  unfold pulled at he
  have he2 := List.mem_of_mem_take he
  rcases List.mem_or_eq_of_mem_set he2 with h1 | h1
  · exact h e h1
  · subst h1
    exact h _ (List.mem_of_getElem? (nthE_get (l := R) (i := m) (by omega)))

end Go.Proofs.Ytfkdhambbpkmpaa
