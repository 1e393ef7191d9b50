/-
  A text appended to the bytes of a writer: what is owned then, and where the new row lies; the same for one byte, in one form.
-/
import Derived.Test.YtnjbglnkhgholaaMem
import Derived.Lib.AppendStr
namespace Go.Proofs.Ytnjbglnkhgholaa
open Go.RowKit
set_option linter.unusedVariables false

theorem append_string_at (w : World) (ty : TypeId) (B : Nat) (v : Value) (n : Nat) (xs : List Value) (hown : w.ownsRow B 5 1 v n xs) (s : ByteArray) (hb : n + s.size ≤ 140737488355328) (hB : B ≤ w.heap.size) :
    ∃ v' w', (Builtin.append_ #[40, 9] ty #[v, .string s]).run Try.prog w = .ok v' w' ∧ w'.ownsRow B 5 1 v' (n + s.size) (xs ++ Lib.byteCells s.data.toList) ∧ w.grownBy w' v.ownBlock ∧ Fresh w v.ownBlock v'.ownBlock := by
  obtain ⟨i0, hi, hz0, hz1, hz2⟩ := info_parts info8
  obtain ⟨v', w', hr, h2, h3, h4⟩ := Lib.run_append_own_string (P := Try.prog) w B 40 9 ty 5 i0 Try.underlying40 Try.underlying9 hi hz0 hz1 hz2 v n xs hown s (by unfold maxLen; omega) hb hB
  refine ⟨v', w', hr, h2, h3, ?_⟩
  rcases hown.2 with ⟨rfl, rfl⟩ | ⟨g, cap, cur, rfl, hbg, hg, hnc, hcm, hcs, htake⟩
  · by_cases hs : s.size = 0
    · have := h4.2 ⟨rfl, hs⟩
      subst this
      exact .inl rfl
    · have e := run_append_nil_string (P := Try.prog) w 40 9 ty 5 i0 (.int .u8 0) Try.underlying40 Try.underlying9 hi hz0 s (by omega) (by omega) (by rw [hz2]; omega)
      rw [hr] at e
      injection e with e1 e2
      exact .inr ⟨w.heap.size, by rw [e1]; rfl, Nat.le_refl _⟩
  · by_cases hroom : n + s.size ≤ cap
    · have e := Lib.run_append_room_string (P := Try.prog) w 40 9 ty 5 i0 Try.underlying40 Try.underlying9 hi hz1 g n cap cur hg s hroom (by omega)
      rw [hr] at e
      injection e with e1 e2
      exact .inl (by rw [e1]; rfl)
    · have e := Lib.run_append_grow_string (P := Try.prog) w 40 9 ty 5 i0 (.int .u8 0) Try.underlying40 Try.underlying9 hi hz0 ⟨g, 0, none⟩ n cap xs (by rw [hz1]; exact hown.1) (hown.cells (g := g) rfl) s (by omega) (by omega) (by rw [hz2]; exact growslice_fits (by omega) (by omega))
      rw [hr] at e
      injection e with e1 e2
      exact .inr ⟨w.heap.size, by rw [e1]; rfl, Nat.le_refl _⟩

/-- At the operation, for the walk. -/
theorem wpList_append_string {w : World} {ops : Array Oper} {rest : List Oper} {o : Oper} {a : Act} {Q : Exit → Act → World → Prop} (hgd : o.guard = none) (sl x : Operand)
    (ho : o.op = .call { callee := .builtin .append, args := #[sl, x], argTypes := #[40, 9] })
    (B : Nat) (v : Value) (n : Nat) (xs : List Value) (hs : a.eval sl = v) (hown : w.ownsRow B 5 1 v n xs) (s : ByteArray) (hx : a.eval x = .string s)
    (hb : n + s.size ≤ 140737488355328) (hB : B ≤ w.heap.size)
    (h : ∀ v' w', w'.ownsRow B 5 1 v' (n + s.size) (xs ++ Lib.byteCells s.data.toList) → w.grownBy w' v.ownBlock → Fresh w v.ownBlock v'.ownBlock → wpList Try.prog ops Q rest (a.put o.dst v') w') : wpList Try.prog ops Q (o :: rest) a w := by
  refine wpList_plain hgd fun K hK => ?_
  obtain ⟨v', w', hr, h2, h3, h4⟩ := append_string_at w o.type B v n xs hown s hb hB
  unfold Oper.wp execOp
  simp only [ho, resolve, invoke, builtin, Sem.run_bind, Sem.run_pure, Result.andThen_ok, List.map_toArray, List.map_cons, List.map_nil, hs, hx, hr]
  exact hK _ _ (h v' w' h2 h3 h4)

/-- What is owned is a slice. -/
theorem own_form {w : World} {B : Nat} {e : TypeId} {v : Value} {n : Nat} {xs : List Value} (h : w.ownsRow B e 1 v n xs) : ∃ a m c, v = .slice a m c := by
  rcases h.2 with ⟨rfl, _⟩ | ⟨g, cap, cur, rfl, _⟩
  · exact ⟨_, _, _, rfl⟩
  · exact ⟨_, _, _, rfl⟩

theorem block_kept {wr w1 : World} {T b : Nat} {v : Value} (hh : wr.heap[b]? = some (.cells #[v] T (0, 0))) (hne : v.ownBlock ≠ some b) (hg : wr.grownBy w1 v.ownBlock) : w1.heap[b]? = some (.cells #[v] T (0, 0)) := by
  rw [hg.block b (Array.getElem?_eq_some_iff.1 hh).1 (Ne.symm hne)]
  exact hh

/-- A writer's slice, grown by some bytes and stored back. -/
theorem app_text {T B b : Nat} {wr w1 : World} {v v' : Value} {l news : List UInt8} {n : Nat} (hB : B ≤ b) (hh : wr.heap[b]? = some (.cells #[v] T (0, 0))) (hne : v.ownBlock ≠ some b) (hn : n = (l ++ news).length)
    (hg : wr.grownBy w1 v.ownBlock) (hown1 : w1.ownsRow B 5 1 v' n (Lib.byteCells l ++ Lib.byteCells news)) (fr : Fresh wr v.ownBlock v'.ownBlock) :
    IsW T B b v'.ownBlock (l ++ news) (w1.setCell ⟨b, 0, none⟩ v') ∧ Keeps (fun k => k = b ∨ v.ownBlock = some k) wr (w1.setCell ⟨b, 0, none⟩ v') := by
  have hlt := (Array.getElem?_eq_some_iff.1 hh).1
  have hb1 := block_kept hh hne hg
  have hvb : v'.ownBlock ≠ some b := by
    rcases fr with h | ⟨k, h, hk⟩
    · rw [h]; exact hne
    · rw [h]; intro e; cases e; omega
  refine ⟨⟨hB, hvb, v', ?_, rfl, ?_⟩, Keeps.setCell ((Keeps.refl _ wr).grown hg (fun k hk _ => .inr hk)) (fun _ => .inl rfl) _⟩
  · rw [heap_setCell_same w1 b 0 _ T _ hb1]; rfl
  · subst hn
    rw [Lib.byteCells_append]
    refine ⟨hown1.1, ?_⟩
    rcases hown1.2 with h | ⟨g, c, cur, rfl, hbase, hheap, r⟩
    · exact .inl h
    · refine .inr ⟨g, c, cur, rfl, hbase, ?_, r⟩
      rw [Below.heap_setCell _ _ _ _ (fun e => hvb (by have e' : g = b := e; subst e'; rfl))]
      exact hheap

end Go.Proofs.Ytnjbglnkhgholaa
