/-
  A list copied into room of its own, with two spare entries behind it; whether it is as it was.
-/
import Derived.Test.YtgailbfoicoaiaaMgCalls
import Derived.Deep.DeepAppendRoom
namespace Go.Proofs.Ytgailbfoicoaiaa
open Go.RowKit
set_option linter.unusedVariables false

/-- The spare entry. -/
def eSp : En := ⟨⟨#[115, 112, 97, 114, 101]⟩, 7, 0, ⟨#[]⟩, false⟩

/-- A copy: its row, with the two spare entries. -/
def Cpy (w : World) (B g n : Nat) (l : List En) : Prop := w.ownsRow B 29 5 (.slice (some ⟨g, 0, none⟩) (n + 2) (n + 2)) (n + 2) (entCells (l ++ [eSp, eSp])) ∧ l.length = n
theorem Cpy.keep {w w' : World} {B g n : Nat} {l : List En} (h : Cpy w B g n l) (b : Below w.heap.size w w') : Cpy w' B g n l := ⟨own_on h.1 b, h.2⟩
theorem Cpy.lst {w : World} {B g n : Nat} {l : List En} (h : Cpy w B g n l) (hk : KeysOk l) : Lst w (some ⟨g, 0, none⟩) n (n + 2) l := by
  have hm := row_max h.1
  have hk2 : KeysOk (l ++ [eSp, eSp]) := by
    intro e he
    rcases List.mem_append.1 he with he | he
    · exact hk e he
    · simp at he; subst he; decide
  have := ents_of_row h.1 hk2 (o := 0) (m := n) (c := n + 2) (by omega) (by omega) (by omega) (a := some ⟨g, 0, none⟩) (.inr (by simp))
  refine ⟨_, this, ?_⟩
  apply List.ext_getElem?
  intro i
  by_cases hi : i < n
  · rw [firstE_get _ hi, show 0 + i = i from by omega, ← nthE_get (by rw [List.length_append, h.2]; omega), List.getElem?_append_left (by rw [h.2]; omega)]
  · rw [List.getElem?_eq_none (by rw [firstE_len]; omega), List.getElem?_eq_none (by rw [h.2]; omega)]
/-- The cells of the spare entries. -/
theorem Cpy.spare {w : World} {B g n : Nat} {l : List En} (h : Cpy w B g n l) : (w.cell? ⟨g, n * 5, none⟩ = some (.string ⟨#[115, 112, 97, 114, 101]⟩) ∧ w.cell? ⟨g, n * 5 + 1, none⟩ = some (.int .i64 7) ∧ w.cell? ⟨g, n * 5 + 2, none⟩ = some (.int .i64 0) ∧ w.cell? ⟨g, n * 5 + 3, none⟩ = some (.string ⟨#[]⟩) ∧ w.cell? ⟨g, n * 5 + 4, none⟩ = some (.bool false)) ∧ w.cell? ⟨g, (n + 1) * 5, none⟩ = some (.string ⟨#[115, 112, 97, 114, 101]⟩) ∧ w.cell? ⟨g, (n + 1) * 5 + 1, none⟩ = some (.int .i64 7) ∧ w.cell? ⟨g, (n + 1) * 5 + 2, none⟩ = some (.int .i64 0) ∧ w.cell? ⟨g, (n + 1) * 5 + 3, none⟩ = some (.string ⟨#[]⟩) ∧ w.cell? ⟨g, (n + 1) * 5 + 4, none⟩ = some (.bool false) := by
  have hl := h.2
  have a0 := row_cells h.1 (i := n) (by rw [List.length_append, hl]; simp)
  have a1 := row_cells h.1 (i := n + 1) (by rw [List.length_append, hl]; simp)
  have e0 : nthE (l ++ [eSp, eSp]) n = eSp := by
    have := nthE_get (l := l ++ [eSp, eSp]) (i := n) (by rw [List.length_append, hl]; simp)
    rw [List.getElem?_append_right (by omega), show n - l.length = 0 from by omega] at this
    simpa using this.symm
  have e1 : nthE (l ++ [eSp, eSp]) (n + 1) = eSp := by
    have := nthE_get (l := l ++ [eSp, eSp]) (i := n + 1) (by rw [List.length_append, hl]; simp)
    rw [List.getElem?_append_right (by omega), show n + 1 - l.length = 1 from by omega] at this
    simpa using this.symm
  rw [e0] at a0
  rw [e1] at a1
  exact ⟨a0, a1⟩

/-- Ten values. -/
theorem list10 {α : Type} {l : List α} (h : l.length = 10) : ∃ a b c d e f g i j k, l = [a, b, c, d, e, f, g, i, j, k] := by
  match l, h with
  | [a, b, c, d, e, f, g, i, j, k], _ => exact ⟨a, b, c, d, e, f, g, i, j, k, rfl⟩

/-- An owned row, seen with all its room. -/
theorem own_full {w : World} {B g n : Nat} {l : List En} (h : w.ownsRow B 29 5 (.slice (some ⟨g, 0, none⟩) n (n + 2)) n (entCells l)) : l.length = n ∧ ∃ a b c d e f g' i j k, w.ownsRow B 29 5 (.slice (some ⟨g, 0, none⟩) (n + 2) (n + 2)) (n + 2) (entCells l ++ [a, b, c, d, e, f, g', i, j, k]) := by
  have hl : l.length = n := by have := h.1; rw [entCells_length] at this; omega
  refine ⟨hl, ?_⟩
  rcases h.2 with ⟨h1, _⟩ | ⟨g', cap', cur, h1, h2, h3, h4, h5, h6, h7⟩
  · cases h1
  · injection h1 with e1 e2 e3
    injection e1 with e1
    injection e1 with e1
    subst e1 e3
    have hd : (cur.toList.drop (n * 5)).length = 10 := by rw [List.length_drop, Array.length_toList, h6]; omega
    obtain ⟨a, b, c, d, e, f, x, i, j, k, hh⟩ := list10 hd
    have hcur : cur.toList = entCells l ++ [a, b, c, d, e, f, x, i, j, k] := by rw [← hh, ← h7, List.take_append_drop]
    refine ⟨a, b, c, d, e, f, x, i, j, k, ?_, .inr ⟨g, n + 2, cur, rfl, h2, h3, Nat.le_refl _, h5, h6, ?_⟩⟩
    · rw [List.length_append, entCells_length, hl]; simp; omega
    · rw [← hcur, List.take_of_length_le (by rw [Array.length_toList, h6]; exact Nat.le_refl _)]

/-- The cells of the room behind. -/
theorem full_cells {w : World} {B g n : Nat} {l : List En} {a b c d e f x i j k : Value} (h : w.ownsRow B 29 5 (.slice (some ⟨g, 0, none⟩) (n + 2) (n + 2)) (n + 2) (entCells l ++ [a, b, c, d, e, f, x, i, j, k])) (hl : l.length = n) :
    (w.cell? ⟨g, n * 5, none⟩ = some a ∧ w.cell? ⟨g, n * 5 + 1, none⟩ = some b ∧ w.cell? ⟨g, n * 5 + 2, none⟩ = some c ∧ w.cell? ⟨g, n * 5 + 3, none⟩ = some d ∧ w.cell? ⟨g, n * 5 + 4, none⟩ = some e) ∧ w.cell? ⟨g, (n + 1) * 5, none⟩ = some f ∧ w.cell? ⟨g, (n + 1) * 5 + 1, none⟩ = some x ∧ w.cell? ⟨g, (n + 1) * 5 + 2, none⟩ = some i ∧ w.cell? ⟨g, (n + 1) * 5 + 3, none⟩ = some j ∧ w.cell? ⟨g, (n + 1) * 5 + 4, none⟩ = some k := by
  have c : ∀ r, r < 10 → w.cell? ⟨g, n * 5 + r, none⟩ = [a, b, c, d, e, f, x, i, j, k][r]? := fun r hr => by
    rw [h.cellAt (n * 5 + r) (by omega), List.getElem?_append_right (by rw [entCells_length, hl]; omega)]
    congr 1
    rw [entCells_length, hl]; omega
  have q : ∀ r, (n + 1) * 5 + r = n * 5 + (5 + r) := fun r => by omega
  refine ⟨⟨by simpa using c 0 (by omega), by simpa using c 1 (by omega), by simpa using c 2 (by omega), by simpa using c 3 (by omega), by simpa using c 4 (by omega)⟩, ?_, ?_, ?_, ?_, ?_⟩
  · rw [show (n + 1) * 5 = n * 5 + 5 from by omega]; simpa using c 5 (by omega)
  · rw [q]; simpa using c 6 (by omega)
  · rw [q]; simpa using c 7 (by omega)
  · rw [q]; simpa using c 8 (by omega)
  · rw [q]; simpa using c 9 (by omega)
theorem row_frozen {w : World} {B g n cap : Nat} {xs : List Value} (h : w.ownsRow B 29 5 (.slice (some ⟨g, 0, none⟩) n cap) n xs) (j : Nat) : w.frozen? ⟨g, j, none⟩ = false := by
  rcases h.2 with ⟨h1, _⟩ | ⟨g', cap', cur, h1, h2, h3, h4⟩
  · cases h1
  · injection h1 with e1 e2 e3
    injection e1 with e1
    injection e1 with e1
    subst e1
    exact frozen_of_row _ _ j _ _ h3

/-- What the two stores leave. -/
theorem cpy_done {w : World} {B g n : Nat} {l : List En} {a b c d e f x i j k : Value} (h : w.ownsRow B 29 5 (.slice (some ⟨g, 0, none⟩) (n + 2) (n + 2)) (n + 2) (entCells l ++ [a, b, c, d, e, f, x, i, j, k])) (hl : l.length = n) :
    Cpy ((((((((((w.setCell ⟨g, n * 5, none⟩ (.string ⟨#[115, 112, 97, 114, 101]⟩)).setCell ⟨g, n * 5 + 1, none⟩ (.int .i64 7)).setCell ⟨g, n * 5 + 2, none⟩ (.int .i64 0)).setCell ⟨g, n * 5 + 3, none⟩ (.string ⟨#[]⟩)).setCell ⟨g, n * 5 + 4, none⟩ (.bool false)).setCell ⟨g, (n + 1) * 5, none⟩ (.string ⟨#[115, 112, 97, 114, 101]⟩)).setCell ⟨g, (n + 1) * 5 + 1, none⟩ (.int .i64 7)).setCell ⟨g, (n + 1) * 5 + 2, none⟩ (.int .i64 0)).setCell ⟨g, (n + 1) * 5 + 3, none⟩ (.string ⟨#[]⟩)).setCell ⟨g, (n + 1) * 5 + 4, none⟩ (.bool false)) B g n l := by
  have h1 := ((((((((((h.stored (n * 5) (.string ⟨#[115, 112, 97, 114, 101]⟩)).1.stored (n * 5 + 1) (.int .i64 7)).1.stored (n * 5 + 2) (.int .i64 0)).1.stored (n * 5 + 3) (.string ⟨#[]⟩)).1.stored (n * 5 + 4) (.bool false)).1.stored ((n + 1) * 5) (.string ⟨#[115, 112, 97, 114, 101]⟩)).1.stored ((n + 1) * 5 + 1) (.int .i64 7)).1.stored ((n + 1) * 5 + 2) (.int .i64 0)).1.stored ((n + 1) * 5 + 3) (.string ⟨#[]⟩)).1.stored ((n + 1) * 5 + 4) (.bool false)).1
  refine ⟨?_, hl⟩
  have e : entCells (l ++ [eSp, eSp]) = entCells l ++ [(.string ⟨#[115, 112, 97, 114, 101]⟩), (.int .i64 7), (.int .i64 0), (.string ⟨#[]⟩), (.bool false), (.string ⟨#[115, 112, 97, 114, 101]⟩), (.int .i64 7), (.int .i64 0), (.string ⟨#[]⟩), (.bool false)] := by rw [entCells_append]; rfl
  rw [e]
  have hlen : (entCells l).length = n * 5 := by rw [entCells_length, hl]
  generalize entCells l = L at *
  have st : ∀ (r : Nat) (t : List Value) (u : Value), (L ++ t).set (n * 5 + r) u = L ++ t.set r u := fun r t u => by rw [List.set_append_right _ _ (by omega)]; congr 2; omega
  have q0 : n * 5 = n * 5 + 0 := rfl
  rw [show (n + 1) * 5 = n * 5 + 5 from by omega] at h1
  simp only [Nat.add_assoc, Nat.reduceAdd] at h1
  have s0 : ∀ (t : List Value) (u : Value), (L ++ t).set (n * 5) u = L ++ t.set 0 u := fun t u => st 0 t u
  simp only [st, s0, List.set_cons_zero, List.set_cons_succ] at h1
  rw [show (n + 1) * 5 = n * 5 + 5 from by omega]
  simp only [Nat.add_assoc, Nat.reduceAdd]
  exact h1
theorem cpy_below {v w : World} {g : Nat} (b : Below v.heap.size v w) (hg : v.heap.size ≤ g) (n : Nat) : Below v.heap.size v ((((((((((w.setCell ⟨g, n * 5, none⟩ (.string ⟨#[115, 112, 97, 114, 101]⟩)).setCell ⟨g, n * 5 + 1, none⟩ (.int .i64 7)).setCell ⟨g, n * 5 + 2, none⟩ (.int .i64 0)).setCell ⟨g, n * 5 + 3, none⟩ (.string ⟨#[]⟩)).setCell ⟨g, n * 5 + 4, none⟩ (.bool false)).setCell ⟨g, (n + 1) * 5, none⟩ (.string ⟨#[115, 112, 97, 114, 101]⟩)).setCell ⟨g, (n + 1) * 5 + 1, none⟩ (.int .i64 7)).setCell ⟨g, (n + 1) * 5 + 2, none⟩ (.int .i64 0)).setCell ⟨g, (n + 1) * 5 + 3, none⟩ (.string ⟨#[]⟩)).setCell ⟨g, (n + 1) * 5 + 4, none⟩ (.bool false)) := ((((((((((b.setCell (p := ⟨g, n * 5, none⟩) hg (.string ⟨#[115, 112, 97, 114, 101]⟩)).setCell (p := ⟨g, n * 5 + 1, none⟩) hg (.int .i64 7)).setCell (p := ⟨g, n * 5 + 2, none⟩) hg (.int .i64 0)).setCell (p := ⟨g, n * 5 + 3, none⟩) hg (.string ⟨#[]⟩)).setCell (p := ⟨g, n * 5 + 4, none⟩) hg (.bool false)).setCell (p := ⟨g, (n + 1) * 5, none⟩) hg (.string ⟨#[115, 112, 97, 114, 101]⟩)).setCell (p := ⟨g, (n + 1) * 5 + 1, none⟩) hg (.int .i64 7)).setCell (p := ⟨g, (n + 1) * 5 + 2, none⟩) hg (.int .i64 0)).setCell (p := ⟨g, (n + 1) * 5 + 3, none⟩) hg (.string ⟨#[]⟩)).setCell (p := ⟨g, (n + 1) * 5 + 4, none⟩) hg (.bool false))

/-- A list appended into room that is there, as one operation. -/
theorem op_append_into {w : World} {o : Oper} {act : Act} {K : Act → World → Prop} {Q : Exit → Act → World → Prop} (s x : Operand)
    (ho : o.op = .call { callee := .builtin .append, args := #[s, x], argTypes := #[22, 22] })
    (B g cap : Nat) (own : w.ownsRow B 29 5 (.slice (some ⟨g, 0, none⟩) 0 cap) 0 []) (hs : act.eval s = .slice (some ⟨g, 0, none⟩) 0 cap) (a : Option Addr) (n ca : Nat) (l : List En) (hx : act.eval x = .slice a n ca) (hL : Lst w a n ca l)
    (hform : (a = none ∧ n = 0 ∧ ca = 0) ∨ ∃ y, a = some y) (hroom : n ≤ cap)
    (h : ∀ w', w'.ownsRow B 29 5 (.slice (some ⟨g, 0, none⟩) n cap) n (entCells l) → w.grownBy w' (some g) → K (act.put o.dst (.slice (some ⟨g, 0, none⟩) n cap)) w') : o.wp Try.prog act w K Q := by
  obtain ⟨i0, hi, hz0, hz1, hz2⟩ := info_parts infoEnt
  obtain ⟨T, hE, rfl⟩ := hL
  rcases hform with ⟨rfl, rfl, rfl⟩ | ⟨y, rfl⟩
  · have hrun := run_append_owned_none (P := Try.prog) (w := w) B 22 o.type 29 i0 5 Try.underlying22 hi _ _ _ own
    unfold Oper.wp
    simp [execOp, ho, resolve, invoke, builtin, hs, hx, hrun, Result.andThen]
    exact h w own ⟨rfl, rfl, rfl, Nat.le_refl _, fun _ _ _ => rfl⟩
  · refine wp_append_own_spare w s x _ ho B 29 i0 5 Try.underlying22 hi hz1 g 0 cap [] hs own y n ca (entCells (firstE T n)) hx (by rw [entCells_length, firstE_len]) (ents_cells hE) (entCells_one _) (by omega) ?_
    intro w' h2 h3
    simp only [Nat.zero_add, List.nil_append] at h2 ⊢
    exact h w' h2 h3

set_option maxHeartbeats 6400000 in
set_option maxRecDepth 100000 in
theorem copied_any (a : Option Addr) (n ca : Nat) (l : List En) (w : World) (h : Lst w a n ca l) (hform : (a = none ∧ n = 0 ∧ ca = 0) ∨ ∃ y, a = some y) (hl : n ≤ 1073741824) :
    Calls Try.prog 15 #[.slice a n ca] w fun e w' => ∃ g, e = .returned (.slice (some ⟨g, 0, none⟩) n (n + 2)) ∧ Cpy w' w.heap.size g n l ∧ Below w.heap.size w w' := by
  obtain ⟨i0, hi0, hz0, hz1, hz2⟩ := info_parts infoEnt
  have HL := aside h
  have HI := aside hi0
  have hn0 : (0 : Int) ≤ (n : Int) := by omega
  have hn1 : IntKind.i64.wrap ((n : Int) + 2) = ((n + 2 : Nat) : Int) := by simp only [IntKind.wrap_i64]; omega
  clear h hi0
  go_enter Try.func15, Try.ntmps15
  go_wp2_with (at_make; go_loud (refine wpList_make_own _ rfl _ _ 22 rfl w.heap.size 29 i0 (.agg #[.string ⟨#[]⟩, .int .i64 0, .int .i64 0, .string ⟨#[]⟩, .bool false]) 5 Try.underlying22 HI.out hz0 hz1 _ _ _ (n + 2) rfl rfl (by first | omega | exact hn1) (by rw [hz2]; omega) (by unfold maxLen; omega) (Nat.le_refl _) ?_); intro w1 own1 gr1; refine Hid.out ?_)
  refine aside ?_
  have B1 := aside ((Below.refl w.heap.size w).grown gr1 (Nat.le_refl _) (fun k e => by cases e))
  have O1 := aside own1
  obtain ⟨g, hg⟩ : ∃ g, w.heap.size = g := ⟨_, rfl⟩
  have HG := aside hg
  have O1' := O1.out
  rw [hg] at O1'
  replace O1 := aside O1'
  rw [hg]
  have HLL := aside HL.out.len
  clear own1 gr1 hg O1'
  go_wp2_with (at_builtin; go_loud (refine wpList_plain rfl fun K hK => op_append_into _ _ rfl g g (n + 2) O1.out (by rfl) a n ca l (by rfl) (HL.out.keep B1.out) hform (by omega) ?_); intro w2 own2 gr2; refine hK _ _ ?_; refine Hid.out ?_)
  refine aside ?_
  have B2 := aside (B1.out.grown gr2 B1.out.size (fun k e => by cases e; rw [HG.out]; exact Nat.le_refl _))
  obtain ⟨-, z0, z1, z2, z3, z4, z5, z6, z7, z8, z9, full⟩ := own_full own2
  obtain ⟨⟨a0, a1, a2, a3, a4⟩, a5, a6, a7, a8, a9⟩ := full_cells full HLL.out
  have f0 := row_frozen full (n * 5)
  have f1 := row_frozen full (n * 5 + 1)
  have f2 := row_frozen full (n * 5 + 2)
  have f3 := row_frozen full (n * 5 + 3)
  have f4 := row_frozen full (n * 5 + 4)
  have f5 := row_frozen full ((n + 1) * 5)
  have f6 := row_frozen full ((n + 1) * 5 + 1)
  have f7 := row_frozen full ((n + 1) * 5 + 2)
  have f8 := row_frozen full ((n + 1) * 5 + 3)
  have f9 := row_frozen full ((n + 1) * 5 + 4)
  have FU := aside full
  have hnn : (n : Int) < (n : Int) + 2 := by omega
  have hnm : (n : Int) + 1 < (n : Int) + 2 := by omega
  have hn2 : (0 : Int) ≤ (n : Int) + 1 := by omega
  have hn3 : (0 : Int) ≤ (n : Int) + 2 := by omega
  clear own2 gr2 full O1 B1
  have FIN := aside (cpy_done FU.out HLL.out)
  have FBL := aside (cpy_below B2.out (show w.heap.size ≤ g from Nat.le_of_eq HG.out) n)
  go_wp2
  go_ret
  refine ⟨g, rfl, ?_, FBL.out⟩
  rw [HG.out]
  exact FIN.out

end Go.Proofs.Ytgailbfoicoaiaa
