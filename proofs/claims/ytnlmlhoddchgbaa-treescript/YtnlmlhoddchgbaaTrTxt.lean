/-
  Plain mathematics: rows whose values are their summaries, texts of rows written one behind the other.
-/
import Derived.Test.YtnlmlhoddchgbaaTrGood
import Derived.Test.YtnlmlhoddchgbaaTrBase
namespace Go.Proofs.Ytnlmlhoddchgbaa
open Go.RowKit
set_option linter.unusedVariables false
variable {β α : Type}

theorem look_self {l : List (Rw β α)} (h : Rises l) {q : Nat} {y : Rw β α} (hy : l[q]? = some y) : look y.k l = some y := by
  induction l generalizing q with
  | nil => simp at hy
  | cons a l ih =>
    unfold Rises at h
    rw [List.pairwise_cons] at h
    unfold look
    rw [List.find?_cons]
    cases q with
    | zero =>
      simp at hy
      subst hy
      simp [kLt_irrefl]
    | succ q =>
      simp at hy
      have hm := List.mem_of_getElem? hy
      have := h.1 y hm
      rw [this]
      simp only [Bool.not_true, Bool.and_false]
      exact ih h.2 hy

theorem found_nth {t : Tr β α} (h : Rises t.rows) {q : Nat} {z : β} {k : ByteArray} {v : β} {s : α} {l r : Tr β α} (hn : Tr.nth t (q : Int) = .node l k v s r) : ∃ l' r', Tr.found k t = .node l' k v s r' := by
  have h1 := nth_rows t q
  rw [hn] at h1
  have h2 := look_self h h1.symm
  rw [look_found k t h] at h2
  cases hF : Tr.found k t with
  | nil => rw [hF] at h2; cases h2
  | node l' k' v' s' r' =>
    rw [hF] at h2
    simp only [Option.some.injEq, Rw.mk.injEq] at h2
    obtain ⟨rfl, rfl, rfl⟩ := h2
    exact ⟨l', r', rfl⟩

theorem nth_node {t : Tr β α} {q : Nat} (h : q < t.cnt) : ∃ l k v s r, Tr.nth t (q : Int) = .node l k v s r ∧ t.rows[q]? = some ⟨k, v, s⟩ := by
  have h1 := nth_rows t q
  have h2 : q < t.rows.length := by rw [Tr.rows_length]; exact h
  cases hn : Tr.nth t (q : Int) with
  | nil => rw [hn, List.getElem?_eq_getElem h2] at h1; cases h1
  | node l k v s r => rw [hn] at h1; exact ⟨l, k, v, s, r, rfl, h1.symm⟩

/-- Each row's value is its summary. -/
def Same (l : List (Rw ByteArray ByteArray)) : Prop := ∀ y ∈ l, y.v = y.s

theorem same_put {t : Tr ByteArray ByteArray} (h : Rises t.rows) (hs : Same t.rows) (k v : ByteArray) : Same (Tr.put k v v t).rows := by
  rw [rows_put k v v t h]
  intro y hy
  rcases ins_mem _ _ hy with rfl | hy
  · rfl
  · exact hs y hy

theorem mon_str : Mon sJoin sZero := by
  constructor
  · intro a b c; exact ByteArray.append_assoc
  · intro a; exact ByteArray.empty_append
  · intro a; exact ByteArray.append_empty

theorem take_snocR (l : List (Rw β α)) {q : Nat} {y : Rw β α} (h : l[q]? = some y) : l.take (q + 1) = l.take q ++ [y] := by
  obtain ⟨hlt, e⟩ := List.getElem?_eq_some_iff.1 h
  rw [List.take_succ_eq_append_getElem hlt, e]

theorem fold_take {J : α → α → α} {e : α} (m : Mon J e) (l : List (Rw β α)) {q : Nat} {y : Rw β α} (h : l[q]? = some y) : foldL J e (l.take (q + 1)) = J (foldL J e (l.take q)) y.s := by
  rw [take_snocR l h, foldL_append m, foldL_cons m, foldL_nil, m.right]

/-- The rows from i on below j, of the first q. -/
def pickL {β α : Type} (l : List (Rw β α)) (i j : Int) (q : Nat) : List (Rw β α) := seg l (max i 0).toNat (min j (q : Int)).toNat

theorem pick_in {l : List (Rw β α)} {i j : Int} {q : Nat} {y : Rw β α} (h : l[q]? = some y) (h1 : i ≤ (q : Int)) (h2 : (q : Int) < j) : pickL l i j (q + 1) = pickL l i j q ++ [y] := by
  unfold pickL seg
  have hlt := (List.getElem?_eq_some_iff.1 h).1
  rw [show (min j ((q + 1 : Nat) : Int)).toNat = q + 1 from by omega, show (min j (q : Int)).toNat = q from by omega, take_snocR l h, List.drop_append_of_le_length (by rw [List.length_take]; omega)]

theorem pick_out {l : List (Rw β α)} {i j : Int} {q : Nat} (h : ¬ (i ≤ (q : Int) ∧ (q : Int) < j)) : pickL l i j (q + 1) = pickL l i j q := by
  unfold pickL seg
  by_cases h1 : i ≤ (q : Int)
  · rw [show (min j ((q + 1 : Nat) : Int)).toNat = (min j (q : Int)).toNat from by omega]
  · rw [List.drop_of_length_le (by rw [List.length_take]; omega), List.drop_of_length_le (by rw [List.length_take]; omega)]

theorem fold_pick {J : α → α → α} {e : α} (m : Mon J e) {l : List (Rw β α)} {i j : Int} {q : Nat} {y : Rw β α} (h : l[q]? = some y) (h1 : i ≤ (q : Int)) (h2 : (q : Int) < j) : foldL J e (pickL l i j (q + 1)) = J (foldL J e (pickL l i j q)) y.s := by
  rw [pick_in h h1 h2, foldL_append m, foldL_cons m, foldL_nil, m.right]

theorem pick_zero (l : List (Rw β α)) (i j : Int) : pickL l i j 0 = [] := by
  unfold pickL seg
  rw [show (min j ((0 : Nat) : Int)).toNat = 0 from by omega]
  simp

/-- How long texts are. -/
def lenL (l : List (Rw ByteArray ByteArray)) : Nat := (l.map (fun y => y.s.size)).sum

theorem lenL_append (A B : List (Rw ByteArray ByteArray)) : lenL (A ++ B) = lenL A + lenL B := by simp [lenL]

theorem size_fold : ∀ l : List (Rw ByteArray ByteArray), (foldL sJoin sZero l).size = lenL l
  | [] => rfl
  | y :: l => by
    rw [foldL_cons mon_str, show lenL (y :: l) = y.s.size + lenL l from by simp [lenL]]
    show (y.s ++ foldL sJoin sZero l).size = _
    rw [ByteArray.size_append, size_fold l]

theorem lenL_wt : ∀ t : Tr ByteArray ByteArray, lenL t.rows + t.cnt = t.wt sSz
  | .nil => rfl
  | .node l k v s r => by
    have h1 := lenL_wt l
    have h2 := lenL_wt r
    have e : lenL ((⟨k, v, s⟩ : Rw ByteArray ByteArray) :: r.rows) = s.size + lenL r.rows := by simp [lenL]
    simp only [Tr.rows, lenL_append, Tr.cnt, Tr.wt, e, sSz]
    omega

theorem lenL_take (l : List (Rw ByteArray ByteArray)) (q : Nat) : lenL (l.take q) ≤ lenL l := by
  have := lenL_append (l.take q) (l.drop q)
  rw [List.take_append_drop] at this
  omega
theorem lenL_drop (l : List (Rw ByteArray ByteArray)) (q : Nat) : lenL (l.drop q) ≤ lenL l := by
  have := lenL_append (l.take q) (l.drop q)
  rw [List.take_append_drop] at this
  omega
theorem lenL_pick (l : List (Rw ByteArray ByteArray)) (i j : Int) (q : Nat) : lenL (pickL l i j q) ≤ lenL l := Nat.le_trans (lenL_drop _ _) (lenL_take _ _)
theorem lenL_mem {l : List (Rw ByteArray ByteArray)} {q : Nat} {y : Rw ByteArray ByteArray} (h : l[q]? = some y) : y.s.size ≤ lenL l := by
  have h1 := lenL_take l (q + 1)
  rw [take_snocR l h, lenL_append] at h1
  have : lenL [y] = y.s.size := by simp [lenL]
  omega

end Go.Proofs.Ytnlmlhoddchgbaa
