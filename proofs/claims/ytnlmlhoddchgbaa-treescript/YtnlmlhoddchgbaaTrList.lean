/-
  Plain mathematics: a tree's rows as a sorted list, and what Put, Get, Rank, At and Fold are of it.
-/
import Derived.Test.YtnlmlhoddchgbaaTrNth
import Derived.Test.YtnlmlhoddchgbaaTrBase
namespace Go.Proofs.Ytnlmlhoddchgbaa
open Go.RowKit
set_option linter.unusedVariables false
variable {β α : Type}

/-- Keys rise. -/
def Rises (l : List (Rw β α)) : Prop := l.Pairwise (fun a b => kLt a.k b.k = true)

/-- A row put into a sorted list. -/
def ins (k : ByteArray) (v : β) (s : α) : List (Rw β α) → List (Rw β α)
  | [] => [⟨k, v, s⟩]
  | y :: l => if kLt k y.k then ⟨k, v, s⟩ :: y :: l else if kLt y.k k then y :: ins k v s l else ⟨k, v, s⟩ :: l

theorem ins_left {k : ByteArray} {v : β} {s : α} {y : Rw β α} (B : List (Rw β α)) (h : kLt k y.k = true) : ∀ A : List (Rw β α), ins k v s (A ++ y :: B) = ins k v s A ++ y :: B
  | [] => by simp [ins, h]
  | a :: A => by
    simp only [List.cons_append, ins, ins_left B h A]
    split
    · rfl
    · split <;> rfl

theorem ins_right {k : ByteArray} {v : β} {s : α} : ∀ (A B : List (Rw β α)), (∀ a ∈ A, kLt a.k k = true) → ins k v s (A ++ B) = A ++ ins k v s B
  | [], B, _ => rfl
  | a :: A, B, h => by
    have h1 := h a List.mem_cons_self
    simp only [List.cons_append, ins, kLt_asymm h1, h1, if_true, if_false, Bool.false_eq_true, ins_right A B (fun x hx => h x (List.mem_cons_of_mem _ hx))]

theorem ins_same {k : ByteArray} {v : β} {s : α} {y : Rw β α} (A B : List (Rw β α)) (hA : ∀ a ∈ A, kLt a.k k = true) (h1 : kLt k y.k = false) (h2 : kLt y.k k = false) : ins k v s (A ++ y :: B) = A ++ ⟨k, v, s⟩ :: B := by
  rw [ins_right A _ hA]; simp [ins, h1, h2]

theorem rises_parts {A B : List (Rw β α)} {y : Rw β α} (h : Rises (A ++ y :: B)) : Rises A ∧ Rises B ∧ (∀ a ∈ A, kLt a.k y.k = true) ∧ (∀ b ∈ B, kLt y.k b.k = true) ∧ (∀ a ∈ A, ∀ b ∈ B, kLt a.k b.k = true) := by
  unfold Rises at *
  rw [List.pairwise_append, List.pairwise_cons] at h
  exact ⟨h.1, h.2.1.2, fun a ha => h.2.2 a ha y List.mem_cons_self, h.2.1.1, fun a ha b hb => h.2.2 a ha b (List.mem_cons_of_mem _ hb)⟩

theorem rows_put (k : ByteArray) (v : β) (s : α) : ∀ t : Tr β α, Rises t.rows → (Tr.put k v s t).rows = ins k v s t.rows
  | .nil, _ => rfl
  | .node l k' v' s' r, h => by
    obtain ⟨h1, h2, h3, h4, _⟩ := rises_parts h
    simp only [Tr.put, Tr.rows]
    cases q1 : kLt k k'
    · cases q2 : kLt k' k
      · simp only [Bool.false_eq_true, if_false, Tr.rows]
        rw [ins_same l.rows r.rows (fun a ha => kLt_trans_le (h3 a ha) q1) q1 q2]
      · simp only [Bool.false_eq_true, if_false, if_true]
        rw [Tr.rows_level, rows_put k v s r h2, ins_right l.rows _ (fun a ha => kLt_trans (h3 a ha) q2)]
        simp [ins, q1, q2]
    · simp only [if_true]
      rw [Tr.rows_level, rows_put k v s l h1, ins_left r.rows q1]

theorem ins_mem {k : ByteArray} {v : β} {s : α} : ∀ (l : List (Rw β α)) (x : Rw β α), x ∈ ins k v s l → x = ⟨k, v, s⟩ ∨ x ∈ l
  | [], x, h => by simp [ins] at h; exact .inl h
  | y :: l, x, h => by
    simp only [ins] at h
    split at h
    · rcases List.mem_cons.1 h with h | h
      · exact .inl h
      · exact .inr h
    · split at h
      · rcases List.mem_cons.1 h with h | h
        · exact .inr (h ▸ List.mem_cons_self)
        · rcases ins_mem l x h with h | h
          · exact .inl h
          · exact .inr (List.mem_cons_of_mem _ h)
      · rcases List.mem_cons.1 h with h | h
        · exact .inl h
        · exact .inr (List.mem_cons_of_mem _ h)

theorem rises_ins {k : ByteArray} {v : β} {s : α} : ∀ l : List (Rw β α), Rises l → Rises (ins k v s l)
  | [], _ => by simp [ins, Rises]
  | y :: l, h => by
    have h' := h
    unfold Rises at h'
    rw [List.pairwise_cons] at h'
    obtain ⟨h1, h2⟩ := h'
    simp only [ins]
    split
    · rename_i q
      unfold Rises
      rw [List.pairwise_cons]
      refine ⟨fun b hb => ?_, h⟩
      rcases List.mem_cons.1 hb with rfl | hb
      · exact q
      · exact kLt_trans q (h1 b hb)
    · rename_i q
      split
      · rename_i q2
        unfold Rises
        rw [List.pairwise_cons]
        refine ⟨fun b hb => ?_, rises_ins l h2⟩
        rcases ins_mem l b hb with rfl | hb
        · exact q2
        · exact h1 b hb
      · rename_i q2
        unfold Rises
        rw [List.pairwise_cons]
        refine ⟨fun b hb => ?_, h2⟩
        have e : k = y.k := kLt_total (by simpa using q) (by simpa using q2)
        show kLt k b.k = true
        rw [e]; exact h1 b hb

theorem ins_length {k : ByteArray} {v : β} {s : α} : ∀ l : List (Rw β α), (ins k v s l).length ≤ l.length + 1
  | [] => by simp [ins]
  | y :: l => by
    have := ins_length (k := k) (v := v) (s := s) l
    simp only [ins]
    split
    · simp
    · split
      · simp only [List.length_cons]; omega
      · simp

/-- The row of a key. -/
def look (k : ByteArray) (l : List (Rw β α)) : Option (Rw β α) := l.find? (fun y => !kLt k y.k && !kLt y.k k)

/-- How many rows have a lower key. -/
def rankL (k : ByteArray) (l : List (Rw β α)) : Nat := (l.filter (fun y => kLt y.k k)).length

theorem look_none {k : ByteArray} {l : List (Rw β α)} (h : ∀ y ∈ l, kLt k y.k = true ∨ kLt y.k k = true) : look k l = none := by
  unfold look
  rw [List.find?_eq_none]
  intro y hy
  rcases h y hy with h | h <;> simp [h]

theorem look_found (k : ByteArray) : ∀ t : Tr β α, Rises t.rows → look k t.rows = match Tr.found k t with | .nil => none | .node _ k' v s _ => some ⟨k', v, s⟩
  | .nil, _ => rfl
  | .node l k' v' s' r, h => by
    obtain ⟨h1, h2, h3, h4, _⟩ := rises_parts h
    have il := look_found k l h1
    have ir := look_found k r h2
    simp only [Tr.found, Tr.rows]
    unfold look at il ir ⊢
    rw [List.find?_append]
    cases q1 : kLt k k'
    · cases q2 : kLt k' k
      · have e : k = k' := kLt_total q1 q2
        have : l.rows.find? (fun y => !kLt k y.k && !kLt y.k k) = none := look_none (fun y hy => .inr (by rw [e]; exact h3 y hy))
        rw [this]
        simp [q1, q2]
      · have : l.rows.find? (fun y => !kLt k y.k && !kLt y.k k) = none := look_none (fun y hy => .inr (kLt_trans (h3 y hy) q2))
        rw [this]
        simp only [Option.none_or, List.find?_cons, q1, q2, Bool.not_true, Bool.not_false, Bool.and_false, Bool.false_eq_true, if_false, if_true]
        exact ir
    · have : r.rows.find? (fun y => !kLt k y.k && !kLt y.k k) = none := look_none (fun y hy => .inl (kLt_trans q1 (h4 y hy)))
      simp only [List.find?_cons, q1, Bool.not_true, Bool.false_and, this, if_true, Option.or_none]
      exact il

theorem rank_all {k : ByteArray} : ∀ {l : List (Rw β α)}, (∀ y ∈ l, kLt y.k k = true) → rankL k l = l.length
  | [], _ => rfl
  | y :: l, h => by
    have := rank_all (l := l) (fun x hx => h x (List.mem_cons_of_mem _ hx))
    unfold rankL at *
    rw [List.filter_cons_of_pos (by simpa using h y List.mem_cons_self)]
    simp [this]
theorem rank_none {k : ByteArray} {l : List (Rw β α)} (h : ∀ y ∈ l, kLt y.k k = false) : rankL k l = 0 := by
  unfold rankL
  rw [List.filter_eq_nil_iff.2 (fun y hy => by simp [h y hy])]
  rfl
theorem rank_append (k : ByteArray) (A B : List (Rw β α)) : rankL k (A ++ B) = rankL k A + rankL k B := by
  unfold rankL; rw [List.filter_append, List.length_append]
theorem rank_cons (k : ByteArray) (y : Rw β α) (B : List (Rw β α)) : rankL k (y :: B) = (if kLt y.k k then 1 else 0) + rankL k B := by
  unfold rankL; rw [List.filter_cons]; split <;> simp <;> omega

theorem lower_rank (k : ByteArray) : ∀ t : Tr β α, Rises t.rows → Tr.lower k t = rankL k t.rows
  | .nil, _ => rfl
  | .node l k' v' s' r, h => by
    obtain ⟨h1, h2, h3, h4, _⟩ := rises_parts h
    have il := lower_rank k l h1
    have ir := lower_rank k r h2
    simp only [Tr.lower, Tr.rows]
    rw [rank_append, rank_cons]
    cases q1 : kLt k k'
    · cases q2 : kLt k' k
      · have e : k = k' := kLt_total q1 q2
        rw [rank_all (fun y hy => by rw [e]; exact h3 y hy), rank_none (fun y hy => by rw [e]; exact kLt_asymm (h4 y hy)), Tr.rows_length]
        simp
      · rw [rank_all (fun y hy => kLt_trans (h3 y hy) q2), Tr.rows_length, ir]
        simp
        omega
    · rw [rank_none (l := r.rows) (fun y hy => kLt_asymm (kLt_trans q1 (h4 y hy))), kLt_asymm q1, il]
      simp

theorem nth_rows : ∀ (t : Tr β α) (i : Nat), (match Tr.nth t (i : Int) with | .nil => none | .node _ k v s _ => some (⟨k, v, s⟩ : Rw β α)) = t.rows[i]?
  | .nil, i => rfl
  | .node l k v s r, i => by
    have il := nth_rows l i
    have ir := nth_rows r (i - l.cnt - 1)
    have hl := Tr.rows_length l
    simp only [Tr.nth, Tr.rows]
    by_cases q1 : (i : Int) < (l.cnt : Int)
    · rw [if_pos q1, List.getElem?_append_left (by omega)]
      exact il
    · rw [if_neg q1, List.getElem?_append_right (by omega)]
      by_cases q2 : (l.cnt : Int) < (i : Int)
      · rw [if_pos q2, show (i : Int) - ((l.cnt : Int) + 1) = ((i - l.cnt - 1 : Nat) : Int) from by omega, ir, hl, show i - l.cnt = (i - l.cnt - 1) + 1 from by omega]
        simp
      · rw [if_neg q2, hl, show i - l.cnt = 0 from by omega]
        rfl

theorem nth_neg : ∀ (t : Tr β α) (i : Int), i < 0 → Tr.nth t i = .nil
  | .nil, _, _ => rfl
  | .node l k v s r, i, h => by
    simp only [Tr.nth]
    rw [if_pos (by omega)]
    exact nth_neg l i h

theorem nth_over : ∀ (t : Tr β α) (i : Int), (t.cnt : Int) ≤ i → Tr.nth t i = .nil
  | .nil, _, _ => rfl
  | .node l k v s r, i, h => by
    simp only [Tr.cnt] at h
    simp only [Tr.nth]
    rw [if_neg (by omega), if_pos (by omega)]
    exact nth_over r _ (by omega)

/-- What a join must be. -/
structure Mon (J : α → α → α) (e : α) : Prop where
  assoc : ∀ a b c, J (J a b) c = J a (J b c)
  left : ∀ a, J e a = a
  right : ∀ a, J a e = a

/-- Summaries joined in their order. -/
def foldL (J : α → α → α) (e : α) (l : List (Rw β α)) : α := l.foldl (fun a y => J a y.s) e

theorem foldL_from {J : α → α → α} {e : α} (m : Mon J e) : ∀ (l : List (Rw β α)) (a : α), l.foldl (fun a y => J a y.s) a = J a (foldL J e l)
  | [], a => by simp [foldL, m.right]
  | y :: l, a => by
    have h1 := foldL_from m l (J a y.s)
    have h2 := foldL_from m l (J e y.s)
    unfold foldL at *
    rw [List.foldl_cons, List.foldl_cons, h1, h2, m.left, m.assoc]

theorem foldL_append {J : α → α → α} {e : α} (m : Mon J e) (A B : List (Rw β α)) : foldL J e (A ++ B) = J (foldL J e A) (foldL J e B) := by
  rw [← foldL_from m B (foldL J e A)]
  unfold foldL
  rw [List.foldl_append]

theorem foldL_cons {J : α → α → α} {e : α} (m : Mon J e) (y : Rw β α) (B : List (Rw β α)) : foldL J e (y :: B) = J y.s (foldL J e B) := by
  rw [← foldL_from m B y.s]
  unfold foldL
  rw [List.foldl_cons, m.left]

theorem foldL_nil {J : α → α → α} {e : α} : foldL J e ([] : List (Rw β α)) = e := rfl

theorem isNil_rows {t : Tr β α} (h : t.isNil = true) : t = .nil := by cases t; rfl; cases h

theorem sum_rows {J : α → α → α} {e : α} (m : Mon J e) : ∀ t : Tr β α, t.sum J e = foldL J e t.rows
  | .nil => rfl
  | .node l k v s r => by
    have hl := sum_rows m l
    have hr := sum_rows m r
    simp only [Tr.sum, Tr.rows]
    rw [foldL_append m, foldL_cons m, ← hl, ← hr]
    cases q1 : l.isNil <;> cases q2 : r.isNil
    · simp [m.assoc]
    · rw [isNil_rows q2]; simp [Tr.sum, m.right]
    · rw [isNil_rows q1]; simp [Tr.sum, m.left]
    · rw [isNil_rows q1, isNil_rows q2]; simp [Tr.sum, m.left, m.right]

/-- The rows from i on below j. -/
def seg (l : List (Rw β α)) (i j : Nat) : List (Rw β α) := (l.take j).drop i

theorem seg_full (l : List (Rw β α)) : seg l 0 l.length = l := by simp [seg]

theorem fld_rows {J : α → α → α} {e : α} (m : Mon J e) : ∀ (t : Tr β α) (i j : Nat), i < j → j ≤ t.cnt → Tr.fld J e t i j = foldL J e (seg t.rows i j)
  | .nil, i, j, h1, h2 => by simp [Tr.cnt] at h2; omega
  | .node l k v s r, i, j, h1, h2 => by
    have il := fld_rows m l
    have ir := fld_rows m r
    have hl := Tr.rows_length l
    have hr := Tr.rows_length r
    simp only [Tr.cnt] at h2
    simp only [Tr.fld]
    split
    · rename_i g
      rw [g.1, g.2, sum_rows m, ← Tr.rows_length, seg_full]
    · simp only [Tr.rows, seg]
      split
      · rename_i g
        rw [il i j h1 g, List.take_append_of_le_length (by omega)]
        rfl
      · rename_i g
        rw [List.take_append, List.take_of_length_le (show l.rows.length ≤ j from by omega), show j - l.rows.length = (j - l.cnt - 1) + 1 from by omega, List.take_succ_cons]
        split
        · rename_i g2
          rw [ir _ _ (by omega) (by omega), List.drop_append, List.drop_of_length_le (show l.rows.length ≤ i from by omega), show i - l.rows.length = (i - l.cnt - 1) + 1 from by omega]
          simp [seg]
        · rename_i g2
          rw [List.drop_append, show i - l.rows.length = 0 from by omega, List.drop_zero, foldL_append m, foldL_cons m]
          have a1 : (if i < l.cnt then J (Tr.fld J e l i l.cnt) s else s) = J (foldL J e (l.rows.drop i)) s := by
            split
            · rename_i g3
              rw [il i l.cnt g3 (Nat.le_refl _)]
              simp only [seg]
              rw [List.take_of_length_le (by omega)]
            · rename_i g3
              rw [List.drop_of_length_le (by omega), foldL_nil, m.left]
          rw [a1]
          split
          · rename_i g4
            rw [ir 0 _ (by omega) (by omega)]
            simp only [seg, List.drop_zero]
            exact m.assoc _ _ _
          · rename_i g4
            rw [show j - l.cnt - 1 = 0 from by omega, List.take_zero, foldL_nil, m.right]

theorem fol_rows {J : α → α → α} {e : α} (m : Mon J e) (t : Tr β α) (i j : Int) : Tr.fol J e t i j = foldL J e (seg t.rows (max i 0).toNat (min j (t.cnt : Int)).toNat) := by
  unfold Tr.fol
  split
  · exact fld_rows m t _ _ (by omega) (by omega)
  · rename_i h
    rw [show seg t.rows (max i 0).toNat (min j (t.cnt : Int)).toNat = [] from by
      unfold seg
      apply List.drop_of_length_le
      rw [List.length_take]
      omega]
    rfl

theorem fol_nat {J : α → α → α} {e : α} (m : Mon J e) (t : Tr β α) (i j : Nat) (hj : j ≤ t.cnt) : Tr.fol J e t (i : Int) (j : Int) = foldL J e (seg t.rows i j) := by
  rw [fol_rows m, show (max (i : Int) 0).toNat = i from by omega, show (min (j : Int) (t.cnt : Int)).toNat = j from by omega]

theorem mon_map : Mon mJoin mZero := by
  constructor
  · intro a b c; simp only [mJoin]; congr 1 <;> grind
  · intro a; cases a; simp [mJoin, mZero]
  · intro a; cases a; simp [mJoin, mZero]

end Go.Proofs.Ytnlmlhoddchgbaa
