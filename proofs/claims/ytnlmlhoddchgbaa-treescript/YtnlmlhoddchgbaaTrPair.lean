/-
  A tree and the document's tree beside it: what they answer is the same.
-/
import Derived.Test.YtnlmlhoddchgbaaTrRefE
import Derived.Test.YtnlmlhoddchgbaaTrGrown
namespace Go.Proofs.Ytnlmlhoddchgbaa
open Go.RowKit
set_option linter.unusedVariables false

theorem look_above {k : ByteArray} {y : Rw Int Mp} {l : List (Rw Int Mp)} (h : Rises (y :: l)) (q : kLt k y.k = true) : (∀ x ∈ y :: l, kLt k x.k = true) := by
  unfold Rises at h
  rw [List.pairwise_cons] at h
  intro x hx
  rcases List.mem_cons.1 hx with rfl | hx
  · exact q
  · exact kLt_trans q (h.1 x hx)

/-- The document's Put is the row put into a sorted list. -/
theorem put_ins (k : ByteArray) (v : Int) (s : Mp) : ∀ L : List (Rw Int Mp), Rises L → L.take (rankL k L) ++ [⟨k, v, s⟩] ++ L.drop (putK k L) = ins k v s L
  | [], _ => rfl
  | y :: l, h => by
    have h' := h
    unfold Rises at h'
    rw [List.pairwise_cons] at h'
    obtain ⟨h1, h2⟩ := h'
    have ih := put_ins k v s l h2
    cases q1 : kLt k y.k
    · cases q2 : kLt y.k k
      · have e : k = y.k := kLt_total q1 q2
        have r0 : rankL k (y :: l) = 0 := rank_none (fun x hx => by
          rcases List.mem_cons.1 hx with rfl | hx
          · exact q2
          · rw [e]; exact kLt_asymm (h1 x hx))
        have l0 : (look k (y :: l)).isSome = true := by unfold look; rw [List.find?_cons_of_pos (by simp [q1, q2])]; rfl
        unfold putK
        rw [r0, l0]
        simp [ins, q1, q2]
      · have r0 : rankL k (y :: l) = rankL k l + 1 := by rw [rank_cons, q2]; simp; omega
        have l0 : look k (y :: l) = look k l := by unfold look; rw [List.find?_cons_of_neg (by simp [q2])]
        have p0 : putK k (y :: l) = putK k l + 1 := by unfold putK; rw [l0, r0]; split <;> rfl
        rw [p0, r0]
        simp only [ins, q1, q2, List.take_succ_cons, List.drop_succ_cons, List.cons_append, Bool.false_eq_true, if_false, if_true]
        rw [ih]
    · have ha := look_above h q1
      have r0 : rankL k (y :: l) = 0 := rank_none (fun x hx => kLt_asymm (ha x hx))
      have l0 : look k (y :: l) = none := look_none (fun x hx => .inl (ha x hx))
      unfold putK
      rw [r0, l0]
      simp [ins, q1]

theorem put_rows {A : Tr Int Mp} {l : List RowR} (k : ByteArray) (v : Int) (s : Mp) (h : A.rows = l.map rowOf) (hr : Rises A.rows) :
    (Tr.put k v s A).rows = (l.take (rankL k (l.map rowOf)) ++ [(⟨k, v, s⟩ : RowR)] ++ l.drop (putK k (l.map rowOf))).map rowOf := by
  rw [rows_put k v s A hr]
  rw [h] at hr ⊢
  rw [← put_ins k v s _ hr, List.map_append, List.map_append, List.map_take, List.map_drop]
  rfl

theorem get_rows {A : Tr Int Mp} (k : ByteArray) (hr : Rises A.rows) : (Tr.found k A).val 0 = getV (look k A.rows) ∧ (!(Tr.found k A).isNil) = (look k A.rows).isSome := by
  rw [look_found k A hr]
  cases Tr.found k A <;> exact ⟨rfl, rfl⟩

theorem at_rows {A : Tr Int Mp} {l : List RowR} (h : A.rows = l.map rowOf) {q : Nat} (hq : q < l.length) : (Tr.nth A (q : Int)).key = (nthR l q).key ∧ (Tr.nth A (q : Int)).val 0 = (nthR l q).v ∧ (Tr.nth A (q : Int)).isNil = false := by
  have h1 := nth_rows A q
  rw [h, List.getElem?_map, nthR_get hq] at h1
  cases e : Tr.nth A (q : Int) with
  | nil => rw [e] at h1; cases h1
  | node a b c d f =>
    rw [e] at h1
    injection h1 with h1
    injection h1 with h1 h2 h3
    exact ⟨h1, h2, rfl⟩

theorem at_none {A : Tr Int Mp} {i : Int} (h : i < 0 ∨ (A.cnt : Int) ≤ i) : Tr.nth A i = .nil := by
  rcases h with h | h
  · exact nth_neg A i h
  · exact nth_over A i h

theorem RT.keep {S : Nat → Prop} {W W' : World} {rb : Nat} {l : List RowR} (h : RT W rb l) (k : Keeps S W W') (h1 : ¬ S rb) (hS : ∀ i cs, W.heap[i]? = some (.cells cs 64 (0, 0)) → ¬ S i) : RT W' rb l := by
  obtain ⟨v, e1, e2, e3, e4⟩ := h
  refine ⟨v, blk_keep e1 k h1, ownsRow_keep e2 k ?_, e3, e4⟩
  intro j hj
  rcases e2.2 with ⟨rfl, -⟩ | ⟨g, cap, cur, rfl, -, hg, -⟩
  · cases hj
  · injection hj with hj
    subst hj
    exact hS _ cur hg

theorem RT.lt {W : World} {rb : Nat} {l : List RowR} (h : RT W rb l) : rb < W.heap.size := by
  obtain ⟨v, e1, -⟩ := h
  exact lt_of_blk e1

/-- A tree, and the document's beside it. -/
structure Pr (W : World) (tb : Nat) (A : Tr Int Mp) (rb : Nat) (l : List RowR) (m : Nat) : Prop where
  tree : TreeM W tb (.func (.func 15) #[] #[]) A
  gd : Gd mSz A m
  ref : RT W rb l
  rows : A.rows = l.map rowOf

theorem Pr.on {W W' : World} {tb rb m : Nat} {A : Tr Int Mp} {l : List RowR} (h : Pr W tb A rb l m) (b : Below W.heap.size W W') : Pr W' tb A rb l m := ⟨h.tree.below b, h.gd, h.ref.on b, h.rows⟩
theorem Pr.mono {W : World} {tb rb m m' : Nat} {A : Tr Int Mp} {l : List RowR} (h : Pr W tb A rb l m) (hm : m ≤ m') : Pr W tb A rb l m' := ⟨h.tree, h.gd.mono hm, h.ref, h.rows⟩
theorem Pr.cnt {W : World} {tb rb m : Nat} {A : Tr Int Mp} {l : List RowR} (h : Pr W tb A rb l m) : A.cnt = l.length := by
  rw [← Tr.rows_length, h.rows, List.length_map]
theorem Pr.len {W : World} {tb rb m : Nat} {A : Tr Int Mp} {l : List RowR} (h : Pr W tb A rb l m) : l.length ≤ m := by
  rw [← h.cnt]; exact h.gd.cnt

/-- Other blocks were written: the pair stays. -/
theorem Pr.keep {S : Nat → Prop} {W W' : World} {tb rb m : Nat} {A : Tr Int Mp} {l : List RowR} (h : Pr W tb A rb l m) (k : Keeps S W W') (h1 : ¬ S tb) (h2 : ¬ S rb)
    (hS : ∀ i cs t, W.heap[i]? = some (.cells cs t (0, 0)) → t = 94 ∨ t = 64 → ¬ S i) : Pr W' tb A rb l m :=
  ⟨h.tree.keep k h1 (fun i cs e => hS i cs _ e (.inl rfl)), h.gd, h.ref.keep k h2 (fun i cs e => hS i cs _ e (.inr rfl)), h.rows⟩

end Go.Proofs.Ytnlmlhoddchgbaa
