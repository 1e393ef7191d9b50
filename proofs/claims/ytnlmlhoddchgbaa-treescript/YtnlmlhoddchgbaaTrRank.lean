/-
  Plain mathematics: ranks and places of a sorted list, folds of its parts.
-/
import Derived.Test.YtnlmlhoddchgbaaTrTxt
namespace Go.Proofs.Ytnlmlhoddchgbaa
open Go.RowKit
set_option linter.unusedVariables false
variable {β α : Type}

theorem rises_cons {a : Rw β α} {l : List (Rw β α)} (h : Rises (a :: l)) : (∀ y ∈ l, kLt a.k y.k = true) ∧ Rises l := by
  unfold Rises at *
  rwa [List.pairwise_cons] at h

theorem rank_high {key : ByteArray} {a : Rw β α} {l : List (Rw β α)} (h : Rises (a :: l)) (hk : kLt a.k key = false) : rankL key (a :: l) = 0 :=
  rank_none (fun y hy => by
    rcases List.mem_cons.1 hy with rfl | hy
    · exact hk
    · cases h2 : kLt y.k key
      · rfl
      · have := kLt_trans ((rises_cons h).1 y hy) h2
        rw [hk] at this; cases this)

theorem rank_lt {key : ByteArray} : ∀ {l : List (Rw β α)} {q : Nat} {y : Rw β α}, Rises l → l[q]? = some y → kLt y.k key = decide (q < rankL key l)
  | [], q, y, _, h => by simp at h
  | a :: l, q, y, hr, h => by
    obtain ⟨h1, h2⟩ := rises_cons hr
    cases hk : kLt a.k key
    · rw [rank_high hr hk]
      cases q with
      | zero => simp at h; subst h; simp [hk]
      | succ q =>
        simp at h
        have hm := List.mem_of_getElem? h
        cases h3 : kLt y.k key
        · simp
        · have := kLt_trans (h1 y hm) h3
          rw [hk] at this; cases this
    · rw [rank_cons, hk]
      cases q with
      | zero =>
        simp at h; subst h
        rw [hk]
        symm
        apply decide_eq_true
        simp
        omega
      | succ q =>
        simp at h
        rw [rank_lt h2 h]
        congr 1
        simp
        omega

theorem rank_at {l : List (Rw β α)} {q : Nat} {y : Rw β α} (hr : Rises l) (h : l[q]? = some y) : rankL y.k l = q := by
  have h1 := rank_lt (key := y.k) hr h
  rw [kLt_irrefl] at h1
  have h2 : ¬ q < rankL y.k l := of_decide_eq_false h1.symm
  have hlt := (List.getElem?_eq_some_iff.1 h).1
  by_cases h3 : q = 0
  · subst h3
    cases l with
    | nil => simp at h
    | cons a l => simp at h; subst h; exact rank_high hr (kLt_irrefl _)
  · -- the row ahead is lower
    have hq : q - 1 < l.length := by omega
    have h4 := rank_lt (key := y.k) hr (List.getElem?_eq_getElem hq)
    have h5 : kLt l[q - 1].k y.k = true := by
      have hp := List.pairwise_iff_getElem.1 hr (q - 1) q hq hlt (by omega)
      rw [(List.getElem?_eq_some_iff.1 h).2] at hp
      exact hp
    rw [h5] at h4
    have h6 : q - 1 < rankL y.k l := of_decide_eq_true h4.symm
    omega

theorem look_at {key : ByteArray} {l : List (Rw β α)} {y : Rw β α} (hr : Rises l) (h : look key l = some y) : l[rankL key l]? = some y ∧ y.k = key := by
  unfold look at h
  have h1 := List.mem_of_find?_eq_some h
  have h2 := List.find?_some h
  simp only [Bool.and_eq_true, Bool.not_eq_true'] at h2
  have e : y.k = key := kLt_total h2.2 h2.1
  obtain ⟨q, hlt, hq⟩ := List.mem_iff_getElem.1 h1
  have h3 : l[q]? = some y := List.getElem?_eq_some_iff.2 ⟨hlt, hq⟩
  have h4 := rank_at hr h3
  rw [← e, h4]
  exact ⟨h3, rfl⟩

theorem lower_at {t : Tr β α} (h : Rises t.rows) {q : Nat} {l r : Tr β α} {k : ByteArray} {v : β} {s : α} (hy : t.rows[q]? = some ⟨k, v, s⟩) : Tr.lower k t = q := by
  rw [lower_rank k t h]; exact rank_at h hy

/-- Whether there is a row of a key, told by Rank and At. -/
theorem has_at {t : Tr β α} (h : Rises t.rows) (key : ByteArray) : (!(Tr.found key t).isNil) = (!(Tr.nth t (Tr.lower key t : Int)).isNil && ((Tr.nth t (Tr.lower key t : Int)).key.toList == key.toList)) := by
  have h1 := look_found key t h
  have h2 := nth_rows t (Tr.lower key t)
  rw [lower_rank key t h] at h2 ⊢
  cases hF : Tr.found key t with
  | nil =>
    cases hN : Tr.nth t (rankL key t.rows : Int) with
    | nil => rfl
    | node l k v s r =>
      rw [hN] at h2
      have hne : (k.toList == key.toList) = false := by
        rw [beq_eq_false_iff_ne]
        intro e
        have e := toList_inj e
        subst e
        have := look_self h h2.symm
        rw [h1, hF] at this
        cases this
      simp [Tr.isNil, Tr.key, hne]
  | node l k v s r =>
    rw [hF] at h1
    obtain ⟨h3, h4⟩ := look_at h h1
    dsimp only at h4
    subst h4
    rw [h3] at h2
    cases hN : Tr.nth t (rankL k t.rows : Int) with
    | nil => rw [hN] at h2; cases h2
    | node l' k' v' s' r' =>
      rw [hN] at h2
      simp only [Option.some.injEq, Rw.mk.injEq] at h2
      obtain ⟨rfl, -, -⟩ := h2
      simp [Tr.isNil, Tr.key]

theorem seg_append (l : List (Rw β α)) {i j k : Nat} (h1 : i ≤ j) (h2 : j ≤ k) (h3 : k ≤ l.length) : seg l i j ++ seg l j k = seg l i k := by
  unfold seg
  have e : l.take k = l.take j ++ (l.take k).drop j := by
    have := List.take_append_drop j (l.take k)
    rw [List.take_take, Nat.min_eq_left h2] at this
    exact this.symm
  conv => rhs; rw [e]
  rw [List.drop_append_of_le_length (by rw [List.length_take]; omega)]

theorem seg_nil (l : List (Rw β α)) (j : Nat) : seg l j j = [] := by
  unfold seg
  rw [List.drop_of_length_le (by rw [List.length_take]; omega)]

theorem fol_join {J : α → α → α} {e : α} (m : Mon J e) (t : Tr β α) {i j k : Nat} (h1 : i ≤ j) (h2 : j ≤ k) (h3 : k ≤ t.cnt) : J (Tr.fol J e t (i : Int) (j : Int)) (Tr.fol J e t (j : Int) (k : Int)) = Tr.fol J e t (i : Int) (k : Int) := by
  rw [fol_nat m t i j (by omega), fol_nat m t j k h3, fol_nat m t i k h3, ← foldL_append m, seg_append _ h1 h2 (by rw [Tr.rows_length]; exact h3)]

theorem fol_none {J : α → α → α} {e : α} (m : Mon J e) (t : Tr β α) {j : Nat} (h : j ≤ t.cnt) : Tr.fol J e t (j : Int) (j : Int) = e := by
  rw [fol_nat m t j j h, seg_nil, foldL_nil]

end Go.Proofs.Ytnlmlhoddchgbaa
