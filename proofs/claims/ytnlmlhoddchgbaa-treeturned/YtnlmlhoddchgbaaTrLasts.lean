/-
  Of each key the last row, as the law finds them; two trees with the same rows.
-/
import Derived.Test.YtnlmlhoddchgbaaTrRowOwn
namespace Go.Proofs.Ytnlmlhoddchgbaa
open Go.RowKit
set_option linter.unusedVariables false

/-- Whether the key of row i is met again among the j rows behind it. -/
def agn (T : Nat → RowR) (i : Nat) : Nat → Bool
  | 0 => false
  | j + 1 => agn T i j || decide ((T (i + 1 + j)).key = (T i).key)

/-- Of the first i rows those whose key is not met again among n. -/
def lst (T : Nat → RowR) (n : Nat) : Nat → List RowR
  | 0 => []
  | i + 1 => lst T n i ++ (if agn T i (n - (i + 1)) then [] else [T i])

def sgR (T : Nat → RowR) (i m : Nat) : List (Rw Int Mp) := (List.range m).map fun d => rowOf (T (i + d))

theorem sgR_succ (T : Nat → RowR) (i m : Nat) : sgR T i (m + 1) = rowOf (T i) :: sgR T (i + 1) m := by
  unfold sgR
  rw [List.range_succ_eq_map, List.map_cons, List.map_map]
  congr 1
  apply List.map_congr_left
  intro d _
  simp only [Function.comp]
  rw [show i + d.succ = i + 1 + d from by omega]

theorem agn_any (T : Nat → RowR) (i : Nat) : ∀ j, agn T i j = (sgR T (i + 1) j).any (fun x => kEq x.k (rowOf (T i)).k)
  | 0 => rfl
  | j + 1 => by
    have ih := agn_any T i j
    unfold sgR at ih ⊢
    rw [List.range_succ, List.map_append, List.any_append, ← ih]
    simp only [agn, List.map_cons, List.map_nil, List.any_cons, List.any_nil, Bool.or_false]
    congr 1
    by_cases h : (T (i + 1 + j)).key = (T i).key
    · rw [decide_eq_true h]; exact (kEq_iff.2 h).symm
    · rw [decide_eq_false h]; exact (kEq_ne h).symm

theorem lst_lasts (T : Nat → RowR) (n : Nat) : ∀ i, i ≤ n → (lst T n i).map rowOf ++ lasts (sgR T i (n - i)) = lasts (sgR T 0 n)
  | 0, _ => rfl
  | i + 1, h => by
    rw [← lst_lasts T n i (by omega), show n - i = (n - (i + 1)) + 1 from by omega, sgR_succ]
    simp only [lst, lasts, agn_any]
    split
    · simp
    · simp

theorem lst_all (T : Nat → RowR) (n : Nat) : (lst T n n).map rowOf = lasts ((List.range n).map fun i => rowOf (T i)) := by
  have h := lst_lasts T n n (Nat.le_refl _)
  rw [Nat.sub_self] at h
  have e : sgR T 0 n = (List.range n).map fun i => rowOf (T i) := by unfold sgR; simp
  rw [e] at h
  rw [← h]
  simp [sgR, lasts]

theorem lst_length (T : Nat → RowR) (n : Nat) : ∀ i, (lst T n i).length ≤ i
  | 0 => Nat.le_refl _
  | i + 1 => by
    have := lst_length T n i
    simp only [lst, List.length_append]
    split <;> simp <;> omega

theorem lst_vals {T : Nat → RowR} {n : Nat} (h : ∀ i, i < n → I64 (T i).v) : ∀ i, i ≤ n → ValsOk (lst T n i)
  | 0, _ => fun e he => by simp [lst] at he
  | i + 1, hi => fun e he => by
    simp only [lst, List.mem_append] at he
    rcases he with he | he
    · exact lst_vals h i (by omega) e he
    · split at he
      · simp at he
      · simp at he; subst he; exact h i (by omega)

theorem map_nthR (l : List RowR) {n : Nat} (h : l.length = n) : ((List.range n).map fun i => rowOf (nthR l i)) = l.map rowOf := by
  subst h
  apply List.ext_getElem?
  intro i
  by_cases hi : i < l.length
  · rw [List.getElem?_map, List.getElem?_map, List.getElem?_range hi, nthR_get hi]; rfl
  · rw [List.getElem?_eq_none (by simp; omega), List.getElem?_eq_none (by simp; omega)]

/-- The tree of the rows put in another order: the same rows. -/
theorem turned_rows (T : Nat → RowR) {n m : Nat} {l : List RowR} (hl : l.length = m) (hp : l.Perm (lst T n n)) : (treeR (nthR l) m).rows = (treeR T n).rows ∧ (treeR (nthR l) m).cnt = m := by
  have hq : (lasts ((List.range n).map fun i => rowOf (T i))).Perm (l.map rowOf) := by
    rw [← lst_all]; exact (hp.map rowOf).symm
  rw [treeR_treeL, treeR_treeL, map_nthR l hl]
  refine ⟨treeL_turned hq, ?_⟩
  have h1 := treeL_perm hq (lasts_apart _)
  rw [← Tr.rows_length, ← h1, Tr.rows_length, cnt_treeL (lasts_apart _), hq.length_eq, List.length_map, hl]

theorem same_cnt {A B : Tr Int Mp} (h : B.rows = A.rows) : B.cnt = A.cnt := by rw [← Tr.rows_length, h, Tr.rows_length]

theorem same_fol {A B : Tr Int Mp} (h : B.rows = A.rows) (i j : Int) : Tr.fol mJoin mZero B i j = Tr.fol mJoin mZero A i j := by
  rw [fol_rows mon_map, fol_rows mon_map, h, same_cnt h]

theorem same_nth {A B : Tr Int Mp} (h : B.rows = A.rows) (q : Nat) : (Tr.nth B (q : Int)).key = (Tr.nth A (q : Int)).key ∧ (Tr.nth B (q : Int)).val 0 = (Tr.nth A (q : Int)).val 0 ∧ (Tr.nth B (q : Int)).isNil = (Tr.nth A (q : Int)).isNil := by
  have h1 := nth_rows A q
  have h2 := nth_rows B q
  rw [h, ← h1] at h2
  generalize Tr.nth A (q : Int) = x at *
  generalize Tr.nth B (q : Int) = y at *
  cases x <;> cases y
  · exact ⟨rfl, rfl, rfl⟩
  · simp at h2
  · simp at h2
  · simp at h2
    obtain ⟨rfl, rfl, rfl⟩ := h2
    exact ⟨rfl, rfl, rfl⟩

end Go.Proofs.Ytnlmlhoddchgbaa
