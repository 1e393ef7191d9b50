/-
  Plain mathematics: a tree's n-th row, what a node holds, folds of rows by their numbers.
-/
import Derived.Test.YtnlmlhoddchgbaaTrPath
namespace Go.Proofs.Ytnlmlhoddchgbaa
open Go.RowKit
set_option linter.unusedVariables false
namespace Tr
variable {β α : Type}

def val (z : β) : Tr β α → β
  | nil => z
  | node _ _ v _ _ => v

def key : Tr β α → ByteArray
  | nil => ⟨#[]⟩
  | node _ k _ _ _ => k

/-- The tree whose root is row i. -/
def nth : Tr β α → Int → Tr β α
  | nil, _ => nil
  | node l k v s r, i => if i < (l.cnt : Int) then nth l i else if (l.cnt : Int) < i then nth r (i - ((l.cnt : Int) + 1)) else node l k v s r

/-- The fold of the rows from i on below j. -/
def fld (J : α → α → α) (e : α) : Tr β α → Nat → Nat → α
  | nil, _, _ => e
  | node l k v s r, i, j =>
    if i = 0 ∧ j = (node l k v s r).cnt then (node l k v s r).sum J e else
    if j ≤ l.cnt then fld J e l i j else
    if l.cnt < i then fld J e r (i - l.cnt - 1) (j - l.cnt - 1) else
    if l.cnt + 1 < j then J (if i < l.cnt then J (fld J e l i l.cnt) s else s) (fld J e r 0 (j - l.cnt - 1)) else (if i < l.cnt then J (fld J e l i l.cnt) s else s)

/-- How often it joins. -/
def fldC : Tr β α → Nat → Nat → Nat
  | nil, _, _ => 0
  | node l k v s r, i, j =>
    if i = 0 ∧ j = (node l k v s r).cnt then 0 else
    if j ≤ l.cnt then fldC l i j else
    if l.cnt < i then fldC r (i - l.cnt - 1) (j - l.cnt - 1) else
    (if i < l.cnt then fldC l i l.cnt + 1 else 0) + (if l.cnt + 1 < j then fldC r 0 (j - l.cnt - 1) + 1 else 0)

theorem fldC_full (t : Tr β α) : fldC t 0 t.cnt = 0 := by
  cases t with
  | nil => rfl
  | node l k v s r => simp [fldC]

theorem fldC_tail' : ∀ (t : Tr β α) (i j : Nat), j = t.cnt → fldC t i j ≤ 2 * t.ht
  | nil, i, j, _ => by simp [fldC]
  | node l k v s r, i, j, hj => by
    have h1 := fldC_tail' l i l.cnt rfl
    have h2 := fldC_tail' r (i - l.cnt - 1) (j - l.cnt - 1) (by simp only [cnt] at hj; omega)
    have h3 : fldC r 0 (j - l.cnt - 1) = 0 := by
      rw [show j - l.cnt - 1 = r.cnt from by simp only [cnt] at hj; omega]; exact fldC_full r
    simp only [fldC, ht]
    split
    · omega
    · split
      · simp only [cnt] at hj; omega
      · split
        · omega
        · rw [h3]; split <;> split <;> omega

theorem fldC_tail (t : Tr β α) (i : Nat) : fldC t i t.cnt ≤ 2 * t.ht := fldC_tail' t i _ rfl

theorem fldC_head : ∀ (t : Tr β α) (j : Nat), fldC t 0 j ≤ 2 * t.ht
  | nil, j => by simp [fldC]
  | node l k v s r, j => by
    have h1 := fldC_head l j
    have h2 := fldC_head r (j - l.cnt - 1)
    have h3 := fldC_full l
    simp only [fldC, ht]
    split
    · omega
    · split
      · omega
      · split
        · omega
        · rw [h3]; split <;> split <;> omega

theorem fldC_le : ∀ (t : Tr β α) (i j : Nat), fldC t i j ≤ 4 * t.ht
  | nil, i, j => by simp [fldC]
  | node l k v s r, i, j => by
    have h1 := fldC_le l i j
    have h2 := fldC_le r (i - l.cnt - 1) (j - l.cnt - 1)
    have h3 := fldC_tail l i
    have h4 := fldC_head r (j - l.cnt - 1)
    simp only [fldC, ht]
    split
    · omega
    · split
      · omega
      · split
        · omega
        · split <;> split <;> omega

theorem fld_le {z : α → Nat} {J : α → α → α} (hJ : ∀ a b, z (J a b) ≤ z a + z b) (e : α) : ∀ (t : Tr β α) (i j : Nat), i < j → j ≤ t.cnt → z (fld J e t i j) ≤ t.wt z
  | nil, i, j, h1, h2 => by simp [cnt] at h2; omega
  | node l k v s r, i, j, h1, h2 => by
    have hs := sum_le hJ e (node l k v s r) rfl
    have a1 := fld_le hJ e l i j h1
    have a2 : l.cnt < i → z (fld J e r (i - l.cnt - 1) (j - l.cnt - 1)) ≤ r.wt z := fun h => fld_le hJ e r _ _ (by omega) (by simp only [cnt] at h2; omega)
    have a3 : i < l.cnt → z (fld J e l i l.cnt) ≤ l.wt z := fun h => fld_le hJ e l _ _ h (Nat.le_refl _)
    have a4 : l.cnt + 1 < j → z (fld J e r 0 (j - l.cnt - 1)) ≤ r.wt z := fun h => fld_le hJ e r _ _ (by omega) (by simp only [cnt] at h2; omega)
    have a5 : i < l.cnt → z (J (fld J e l i l.cnt) s) ≤ l.wt z + z s := fun h => by have := hJ (fld J e l i l.cnt) s; have := a3 h; omega
    simp only [fld]
    split
    · exact hs
    · simp only [wt]
      split
      · have := a1 (by assumption); omega
      · split
        · have := a2 (by assumption); omega
        · split
          · rename_i g
            have b1 := a4 g
            split
            · rename_i g2
              have := hJ (J (fld J e l i l.cnt) s) (fld J e r 0 (j - l.cnt - 1))
              have := a5 g2
              omega
            · have := hJ s (fld J e r 0 (j - l.cnt - 1))
              omega
          · split
            · rename_i g2
              have := a5 g2
              omega
            · omega

/-- Fold, as it is asked. -/
def fol (J : α → α → α) (e : α) (t : Tr β α) (i j : Int) : α := if max i 0 < min j (t.cnt : Int) then fld J e t (max i 0).toNat (min j (t.cnt : Int)).toNat else e
def folC (t : Tr β α) (i j : Int) : Nat := if max i 0 < min j (t.cnt : Int) then fldC t (max i 0).toNat (min j (t.cnt : Int)).toNat else 0
theorem folC_le (t : Tr β α) (i j : Int) : folC t i j ≤ 4 * t.ht := by
  unfold folC
  split
  · exact fldC_le _ _ _
  · omega
theorem fol_eq (J : α → α → α) (e : α) (t : Tr β α) (i j : Int) {i' j' : Int} (hi : max i 0 = i') (hj : min j (t.cnt : Int) = j') : fol J e t i j = if i' < j' then fld J e t i'.toNat j'.toNat else e := by subst hi hj; rfl
theorem folC_eq (t : Tr β α) (i j : Int) {i' j' : Int} (hi : max i 0 = i') (hj : min j (t.cnt : Int) = j') : folC t i j = if i' < j' then fldC t i'.toNat j'.toNat else 0 := by subst hi hj; rfl

end Tr
end Go.Proofs.Ytnlmlhoddchgbaa
