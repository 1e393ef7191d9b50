/-
  Plain mathematics: trees that Put has made.
-/
import Derived.Test.YtnlmlhoddchgbaaTrList
namespace Go.Proofs.Ytnlmlhoddchgbaa
open Go.RowKit
set_option linter.unusedVariables false
variable {β α : Type}

theorem wt_put (z : α → Nat) (k : ByteArray) (v : β) (s : α) : ∀ t : Tr β α, (Tr.put k v s t).wt z ≤ t.wt z + 1 + z s
  | .nil => by simp [Tr.put, Tr.wt]
  | .node l k' v' s' r => by
    have h1 := wt_put z k v s l
    have h2 := wt_put z k v s r
    simp only [Tr.put]
    split
    · rw [Tr.wt_level]; simp only [Tr.wt]; omega
    · split
      · rw [Tr.wt_level]; simp only [Tr.wt]; omega
      · simp only [Tr.wt]; omega

/-- Balanced, rising, and holding no more than m. -/
structure Gd (z : α → Nat) (t : Tr β α) (m : Nat) : Prop where
  bal : t.bal
  rises : Rises t.rows
  wt : t.wt z ≤ m

theorem Gd.nil (z : α → Nat) : Gd z (.nil : Tr β α) 0 := ⟨trivial, List.Pairwise.nil, Nat.le_refl _⟩
theorem Gd.put {z : α → Nat} {t : Tr β α} {m : Nat} (h : Gd z t m) (k : ByteArray) (v : β) (s : α) : Gd z (Tr.put k v s t) (m + 1 + z s) :=
  ⟨(Tr.bal_put k v s t h.bal).1, by rw [rows_put k v s t h.rises]; exact rises_ins _ h.rises, by have := wt_put z k v s t; have := h.wt; omega⟩
theorem Gd.mono {z : α → Nat} {t : Tr β α} {m m' : Nat} (h : Gd z t m) (hm : m ≤ m') : Gd z t m' := ⟨h.bal, h.rises, Nat.le_trans h.wt hm⟩
theorem Gd.cnt {z : α → Nat} {t : Tr β α} {m : Nat} (h : Gd z t m) : t.cnt ≤ m := Nat.le_trans (Tr.cnt_le_wt z t) h.wt
theorem Gd.ht {z : α → Nat} {t : Tr β α} {m : Nat} (h : Gd z t m) (hm : m ≤ 281474976710655) : t.ht ≤ 97 := Tr.bal_ht h.bal (n := 48) (by have := h.cnt; omega)
theorem Gd.room {z : α → Nat} {t : Tr β α} {m x : Nat} (h : Gd z t m) (hm : m + 1 + x ≤ 281474976710655) : (t.ht + 2) * (t.wt z + 1 + x) ≤ 4611686018427387904 := by
  have h1 := h.ht (by omega)
  have h2 := h.wt
  have : (t.ht + 2) * (t.wt z + 1 + x) ≤ 99 * 281474976710655 := Nat.mul_le_mul (by omega) (by omega)
  omega

end Go.Proofs.Ytnlmlhoddchgbaa
