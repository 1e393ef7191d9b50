/-
  Plain mathematics: the way down to a key, and the way back up with a row.
-/
import Derived.Test.YtnlmlhoddchgbaaTrCost
namespace Go.Proofs.Ytnlmlhoddchgbaa
open Go.RowKit
set_option linter.unusedVariables false
namespace Tr
variable {β α : Type}

/-- The trees on the way down to k, without the last one. -/
def path (k : ByteArray) : Tr β α → List (Tr β α)
  | nil => []
  | node l k' v s r => if kLt k k' then node l k' v s r :: path k l else if kLt k' k then node l k' v s r :: path k r else []

/-- The tree at the end of the way. -/
def found (k : ByteArray) : Tr β α → Tr β α
  | nil => nil
  | node l k' v s r => if kLt k k' then found k l else if kLt k' k then found k r else node l k' v s r

/-- How many rows have a lower key. -/
def lower (k : ByteArray) : Tr β α → Nat
  | nil => 0
  | node l k' v s r => if kLt k k' then lower k l else if kLt k' k then l.cnt + 1 + lower k r else l.cnt

theorem path_le (k : ByteArray) : ∀ t : Tr β α, (path k t).length ≤ t.ht
  | nil => Nat.le_refl _
  | node l k' v s r => by
    have h1 := path_le k l
    have h2 := path_le k r
    simp only [path, ht]
    split
    · simp only [List.length_cons]; omega
    · split
      · simp only [List.length_cons]; omega
      · simp

theorem lower_le (k : ByteArray) : ∀ t : Tr β α, lower k t ≤ t.cnt
  | nil => Nat.le_refl _
  | node l k' v s r => by
    have h1 := lower_le k l
    have h2 := lower_le k r
    simp only [lower, cnt]
    split
    · omega
    · split <;> omega

/-- What the row becomes at the end of the way. -/
def base (k : ByteArray) (v : β) (s : α) (t : Tr β α) : Tr β α :=
  match t with
  | nil => node nil k v s nil
  | node l _ _ _ r => node l k v s r

/-- One step back up. -/
def step (k : ByteArray) (t made : Tr β α) : Tr β α :=
  match t with
  | nil => made
  | node l k' v' s' r => if kLt k k' then level k' v' s' made r else level k' v' s' l made

def stepC (k : ByteArray) (t made : Tr β α) : Nat :=
  match t with
  | nil => 0
  | node l k' v' s' r => if kLt k k' then levelC made r else levelC l made

/-- All the way back up, the trees as they come. -/
def ups (k : ByteArray) (made : Tr β α) (l : List (Tr β α)) : Tr β α := l.foldl (fun m t => step k t m) made

def upsC (k : ByteArray) (made : Tr β α) : List (Tr β α) → Nat
  | [] => 0
  | t :: l => stepC k t made + upsC k (step k t made) l

theorem ups_snoc (k : ByteArray) (made : Tr β α) (l : List (Tr β α)) (t : Tr β α) : ups k made (l ++ [t]) = step k t (ups k made l) := by simp [ups]

theorem upsC_snoc (k : ByteArray) : ∀ (l : List (Tr β α)) (made t : Tr β α), upsC k made (l ++ [t]) = upsC k made l + stepC k t (ups k made l)
  | [], made, t => by simp [upsC, ups]
  | x :: l, made, t => by
    have := upsC_snoc k l (step k x made) t
    simp only [List.cons_append, upsC, this, ups, List.foldl_cons]
    omega

theorem stepC_le (k : ByteArray) (t made : Tr β α) : stepC k t made ≤ 6 := by
  unfold stepC
  split
  · omega
  · split
    · exact levelC_le _ _
    · exact levelC_le _ _

theorem upsC_le (k : ByteArray) : ∀ (l : List (Tr β α)) (made : Tr β α), upsC k made l ≤ 6 * l.length
  | [], _ => Nat.le_refl _
  | t :: l, made => by
    have h1 := stepC_le k t made
    have h2 := upsC_le k l (step k t made)
    simp only [upsC, List.length_cons]
    omega

theorem put_ups (k : ByteArray) (v : β) (s : α) : ∀ t : Tr β α, ups k (base k v s (found k t)) (path k t).reverse = put k v s t
  | nil => rfl
  | node l k' v' s' r => by
    have h1 := put_ups k v s l
    have h2 := put_ups k v s r
    simp only [path, found, put]
    split
    · rename_i h
      rw [List.reverse_cons, ups_snoc, h1]
      simp [step, h]
    · rename_i h
      split
      · rw [List.reverse_cons, ups_snoc, h2]
        simp [step, h]
      · rfl

theorem wt_step (z : α → Nat) (k : ByteArray) (t made : Tr β α) : (step k t made).wt z ≤ t.wt z + made.wt z := by
  unfold step
  split
  · omega
  · split
    · rw [wt_level]; simp only [wt]; omega
    · rw [wt_level]; simp only [wt]; omega

theorem wt_ups (z : α → Nat) (k : ByteArray) (M : Nat) : ∀ (l : List (Tr β α)) (made : Tr β α), (∀ t ∈ l, t.wt z ≤ M) → (ups k made l).wt z ≤ made.wt z + l.length * M
  | [], made, _ => by simp [ups]
  | t :: l, made, h => by
    have h1 := wt_ups z k M l (step k t made) (fun x hx => h x (List.mem_cons_of_mem _ hx))
    have h2 := wt_step z k t made
    have h3 := h t List.mem_cons_self
    simp only [ups, List.foldl_cons, List.length_cons] at h1 ⊢
    rw [Nat.succ_mul]
    omega

theorem wt_path (z : α → Nat) (k : ByteArray) : ∀ (t x : Tr β α), x ∈ path k t → x.wt z ≤ t.wt z
  | nil, x, h => by simp [path] at h
  | node l k' v s r, x, h => by
    have h1 := wt_path z k l x
    have h2 := wt_path z k r x
    simp only [path] at h
    split at h
    · rcases List.mem_cons.1 h with rfl | h
      · exact Nat.le_refl _
      · have := h1 h; simp only [wt]; omega
    · split at h
      · rcases List.mem_cons.1 h with rfl | h
        · exact Nat.le_refl _
        · have := h2 h; simp only [wt]; omega
      · cases h

theorem wt_found (z : α → Nat) (k : ByteArray) : ∀ t : Tr β α, (found k t).wt z ≤ t.wt z
  | nil => Nat.le_refl _
  | node l k' v s r => by
    have h1 := wt_found z k l
    have h2 := wt_found z k r
    simp only [found]
    split
    · simp only [wt]; omega
    · split
      · simp only [wt]; omega
      · exact Nat.le_refl _

theorem wt_base (z : α → Nat) (k : ByteArray) (v : β) (s : α) (t : Tr β α) : (base k v s t).wt z ≤ t.wt z + 1 + z s := by
  cases t <;> simp only [base, wt] <;> omega

theorem path_node (k : ByteArray) : ∀ (t x : Tr β α), x ∈ path k t → x.isNil = false
  | nil, x, h => by simp [path] at h
  | node l k' v s r, x, h => by
    have h1 := path_node k l x
    have h2 := path_node k r x
    simp only [path] at h
    split at h
    · rcases List.mem_cons.1 h with rfl | h
      · rfl
      · exact h1 h
    · split at h
      · rcases List.mem_cons.1 h with rfl | h
        · rfl
        · exact h2 h
      · cases h

/-- How often a Put joins. -/
def putC (k : ByteArray) (v : β) (s : α) (t : Tr β α) : Nat :=
  (match found k t with
    | nil => 0
    | node l _ _ _ r => hangC l r) + upsC k (base k v s (found k t)) (path k t).reverse

theorem putC_le (k : ByteArray) (v : β) (s : α) (t : Tr β α) : putC k v s t ≤ 6 * t.ht + 2 := by
  have h1 := upsC_le k (path k t).reverse (base k v s (found k t))
  have h2 := path_le k t
  rw [List.length_reverse] at h1
  unfold putC
  split
  · omega
  · rename_i l _ _ _ r _
    have := hangC_le l r
    omega

end Tr
end Go.Proofs.Ytnlmlhoddchgbaa
