/-
  How often the join is called.
-/
import Derived.Test.YtnlmlhoddchgbaaTrOrd
namespace Go.Proofs.Ytnlmlhoddchgbaa
open Go.RowKit
set_option linter.unusedVariables false

namespace Tr
variable {β α : Type}
def hangC (l r : Tr β α) : Nat := (if l.isNil then 0 else 1) + (if r.isNil then 0 else 1)

def turnRC (l r : Tr β α) : Nat :=
  match l with
  | nil => 0
  | node ll _ _ _ lr =>
    if lr.ht ≤ ll.ht then hangC lr r + (if ll.isNil then 1 else 2) else
      match lr with
      | nil => 0
      | node a _ _ _ b => hangC ll a + hangC b r + 2

def turnLC (l r : Tr β α) : Nat :=
  match r with
  | nil => 0
  | node rl _ _ _ rr =>
    if rl.ht ≤ rr.ht then hangC l rl + (if rr.isNil then 1 else 2) else
      match rl with
      | nil => 0
      | node a _ _ _ b => hangC l a + hangC b rr + 2

def levelC (l r : Tr β α) : Nat := if l.ht = r.ht + 2 then turnRC l r else if r.ht = l.ht + 2 then turnLC l r else hangC l r

theorem hangC_le (l r : Tr β α) : hangC l r ≤ 2 := by unfold hangC; split <;> split <;> omega

theorem levelC_le (l r : Tr β α) : levelC l r ≤ 6 := by
  unfold levelC
  have h0 := hangC_le l r
  split
  · cases l with
    | nil => simp [turnRC]
    | node ll k v s lr =>
      simp only [turnRC]
      split
      · have := hangC_le lr r; split <;> omega
      · cases lr with
        | nil => simp
        | node a k v s b => have := hangC_le ll a; have := hangC_le b r; simp only; omega
  · split
    · cases r with
      | nil => simp [turnLC]
      | node rl k v s rr =>
        simp only [turnLC]
        split
        · have := hangC_le l rl; split <;> omega
        · cases rl with
          | nil => simp
          | node a k v s b => have := hangC_le l a; have := hangC_le b rr; simp only; omega
    · omega

end Tr
end Go.Proofs.Ytnlmlhoddchgbaa
