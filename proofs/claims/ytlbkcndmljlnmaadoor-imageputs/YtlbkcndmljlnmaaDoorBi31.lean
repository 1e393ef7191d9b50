/-
  What Load refuses with: the first entry that is wrong, plain.
-/
import Derived.Test.YtlbkcndmljlnmaaDoorBi24
namespace Go.Proofs.YtlbkcndmljlnmaaDoor
open Go.RowKit
set_option linter.unusedVariables false
/-- What is wrong at entry j, the clock beside. -/
def ldAt (T : Nat → En) (ck : Int) (j : Nat) : Int := if ckAt T j ≠ 0 then ckAt T j else if ck < (T j).c then 30 else 0
/-- Load refuses with c. -/
def LdBad (nd ck : Int) (T : Nat → En) (len : Nat) (c : Int) : Prop :=
  (¬ (0 ≤ nd ∧ nd < 8 ∧ 0 ≤ ck ∧ ck ≤ 1099511627776) ∧ c = 1) ∨ ((0 ≤ nd ∧ nd < 8 ∧ 0 ≤ ck ∧ ck ≤ 1099511627776) ∧ 256 < len ∧ c = 80) ∨
  ((0 ≤ nd ∧ nd < 8 ∧ 0 ≤ ck ∧ ck ≤ 1099511627776) ∧ len ≤ 256 ∧ ∃ j, j < len ∧ ckN T j = 0 ∧ (∀ i, i < j → (T i).c ≤ ck) ∧ ldAt T ck j = c ∧ c ≠ 0)
theorem ldAt_ver {T : Nat → En} {ck : Int} {j : Nat} (h : ckAt T j = 0) (hv : ck < (T j).c) : ldAt T ck j = 30 := by
  unfold ldAt; rw [if_neg (by simp [h]), if_pos hv]
theorem ldAt_ck {T : Nat → En} {ck : Int} {j : Nat} {c : Int} (h : ckAt T j = c) (hc : c ≠ 0) : ldAt T ck j = c := by
  unfold ldAt; rw [if_pos (by rw [h]; exact hc), h]
theorem ldAt_ok {T : Nat → En} {ck : Int} {i j : Nat} (h : ckN T j = 0) (hv : ∀ i, i < j → (T i).c ≤ ck) (hi : i < j) : ldAt T ck i = 0 := by
  have h0 : ckN T i = 0 := by
    apply Classical.byContradiction
    intro h1
    exact h1 ((ckN_stay h1 j (by omega)).symm.trans h)
  have h1 : ckAt T i = 0 := by
    apply Classical.byContradiction
    intro h2
    exact h2 ((ckN_bad h0 hi h2).symm.trans h)
  have := hv i hi
  unfold ldAt; rw [if_neg (by simp [h1]), if_neg (by omega)]
/-- There is one answer. -/
theorem LdBad.det {nd ck : Int} {T : Nat → En} {len : Nat} {c c' : Int} (h : LdBad nd ck T len c) (h' : LdBad nd ck T len c') : c = c' := by
  rcases h with ⟨a, rfl⟩ | ⟨a, b, rfl⟩ | ⟨a, b, j, d, e, f, g, k⟩ <;> rcases h' with ⟨a', rfl⟩ | ⟨a', b', rfl⟩ | ⟨a', b', j', d', e', f', g', k'⟩
  · rfl
  · exact absurd a' a
  · exact absurd a' a
  · exact absurd a a'
  · rfl
  · omega
  · exact absurd a a'
  · omega
  · rcases Nat.lt_trichotomy j j' with l | l | l
    · exact absurd (g.symm.trans (ldAt_ok e' f' l)) k
    · subst l; exact g.symm.trans g'
    · exact absurd (g'.symm.trans (ldAt_ok e f l)) k'
end Go.Proofs.YtlbkcndmljlnmaaDoor
