/-
  What is wrong with a frame hangs on its values alone, not on where they lie.
-/
import Derived.Test.YtgfblndmblgeeaaFeS
namespace Go.Proofs.Ytgfblndmblgeeaa
open Go.RowKit
set_option linter.unusedVariables false

theorem itN_ext {r : Rg} {T S : Nat → En} : ∀ {n : Nat}, (∀ k, k < n → T k = S k) → itN r T n = itN r S n
  | 0, _ => rfl
  | n + 1, h => by
    have e := itN_ext (r := r) (fun k hk => h k (Nat.lt_succ_of_lt hk))
    have e2 : itAt r T n = itAt r S n := by
      unfold itAt
      rw [h n (Nat.lt_succ_self _)]
      by_cases hn : n = 0
      · subst hn; simp
      · rw [h (n - 1) (by omega)]
    simp only [itN]
    rw [e, e2]
theorem SamePm.chk {p q : Pm} (h : SamePm p q) (hi : ByteArray) (op : Bool) : p.chk hi op = q.chk hi op := by
  obtain ⟨k1, lo1, hi1, op1, c1, a1, b1, ea1, el1, ec1, T1⟩ := p
  obtain ⟨k2, lo2, hi2, op2, c2, a2, b2, ea2, el2, ec2, T2⟩ := q
  obtain ⟨h1, h2, h3, h4, h5, h6, h7, h8, h9⟩ := h
  dsimp only at h1 h2 h3 h4 h5 h6 h7 h8 h9
  subst h1 h2 h3 h4 h5 h6 h7 h8
  unfold Pm.chk Pm.alone Pm.its Pm.rg
  dsimp only
  rw [itN_ext h9]
section
variable {P Q : Nat → Pm} {n : Nat}
theorem ptN_ext : ∀ {n : Nat}, (∀ i, i < n → SamePm (P i) (Q i)) → ptN P n = ptN Q n
  | 0, _ => rfl
  | n + 1, h => by
    have e := ptN_ext (fun k hk => h k (Nat.lt_succ_of_lt hk))
    have e2 : ptAt P n = ptAt Q n := by
      unfold ptAt
      rw [(h n (Nat.lt_succ_self _)).chk]
      cases n with
      | zero => rfl
      | succ m =>
        simp only [ahHi, ahOp]
        rw [(h m (by omega)).2.2.1, (h m (by omega)).2.2.2.1]
    simp only [ptN]
    rw [e, e2]
theorem totE_ext : ∀ {n : Nat}, (∀ i, i < n → SamePm (P i) (Q i)) → totE P n = totE Q n
  | 0, _ => rfl
  | n + 1, h => by
    have e := totE_ext (fun k hk => h k (Nat.lt_succ_of_lt hk))
    simp only [totE]
    rw [e, (h n (Nat.lt_succ_self _)).2.2.2.2.2.2.2.1]
theorem psChk_ext (h : ∀ i, i < n → SamePm (P i) (Q i)) : psChk P n = psChk Q n := by
  unfold psChk
  rw [ptN_ext h, totE_ext h]
theorem opening_ext (h : ∀ i, i < n → SamePm (P i) (Q i)) : opening P n = opening Q n := by
  unfold opening
  by_cases hn : n = 1
  · subst hn
    obtain ⟨h1, h2, h3, h4, -⟩ := h 0 (by omega)
    rw [h1, h2, h3, h4]
  · simp [hn]
theorem fChk_ext {fr tz o l k tn : Int} (h : ∀ i, i < n → SamePm (P i) (Q i)) : fChk fr tz o l k tn P n = fChk fr tz o l k tn Q n := by
  unfold fChk
  rw [psChk_ext h, opening_ext h]
end
theorem totE_most {P : Nat → Pm} {m : Nat} : ∀ {n : Nat}, (∀ i, i < n → (P i).el ≤ m) → totE P n ≤ n * m
  | 0, _ => Nat.zero_le _
  | n + 1, h => by
    have e := totE_most (fun k hk => h k (Nat.lt_succ_of_lt hk))
    have := h n (Nat.lt_succ_self _)
    simp only [totE]
    rw [Nat.succ_mul]
    omega

end Go.Proofs.Ytgfblndmblgeeaa
