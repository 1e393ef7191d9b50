/-
  The law ItemOrder, walked: it returns true at any three versions.
-/
import Derived.Test.YtoajgacofmodoaaYIVer
import Derived.Laws.StructEq
namespace Go.Proofs.Ytoajgacofmodoaa
open Go.RowKit


theorem cmp_three (a n b m : Int) : Vs.cmp a n b m = 1 ∧ (b < a ∨ (a = b ∧ m < n)) ∨ Vs.cmp a n b m = 0 ∧ a = b ∧ n = m ∨ Vs.cmp a n b m = -1 ∧ (a < b ∨ (a = b ∧ n < m)) := by
  unfold Vs.cmp Vs.c2
  by_cases h1 : b < a
  · rw [if_pos h1]; omega
  · by_cases h2 : a < b
    · rw [if_neg h1, if_pos h2]; omega
    · by_cases h3 : m < n
      · rw [if_neg h1, if_neg h2, if_pos h3]; omega
      · by_cases h4 : n < m
        · rw [if_neg h1, if_neg h2, if_neg h3, if_pos h4]; omega
        · rw [if_neg h1, if_neg h2, if_neg h3, if_neg h4]; omega

end Go.Proofs.Ytoajgacofmodoaa
