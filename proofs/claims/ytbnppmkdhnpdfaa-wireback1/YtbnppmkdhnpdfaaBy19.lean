/-
  Frames that were read, side by side.
-/
import Derived.Test.YtbnppmkdhnpdfaaBy17
import Derived.Test.YtbnppmkdhnpdfaaBy18
import Derived.Deep.CutBlock
import Derived.Deep.DeepCutAuto
namespace Go.Proofs.Ytbnppmkdhnpdfaa
open Go.RowKit
set_option linter.unusedVariables false
theorem SamePm.symm {p q : Pm} (h : SamePm p q) : SamePm q p := by
  obtain ⟨h1, h2, h3, h4, h5, h6, h7, h8, h9⟩ := h
  exact ⟨h1.symm, h2.symm, h3.symm, h4.symm, h5.symm, h6.symm, h7.symm, h8.symm, fun k hk => (h9 k (by rw [h8]; exact hk)).symm⟩
theorem SamePm.trans {p q r : Pm} (h : SamePm p q) (k : SamePm q r) : SamePm p r := by
  obtain ⟨h1, h2, h3, h4, h5, h6, h7, h8, h9⟩ := h
  obtain ⟨k1, k2, k3, k4, k5, k6, k7, k8, k9⟩ := k
  exact ⟨h1.trans k1, h2.trans k2, h3.trans k3, h4.trans k4, h5.trans k5, h6.trans k6, h7.trans k7, h8.trans k8, fun m hm => (h9 m hm).trans (k9 m (by rw [← h8]; exact hm))⟩
theorem byteCells_take (L : List UInt8) (m : Nat) : Lib.byteCells (L.take m) = (Lib.byteCells L).take m := by simp [Lib.byteCells, List.map_take]
theorem ArgB.pre {w : World} {a : Option Addr} {len cap m : Nat} {L : List UInt8} (h : ArgB w a len cap L) (hm : m ≤ len) : ArgB w a m cap (L.take m) := by
  obtain ⟨h1, h2, h3, h4⟩ := h
  refine ⟨by rw [List.length_take]; omega, by omega, h3, ?_⟩
  rcases h4 with ⟨e1, e2, e3⟩ | ⟨x, e1, e2⟩
  · exact .inl ⟨e1, by omega, e3⟩
  · refine .inr ⟨x, e1, fun j u hj => e2 j u ?_⟩
    rw [byteCells_take] at hj
    rw [List.getElem?_take] at hj
    split at hj
    · exact hj
    · cases hj
end Go.Proofs.Ytbnppmkdhnpdfaa
