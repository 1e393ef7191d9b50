/-
  Frames that were read, side by side.
-/
import Derived.Test.YtbnppmkdhnpdfaaBw14
import Derived.Test.YtbnppmkdhnpdfaaBw15
import Derived.Deep.CutBlock
import Derived.Deep.DeepCutAuto
namespace Go.Proofs.Ytbnppmkdhnpdfaa
open Go.RowKit
set_option linter.unusedVariables false
theorem rd_ps {w : World} {B n c : Nat} {a : Option Addr} {P : Nat → Pm} {vs : List PV} (h : RdF w B a n c P vs) : psOf P n = vs := by
  apply List.ext_getElem?
  intro i
  unfold psOf
  rw [List.getElem?_map]
  by_cases hi : i < n
  · rw [List.getElem?_range hi]
    obtain ⟨v, hv, -⟩ := at_of_lt (vs := vs) (i := i) (by rw [h.len]; exact hi)
    obtain ⟨q1, q2, q3, q4, q5, q6, q7, q8, q9⟩ := h.ent i v hv
    have hl := (h.ent i v hv).len
    rw [hv]
    obtain ⟨kk, lo, hi, op, cn, sa, sb, es⟩ := v
    simp only [Option.map_some, Option.some.injEq]
    unfold pvOf
    rw [q1, q2, q3, q4, q5, q6, q7, q8, hl]
    simp only [Int.toNat_natCast, eFirst_nth]
  · rw [List.getElem?_eq_none (by simpa using hi), List.getElem?_eq_none (by rw [h.len]; omega)]; rfl
theorem SamePm.pv {p q : Pm} (h : SamePm p q) : pvOf p = pvOf q := by
  obtain ⟨h1, h2, h3, h4, h5, h6, h7, h8, h9⟩ := h
  unfold pvOf
  rw [h1, h2, h3, h4, h5, h6, h7]
  have : eFirst p.T p.el = eFirst q.T q.el := by
    rw [← h8]
    unfold eFirst
    exact List.map_congr_left (fun k hk => h9 k (List.mem_range.1 hk))
  rw [this]
theorem PsSame.ps {P Q : Nat → Pm} {n m : Nat} (h : PsSame P n Q m) : psOf P n = psOf Q m := by
  obtain ⟨rfl, h⟩ := h
  unfold psOf
  exact List.map_congr_left (fun i hi => (h i (List.mem_range.1 hi)).pv)
theorem SamePm.symm {p q : Pm} (h : SamePm p q) : SamePm q p := by
  obtain ⟨h1, h2, h3, h4, h5, h6, h7, h8, h9⟩ := h
  exact ⟨h1.symm, h2.symm, h3.symm, h4.symm, h5.symm, h6.symm, h7.symm, h8.symm, fun k hk => (h9 k (by rw [h8]; exact hk)).symm⟩
theorem SamePm.trans {p q r : Pm} (h : SamePm p q) (k : SamePm q r) : SamePm p r := by
  obtain ⟨h1, h2, h3, h4, h5, h6, h7, h8, h9⟩ := h
  obtain ⟨k1, k2, k3, k4, k5, k6, k7, k8, k9⟩ := k
  exact ⟨h1.trans k1, h2.trans k2, h3.trans k3, h4.trans k4, h5.trans k5, h6.trans k6, h7.trans k7, h8.trans k8, fun m hm => (h9 m hm).trans (k9 m (by rw [← h8]; exact hm))⟩
theorem rd_same {w w' : World} {B B' n m c d : Nat} {a b : Option Addr} {P Q : Nat → Pm} {vs : List PV} (h : RdF w B a n c P vs) (k : RdF w' B' b m d Q vs) : PsSame P n Q m := by
  refine ⟨h.len.symm.trans k.len, fun i hi => ?_⟩
  exact (h.same i hi).trans (k.same i (by rw [← k.len, h.len]; exact hi)).symm
theorem byteCells_take (L : List UInt8) (m : Nat) : Lib.byteCells (L.take m) = (Lib.byteCells L).take m := by simp [Lib.byteCells, List.map_take]
theorem ArgB.pre {w : World} {a : Option Addr} {len cap m : Nat} {L : List UInt8} (h : ArgB w a len cap L) (hm : m ≤ len) : ArgB w a m cap (L.take m) := by
  obtain ⟨h1, h2, h3, h4⟩ := h
  refine ⟨by rw [List.length_take]; omega, by omega, h3, ?_⟩
  rcases h4 with ⟨e1, e2, e3⟩ | ⟨x, e1, e2⟩
  · exact .inl ⟨e1, by omega, e3⟩
  · refine .inr ⟨x, e1, fun j u hj => e2 j u ?_⟩
    rw [byteCells_take] at hj
    rw [List.getElem?_take] at hj
    split at hj
    · exact hj
    · cases hj
/-- Frames' bytes: none begins the other one's. -/
theorem not_pre {La Lb : List UInt8} {F G : FV} (hF : FVok F) (hG : FVok G) (ha : La = frameB F) (hb : Lb = frameB G) (hl : La.length < Lb.length) : ¬ Lb.take La.length = La := by
  intro h
  have e : Lb = La ++ Lb.drop La.length := by
    conv => lhs; rw [← List.take_append_drop La.length Lb]
    rw [h]
  subst ha hb
  have := (frameB_pre hF hG (x := (frameB G).drop (frameB F).length) (y := []) (by rw [List.append_nil]; exact e.symm)).2
  have h2 := congrArg List.length this
  rw [List.length_drop, List.length_nil] at h2
  omega
end Go.Proofs.Ytbnppmkdhnpdfaa
