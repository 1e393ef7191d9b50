/-
  The code's reader alone: what Num, Text and Flag answer and leave, as the same plain functions.
-/
import Derived.Test.YtnjbglnkhgholaaArgB
namespace Go.Proofs.Ytnjbglnkhgholaa
open Go.RowKit
set_option linter.unusedVariables false

/-- A reader of the code: its bytes, place and error. -/
structure OneR (br : Nat) (s : ByteArray) (l : List UInt8) (p : Nat) (e : Int) (w : World) : Prop where
  code : IsR br s (p : Int) e w
  text : s.data.toList = l
  le : p ≤ l.length
  small : l.length ≤ 1099511627776

theorem OneR.size {br : Nat} {s : ByteArray} {l : List UInt8} {p : Nat} {e : Int} {w : World} (h : OneR br s l p e w) : s.size = l.length := by
  rw [← h.text]; show s.data.size = s.data.toList.length; simp

section
variable {br : Nat} {s : ByteArray} {l : List UInt8} {p : Nat} {e : Int}

theorem one_num (w : World) (most : Int) (h : OneR br s l p e w) :
    Calls Try.prog 50 #[.pointer (some ⟨br, 0, none⟩), .int .i64 most] w fun r w' => r = .returned (.int .i64 (numSt l p e most).1) ∧ IsR br s ((numSt l p e most).2.1 : Int) (numSt l p e most).2.2 w' ∧ Keeps (fun x => x = br) w w' := by
  have hsz := h.size
  by_cases he : e = 0
  · subst he
    have hS : numSt l p 0 most = ((Nm.first (l.drop p) most).1, p + (Nm.first (l.drop p) most).2.1.toNat, (Nm.first (l.drop p) most).2.2) := by simp [numSt]
    have hk := first_parts (l.drop p) most
    rw [hS]
    have := rnum_any br s p most (Nm.first (l.drop p) most).1 (Nm.first (l.drop p) most).2.1 (Nm.first (l.drop p) most).2.2 w h.code (by have := h.le; omega) (by have := h.small; omega) (by rw [h.text])
    simp only
    rw [show ((p + (Nm.first (l.drop p) most).2.1.toNat : Nat) : Int) = (p : Int) + (Nm.first (l.drop p) most).2.1 from by omega]
    exact this
  · have hS : numSt l p e most = (0, p, e) := by simp [numSt, he]
    rw [hS]
    exact (rnum_broken br s (p : Int) e most w h.code he).mono (by rintro r w' ⟨rfl, rfl⟩; exact ⟨rfl, h.code, Keeps.refl _ _⟩)

theorem one_text (w : World) (most : Int) (h : OneR br s l p e w) :
    Calls Try.prog 49 #[.pointer (some ⟨br, 0, none⟩), .int .i64 most] w fun r w' => r = .returned (.string ⟨(textSt l p e most).1.toArray⟩) ∧ IsR br s ((textSt l p e most).2.1 : Int) (textSt l p e most).2.2 w' ∧ Keeps (fun x => x = br) w w' := by
  have hsz := h.size
  have hle := h.le
  have hsm := h.small
  by_cases he : e = 0
  · subst he
    rcases textSt_cases l p most hle with ⟨e, he, hF, hS⟩ | ⟨n, k, hF, hk1, hpk, hn, hS⟩ | ⟨n, k, hF, hk1, hpk, hS⟩
    · rw [hS]
      exact rtext_bad br s p most e w h.code (by omega) (by omega) (by rw [h.text]; exact hF)
    · rw [hS]
      exact rtext_short br s p most n k w h.code (by omega) (by omega) (by rw [h.text]; exact hF) (by omega) (by rw [hsz]; exact hn)
    · rw [hS]
      have := rtext_ok br s p most n k w h.code (by omega) (by omega) (by rw [h.text]; exact hF) (by omega)
      rw [h.text] at this
      simp only
      rw [show ((p + k + n : Nat) : Int) = (p : Int) + (k : Int) + (n : Int) from by omega]
      exact this
  · have hS : textSt l p e most = ([], p, e) := by simp [textSt, he]
    rw [hS]
    exact rtext_broken br s p e most w h.code he (by omega) (by omega)

theorem one_flag (w : World) (h : OneR br s l p e w) :
    Calls Try.prog 51 #[.pointer (some ⟨br, 0, none⟩)] w fun r w' => r = .returned (.bool (flagSt l p e).1) ∧ IsR br s ((flagSt l p e).2.1 : Int) (flagSt l p e).2.2 w' ∧ Keeps (fun x => x = br) w w' := by
  have hsz := h.size
  have hle := h.le
  have hsm := h.small
  by_cases hp : p < l.length
  · have hc : s[p]'(by omega) = l[p] := by
      have e1 : s.data.toList[p]'(by rw [h.text]; exact hp) = l[p] := by simp only [h.text]
      rw [← e1]
      rfl
    by_cases he : e = 0
    · subst he
      by_cases h1 : 1 < l[p].toNat
      · have hS : flagSt l p 0 = (false, p, 11) := by simp [flagSt, hp, h1]
        rw [hS]
        exact rflag_form br s p 0 l[p] w h.code (by omega) hc h1 (by omega)
      · have hS : flagSt l p 0 = (((l[p].toNat : Int) == 1), p + 1, 0) := by simp only [flagSt, ne_eq, not_true_eq_false, if_false, hp, dif_pos]; rw [if_neg h1]
        rw [hS]
        exact rflag_ok br s p l[p] w h.code (by omega) hc h1 (by omega)
    · have hS : flagSt l p e = (false, p, e) := by simp [flagSt, he]
      rw [hS]
      by_cases h1 : 1 < l[p].toNat
      · have := rflag_form br s p e l[p] w h.code (by omega) hc h1 (by omega)
        rw [show failOf e 11 = e from if_neg he] at this
        exact this
      · exact rflag_broken br s p e l[p] w h.code he (by omega) hc h1 (by omega)
  · have := rflag_end br s p e w h.code (by omega) (by omega)
    by_cases he : e = 0
    · subst he
      have hS : flagSt l p 0 = (false, p, 10) := by simp [flagSt, hp]
      rw [hS]
      exact this
    · have hS : flagSt l p e = (false, p, e) := by simp [flagSt, he]
      rw [hS]
      rw [show failOf e 10 = e from if_neg he] at this
      exact this

end

end Go.Proofs.Ytnjbglnkhgholaa
