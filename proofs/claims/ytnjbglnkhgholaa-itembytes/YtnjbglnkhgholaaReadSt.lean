/-
  What each call of a reader answers and leaves, as plain functions of its bytes, its place and its error: and that both readers, the code's and the document's own, keep to them.
-/
import Derived.Test.YtnjbglnkhgholaaRefWord
import Derived.Test.YtnjbglnkhgholaaRFlag
namespace Go.Proofs.Ytnjbglnkhgholaa
open Go.RowKit
set_option linter.unusedVariables false

def numSt (l : List UInt8) (p : Nat) (e most : Int) : Int × Nat × Int :=
  if e ≠ 0 then (0, p, e) else ((Nm.first (l.drop p) most).1, p + (Nm.first (l.drop p) most).2.1.toNat, (Nm.first (l.drop p) most).2.2)
def textSt (l : List UInt8) (p : Nat) (e most : Int) : List UInt8 × Nat × Int :=
  if e ≠ 0 then ([], p, e) else ((textOf (l.drop p) most).1, p + (textOf (l.drop p) most).2.1.toNat, (textOf (l.drop p) most).2.2)
def wordSt (l : List UInt8) (p : Nat) (e : Int) : Nat × Nat × Int :=
  if e ≠ 0 then (0, p, e) else if l.length < p + 8 then (0, p, 10) else (valB ((l.drop p).take 8), p + 8, 0)
def flagSt (l : List UInt8) (p : Nat) (e : Int) : Bool × Nat × Int :=
  if e ≠ 0 then (false, p, e) else if h : p < l.length then (if 1 < l[p].toNat then (false, p, 11) else (((l[p].toNat : Int) == 1), p + 1, 0)) else (false, p, 10)

/-- The two readers at once: the same bytes, place and error, no memory shared. -/
structure TwoR (B br bd : Nat) (s : ByteArray) (v : Value) (l : List UInt8) (p : Nat) (e : Int) (w : World) : Prop where
  code : IsR br s (p : Int) e w
  doc : IsRR B bd v l (p : Int) e w
  text : s.data.toList = l
  ne : br ≠ bd
  vr : v.ownBlock ≠ some br
  le : p ≤ l.length
  small : l.length ≤ 1099511627776

theorem TwoR.size {B br bd : Nat} {s : ByteArray} {v : Value} {l : List UInt8} {p : Nat} {e : Int} {w : World} (h : TwoR B br bd s v l p e w) : s.size = l.length := by
  rw [← h.text]; show s.data.size = s.data.toList.length; simp

/-- The code's reader has moved, then the document's. -/
theorem TwoR.both {B br bd : Nat} {s : ByteArray} {v : Value} {l : List UInt8} {p p' : Nat} {e e' : Int} {w w1 w2 : World} (h : TwoR B br bd s v l p e w) (k1 : Keeps (fun x => x = br) w w1) (r1 : IsR br s (p' : Int) e' w1)
    (k2 : Keeps (fun x => x = bd) w1 w2) (d2 : IsRR B bd v l (p' : Int) e' w2) (hle : p' ≤ l.length) : TwoR B br bd s v l p' e' w2 :=
  ⟨r1.keep k2 (fun x => h.ne x), d2, h.text, h.ne, h.vr, hle, h.small⟩

/-- What the document's reader is in the world that the code's has left. -/
theorem TwoR.later {B br bd : Nat} {s : ByteArray} {v : Value} {l : List UInt8} {p : Nat} {e : Int} {w w1 : World} (h : TwoR B br bd s v l p e w) (k1 : Keeps (fun x => x = br) w w1) : IsRR B bd v l (p : Int) e w1 :=
  h.doc.keep k1 (fun x => h.ne x.symm) (fun j hj x => h.vr (by rw [hj, x]))

section
variable {B br bd : Nat} {s : ByteArray} {v : Value} {l : List UInt8} {p : Nat} {e : Int}

theorem first_parts (l : List UInt8) (most : Int) : 0 ≤ (Nm.first l most).2.1 ∧ (Nm.first l most).2.1 ≤ 9 ∧ (Nm.first l most).2.1 ≤ (l.length : Int) ∧ 0 ≤ (Nm.first l most).1 ∧ (Nm.first l most).1 < 9223372036854775808 ∧ ((Nm.first l most).2.2 ≠ 0 → (Nm.first l most).1 = 0 ∧ (Nm.first l most).2.1 = 0) :=
  first_small (show Nm.first l most = ((Nm.first l most).1, (Nm.first l most).2.1, (Nm.first l most).2.2) from rfl)

theorem numSt_le (l : List UInt8) (p : Nat) (e most : Int) (hp : p ≤ l.length) : (numSt l p e most).2.1 ≤ l.length := by
  unfold numSt
  split
  · exact hp
  · have := first_parts (l.drop p) most
    rw [List.length_drop] at this
    simp only
    omega

theorem code_num (w : World) (most : Int) (h : TwoR B br bd s v l p e w) :
    Calls Try.prog 50 #[.pointer (some ⟨br, 0, none⟩), .int .i64 most] w fun r w' => r = .returned (.int .i64 (numSt l p e most).1) ∧ IsR br s ((numSt l p e most).2.1 : Int) (numSt l p e most).2.2 w' ∧ Keeps (fun x => x = br) w w' := by
  have hsz := h.size
  by_cases he : e = 0
  · subst he
    have hS : numSt l p 0 most = ((Nm.first (l.drop p) most).1, p + (Nm.first (l.drop p) most).2.1.toNat, (Nm.first (l.drop p) most).2.2) := by simp [numSt]
    have hk := first_parts (l.drop p) most
    rw [hS]
    have := rnum_any br s p most (Nm.first (l.drop p) most).1 (Nm.first (l.drop p) most).2.1 (Nm.first (l.drop p) most).2.2 w h.code (by have := h.le; omega) (by have := h.small; omega) (by rw [h.text])
    simp only
    rw [show ((p + (Nm.first (l.drop p) most).2.1.toNat : Nat) : Int) = (p : Int) + (Nm.first (l.drop p) most).2.1 from by omega]
    exact this
  · have hS : numSt l p e most = (0, p, e) := by simp [numSt, he]
    rw [hS]
    exact (rnum_broken br s (p : Int) e most w h.code he).mono (by rintro r w' ⟨rfl, rfl⟩; exact ⟨rfl, h.code, Keeps.refl _ _⟩)

theorem doc_num (w : World) (most : Int) (h : IsRR B bd v l (p : Int) e w) (hle : p ≤ l.length) (hs : l.length ≤ 1099511627776) :
    Calls Try.prog 56 #[.pointer (some ⟨bd, 0, none⟩), .int .i64 most] w fun r w' => r = .returned (.int .i64 (numSt l p e most).1) ∧ IsRR B bd v l ((numSt l p e most).2.1 : Int) (numSt l p e most).2.2 w' ∧ Keeps (fun x => x = bd) w w' := by
  by_cases he : e = 0
  · subst he
    have hS : numSt l p 0 most = ((Nm.first (l.drop p) most).1, p + (Nm.first (l.drop p) most).2.1.toNat, (Nm.first (l.drop p) most).2.2) := by simp [numSt]
    have hk := first_parts (l.drop p) most
    rw [hS]
    have := rrnum_any B bd v l p most (Nm.first (l.drop p) most).1 (Nm.first (l.drop p) most).2.1 (Nm.first (l.drop p) most).2.2 w h hle hs rfl
    simp only
    rw [show ((p + (Nm.first (l.drop p) most).2.1.toNat : Nat) : Int) = (p : Int) + (Nm.first (l.drop p) most).2.1 from by omega]
    exact this
  · have hS : numSt l p e most = (0, p, e) := by simp [numSt, he]
    rw [hS]
    exact (rrnum_broken B bd v l (p : Int) e most w h he).mono (by rintro r w' ⟨rfl, rfl⟩; exact ⟨rfl, h, Keeps.refl _ _⟩)

/-- The three ways of a text. -/
theorem textSt_cases (l : List UInt8) (p : Nat) (most : Int) (hp : p ≤ l.length) :
    (∃ e, e ≠ 0 ∧ Nm.first (l.drop p) most = (0, 0, e) ∧ textSt l p 0 most = ([], p, e)) ∨
    (∃ n k : Nat, Nm.first (l.drop p) most = ((n : Int), (k : Int), 0) ∧ 1 ≤ k ∧ p + k ≤ l.length ∧ (l.length : Int) - ((p : Int) + (k : Int)) < (n : Int) ∧ textSt l p 0 most = ([], p, 10)) ∨
    (∃ n k : Nat, Nm.first (l.drop p) most = ((n : Int), (k : Int), 0) ∧ 1 ≤ k ∧ p + k + n ≤ l.length ∧ textSt l p 0 most = ((l.drop (p + k)).take n, p + k + n, 0)) := by
  obtain ⟨n, k, e, hF, hkl, hk9, he0, he12, hbad, hn63, hk1⟩ := Nm.first_form (l.drop p) most
  rw [List.length_drop] at hkl
  by_cases he : e = 0
  · subst he
    right
    by_cases hn : (l.length : Int) - ((p : Int) + (k : Int)) < (n : Int)
    · left
      refine ⟨n, k, hF, hk1 rfl, by omega, hn, ?_⟩
      have := textOf_short hF (by rw [List.length_drop]; omega)
      simp [textSt, this]
    · right
      refine ⟨n, k, hF, hk1 rfl, by omega, ?_⟩
      have := textOf_ok hF (by rw [List.length_drop]; omega)
      simp only [textSt, this, ne_eq, not_true_eq_false, if_false, List.drop_drop]
      rw [show ((k : Int) + (n : Int)).toNat = k + n from by omega, show ((k : Int)).toNat = k from by omega, show ((n : Int)).toNat = n from by omega, Nat.add_assoc]
  · left
    obtain ⟨rfl, rfl⟩ := hbad he
    refine ⟨e, he, hF, ?_⟩
    have := textOf_bad hF he
    simp [textSt, this]

theorem textSt_le (l : List UInt8) (p : Nat) (e most : Int) (hp : p ≤ l.length) : (textSt l p e most).2.1 ≤ l.length := by
  by_cases he : e = 0
  · subst he
    rcases textSt_cases l p most hp with ⟨e, _, _, h⟩ | ⟨n, k, _, _, _, _, h⟩ | ⟨n, k, _, _, h3, h⟩ <;> rw [h] <;> simp only <;> omega
  · simp [textSt, he, hp]

theorem code_text (w : World) (most : Int) (h : TwoR B br bd s v l p e w) :
    Calls Try.prog 49 #[.pointer (some ⟨br, 0, none⟩), .int .i64 most] w fun r w' => r = .returned (.string ⟨(textSt l p e most).1.toArray⟩) ∧ IsR br s ((textSt l p e most).2.1 : Int) (textSt l p e most).2.2 w' ∧ Keeps (fun x => x = br) w w' := by
  have hsz := h.size
  have hle := h.le
  have hsm := h.small
  by_cases he : e = 0
  · subst he
    rcases textSt_cases l p most hle with ⟨e, he, hF, hS⟩ | ⟨n, k, hF, hk1, hpk, hn, hS⟩ | ⟨n, k, hF, hk1, hpk, hS⟩
    · rw [hS]
      exact rtext_bad br s p most e w h.code (by omega) (by omega) (by rw [h.text]; exact hF)
    · rw [hS]
      exact rtext_short br s p most n k w h.code (by omega) (by omega) (by rw [h.text]; exact hF) (by omega) (by rw [hsz]; exact hn)
    · rw [hS]
      have := rtext_ok br s p most n k w h.code (by omega) (by omega) (by rw [h.text]; exact hF) (by omega)
      rw [h.text] at this
      simp only
      rw [show ((p + k + n : Nat) : Int) = (p : Int) + (k : Int) + (n : Int) from by omega]
      exact this
  · have hS : textSt l p e most = ([], p, e) := by simp [textSt, he]
    rw [hS]
    exact rtext_broken br s p e most w h.code he (by omega) (by omega)

theorem doc_text (w : World) (most : Int) (h : IsRR B bd v l (p : Int) e w) (hle : p ≤ l.length) (hs : l.length ≤ 1099511627776) :
    Calls Try.prog 55 #[.pointer (some ⟨bd, 0, none⟩), .int .i64 most] w fun r w' => r = .returned (.string ⟨(textSt l p e most).1.toArray⟩) ∧ IsRR B bd v l ((textSt l p e most).2.1 : Int) (textSt l p e most).2.2 w' ∧ Keeps (fun x => x = bd) w w' := by
  by_cases he : e = 0
  · subst he
    rcases textSt_cases l p most hle with ⟨e, he, hF, hS⟩ | ⟨n, k, hF, hk1, hpk, hn, hS⟩ | ⟨n, k, hF, hk1, hpk, hS⟩
    · rw [hS]
      exact rrtext_bad B bd v l p most e w h hle hs hF he
    · rw [hS]
      exact rrtext_short B bd v l p most n k w h hle hs hF hpk hn
    · rw [hS]
      have := rrtext_ok B bd v l p most n k w h hle hs hF hk1 hpk
      simp only
      rw [show ((p + k + n : Nat) : Int) = (p : Int) + (k : Int) + (n : Int) from by omega]
      exact this
  · have hS : textSt l p e most = ([], p, e) := by simp [textSt, he]
    rw [hS]
    exact (rrtext_broken B bd v l (p : Int) e most w h he).mono (by rintro r w' ⟨rfl, rfl⟩; exact ⟨rfl, h, Keeps.refl _ _⟩)

theorem wordSt_le (l : List UInt8) (p : Nat) (e : Int) (hp : p ≤ l.length) : (wordSt l p e).2.1 ≤ l.length := by
  unfold wordSt
  split
  · exact hp
  · split <;> simp only <;> omega



theorem flagSt_le (l : List UInt8) (p : Nat) (e : Int) (hp : p ≤ l.length) : (flagSt l p e).2.1 ≤ l.length := by
  unfold flagSt
  split
  · exact hp
  · split
    · split <;> simp only <;> omega
    · exact hp

theorem code_flag (w : World) (h : TwoR B br bd s v l p e w) :
    Calls Try.prog 51 #[.pointer (some ⟨br, 0, none⟩)] w fun r w' => r = .returned (.bool (flagSt l p e).1) ∧ IsR br s ((flagSt l p e).2.1 : Int) (flagSt l p e).2.2 w' ∧ Keeps (fun x => x = br) w w' := by
  have hsz := h.size
  have hle := h.le
  have hsm := h.small
  by_cases hp : p < l.length
  · have hc : s[p]'(by omega) = l[p] := by
      have e1 : s.data.toList[p]'(by rw [h.text]; exact hp) = l[p] := by simp only [h.text]
      rw [← e1]
      rfl
    by_cases he : e = 0
    · subst he
      by_cases h1 : 1 < l[p].toNat
      · have hS : flagSt l p 0 = (false, p, 11) := by simp [flagSt, hp, h1]
        rw [hS]
        exact rflag_form br s p 0 l[p] w h.code (by omega) hc h1 (by omega)
      · have hS : flagSt l p 0 = (((l[p].toNat : Int) == 1), p + 1, 0) := by simp only [flagSt, ne_eq, not_true_eq_false, if_false, hp, dif_pos]; rw [if_neg h1]
        rw [hS]
        exact rflag_ok br s p l[p] w h.code (by omega) hc h1 (by omega)
    · have hS : flagSt l p e = (false, p, e) := by simp [flagSt, he]
      rw [hS]
      by_cases h1 : 1 < l[p].toNat
      · have := rflag_form br s p e l[p] w h.code (by omega) hc h1 (by omega)
        rw [show failOf e 11 = e from if_neg he] at this
        exact this
      · exact rflag_broken br s p e l[p] w h.code he (by omega) hc h1 (by omega)
  · have := rflag_end br s p e w h.code (by omega) (by omega)
    by_cases he : e = 0
    · subst he
      have hS : flagSt l p 0 = (false, p, 10) := by simp [flagSt, hp]
      rw [hS]
      exact this
    · have hS : flagSt l p e = (false, p, e) := by simp [flagSt, he]
      rw [hS]
      rw [show failOf e 10 = e from if_neg he] at this
      exact this

theorem doc_flag (w : World) (h : IsRR B bd v l (p : Int) e w) (hle : p ≤ l.length) (hs : l.length ≤ 1099511627776) :
    Calls Try.prog 57 #[.pointer (some ⟨bd, 0, none⟩)] w fun r w' => r = .returned (.bool (flagSt l p e).1) ∧ IsRR B bd v l ((flagSt l p e).2.1 : Int) (flagSt l p e).2.2 w' ∧ Keeps (fun x => x = bd) w w' := by
  by_cases he : e = 0
  · subst he
    by_cases hp : p < l.length
    · by_cases h1 : 1 < l[p].toNat
      · have hS : flagSt l p 0 = (false, p, 11) := by simp [flagSt, hp, h1]
        rw [hS]
        exact rrflag_form B bd v l p l[p] w h hp rfl h1 hs
      · have hS : flagSt l p 0 = (((l[p].toNat : Int) == 1), p + 1, 0) := by simp only [flagSt, ne_eq, not_true_eq_false, if_false, hp, dif_pos]; rw [if_neg h1]
        rw [hS]
        exact rrflag_ok B bd v l p l[p] w h hp rfl h1 hs
    · have hS : flagSt l p 0 = (false, p, 10) := by simp [flagSt, hp]
      rw [hS]
      exact rrflag_end B bd v l p w h (by omega) hs
  · have hS : flagSt l p e = (false, p, e) := by simp [flagSt, he]
    rw [hS]
    exact (rrflag_broken B bd v l (p : Int) e w h he).mono (by rintro r w' ⟨rfl, rfl⟩; exact ⟨rfl, h, Keeps.refl _ _⟩)

end

end Go.Proofs.Ytnjbglnkhgholaa
