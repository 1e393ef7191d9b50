/-
  Plain mathematics of ranges and keys: a key stands in a meeting just if it stands in both; what lies within a range has no key that this one lacks.
-/
import Derived.Test.YtidajlnaehhkkaaSAlg2
namespace Go.Proofs.Ytidajlnaehhkkaa

/-- Some texts: the bounds of two ranges, the empty one, and a key. -/
def S3 (a b : Rg) (k : ByteArray) : List (List UInt8) := [a.lo.toList, a.hi.toList, b.lo.toList, b.hi.toList, [], k.toList]
theorem in3a (a b : Rg) (k : ByteArray) : In (S3 a b k) a := ⟨by simp [S3], by simp [S3], by simp [S3]⟩
theorem in3b (a b : Rg) (k : ByteArray) : In (S3 a b k) b := ⟨by simp [S3], by simp [S3], by simp [S3]⟩
theorem in3k (a b : Rg) (k : ByteArray) : k.toList ∈ S3 a b k := by simp [S3]

theorem not_has {r : Rg} {k : ByteArray} (h : r.may = false) : r.has k = false := by simp [Rg.has, h]

/-- An empty range has no key. -/
theorem has_not_emp {r : Rg} {k : ByteArray} (h : r.has k = true) : r.emp = false := by
  rw [emp_num (in3a r r k)]
  obtain ⟨h1, h2, h3, h4⟩ := (has_rk (in3a r r k) (in3k r r k)).1 h
  obtain ⟨m1, m2⟩ := (may_rk (in3a r r k)).1 h1
  refine ⟨m1, ?_⟩
  rcases m2 with m2 | ⟨o, m2⟩
  · exact .inl m2
  · rcases h4 with h4 | h4
    · rw [o] at h4; cases h4
    · exact .inr ⟨o, by omega⟩

theorem emp_has {r : Rg} {k : ByteArray} (h : r.emp = true) : r.has k = false := by
  cases e : r.has k
  · rfl
  · rw [has_not_emp e] at h; cases h

/-- A range that is not empty has its lower bound. -/
theorem has_lo {r : Rg} (h : r.emp = false) : r.has r.lo = true := by
  have hm := ((emp_rk (in2a r r)).1 h).1
  have hn := (emp_num (in3a r r r.lo)).1 h
  rw [has_rk (in3a r r r.lo) (in3a r r r.lo).1]
  refine ⟨hm, hn.1.1, Nat.le_refl _, ?_⟩
  rcases hn.2 with h | h
  · exact .inl h.1
  · exact .inr h.2

theorem meet_is (a b : Rg) : metIs (Rg.meet a b) = true ↔ a.emp = false ∧ b.emp = false ∧ (Rg.both a b).emp = false := by
  unfold Rg.meet
  cases a.emp <;> cases b.emp <;> cases (Rg.both a b).emp <;> simp [metIs]

theorem meet_met {a b : Rg} (h : metIs (Rg.meet a b) = true) : Rg.meet a b = some (Rg.both a b) := by
  obtain ⟨h1, h2, h3⟩ := (meet_is a b).1 h
  simp [Rg.meet, h1, h2, h3]

/-- A key stands in both just if it stands in the meeting. -/
theorem has_both {a b : Rg} (k : ByteArray) (ha : a.may = true) (hb : b.may = true) (hm : (Rg.both a b).may = true) : (Rg.both a b).has k = (a.has k && b.has k) := by
  obtain ⟨h1, h2, h3, -⟩ := both_rk (in3a a b k) (in3b a b k)
  rw [Bool.eq_iff_iff, Bool.and_eq_true, has_rk h1 (in3k a b k), has_rk (in3a a b k) (in3k a b k), has_rk (in3b a b k) (in3k a b k)]
  simp only [ha, hb, hm, true_and, h2]
  rcases h3 with ⟨o1, e1, e2⟩ | ⟨o1, o2, e1, e2⟩ | ⟨o1, o2, e2, ⟨h, e1⟩ | ⟨h, e1⟩⟩
  · simp only [o1, e1, e2]
    cases b.op <;> simp <;> omega
  · simp only [o1, o2, e1, e2]
    simp; omega
  · simp only [o1, o2, e1, e2]
    simp; omega
  · simp only [o1, o2, e1, e2]
    simp; omega

theorem key_meet (a b : Rg) (k : ByteArray) : (metIs (Rg.meet a b) && Rg.has ⟨metLo (Rg.meet a b), metHi (Rg.meet a b), metOp (Rg.meet a b)⟩ k) = (a.has k && b.has k) := by
  cases h : metIs (Rg.meet a b)
  · have hk : (a.has k && b.has k) = false := by
      cases h1 : a.has k
      · rfl
      · cases h2 : b.has k
        · rfl
        · exfalso
          have e1 := has_not_emp h1; have e2 := has_not_emp h2
          have m1 := ((emp_rk (in2a a b)).1 e1).1; have m2 := ((emp_rk (in2b a b)).1 e2).1
          have : metIs (Rg.meet a b) = true := by
            rw [meet_is]
            apply (meets_num (in3a a b k) (in3b a b k) m1 m2).2
            obtain ⟨-, g2, g3, -⟩ := both_rk (in3a a b k) (in3b a b k)
            obtain ⟨-, -, x1, x2⟩ := (has_rk (in3a a b k) (in3k a b k)).1 h1
            obtain ⟨-, -, y1, y2⟩ := (has_rk (in3b a b k) (in3k a b k)).1 h2
            rw [g2]
            rcases g3 with ⟨o1, e1, e2⟩ | ⟨o1, o2, e1, e2⟩ | ⟨o1, o2, e2, ⟨h, e1⟩ | ⟨h, e1⟩⟩
            · rw [e1, e2]
              rcases y2 with y2 | y2
              · exact .inl y2
              · exact .inr (by omega)
            · rw [e1]; simp only [o1, Bool.false_eq_true, false_or] at x2; exact .inr (by omega)
            · rw [e1]; simp only [o1, o2, Bool.false_eq_true, false_or] at x2 y2; exact .inr (by omega)
            · rw [e1]; simp only [o1, o2, Bool.false_eq_true, false_or] at x2 y2; exact .inr (by omega)
          rw [h] at this; cases this
    rw [hk]; rfl
  · obtain ⟨h1, h2, h3⟩ := (meet_is a b).1 h
    have m1 := ((emp_rk (in2a a b)).1 h1).1; have m2 := ((emp_rk (in2b a b)).1 h2).1
    have m3 := ((emp_rk (in2a (Rg.both a b) b)).1 h3).1
    rw [meet_met h]
    exact has_both k m1 m2 m3

theorem with_may {a b : Rg} (h : withR a b = true) : a.may = true ∧ b.may = true := by
  obtain ⟨h1, h2, -⟩ := (withR_num (in2a a b) (in2b a b)).1 h
  exact ⟨h1, h2⟩

theorem with_has {a b : Rg} {k : ByteArray} (h : withR a b = true) (hk : a.has k = true) : b.has k = true := by
  obtain ⟨h1, h2, h3⟩ := (withR_num (in3a a b k) (in3b a b k)).1 h
  obtain ⟨-, z, x1, x2⟩ := (has_rk (in3a a b k) (in3k a b k)).1 hk
  rw [has_rk (in3b a b k) (in3k a b k)]
  rcases h3 with h3 | ⟨h3, h4⟩
  · rw [has_not_emp hk] at h3; cases h3
  · refine ⟨h2, z, by omega, ?_⟩
    rcases h4 with h4 | ⟨h4, h5⟩
    · exact .inl h4
    · simp only [h4, Bool.false_eq_true, false_or] at x2; exact .inr (by omega)

/-- Where a range doesn't lie within another one, its lower bound or the other one's upper bound shows it. -/
theorem with_no {a b : Rg} (ha : a.may = true) (hb : b.may = true) (h : withR a b = false) : a.emp = false ∧ (b.has a.lo = true → a.has b.hi = true ∧ b.has b.hi = false) := by
  have hn : ¬ (withR a b = true) := by rw [h]; simp
  rw [withR_num (in2a a b) (in2b a b)] at hn
  have he : a.emp = false := by
    cases e : a.emp
    · rfl
    · exact absurd ⟨ha, hb, .inl e⟩ hn
  refine ⟨he, fun hl => ?_⟩
  obtain ⟨-, z, x1, x2⟩ := (has_rk (in2b a b) (in2a a b).1).1 hl
  have ma := (may_rk (in2a a b)).1 ha
  have mb := (may_rk (in2b a b)).1 hb
  have hlo := has_lo he
  have hx : b.op = false ∧ (a.op = true ∨ rk (S2 a b) b.hi.toList < rk (S2 a b) a.hi.toList) := by
    cases ob : b.op
    · refine ⟨rfl, ?_⟩
      cases oa : a.op
      · refine .inr ?_
        apply Classical.byContradiction
        intro h2
        exact hn ⟨ha, hb, .inr ⟨x1, .inr ⟨oa, by omega⟩⟩⟩
      · exact .inl rfl
    · exact absurd ⟨ha, hb, .inr ⟨x1, .inl ob⟩⟩ hn
  constructor
  · rw [has_rk (in2a a b) (in2b a b).2.1]
    simp only [hx.1, Bool.false_eq_true, false_or] at x2
    exact ⟨ha, mb.1.2, by omega, hx.2⟩
  · cases e : b.has b.hi
    · rfl
    · obtain ⟨-, -, -, y⟩ := (has_rk (in2b a b) (in2b a b).2.1).1 e
      simp only [hx.1, Bool.false_eq_true, false_or] at y
      omega

end Go.Proofs.Ytidajlnaehhkkaa
