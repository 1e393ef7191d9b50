/-
  Plain mathematics of three ranges: lying within is an order, and meeting its greatest lower bound.
-/
import Derived.Test.YtidajlnaehhkkabSAlg3
namespace Go.Proofs.Ytidajlnaehhkkab

def S6 (a b c : Rg) : List (List UInt8) := [a.lo.toList, a.hi.toList, b.lo.toList, b.hi.toList, c.lo.toList, c.hi.toList, []]
theorem in6a (a b c : Rg) : In (S6 a b c) a := ⟨by simp [S6], by simp [S6], by simp [S6]⟩
theorem in6b (a b c : Rg) : In (S6 a b c) b := ⟨by simp [S6], by simp [S6], by simp [S6]⟩
theorem in6c (a b c : Rg) : In (S6 a b c) c := ⟨by simp [S6], by simp [S6], by simp [S6]⟩

theorem emp_may {r : Rg} (h : r.emp = false) : r.may = true := ((emp_rk (in2a r r)).1 h).1

theorem with_refl {a : Rg} (h : a.may = true) : withR a a = true := by
  rw [withR_num (in2a a a) (in2a a a)]
  refine ⟨h, h, .inr ⟨Nat.le_refl _, ?_⟩⟩
  cases a.op
  · exact .inr ⟨rfl, Nat.le_refl _⟩
  · exact .inl rfl

/-- What is not empty lies within nothing that is. -/
theorem with_ne {a b : Rg} (h : withR a b = true) (ha : a.emp = false) : b.emp = false := by
  obtain ⟨h1, h2, h3⟩ := (withR_num (in2a a b) (in2b a b)).1 h
  have na := (emp_num (in2a a b)).1 ha
  have mb := (may_rk (in2b a b)).1 h2
  rw [emp_num (in2b a b)]
  refine ⟨mb.1, ?_⟩
  rcases h3 with h3 | ⟨h3, h4⟩
  · rw [ha] at h3; cases h3
  · rcases mb.2 with m | ⟨o, m⟩
    · exact .inl m
    · refine .inr ⟨o, ?_⟩
      rcases h4 with h4 | ⟨h4, h5⟩
      · rw [o] at h4; cases h4
      · rcases na.2 with ⟨n, -⟩ | ⟨-, n⟩
        · rw [h4] at n; cases n
        · omega

theorem with_trans {a b c : Rg} (h : withR a b = true) (h' : withR b c = true) : withR a c = true := by
  obtain ⟨h1, h2, h3⟩ := (withR_num (in6a a b c) (in6b a b c)).1 h
  obtain ⟨g1, g2, g3⟩ := (withR_num (in6b a b c) (in6c a b c)).1 h'
  rw [withR_num (in6a a b c) (in6c a b c)]
  refine ⟨h1, g2, ?_⟩
  cases ha : a.emp
  · have hb := with_ne h ha
    rw [ha] at h3
    rw [hb] at g3
    simp only [Bool.false_eq_true, false_or] at h3 g3
    refine .inr ⟨by omega, ?_⟩
    rcases g3.2 with o | ⟨o, g4⟩
    · exact .inl o
    · rcases h3.2 with p | ⟨p, h4⟩
      · rw [o] at p; cases p
      · exact .inr ⟨p, by omega⟩
  · exact .inl rfl

theorem with_anti {a b : Rg} (h : withR a b = true) (h' : withR b a = true) : a = b ∨ (a.emp = true ∧ b.emp = true) := by
  cases ha : a.emp
  · have hb := with_ne h ha
    obtain ⟨h1, h2, h3⟩ := (withR_num (in2a a b) (in2b a b)).1 h
    obtain ⟨g1, g2, g3⟩ := (withR_num (in2b a b) (in2a a b)).1 h'
    rw [ha] at h3
    rw [hb] at g3
    simp only [Bool.false_eq_true, false_or] at h3 g3
    left
    have elo := str_rk (in2a a b).1 (in2b a b).1 (by omega)
    rcases h3.2 with o | ⟨o, h4⟩
    · rcases g3.2 with p | ⟨p, -⟩
      · exact rg_ext elo (by rw [empty_str h1 p, empty_str h2 o]) (by rw [o, p])
      · rw [o] at p; cases p
    · rcases g3.2 with p | ⟨p, g4⟩
      · rw [o] at p; cases p
      · exact rg_ext elo (str_rk (in2a a b).2.1 (in2b a b).2.1 (by omega)) (by rw [o, p])
  · right
    refine ⟨rfl, ?_⟩
    cases hb : b.emp
    · have := with_ne h' hb; rw [ha] at this; cases this
    · rfl

/-- What lies within two ranges lies within what they meet in, and the other way round. -/
theorem with_meet {a b c : Rg} (ha : a.may = true) (hb : b.may = true) (hc : c.emp = false) :
    (metIs (Rg.meet a b) && withR c ⟨metLo (Rg.meet a b), metHi (Rg.meet a b), metOp (Rg.meet a b)⟩) = (withR c a && withR c b) := by
  have mc := emp_may hc
  have nc := (emp_num (in6c a b c)).1 hc
  have wa := withR_num (in6c a b c) (in6a a b c)
  have wb := withR_num (in6c a b c) (in6b a b c)
  simp only [mc, ha, hb, hc, true_and, Bool.false_eq_true, false_or] at wa wb
  obtain ⟨h1, h2, h3, -⟩ := both_rk (in6a a b c) (in6b a b c)
  cases h : metIs (Rg.meet a b)
  · cases e1 : withR c a
    · rfl
    · cases e2 : withR c b
      · rfl
      · exfalso
        have x := wa.1 e1; have y := wb.1 e2
        have : metIs (Rg.meet a b) = true := by
          rw [meet_is]
          apply (meets_num (in6a a b c) (in6b a b c) ha hb).2
          rw [h2]
          rcases h3 with ⟨o1, e1, e2⟩ | ⟨o1, o2, e1, e2⟩ | ⟨o1, o2, e2, ⟨h, e1⟩ | ⟨h, e1⟩⟩
          · rw [e1, e2]
            rcases y.2 with y2 | ⟨y2, y3⟩
            · exact .inl y2
            · simp only [y2, Bool.false_eq_true, false_and, false_or, true_and] at nc; exact .inr (by omega)
          · rw [e1]
            simp only [o1, Bool.false_eq_true, false_or] at x
            simp only [x.2.1, Bool.false_eq_true, false_and, false_or, true_and] at nc
            exact .inr (by omega)
          · rw [e1]
            simp only [o1, o2, Bool.false_eq_true, false_or] at x y
            simp only [x.2.1, Bool.false_eq_true, false_and, false_or, true_and] at nc
            exact .inr (by omega)
          · rw [e1]
            simp only [o1, o2, Bool.false_eq_true, false_or] at x y
            simp only [x.2.1, Bool.false_eq_true, false_and, false_or, true_and] at nc
            exact .inr (by omega)
        rw [h] at this; cases this
  · obtain ⟨-, -, k3⟩ := (meet_is a b).1 h
    have mm := emp_may k3
    rw [meet_met h]
    show (true && withR c (Rg.both a b)) = _
    have wm := withR_num (in6c a b c) h1
    simp only [mc, mm, hc, true_and, Bool.false_eq_true, false_or] at wm
    rw [Bool.true_and, Bool.eq_iff_iff, Bool.and_eq_true, wm, wa, wb, h2]
    rcases h3 with ⟨o1, e1, e2⟩ | ⟨o1, o2, e1, e2⟩ | ⟨o1, o2, e2, ⟨h, e1⟩ | ⟨h, e1⟩⟩
    · rw [e1, e2, o1]
      cases b.op <;> cases c.op <;> simp <;> omega
    · rw [e1, e2, o1, o2]
      cases c.op <;> simp; omega
    · rw [e1, e2, o1, o2]
      cases c.op <;> simp; omega
    · rw [e1, e2, o1, o2]
      cases c.op <;> simp; omega

/-- The upper bound of a meeting that is open is empty. -/
theorem empty_of_both {a b : Rg} (hb : b.may = true) (ho : (Rg.both a b).op = true) : (Rg.both a b).hi = ⟨#[]⟩ := by
  obtain ⟨-, -, h3, -⟩ := both_rk (in2a a b) (in2b a b)
  rcases h3 with ⟨o1, e1, e2⟩ | ⟨o1, o2, e1, e2⟩ | ⟨o1, o2, e2, -⟩
  · rw [e1]; rw [e2] at ho; exact empty_str hb ho
  · rw [e2] at ho; cases ho
  · rw [e2] at ho; cases ho

/-- The upper bound of a meeting, by its place. -/
theorem both_op {S : List (List UInt8)} {a b : Rg} (hA : In S a) (hB : In S b) : (Rg.both a b).op = (a.op && b.op) ∧ ((Rg.both a b).op = false → rk S (Rg.both a b).hi.toList = if a.op then rk S b.hi.toList else if b.op then rk S a.hi.toList else min (rk S a.hi.toList) (rk S b.hi.toList)) := by
  obtain ⟨-, -, h3, -⟩ := both_rk hA hB
  rcases h3 with ⟨o1, e1, e2⟩ | ⟨o1, o2, e1, e2⟩ | ⟨o1, o2, e2, ⟨h, e1⟩ | ⟨h, e1⟩⟩
  · rw [e1, e2, o1]; simp
  · rw [e1, e2, o1, o2]; simp
  · rw [e1, e2, o1, o2]; simp; omega
  · rw [e1, e2, o1, o2]; simp; omega

theorem both_assoc {a b c : Rg} (hc : c.may = true) (hbc : (Rg.both b c).may = true) : Rg.both (Rg.both a b) c = Rg.both a (Rg.both b c) := by
  obtain ⟨i1, l1, -, -⟩ := both_rk (in6a a b c) (in6b a b c)
  obtain ⟨i2, l2, -, -⟩ := both_rk (in6b a b c) (in6c a b c)
  obtain ⟨i3, l3, -, -⟩ := both_rk i1 (in6c a b c)
  obtain ⟨i4, l4, -, -⟩ := both_rk (in6a a b c) i2
  obtain ⟨o1, p1⟩ := both_op (in6a a b c) (in6b a b c)
  obtain ⟨o2, p2⟩ := both_op (in6b a b c) (in6c a b c)
  obtain ⟨o3, p3⟩ := both_op i1 (in6c a b c)
  obtain ⟨o4, p4⟩ := both_op (in6a a b c) i2
  have hop : (Rg.both (Rg.both a b) c).op = (Rg.both a (Rg.both b c)).op := by rw [o3, o4, o1, o2, Bool.and_assoc]
  refine rg_ext (str_rk i3.1 i4.1 (by rw [l3, l4, l1, l2]; omega)) ?_ hop
  cases ho : (Rg.both (Rg.both a b) c).op
  · refine str_rk i3.2.1 i4.2.1 ?_
    rw [p3 ho, p4 (hop.symm.trans ho)]
    rw [o3, o1] at ho
    cases oa : a.op <;> cases ob : b.op <;> cases oc : c.op <;> simp only [oa, ob, oc] at o1 o2 ho p1 p2 <;> simp at o1 o2 ho p1 p2 <;> simp [o1, o2]
    all_goals try rw [p1 o1]
    all_goals try rw [p2 o2]
    all_goals omega
  · have hb1 := empty_of_both hc ho
    have hb2 := empty_of_both hbc (hop.symm.trans ho)
    rw [hb1, hb2]

theorem meet_assoc {a b c : Rg} (h1 : metIs (Rg.meet a b) = true) (h2 : metIs (Rg.meet b c) = true) :
    Rg.meet ⟨metLo (Rg.meet a b), metHi (Rg.meet a b), metOp (Rg.meet a b)⟩ c = Rg.meet a ⟨metLo (Rg.meet b c), metHi (Rg.meet b c), metOp (Rg.meet b c)⟩ := by
  obtain ⟨a1, b1, m1⟩ := (meet_is a b).1 h1
  obtain ⟨b2, c2, m2⟩ := (meet_is b c).1 h2
  rw [meet_met h1, meet_met h2]
  show Rg.meet (Rg.both a b) c = Rg.meet a (Rg.both b c)
  unfold Rg.meet
  rw [both_assoc (emp_may c2) (emp_may m2), m1, c2, a1, m2]

end Go.Proofs.Ytidajlnaehhkkab
