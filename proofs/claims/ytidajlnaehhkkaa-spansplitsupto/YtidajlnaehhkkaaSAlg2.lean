/-
  Plain mathematics of ranges: meeting hangs on no order; lying within, by the code's way and by the document's, is the same.
-/
import Derived.Test.YtidajlnaehhkkaaSAlg
namespace Go.Proofs.Ytidajlnaehhkkaa

theorem rg_ext {a b : Rg} (h1 : a.lo = b.lo) (h2 : a.hi = b.hi) (h3 : a.op = b.op) : a = b := by
  cases a; cases b; simp_all

theorem both_comm {a b : Rg} (ha : a.may = true) (hb : b.may = true) : Rg.both b a = Rg.both a b := by
  obtain ⟨h1, h2, h3, -⟩ := both_rk (in2a a b) (in2b a b)
  obtain ⟨g1, g2, g3, -⟩ := both_rk (in2b a b) (in2a a b)
  have hlo : (Rg.both b a).lo = (Rg.both a b).lo := str_rk g1.1 h1.1 (by rw [h2, g2]; exact Nat.max_comm _ _)
  refine rg_ext hlo ?_ ?_
  · rcases h3 with ⟨o1, e1, e2⟩ | ⟨o1, o2, e1, e2⟩ | ⟨o1, o2, e2, h3⟩ <;> rcases g3 with ⟨p1, f1, f2⟩ | ⟨p1, p2, f1, f2⟩ | ⟨p1, p2, f2, g3⟩
    · rw [f1, e1, empty_str ha o1, empty_str hb p1]
    · rw [f1, e1]
    · rw [o1] at p2; cases p2
    · rw [f1, e1]
    · rw [o1] at p2; cases p2
    · rw [o2] at p1; cases p1
    · rw [o2] at p1; cases p1
    · rw [o1] at p2; cases p2
    · rcases h3 with ⟨h, e1⟩ | ⟨h, e1⟩ <;> rcases g3 with ⟨g, f1⟩ | ⟨g, f1⟩
      · omega
      · rw [e1, f1]
      · rw [e1, f1]
      · rw [e1, f1]; exact str_rk (in2b a b).2.1 (in2a a b).2.1 (by omega)
  · rcases h3 with ⟨o1, e1, e2⟩ | ⟨o1, o2, e1, e2⟩ | ⟨o1, o2, e2, h3⟩ <;> rcases g3 with ⟨p1, f1, f2⟩ | ⟨p1, p2, f1, f2⟩ | ⟨p1, p2, f2, g3⟩ <;> rw [e2, f2] <;> simp_all

theorem meet_comm (a b : Rg) : Rg.meet b a = Rg.meet a b := by
  cases ha : a.may
  · simp [Rg.meet, emp_of_not_may ha]
  · cases hb : b.may
    · simp [Rg.meet, emp_of_not_may hb]
    · unfold Rg.meet
      rw [both_comm ha hb, Bool.or_comm b.emp a.emp]

theorem alike_iff {alo ahi blo bhi : ByteArray} {aop bop : Bool} : alike alo ahi aop blo bhi bop = true ↔ alo = blo ∧ ahi = bhi ∧ aop = bop := by
  unfold alike
  simp only [Bool.and_eq_true, beq_iff_eq]
  exact ⟨fun h => ⟨toList_inj h.1, toList_inj h.2.1, h.2.2⟩, fun h => ⟨by rw [h.1], by rw [h.2.1], h.2.2⟩⟩

/-- A range that is not empty is what it meets another one in just if it lies within that one. -/
theorem both_self {S : List (List UInt8)} {a b : Rg} (hA : In S a) (hB : In S b) (ha : a.may = true) (hb : b.may = true) :
    Rg.both a b = a ↔ (rk S b.lo.toList ≤ rk S a.lo.toList ∧ (b.op = true ∨ (a.op = false ∧ rk S a.hi.toList ≤ rk S b.hi.toList))) := by
  obtain ⟨h1, h2, h3, -⟩ := both_rk hA hB
  constructor
  · intro e
    rw [e] at h2 h3
    refine ⟨by omega, ?_⟩
    rcases h3 with ⟨o1, e1, e2⟩ | ⟨o1, o2, e1, e2⟩ | ⟨o1, o2, e2, ⟨h, e1⟩ | ⟨h, e1⟩⟩
    · exact .inl (by rw [← e2]; exact o1)
    · exact .inl o2
    · rw [e1] at h; omega
    · exact .inr ⟨o1, h⟩
  · rintro ⟨hl, ho⟩
    refine rg_ext (str_rk h1.1 hA.1 (by rw [h2]; omega)) ?_ ?_
    · rcases h3 with ⟨o1, e1, e2⟩ | ⟨o1, o2, e1, e2⟩ | ⟨o1, o2, e2, ⟨h, e1⟩ | ⟨h, e1⟩⟩
      · rcases ho with ho | ⟨ho, -⟩
        · rw [e1, empty_str ha o1, empty_str hb ho]
        · rw [o1] at ho; cases ho
      · rw [e1]
      · rcases ho with ho | ⟨-, ho⟩
        · rw [o2] at ho; cases ho
        · omega
      · rw [e1]
    · rcases h3 with ⟨o1, e1, e2⟩ | ⟨o1, o2, e1, e2⟩ | ⟨o1, o2, e2, -⟩
      · rw [e2, o1]
        rcases ho with ho | ⟨ho, -⟩
        · exact ho
        · rw [o1] at ho; cases ho
      · rw [e2, o1]
      · rw [e2, o1]

theorem withR_num {S : List (List UInt8)} {a b : Rg} (hA : In S a) (hB : In S b) : withR a b = true ↔ a.may = true ∧ b.may = true ∧ (a.emp = true ∨ (rk S b.lo.toList ≤ rk S a.lo.toList ∧ (b.op = true ∨ (a.op = false ∧ rk S a.hi.toList ≤ rk S b.hi.toList)))) := by
  unfold withR
  rw [rk_lt hA.1 hB.1, rk_lt hA.2.1 hB.2.1, rk_eq hA.2.1 hB.2.1]
  cases a.may <;> cases b.may <;> cases a.emp <;> cases a.op <;> cases b.op <;> simp <;> omega

theorem with_eq (a b : Rg) : withC a b = withR a b := by
  cases ha : a.may
  · simp [withC, withR, ha]
  · cases hb : b.may
    · simp [withC, withR, hb]
    · cases he : a.emp
      · rw [Bool.eq_iff_iff, withR_num (in2a a b) (in2b a b)]
        have hs := both_self (in2a a b) (in2b a b) ha hb
        have hk := meets_num (in2a a b) (in2b a b) ha hb
        have hen := (emp_num (in2a a b)).1 he
        unfold withC
        rw [ha, hb, he]
        simp only [Bool.true_and, Bool.false_or, true_and, Bool.false_eq_true, false_or]
        rw [← hs, alike_iff]
        by_cases hm : a.emp = false ∧ b.emp = false ∧ (Rg.both a b).emp = false
        · have e : Rg.meet a b = some (Rg.both a b) := by simp [Rg.meet, hm.1, hm.2.1, hm.2.2]
          rw [e]
          simp only [metLo, metHi, metOp]
          constructor
          · rintro ⟨h1, h2, h3⟩; exact rg_ext h1 h2 h3
          · intro h; rw [h]; exact ⟨rfl, rfl, rfl⟩
        · have e : Rg.meet a b = none := by
            unfold Rg.meet
            rw [if_pos]
            cases h1 : a.emp <;> cases h2 : b.emp <;> cases h3 : (Rg.both a b).emp <;> simp_all
          rw [e]
          simp only [metLo, metHi, metOp]
          constructor
          · rintro ⟨h1, h2, h3⟩
            exfalso
            rw [← h1, ← h2, ← h3] at hen
            simp at hen
          · intro h
            exfalso
            apply hm
            apply hk.2
            rw [h]
            rcases hen.2 with ⟨h1, -⟩ | ⟨-, h1⟩
            · exact .inl h1
            · exact .inr h1
      · simp [withC, withR, ha, hb, he]

end Go.Proofs.Ytidajlnaehhkkaa
