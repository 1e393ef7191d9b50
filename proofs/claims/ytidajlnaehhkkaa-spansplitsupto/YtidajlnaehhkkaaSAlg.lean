/-
  Plain mathematics of ranges: meeting and lying within, by the code's way and by the document's, are the same; and what follows of them.
-/
import Derived.Test.YtidajlnaehhkkaaSOrd
import Derived.Test.YtidajlnaehhkkaaSWith2
import Derived.Test.YtidajlnaehhkkaaSPrint
namespace Go.Proofs.Ytidajlnaehhkkaa

/-- A range's bounds are among some texts. -/
def In (S : List (List UInt8)) (r : Rg) : Prop := r.lo.toList ∈ S ∧ r.hi.toList ∈ S ∧ [] ∈ S

theorem may_rk {S : List (List UInt8)} {r : Rg} (h : In S r) : r.may = true ↔ ((r.lo.size : Int) ≤ 16 ∧ (r.hi.size : Int) ≤ 16) ∧ ((r.op = true ∧ rk S r.hi.toList = rk S []) ∨ (r.op = false ∧ rk S r.lo.toList ≤ rk S r.hi.toList)) := by
  obtain ⟨h1, h2, h3⟩ := h
  have e1 := rk_lt h1 h2; have e2 := rk_eq h1 h2
  have e3 : r.hi.toList.isEmpty = decide (rk S r.hi.toList = rk S []) := by rw [← rk_eq h2 h3]; cases r.hi.toList <;> rfl
  unfold Rg.may Rg.chk
  rw [e1, e2, e3]
  by_cases hs : 16 < (r.lo.size : Int) ∨ 16 < (r.hi.size : Int)
  · rw [if_pos hs]
    constructor
    · intro h; cases h
    · rintro ⟨⟨g1, g2⟩, -⟩; omega
  · rw [if_neg hs]
    cases r.op
    · by_cases h4 : rk S r.lo.toList < rk S r.hi.toList
      · simp [h4]; omega
      · by_cases h5 : rk S r.lo.toList = rk S r.hi.toList
        · simp [h5]; omega
        · simp [h4, h5]; omega
    · by_cases h4 : rk S r.hi.toList = rk S []
      · simp [h4]; omega
      · simp [h4]

theorem emp_rk {S : List (List UInt8)} {r : Rg} (h : In S r) : r.emp = false ↔ r.may = true ∧ (r.op = true ∨ rk S r.lo.toList ≠ rk S r.hi.toList) := by
  obtain ⟨h1, h2, h3⟩ := h
  unfold Rg.emp
  rw [rk_eq h1 h2]
  cases r.may <;> cases r.op <;> simp

theorem has_rk {S : List (List UInt8)} {r : Rg} {k : ByteArray} (h : In S r) (hk : k.toList ∈ S) : r.has k = true ↔ r.may = true ∧ (k.size : Int) ≤ 16 ∧ rk S r.lo.toList ≤ rk S k.toList ∧ (r.op = true ∨ rk S k.toList < rk S r.hi.toList) := by
  obtain ⟨h1, h2, h3⟩ := h
  unfold Rg.has
  rw [rk_lt hk h1, rk_lt hk h2]
  cases r.may <;> cases r.op <;> simp [Nat.not_lt, and_assoc]

theorem str_rk {S : List (List UInt8)} {a b : ByteArray} (ha : a.toList ∈ S) (hb : b.toList ∈ S) (h : rk S a.toList = rk S b.toList) : a = b :=
  toList_inj (by have := rk_eq ha hb; rw [decide_eq_true h] at this; exact eq_of_beq this)

theorem mx_rk {S : List (List UInt8)} {a b : ByteArray} (ha : a.toList ∈ S) (hb : b.toList ∈ S) : (Rg.mx a b).toList ∈ S ∧ rk S (Rg.mx a b).toList = max (rk S a.toList) (rk S b.toList) ∧ (Rg.mx a b = a ∨ Rg.mx a b = b) := by
  unfold Rg.mx
  rw [rk_lt ha hb]
  by_cases h : rk S a.toList < rk S b.toList
  · simp [h, hb]; omega
  · simp [h, ha]; omega

/-- What the bounds of a meeting are. -/
theorem both_rk {S : List (List UInt8)} {a b : Rg} (ha : In S a) (hb : In S b) : In S (Rg.both a b) ∧ rk S (Rg.both a b).lo.toList = max (rk S a.lo.toList) (rk S b.lo.toList) ∧
    ((a.op = true ∧ (Rg.both a b).hi = b.hi ∧ (Rg.both a b).op = b.op) ∨ (a.op = false ∧ b.op = true ∧ (Rg.both a b).hi = a.hi ∧ (Rg.both a b).op = false) ∨
      (a.op = false ∧ b.op = false ∧ (Rg.both a b).op = false ∧ ((rk S b.hi.toList < rk S a.hi.toList ∧ (Rg.both a b).hi = b.hi) ∨ (rk S a.hi.toList ≤ rk S b.hi.toList ∧ (Rg.both a b).hi = a.hi)))) ∧
    ((Rg.both a b).lo = a.lo ∨ (Rg.both a b).lo = b.lo) := by
  obtain ⟨a1, a2, a3⟩ := ha
  obtain ⟨b1, b2, b3⟩ := hb
  obtain ⟨m1, m2, m3⟩ := mx_rk a1 b1
  unfold Rg.both
  rw [rk_lt b2 a2]
  refine ⟨⟨m1, ?_, a3⟩, m2, ?_, m3⟩
  · dsimp only
    cases a.op <;> cases b.op <;> by_cases h : rk S b.hi.toList < rk S a.hi.toList <;> simp [h, a2, b2]
  · cases a.op <;> cases b.op <;> by_cases h : rk S b.hi.toList < rk S a.hi.toList <;> simp [h] <;> omega

/-- Some texts: the bounds of two ranges, and the empty one. -/
def S2 (a b : Rg) : List (List UInt8) := [a.lo.toList, a.hi.toList, b.lo.toList, b.hi.toList, []]
theorem in2a (a b : Rg) : In (S2 a b) a := ⟨by simp [S2], by simp [S2], by simp [S2]⟩
theorem in2b (a b : Rg) : In (S2 a b) b := ⟨by simp [S2], by simp [S2], by simp [S2]⟩

theorem emp_of_not_may {r : Rg} (h : r.may = false) : r.emp = true := by simp [Rg.emp, h]

theorem both_small {a b : Rg} (ha : a.may = true) (hb : b.may = true) : ((Rg.both a b).lo.size : Int) ≤ 16 ∧ ((Rg.both a b).hi.size : Int) ≤ 16 := by
  obtain ⟨a1, a2⟩ := may_small ha
  obtain ⟨b1, b2⟩ := may_small hb
  obtain ⟨-, -, h3, h4⟩ := both_rk (in2a a b) (in2b a b)
  constructor
  · rcases h4 with h | h <;> rw [h] <;> omega
  · rcases h3 with ⟨-, h, -⟩ | ⟨-, -, h, -⟩ | ⟨-, -, -, ⟨-, h⟩ | ⟨-, h⟩⟩ <;> rw [h] <;> omega

theorem empty_str {b : Rg} (hb : b.may = true) (ho : b.op = true) : b.hi = ⟨#[]⟩ := by
  have h := (may_rk (in2b b b)).1 hb
  rcases h.2 with ⟨-, h2⟩ | ⟨h2, -⟩
  · apply toList_inj
    have e4 : (⟨#[]⟩ : ByteArray).toList = [] := ByteArray.toList_mk []
    have := rk_eq (in2b b b).2.1 (in2b b b).2.2
    rw [decide_eq_true h2] at this
    rw [e4]; exact eq_of_beq this
  · rw [ho] at h2; cases h2

/-- Where both may be, the code's meeting is the document's. -/
theorem both_eq {a b : Rg} (hb : b.may = true) : Rg.both a b = refBoth a b := by
  have hbe := fun h => empty_str hb h
  unfold Rg.both refBoth
  cases h1 : a.op <;> cases h2 : b.op
  · cases Op.bytesLess b.hi.toList a.hi.toList <;> simp
  · simp
  · simp
  · simp [hbe h2]

/-- A range that is not empty, by the places of its bounds. -/
theorem emp_num {S : List (List UInt8)} {r : Rg} (h : In S r) : r.emp = false ↔ ((r.lo.size : Int) ≤ 16 ∧ (r.hi.size : Int) ≤ 16) ∧ ((r.op = true ∧ rk S r.hi.toList = rk S []) ∨ (r.op = false ∧ rk S r.lo.toList < rk S r.hi.toList)) := by
  rw [emp_rk h, may_rk h]
  cases r.op <;> simp <;> omega

/-- Whether two ranges that may be meet, by the places of their bounds. -/
theorem meets_num {S : List (List UInt8)} {a b : Rg} (hA : In S a) (hB : In S b) (ha : a.may = true) (hb : b.may = true) :
    (a.emp = false ∧ b.emp = false ∧ (Rg.both a b).emp = false) ↔ ((Rg.both a b).op = true ∨ rk S (Rg.both a b).lo.toList < rk S (Rg.both a b).hi.toList) := by
  obtain ⟨h1, h2, h3, -⟩ := both_rk hA hB
  have hs := both_small ha hb
  have ma := (may_rk hA).1 ha
  have mb := (may_rk hB).1 hb
  rw [emp_num h1, emp_num hA, emp_num hB]
  rcases h3 with ⟨o1, e1, e2⟩ | ⟨o1, o2, e1, e2⟩ | ⟨o1, o2, e2, h3⟩
  · cases h5 : b.op
    · rw [h5] at e2
      simp only [o1, h5, e1, e2, h2] at *
      simp at *
      omega
    · rw [h5] at e2
      simp only [o1, h5, e1, e2, h2] at *
      simp at *
      omega
  · simp only [o1, o2, e1, e2, h2] at *
    simp at *
    omega
  · simp only [o1, o2, e2, h2] at *
    rcases h3 with ⟨h, e1⟩ | ⟨h, e1⟩
    · simp only [e1] at *
      simp at *
      omega
    · simp only [e1] at *
      simp at *
      omega

theorem meet_eq (a b : Rg) : Rg.meet a b = refMeet a b := by
  cases ha : a.may
  · simp [Rg.meet, refMeet, ha, emp_of_not_may ha]
  · cases hb : b.may
    · simp [Rg.meet, refMeet, hb, emp_of_not_may hb]
    · obtain ⟨h1, -⟩ := both_rk (in2a a b) (in2b a b)
      have hk := meets_num (in2a a b) (in2b a b) ha hb
      have key : (a.emp || b.emp || (Rg.both a b).emp) = (!(Rg.both a b).op && !Op.bytesLess (Rg.both a b).lo.toList (Rg.both a b).hi.toList) := by
        rw [rk_lt h1.1 h1.2.1]
        rw [← Bool.not_inj_iff, Bool.eq_iff_iff]
        simp only [Bool.not_or, Bool.and_eq_true, Bool.not_eq_true', Bool.not_and, Bool.not_not, Bool.or_eq_true, decide_eq_true_eq]
        rw [and_assoc]
        exact hk
      unfold Rg.meet refMeet
      rw [key, ← both_eq hb, ha, hb]
      rfl

end Go.Proofs.Ytidajlnaehhkkaa
