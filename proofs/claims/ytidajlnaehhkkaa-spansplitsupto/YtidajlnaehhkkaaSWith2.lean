/-
  Within at any two ranges, the code's and the document's own.
-/
import Derived.Test.YtidajlnaehhkkaaSWith
namespace Go.Proofs.Ytidajlnaehhkkaa
open Go.RowKit

/-- What the document's own Within comes to. -/
def withR (a b : Rg) : Bool := a.may && b.may && (a.emp || (!Op.bytesLess a.lo.toList b.lo.toList && (b.op || (!a.op && (Op.bytesLess a.hi.toList b.hi.toList || (a.hi.toList == b.hi.toList))))))

theorem emptyRef_at {lo hi : ByteArray} {op m : Bool} (h : Rg.emp ⟨lo, hi, op⟩ = m) (w : World) :
    Calls Try.prog 13 #[.agg #[.string lo, .string hi, .bool op]] w fun e w' => e = .returned (.bool m) ∧ Below w.heap.size w w' := by
  subst h; exact emptyRef_any lo hi op w

theorem withR_in {a b : Rg} (hA : a.may = true) (hB : b.may = true) (hE : a.emp = false) : withR a b = (!Op.bytesLess a.lo.toList b.lo.toList && (b.op || (!a.op && (Op.bytesLess a.hi.toList b.hi.toList || (a.hi.toList == b.hi.toList))))) := by
  simp [withR, hA, hB, hE]
theorem withR_emp {a b : Rg} (hA : a.may = true) (hB : b.may = true) (hE : a.emp = true) : withR a b = true := by
  simp [withR, hA, hB, hE]

set_option maxHeartbeats 1600000 in
theorem within_any (alo ahi blo bhi : ByteArray) (aop bop : Bool) (w : World) :
    Calls Try.prog 18 #[.agg #[.string alo, .string ahi, .bool aop], .agg #[.string blo, .string bhi, .bool bop]] w fun x w' => x = .returned (.bool (withC ⟨alo, ahi, aop⟩ ⟨blo, bhi, bop⟩)) ∧ Below w.heap.size w w' := by
  cases hA : Rg.may ⟨alo, ahi, aop⟩
  · rw [show withC ⟨alo, ahi, aop⟩ ⟨blo, bhi, bop⟩ = false from by simp [withC, hA]]
    have CA := aside (fun w => mayBe_at hA w)
    clear hA
    go_enter Try.func18, Try.ntmps18
    go_wp2_with fail
    refine (CA.out _).mono ?_
    rintro x w1 ⟨rfl, b1⟩
    obtain ⟨kA, kB, b0⟩ := two_new b1
    clear kA kB b1
    go_wp2
    go_ret
    exact ⟨rfl, b0⟩
  · cases hB : Rg.may ⟨blo, bhi, bop⟩
    · rw [show withC ⟨alo, ahi, aop⟩ ⟨blo, bhi, bop⟩ = false from by simp [withC, hB]]
      have CA := aside (fun w => mayBe_at hA w)
      have CB := aside (fun w => mayBe_at hB w)
      clear hA hB
      go_enter Try.func18, Try.ntmps18
      go_wp2_with fail
      refine (CA.out _).mono ?_
      rintro x w1 ⟨rfl, b1⟩
      obtain ⟨kA, kB, b0⟩ := two_new b1
      obtain ⟨⟨c0, c1, c2⟩, -⟩ := box_out kB
      clear kA kB b1
      go_wp2_with fail
      refine (CB.out _).mono ?_
      rintro x w2 ⟨rfl, b2⟩
      have b02 := bthen b0 b2
      clear c0 c1 c2 b2
      go_wp2
      go_ret
      exact ⟨rfl, b02⟩
    · have h := within_core alo ahi blo bhi _ _ aop bop _ _ _ w hA hB (meetV_eq _) rfl
      rw [show withC ⟨alo, ahi, aop⟩ ⟨blo, bhi, bop⟩ = _ from by unfold withC; rw [hA, hB]]
      exact h

set_option maxHeartbeats 3200000 in
theorem withinRef_core (alo ahi blo bhi : ByteArray) (aop bop e : Bool) (w : World) (hA : Rg.may ⟨alo, ahi, aop⟩ = true) (hB : Rg.may ⟨blo, bhi, bop⟩ = true) (hE : Rg.emp ⟨alo, ahi, aop⟩ = e) :
    Calls Try.prog 19 #[.agg #[.string alo, .string ahi, .bool aop], .agg #[.string blo, .string bhi, .bool bop]] w fun x w' => x = .returned (.bool (e || (!Op.bytesLess alo.toList blo.toList && (bop || (!aop && (Op.bytesLess ahi.toList bhi.toList || (ahi.toList == bhi.toList))))))) ∧ Below w.heap.size w w' := by
  have CA := aside (fun w => checkRef_at (may_chk hA) w)
  have CB := aside (fun w => checkRef_at (may_chk hB) w)
  have CE := aside (fun w => emptyRef_at hE w)
  clear hA hB hE
  go_enter Try.func19, Try.ntmps19
  go_wp2_with fail
  refine (CA.out _).mono ?_
  rintro x w1 ⟨rfl, b1⟩
  obtain ⟨kA, kB, b0⟩ := two_new b1
  have KA := aside kA; have KB := aside kB
  obtain ⟨⟨a0, a1, a2⟩, -⟩ := box_out kA
  obtain ⟨⟨c0, c1, c2⟩, -⟩ := box_out kB
  clear kA kB b1
  go_wp2_with fail
  refine (CB.out _).mono ?_
  rintro x w2 ⟨rfl, b2⟩
  clear a0 a1 a2 c0 c1 c2
  have kA := keep KA.out b2
  have kB := keep KB.out b2
  have b02 := bthen b0 b2
  clear KA KB b2 b0 CA CB
  have KA := aside kA; have KB := aside kB
  obtain ⟨⟨a0, a1, a2⟩, -⟩ := box_out kA
  clear kA kB
  go_wp2_with fail
  refine (CE.out _).mono ?_
  rintro x w3 ⟨rfl, b3⟩
  clear a0 a1 a2
  have b03 := bthen b02 b3
  obtain ⟨⟨a0, a1, a2⟩, -⟩ := box_out (keep KA.out b3)
  obtain ⟨⟨c0, c1, c2⟩, -⟩ := box_out (keep KB.out b3)
  clear KA KB b3 b02 CE
  cases e
  · cases h1 : Op.bytesLess alo.toList blo.toList
    · cases bop
      · cases aop
        · cases h2 : Op.bytesLess ahi.toList bhi.toList <;> cases h3 : (ahi.toList == bhi.toList)
          all_goals
            go_wp2
            go_ret
            exact ⟨ret_bool (by simp only [h1, h2, h3]; rfl), b03⟩
        · go_wp2
          go_ret
          exact ⟨ret_bool (by simp only [h1]; rfl), b03⟩
      · go_wp2
        go_ret
        exact ⟨ret_bool (by simp only [h1]; rfl), b03⟩
    · go_wp2
      go_ret
      exact ⟨ret_bool (by simp only [h1]; rfl), b03⟩
  · go_wp2
    go_ret
    exact ⟨rfl, b03⟩

set_option maxHeartbeats 1600000 in
theorem withinRef_any (alo ahi blo bhi : ByteArray) (aop bop : Bool) (w : World) :
    Calls Try.prog 19 #[.agg #[.string alo, .string ahi, .bool aop], .agg #[.string blo, .string bhi, .bool bop]] w fun x w' => x = .returned (.bool (withR ⟨alo, ahi, aop⟩ ⟨blo, bhi, bop⟩)) ∧ Below w.heap.size w w' := by
  cases hA : Rg.may ⟨alo, ahi, aop⟩
  · rw [show withR ⟨alo, ahi, aop⟩ ⟨blo, bhi, bop⟩ = false from by simp [withR, hA]]
    obtain ⟨c, hc, hne, hnz⟩ := may_not hA
    have CA := aside (fun w => checkRef_at hc w)
    clear hA hc
    go_enter Try.func19, Try.ntmps19
    go_wp2_with fail
    refine (CA.out _).mono ?_
    rintro x w1 ⟨rfl, b1⟩
    obtain ⟨kA, kB, b0⟩ := two_new b1
    clear kA kB b1
    go_wp2
    go_ret
    exact ⟨rfl, b0⟩
  · cases hB : Rg.may ⟨blo, bhi, bop⟩
    · rw [show withR ⟨alo, ahi, aop⟩ ⟨blo, bhi, bop⟩ = false from by simp [withR, hB]]
      obtain ⟨c, hc, hne, hnz⟩ := may_not hB
      have CA := aside (fun w => checkRef_at (may_chk hA) w)
      have CB := aside (fun w => checkRef_at hc w)
      clear hA hB hc
      go_enter Try.func19, Try.ntmps19
      go_wp2_with fail
      refine (CA.out _).mono ?_
      rintro x w1 ⟨rfl, b1⟩
      obtain ⟨kA, kB, b0⟩ := two_new b1
      obtain ⟨⟨c0, c1, c2⟩, -⟩ := box_out kB
      clear kA kB b1
      go_wp2_with fail
      refine (CB.out _).mono ?_
      rintro x w2 ⟨rfl, b2⟩
      have b02 := bthen b0 b2
      clear c0 c1 c2 b2
      go_wp2
      go_ret
      exact ⟨rfl, b02⟩
    · have h := withinRef_core alo ahi blo bhi aop bop _ w hA hB rfl
      rw [show withR ⟨alo, ahi, aop⟩ ⟨blo, bhi, bop⟩ = _ from by unfold withR; rw [hA, hB]]
      exact h

end Go.Proofs.Ytidajlnaehhkkaa
