/-
  Within at any two ranges, the code's and the document's own.
-/
import Derived.Test.YtidajlnaehhkkabSWith
namespace Go.Proofs.Ytidajlnaehhkkab
open Go.RowKit

/-- What the document's own Within comes to. -/
def withR (a b : Rg) : Bool := a.may && b.may && (a.emp || (!Op.bytesLess a.lo.toList b.lo.toList && (b.op || (!a.op && (Op.bytesLess a.hi.toList b.hi.toList || (a.hi.toList == b.hi.toList))))))

theorem withR_in {a b : Rg} (hA : a.may = true) (hB : b.may = true) (hE : a.emp = false) : withR a b = (!Op.bytesLess a.lo.toList b.lo.toList && (b.op || (!a.op && (Op.bytesLess a.hi.toList b.hi.toList || (a.hi.toList == b.hi.toList))))) := by
  simp [withR, hA, hB, hE]
theorem withR_emp {a b : Rg} (hA : a.may = true) (hB : b.may = true) (hE : a.emp = true) : withR a b = true := by
  simp [withR, hA, hB, hE]

set_option maxHeartbeats 1600000 in
theorem within_any (alo ahi blo bhi : ByteArray) (aop bop : Bool) (w : World) :
    Calls Try.prog 12 #[.agg #[.string alo, .string ahi, .bool aop], .agg #[.string blo, .string bhi, .bool bop]] w fun x w' => x = .returned (.bool (withC ⟨alo, ahi, aop⟩ ⟨blo, bhi, bop⟩)) ∧ Below w.heap.size w w' := by
  cases hA : Rg.may ⟨alo, ahi, aop⟩
  · rw [show withC ⟨alo, ahi, aop⟩ ⟨blo, bhi, bop⟩ = false from by simp [withC, hA]]
    have CA := aside (fun w => mayBe_at hA w)
    clear hA
    go_enter Try.func12, Try.ntmps12
    go_wp2_with fail
    refine (CA.out _).mono ?_
    rintro x w1 ⟨rfl, b1⟩
    obtain ⟨kA, kB, b0⟩ := two_new b1
    clear kA kB b1
    go_wp2
    go_ret
    exact ⟨rfl, b0⟩
  · cases hB : Rg.may ⟨blo, bhi, bop⟩
    · rw [show withC ⟨alo, ahi, aop⟩ ⟨blo, bhi, bop⟩ = false from by simp [withC, hB]]
      have CA := aside (fun w => mayBe_at hA w)
      have CB := aside (fun w => mayBe_at hB w)
      clear hA hB
      go_enter Try.func12, Try.ntmps12
      go_wp2_with fail
      refine (CA.out _).mono ?_
      rintro x w1 ⟨rfl, b1⟩
      obtain ⟨kA, kB, b0⟩ := two_new b1
      obtain ⟨⟨c0, c1, c2⟩, -⟩ := box_out kB
      clear kA kB b1
      go_wp2_with fail
      refine (CB.out _).mono ?_
      rintro x w2 ⟨rfl, b2⟩
      have b02 := bthen b0 b2
      clear c0 c1 c2 b2
      go_wp2
      go_ret
      exact ⟨rfl, b02⟩
    · have h := within_core alo ahi blo bhi _ _ aop bop _ _ _ w hA hB (meetV_eq _) rfl
      rw [show withC ⟨alo, ahi, aop⟩ ⟨blo, bhi, bop⟩ = _ from by unfold withC; rw [hA, hB]]
      exact h

end Go.Proofs.Ytidajlnaehhkkab
