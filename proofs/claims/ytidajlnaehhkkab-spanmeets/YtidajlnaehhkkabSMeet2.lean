/-
  Meet, the code's, at any two ranges; and the document's own.
-/
import Derived.Test.YtidajlnaehhkkabSMeet
namespace Go.Proofs.Ytidajlnaehhkkab
open Go.RowKit

theorem meet_off {a b : Rg} (h : a.emp = true ∨ b.emp = true) : Rg.meetV (Rg.meet a b) = .tuple #[.agg #[.string ⟨#[]⟩, .string ⟨#[]⟩, .bool false], .bool false] := by
  rcases h with h | h <;> simp [Rg.meet, h, Rg.meetV]

set_option maxHeartbeats 1600000 in
theorem meet_any (alo ahi blo bhi : ByteArray) (aop bop : Bool) (w : World) :
    Calls Try.prog 13 #[.agg #[.string alo, .string ahi, .bool aop], .agg #[.string blo, .string bhi, .bool bop]] w fun e w' => e = .returned (Rg.meetV (Rg.meet ⟨alo, ahi, aop⟩ ⟨blo, bhi, bop⟩)) ∧ Below w.heap.size w w' := by
  cases hA : Rg.emp ⟨alo, ahi, aop⟩
  · cases hB : Rg.emp ⟨blo, bhi, bop⟩
    · exact meet_core alo ahi blo bhi aop bop _ w hA hB rfl
    · have CA := aside (fun w => empty_at hA w)
      have CB := aside (fun w => empty_at hB w)
      have hv := aside (meet_off (a := ⟨alo, ahi, aop⟩) (b := ⟨blo, bhi, bop⟩) (.inr hB))
      clear hA hB
      go_enter Try.func13, Try.ntmps13
      go_wp2_with fail
      refine (CA.out _).mono ?_
      rintro e w1 ⟨rfl, b1⟩
      obtain ⟨kA, kB, kR, b0⟩ := three_new b1
      have KR := aside kR
      obtain ⟨⟨c0, c1, c2⟩, -⟩ := box_out kB
      clear kA kB kR b1
      go_wp2_with fail
      refine (CB.out _).mono ?_
      rintro e w2 ⟨rfl, b2⟩
      obtain ⟨⟨r0, r1, r2⟩, r3, r4, r5⟩ := box_out (keep KR.out b2)
      have b03 := bthen b0 b2
      clear c0 c1 c2 b2
      go_wp2
      refine bodyPost_ret (v := .tuple #[.agg #[.string ⟨#[]⟩, .string ⟨#[]⟩, .bool false], .bool false]) (by simp [results, Try.results13, go_sem, r0, r1, r2]) rfl ⟨ret_val hv.out, ?_⟩
      exact ((b03.setCell (p := ⟨w.heap.size + 1 + 1, 0, none⟩) (by simp; omega) _).setCell (p := ⟨w.heap.size + 1 + 1, 1, none⟩) (by simp; omega) _).setCell (p := ⟨w.heap.size + 1 + 1, 2, none⟩) (by simp; omega) _
  · have CA := aside (fun w => empty_at hA w)
    have hv := aside (meet_off (a := ⟨alo, ahi, aop⟩) (b := ⟨blo, bhi, bop⟩) (.inl hA))
    clear hA
    go_enter Try.func13, Try.ntmps13
    go_wp2_with fail
    refine (CA.out _).mono ?_
    rintro e w1 ⟨rfl, b1⟩
    obtain ⟨kA, kB, kR, b0⟩ := three_new b1
    obtain ⟨⟨r0, r1, r2⟩, r3, r4, r5⟩ := box_out kR
    clear kA kB kR b1
    go_wp2
    refine bodyPost_ret (v := .tuple #[.agg #[.string ⟨#[]⟩, .string ⟨#[]⟩, .bool false], .bool false]) (by simp [results, Try.results13, go_sem, r0, r1, r2]) rfl ⟨ret_val hv.out, ?_⟩
    exact ((b0.setCell (p := ⟨w.heap.size + 1 + 1, 0, none⟩) (by simp; omega) _).setCell (p := ⟨w.heap.size + 1 + 1, 1, none⟩) (by simp; omega) _).setCell (p := ⟨w.heap.size + 1 + 1, 2, none⟩) (by simp; omega) _

/-- What the document's own Meet comes to, of ranges that may be. -/
def refBoth (a b : Rg) : Rg := ⟨Rg.mx a.lo b.lo, bif !b.op && (a.op || Op.bytesLess b.hi.toList a.hi.toList) then b.hi else bif a.op then ⟨#[]⟩ else a.hi, a.op && b.op⟩
def refMeet (a b : Rg) : Option Rg := if !a.may || !b.may || (!(refBoth a b).op && !Op.bytesLess (refBoth a b).lo.toList (refBoth a b).hi.toList) then none else some (refBoth a b)

theorem ref_some {a b r : Rg} (hA : a.may = true) (hB : b.may = true) (h : refBoth a b = r) (he : (r.op || Op.bytesLess r.lo.toList r.hi.toList) = true) : Rg.meetV (refMeet a b) = .tuple #[.agg #[.string r.lo, .string r.hi, .bool r.op], .bool true] := by
  subst h
  have : (!(refBoth a b).op && !Op.bytesLess (refBoth a b).lo.toList (refBoth a b).hi.toList) = false := by
    cases h1 : (refBoth a b).op <;> cases h2 : Op.bytesLess (refBoth a b).lo.toList (refBoth a b).hi.toList <;> simp [h1, h2] at he ⊢
  simp [refMeet, hA, hB, this, Rg.meetV]
theorem ref_none {a b r : Rg} (h : refBoth a b = r) (he : a.may = false ∨ b.may = false ∨ (r.op || Op.bytesLess r.lo.toList r.hi.toList) = false) : Rg.meetV (refMeet a b) = .tuple #[.agg #[.string ⟨#[]⟩, .string ⟨#[]⟩, .bool false], .bool false] := by
  subst h
  rcases he with h | h | h
  · simp [refMeet, h, Rg.meetV]
  · simp [refMeet, h, Rg.meetV]
  · have : (!(refBoth a b).op && !Op.bytesLess (refBoth a b).lo.toList (refBoth a b).hi.toList) = true := by
      cases h1 : (refBoth a b).op <;> cases h2 : Op.bytesLess (refBoth a b).lo.toList (refBoth a b).hi.toList <;> simp [h1, h2] at h ⊢
    simp [refMeet, this, Rg.meetV]

end Go.Proofs.Ytidajlnaehhkkab
