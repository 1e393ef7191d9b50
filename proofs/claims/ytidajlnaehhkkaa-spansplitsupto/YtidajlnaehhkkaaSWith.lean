/-
  Within, the code's and the document's own.
-/
import Derived.Test.YtidajlnaehhkkaaSMeet2
import Derived.Laws.StructEq
namespace Go.Proofs.Ytidajlnaehhkkaa
open Go.RowKit

/-- The range that Meet hands back. -/
def metLo : Option Rg → ByteArray | some r => r.lo | none => ⟨#[]⟩
def metHi : Option Rg → ByteArray | some r => r.hi | none => ⟨#[]⟩
def metOp : Option Rg → Bool | some r => r.op | none => false
def metIs : Option Rg → Bool | some _ => true | none => false

theorem meetV_eq (o : Option Rg) : Rg.meetV o = .tuple #[.agg #[.string (metLo o), .string (metHi o), .bool (metOp o)], .bool (metIs o)] := by cases o <;> rfl

/-- Two ranges alike, field by field. -/
def alike (alo ahi : ByteArray) (aop : Bool) (blo bhi : ByteArray) (bop : Bool) : Bool := (alo.toList == blo.toList) && ((ahi.toList == bhi.toList) && (aop == bop))

/-- What Within comes to. -/
def withC (a b : Rg) : Bool := a.may && b.may && (a.emp || alike (metLo (Rg.meet a b)) (metHi (Rg.meet a b)) (metOp (Rg.meet a b)) a.lo a.hi a.op)

theorem meet_at {alo ahi blo bhi : ByteArray} {aop bop : Bool} {lo hi : ByteArray} {op is : Bool} (h : Rg.meetV (Rg.meet ⟨alo, ahi, aop⟩ ⟨blo, bhi, bop⟩) = .tuple #[.agg #[.string lo, .string hi, .bool op], .bool is]) (w : World) :
    Calls Try.prog 16 #[.agg #[.string alo, .string ahi, .bool aop], .agg #[.string blo, .string bhi, .bool bop]] w fun e w' => e = .returned (.tuple #[.agg #[.string lo, .string hi, .bool op], .bool is]) ∧ Below w.heap.size w w' := by
  rw [← h]; exact meet_any alo ahi blo bhi aop bop w

set_option maxHeartbeats 3200000 in
theorem within_core (alo ahi blo bhi mlo mhi : ByteArray) (aop bop mop mis e : Bool) (w : World) (hA : Rg.may ⟨alo, ahi, aop⟩ = true) (hB : Rg.may ⟨blo, bhi, bop⟩ = true)
    (hM : Rg.meetV (Rg.meet ⟨alo, ahi, aop⟩ ⟨blo, bhi, bop⟩) = .tuple #[.agg #[.string mlo, .string mhi, .bool mop], .bool mis]) (hE : Rg.emp ⟨alo, ahi, aop⟩ = e) :
    Calls Try.prog 18 #[.agg #[.string alo, .string ahi, .bool aop], .agg #[.string blo, .string bhi, .bool bop]] w fun x w' => x = .returned (.bool (e || alike mlo mhi mop alo ahi aop)) ∧ Below w.heap.size w w' := by
  have CA := aside (fun w => mayBe_at hA w)
  have CB := aside (fun w => mayBe_at hB w)
  have CM := aside (fun w => meet_at hM w)
  have CE := aside (fun w => empty_at hE w)
  clear hA hB hM hE
  go_enter Try.func18, Try.ntmps18
  go_wp2_with fail
  refine (CA.out _).mono ?_
  rintro x w1 ⟨rfl, b1⟩
  obtain ⟨kA, kB, b0⟩ := two_new b1
  have KA := aside kA; have KB := aside kB
  obtain ⟨⟨a0, a1, a2⟩, -⟩ := box_out kA
  obtain ⟨⟨c0, c1, c2⟩, -⟩ := box_out kB
  clear kA kB b1
  go_wp2_with fail
  refine (CB.out _).mono ?_
  rintro x w2 ⟨rfl, b2⟩
  clear a0 a1 a2 c0 c1 c2
  have kA := keep KA.out b2
  have kB := keep KB.out b2
  have b02 := bthen b0 b2
  clear KA KB b2 b0 CA CB
  have KA := aside kA
  obtain ⟨⟨a0, a1, a2⟩, -⟩ := box_out kA
  obtain ⟨⟨c0, c1, c2⟩, -⟩ := box_out kB
  clear kA kB
  go_wp2_with fail
  refine (CM.out _).mono ?_
  rintro x w3 ⟨rfl, b3⟩
  clear a0 a1 a2 c0 c1 c2
  have kA := keep KA.out b3
  have b03 := bthen b02 b3
  clear KA b02 b3 CM
  have KA := aside kA
  have n1 := lies kA
  obtain ⟨⟨a0, a1, a2⟩, -⟩ := box_out kA
  clear kA
  go_wp2_with fail
  refine (CE.out _).mono ?_
  rintro x w4 ⟨rfl, b4⟩
  have kA := keep (keepA (p := .cells #[.string mlo, .string mhi, .bool mop] 23) KA.out) (w1 := w3.alloc (.cells #[.string mlo, .string mhi, .bool mop] 23)) b4
  have kM := keep (heap_new w3 (.cells #[.string mlo, .string mhi, .bool mop] 23)) b4
  have b04 := bthen b03 (bthen (bnew w3 (.cells #[.string mlo, .string mhi, .bool mop] 23)) b4)
  clear KA a0 a1 a2 b4 CE
  obtain ⟨⟨a0, a1, a2⟩, -⟩ := box_out kA
  obtain ⟨⟨m0, m1, m2⟩, -⟩ := box_out kM
  clear kA kM
  cases e
  · cases h1 : (mlo.toList == alo.toList) <;> cases h2 : (mhi.toList == ahi.toList) <;> cases h3 : (mop == aop)
    all_goals
      go_wp2
      go_ret
      exact ⟨ret_bool (by simp only [alike, h1, h2, h3]; rfl), b04⟩
  · go_wp2
    go_ret
    exact ⟨rfl, b04⟩

end Go.Proofs.Ytidajlnaehhkkaa
