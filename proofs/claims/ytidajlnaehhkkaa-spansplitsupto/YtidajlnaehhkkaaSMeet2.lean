/-
  Meet, the code's, at any two ranges; and the document's own.
-/
import Derived.Test.YtidajlnaehhkkaaSMeet
namespace Go.Proofs.Ytidajlnaehhkkaa
open Go.RowKit

theorem meet_off {a b : Rg} (h : a.emp = true ∨ b.emp = true) : Rg.meetV (Rg.meet a b) = .tuple #[.agg #[.string ⟨#[]⟩, .string ⟨#[]⟩, .bool false], .bool false] := by
  rcases h with h | h <;> simp [Rg.meet, h, Rg.meetV]

set_option maxHeartbeats 1600000 in
theorem meet_any (alo ahi blo bhi : ByteArray) (aop bop : Bool) (w : World) :
    Calls Try.prog 16 #[.agg #[.string alo, .string ahi, .bool aop], .agg #[.string blo, .string bhi, .bool bop]] w fun e w' => e = .returned (Rg.meetV (Rg.meet ⟨alo, ahi, aop⟩ ⟨blo, bhi, bop⟩)) ∧ Below w.heap.size w w' := by
  cases hA : Rg.emp ⟨alo, ahi, aop⟩
  · cases hB : Rg.emp ⟨blo, bhi, bop⟩
    · exact meet_core alo ahi blo bhi aop bop _ w hA hB rfl
    · have CA := aside (fun w => empty_at hA w)
      have CB := aside (fun w => empty_at hB w)
      have hv := aside (meet_off (a := ⟨alo, ahi, aop⟩) (b := ⟨blo, bhi, bop⟩) (.inr hB))
      clear hA hB
      go_enter Try.func16, Try.ntmps16
      go_wp2_with fail
      refine (CA.out _).mono ?_
      rintro e w1 ⟨rfl, b1⟩
      obtain ⟨kA, kB, kR, b0⟩ := three_new b1
      have KR := aside kR
      obtain ⟨⟨c0, c1, c2⟩, -⟩ := box_out kB
      clear kA kB kR b1
      go_wp2_with fail
      refine (CB.out _).mono ?_
      rintro e w2 ⟨rfl, b2⟩
      obtain ⟨⟨r0, r1, r2⟩, r3, r4, r5⟩ := box_out (keep KR.out b2)
      have b03 := bthen b0 b2
      clear c0 c1 c2 b2
      go_wp2
      refine bodyPost_ret (v := .tuple #[.agg #[.string ⟨#[]⟩, .string ⟨#[]⟩, .bool false], .bool false]) (by simp [results, Try.results16, go_sem, r0, r1, r2]) rfl ⟨ret_val hv.out, ?_⟩
      exact ((b03.setCell (p := ⟨w.heap.size + 1 + 1, 0, none⟩) (by simp; omega) _).setCell (p := ⟨w.heap.size + 1 + 1, 1, none⟩) (by simp; omega) _).setCell (p := ⟨w.heap.size + 1 + 1, 2, none⟩) (by simp; omega) _
  · have CA := aside (fun w => empty_at hA w)
    have hv := aside (meet_off (a := ⟨alo, ahi, aop⟩) (b := ⟨blo, bhi, bop⟩) (.inl hA))
    clear hA
    go_enter Try.func16, Try.ntmps16
    go_wp2_with fail
    refine (CA.out _).mono ?_
    rintro e w1 ⟨rfl, b1⟩
    obtain ⟨kA, kB, kR, b0⟩ := three_new b1
    obtain ⟨⟨r0, r1, r2⟩, r3, r4, r5⟩ := box_out kR
    clear kA kB kR b1
    go_wp2
    refine bodyPost_ret (v := .tuple #[.agg #[.string ⟨#[]⟩, .string ⟨#[]⟩, .bool false], .bool false]) (by simp [results, Try.results16, go_sem, r0, r1, r2]) rfl ⟨ret_val hv.out, ?_⟩
    exact ((b0.setCell (p := ⟨w.heap.size + 1 + 1, 0, none⟩) (by simp; omega) _).setCell (p := ⟨w.heap.size + 1 + 1, 1, none⟩) (by simp; omega) _).setCell (p := ⟨w.heap.size + 1 + 1, 2, none⟩) (by simp; omega) _

/-- What the document's own Meet comes to, of ranges that may be. -/
def refBoth (a b : Rg) : Rg := ⟨Rg.mx a.lo b.lo, bif !b.op && (a.op || Op.bytesLess b.hi.toList a.hi.toList) then b.hi else bif a.op then ⟨#[]⟩ else a.hi, a.op && b.op⟩
def refMeet (a b : Rg) : Option Rg := if !a.may || !b.may || (!(refBoth a b).op && !Op.bytesLess (refBoth a b).lo.toList (refBoth a b).hi.toList) then none else some (refBoth a b)

theorem ref_some {a b r : Rg} (hA : a.may = true) (hB : b.may = true) (h : refBoth a b = r) (he : (r.op || Op.bytesLess r.lo.toList r.hi.toList) = true) : Rg.meetV (refMeet a b) = .tuple #[.agg #[.string r.lo, .string r.hi, .bool r.op], .bool true] := by
  subst h
  have : (!(refBoth a b).op && !Op.bytesLess (refBoth a b).lo.toList (refBoth a b).hi.toList) = false := by
    cases h1 : (refBoth a b).op <;> cases h2 : Op.bytesLess (refBoth a b).lo.toList (refBoth a b).hi.toList <;> simp [h1, h2] at he ⊢
  simp [refMeet, hA, hB, this, Rg.meetV]
theorem ref_none {a b r : Rg} (h : refBoth a b = r) (he : a.may = false ∨ b.may = false ∨ (r.op || Op.bytesLess r.lo.toList r.hi.toList) = false) : Rg.meetV (refMeet a b) = .tuple #[.agg #[.string ⟨#[]⟩, .string ⟨#[]⟩, .bool false], .bool false] := by
  subst h
  rcases he with h | h | h
  · simp [refMeet, h, Rg.meetV]
  · simp [refMeet, h, Rg.meetV]
  · have : (!(refBoth a b).op && !Op.bytesLess (refBoth a b).lo.toList (refBoth a b).hi.toList) = true := by
      cases h1 : (refBoth a b).op <;> cases h2 : Op.bytesLess (refBoth a b).lo.toList (refBoth a b).hi.toList <;> simp [h1, h2] at h ⊢
    simp [refMeet, this, Rg.meetV]

set_option maxHeartbeats 3200000 in
theorem meetRef_core (alo ahi blo bhi : ByteArray) (aop bop : Bool) (m : ByteArray) (w : World) (hA : Rg.may ⟨alo, ahi, aop⟩ = true) (hB : Rg.may ⟨blo, bhi, bop⟩ = true) (hm : Rg.mx alo blo = m) :
    Calls Try.prog 17 #[.agg #[.string alo, .string ahi, .bool aop], .agg #[.string blo, .string bhi, .bool bop]] w fun e w' => e = .returned (Rg.meetV (refMeet ⟨alo, ahi, aop⟩ ⟨blo, bhi, bop⟩)) ∧ Below w.heap.size w w' := by
  have CA := aside (fun w => checkRef_at (may_chk hA) w)
  have CB := aside (fun w => checkRef_at (may_chk hB) w)
  have hmx : ∀ ts t w, (Builtin.max_ ts t #[.string alo, .string blo]).run Try.prog w = .ok (.string m) w := fun ts t w => by rw [run_max2, hm]
  go_enter Try.func17, Try.ntmps17
  go_wp2_with fail
  refine (CA.out _).mono ?_
  rintro e w1 ⟨rfl, b1⟩
  obtain ⟨kA, kB, kR, b0⟩ := three_new b1
  have KA := aside kA; have KB := aside kB; have KR := aside kR
  obtain ⟨⟨a0, a1, a2⟩, -⟩ := box_out kA
  obtain ⟨⟨c0, c1, c2⟩, -⟩ := box_out kB
  clear kA kB kR b1
  go_wp2_with fail
  refine (CB.out _).mono ?_
  rintro e w2 ⟨rfl, b2⟩
  clear a0 a1 a2 c0 c1 c2
  have kA := keep KA.out b2
  have kB := keep KB.out b2
  have kR := keep KR.out b2
  have b02 := bthen b0 b2
  clear KA KB KR b2 b0
  obtain ⟨⟨a0, a1, a2⟩, -⟩ := box_out kA
  obtain ⟨⟨c0, c1, c2⟩, -⟩ := box_out kB
  have n1 := lies kA; have n2 := lies kB; have n3 := lies kR
  obtain ⟨⟨r0, r1, r2⟩, r3, r4, r5⟩ := box_out kR
  clear kA kB kR CA CB
  cases aop
  · cases bop
    · cases hl : Op.bytesLess bhi.toList ahi.toList
      · have hb := aside (show refBoth ⟨alo, ahi, false⟩ ⟨blo, bhi, false⟩ = ⟨m, ahi, false⟩ from by simp [refBoth, hm, hl])
        cases he : Op.bytesLess m.toList (ahi).toList
        · go_wp2
          refine bodyPost_ret (v := .tuple #[.agg #[.string ⟨#[]⟩, .string ⟨#[]⟩, .bool false], .bool false]) (by simp [results, Try.results17, go_sem, r0, r1, r2, n3]) rfl ⟨ret_val (ref_none hb.out (.inr (.inr (by simp [he])))), ?_⟩
          exact (((b02.setCell (p := ⟨w.heap.size + 1 + 1, 0, none⟩) (by simp; omega) _).setCell (p := ⟨w.heap.size + 1 + 1, 1, none⟩) (by simp; omega) _).setCell (p := ⟨w.heap.size + 1 + 1, 2, none⟩) (by simp; omega) _).alloc (by simp; omega) _
        · go_wp2
          refine bodyPost_ret (v := .tuple #[.agg #[.string m, .string ahi, .bool false], .bool true]) (by simp [results, Try.results17, go_sem, r0, r1, r2, n3]) rfl ⟨ret_val (ref_some hA hB hb.out (by simp [he])), ?_⟩
          exact (((b02.setCell (p := ⟨w.heap.size + 1 + 1, 0, none⟩) (by simp; omega) _).setCell (p := ⟨w.heap.size + 1 + 1, 1, none⟩) (by simp; omega) _).setCell (p := ⟨w.heap.size + 1 + 1, 2, none⟩) (by simp; omega) _).alloc (by simp; omega) _
      · have hb := aside (show refBoth ⟨alo, ahi, false⟩ ⟨blo, bhi, false⟩ = ⟨m, bhi, false⟩ from by simp [refBoth, hm, hl])
        cases he : Op.bytesLess m.toList (bhi).toList
        · go_wp2
          refine bodyPost_ret (v := .tuple #[.agg #[.string ⟨#[]⟩, .string ⟨#[]⟩, .bool false], .bool false]) (by simp [results, Try.results17, go_sem, r0, r1, r2, n3]) rfl ⟨ret_val (ref_none hb.out (.inr (.inr (by simp [he])))), ?_⟩
          exact (((b02.setCell (p := ⟨w.heap.size + 1 + 1, 0, none⟩) (by simp; omega) _).setCell (p := ⟨w.heap.size + 1 + 1, 1, none⟩) (by simp; omega) _).setCell (p := ⟨w.heap.size + 1 + 1, 2, none⟩) (by simp; omega) _).alloc (by simp; omega) _
        · go_wp2
          refine bodyPost_ret (v := .tuple #[.agg #[.string m, .string bhi, .bool false], .bool true]) (by simp [results, Try.results17, go_sem, r0, r1, r2, n3]) rfl ⟨ret_val (ref_some hA hB hb.out (by simp [he])), ?_⟩
          exact (((b02.setCell (p := ⟨w.heap.size + 1 + 1, 0, none⟩) (by simp; omega) _).setCell (p := ⟨w.heap.size + 1 + 1, 1, none⟩) (by simp; omega) _).setCell (p := ⟨w.heap.size + 1 + 1, 2, none⟩) (by simp; omega) _).alloc (by simp; omega) _
    · have hb := aside (show refBoth ⟨alo, ahi, false⟩ ⟨blo, bhi, true⟩ = ⟨m, ahi, false⟩ from by simp [refBoth, hm])
      cases he : Op.bytesLess m.toList (ahi).toList
      · go_wp2
        refine bodyPost_ret (v := .tuple #[.agg #[.string ⟨#[]⟩, .string ⟨#[]⟩, .bool false], .bool false]) (by simp [results, Try.results17, go_sem, r0, r1, r2, n3]) rfl ⟨ret_val (ref_none hb.out (.inr (.inr (by simp [he])))), ?_⟩
        exact (((b02.setCell (p := ⟨w.heap.size + 1 + 1, 0, none⟩) (by simp; omega) _).setCell (p := ⟨w.heap.size + 1 + 1, 1, none⟩) (by simp; omega) _).setCell (p := ⟨w.heap.size + 1 + 1, 2, none⟩) (by simp; omega) _).alloc (by simp; omega) _
      · go_wp2
        refine bodyPost_ret (v := .tuple #[.agg #[.string m, .string ahi, .bool false], .bool true]) (by simp [results, Try.results17, go_sem, r0, r1, r2, n3]) rfl ⟨ret_val (ref_some hA hB hb.out (by simp [he])), ?_⟩
        exact (((b02.setCell (p := ⟨w.heap.size + 1 + 1, 0, none⟩) (by simp; omega) _).setCell (p := ⟨w.heap.size + 1 + 1, 1, none⟩) (by simp; omega) _).setCell (p := ⟨w.heap.size + 1 + 1, 2, none⟩) (by simp; omega) _).alloc (by simp; omega) _
  · cases bop
    · have hb := aside (show refBoth ⟨alo, ahi, true⟩ ⟨blo, bhi, false⟩ = ⟨m, bhi, false⟩ from by simp [refBoth, hm])
      cases he : Op.bytesLess m.toList (bhi).toList
      · go_wp2
        refine bodyPost_ret (v := .tuple #[.agg #[.string ⟨#[]⟩, .string ⟨#[]⟩, .bool false], .bool false]) (by simp [results, Try.results17, go_sem, r0, r1, r2, n3]) rfl ⟨ret_val (ref_none hb.out (.inr (.inr (by simp [he])))), ?_⟩
        exact (((b02.setCell (p := ⟨w.heap.size + 1 + 1, 0, none⟩) (by simp; omega) _).setCell (p := ⟨w.heap.size + 1 + 1, 1, none⟩) (by simp; omega) _).setCell (p := ⟨w.heap.size + 1 + 1, 2, none⟩) (by simp; omega) _).alloc (by simp; omega) _
      · go_wp2
        refine bodyPost_ret (v := .tuple #[.agg #[.string m, .string bhi, .bool false], .bool true]) (by simp [results, Try.results17, go_sem, r0, r1, r2, n3]) rfl ⟨ret_val (ref_some hA hB hb.out (by simp [he])), ?_⟩
        exact (((b02.setCell (p := ⟨w.heap.size + 1 + 1, 0, none⟩) (by simp; omega) _).setCell (p := ⟨w.heap.size + 1 + 1, 1, none⟩) (by simp; omega) _).setCell (p := ⟨w.heap.size + 1 + 1, 2, none⟩) (by simp; omega) _).alloc (by simp; omega) _
    · have hb := aside (show refBoth ⟨alo, ahi, true⟩ ⟨blo, bhi, true⟩ = ⟨m, ⟨#[]⟩, true⟩ from by simp [refBoth, hm])
      go_wp2
      refine bodyPost_ret (v := .tuple #[.agg #[.string m, .string ⟨#[]⟩, .bool true], .bool true]) (by simp [results, Try.results17, go_sem, r0, r1, r2, n3]) rfl ⟨ret_val (ref_some hA hB hb.out rfl), ?_⟩
      exact (((b02.setCell (p := ⟨w.heap.size + 1 + 1, 0, none⟩) (by simp; omega) _).setCell (p := ⟨w.heap.size + 1 + 1, 1, none⟩) (by simp; omega) _).setCell (p := ⟨w.heap.size + 1 + 1, 2, none⟩) (by simp; omega) _).alloc (by simp; omega) _

set_option maxHeartbeats 1600000 in
theorem meetRef_any (alo ahi blo bhi : ByteArray) (aop bop : Bool) (w : World) :
    Calls Try.prog 17 #[.agg #[.string alo, .string ahi, .bool aop], .agg #[.string blo, .string bhi, .bool bop]] w fun e w' => e = .returned (Rg.meetV (refMeet ⟨alo, ahi, aop⟩ ⟨blo, bhi, bop⟩)) ∧ Below w.heap.size w w' := by
  cases hA : Rg.may ⟨alo, ahi, aop⟩
  · obtain ⟨c, hc, hne, hnz⟩ := may_not hA
    have CA := aside (fun w => checkRef_at hc w)
    have hv := aside (ref_none (a := ⟨alo, ahi, aop⟩) (b := ⟨blo, bhi, bop⟩) rfl (.inl hA))
    clear hA hc
    go_enter Try.func17, Try.ntmps17
    go_wp2_with fail
    refine (CA.out _).mono ?_
    rintro e w1 ⟨rfl, b1⟩
    obtain ⟨kA, kB, kR, b0⟩ := three_new b1
    obtain ⟨⟨r0, r1, r2⟩, r3, r4, r5⟩ := box_out kR
    clear kA kB kR b1
    go_wp2
    refine bodyPost_ret (v := .tuple #[.agg #[.string ⟨#[]⟩, .string ⟨#[]⟩, .bool false], .bool false]) (by simp [results, Try.results17, go_sem, r0, r1, r2]) rfl ⟨ret_val hv.out, ?_⟩
    exact ((b0.setCell (p := ⟨w.heap.size + 1 + 1, 0, none⟩) (by simp; omega) _).setCell (p := ⟨w.heap.size + 1 + 1, 1, none⟩) (by simp; omega) _).setCell (p := ⟨w.heap.size + 1 + 1, 2, none⟩) (by simp; omega) _
  · cases hB : Rg.may ⟨blo, bhi, bop⟩
    · obtain ⟨c, hc, hne, hnz⟩ := may_not hB
      have CA := aside (fun w => checkRef_at (may_chk hA) w)
      have CB := aside (fun w => checkRef_at hc w)
      have hv := aside (ref_none (a := ⟨alo, ahi, aop⟩) (b := ⟨blo, bhi, bop⟩) rfl (.inr (.inl hB)))
      clear hA hB hc
      go_enter Try.func17, Try.ntmps17
      go_wp2_with fail
      refine (CA.out _).mono ?_
      rintro e w1 ⟨rfl, b1⟩
      obtain ⟨kA, kB, kR, b0⟩ := three_new b1
      have KR := aside kR
      obtain ⟨⟨c0, c1, c2⟩, -⟩ := box_out kB
      clear kA kB kR b1
      go_wp2_with fail
      refine (CB.out _).mono ?_
      rintro e w2 ⟨rfl, b2⟩
      obtain ⟨⟨r0, r1, r2⟩, r3, r4, r5⟩ := box_out (keep KR.out b2)
      have b03 := bthen b0 b2
      clear c0 c1 c2 b2
      go_wp2
      refine bodyPost_ret (v := .tuple #[.agg #[.string ⟨#[]⟩, .string ⟨#[]⟩, .bool false], .bool false]) (by simp [results, Try.results17, go_sem, r0, r1, r2]) rfl ⟨ret_val hv.out, ?_⟩
      exact ((b03.setCell (p := ⟨w.heap.size + 1 + 1, 0, none⟩) (by simp; omega) _).setCell (p := ⟨w.heap.size + 1 + 1, 1, none⟩) (by simp; omega) _).setCell (p := ⟨w.heap.size + 1 + 1, 2, none⟩) (by simp; omega) _
    · exact meetRef_core alo ahi blo bhi aop bop _ w hA hB rfl

end Go.Proofs.Ytidajlnaehhkkaa
