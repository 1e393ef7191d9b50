/-
  The law MergeAbove, walked.
-/
import Derived.Test.YtgailbfoicoaiaaMgCall2
import Derived.Test.YtgailbfoicoaiaaMgPl3
namespace Go.Proofs.Ytgailbfoicoaiaa
open Go.RowKit
set_option linter.unusedVariables false

set_option maxHeartbeats 12800000 in
set_option maxRecDepth 100000 in
theorem lmabove_walk (a : Option Addr) (la ca : Nat) (Ma : List En) (b : Option Addr) (lb cb : Nat) (Mb : List En) (c : Option Addr) (lc cc : Nat) (Mc : List En) (w : World) (ha : Lst w a la ca Ma) (hb : Lst w b lb cb Mb) (hc : Lst w c lc cc Mc) :
    Calls Try.prog 4 #[.slice a la ca, .slice b lb cb, .slice c lc cc] w fun e w' => e = .returned (.bool true) ∧ Below w.heap.size w w' := by
  have BW := aside (Below.refl w.heap.size w)
  have La := aside ha
  have Lb := aside hb
  have Lc := aside hc
  have CB := aside (beyond3 ha hb hc)
  clear ha hb hc
  go_enter Try.func4, Try.ntmps4
  go_wp2_with fail
  refine CB.out.mono ?_
  rintro e w1 ⟨q, rfl, hq, b1⟩
  replace BW := aside (bthen BW.out b1)
  replace La := aside (La.out.keep b1)
  replace Lb := aside (Lb.out.keep b1)
  replace Lc := aside (Lc.out.keep b1)
  have HQ := aside hq
  clear b1 hq CB
  cases q
  case true =>
    go_wp2
    go_ret
    exact ⟨rfl, BW.out⟩
  have HN := aside (HQ.out rfl)
  clear HQ
  go_wp2_with fail
  refine (cleanL_any La.out Lb.out (by have := HN.out; omega)).mono ?_
  rintro e w2 ⟨q, rfl, hq, b2⟩
  replace BW := aside (bthen BW.out b2)
  replace La := aside (La.out.keep b2)
  replace Lb := aside (Lb.out.keep b2)
  replace Lc := aside (Lc.out.keep b2)
  have HQ := aside hq
  clear hq
  cases q
  case false =>
    go_wp2
    go_ret
    exact ⟨rfl, BW.out⟩
  have Kab := aside (HQ.out rfl)
  clear HQ
  clear b2
  go_wp2_with fail
  refine (cleanL_any Lb.out Lc.out (by have := HN.out; omega)).mono ?_
  rintro e w3 ⟨q, rfl, hq, b3⟩
  replace BW := aside (bthen BW.out b3)
  replace La := aside (La.out.keep b3)
  replace Lb := aside (Lb.out.keep b3)
  replace Lc := aside (Lc.out.keep b3)
  have HQ := aside hq
  clear hq
  cases q
  case false =>
    go_wp2
    go_ret
    exact ⟨rfl, BW.out⟩
  have Kbc := aside (HQ.out rfl)
  clear HQ
  clear b3
  go_wp2_with fail
  refine (cleanL_any La.out Lc.out (by have := HN.out; omega)).mono ?_
  rintro e w4 ⟨q, rfl, hq, b4⟩
  replace BW := aside (bthen BW.out b4)
  replace La := aside (La.out.keep b4)
  replace Lb := aside (Lb.out.keep b4)
  replace Lc := aside (Lc.out.keep b4)
  have HQ := aside hq
  clear hq
  cases q
  case false =>
    go_wp2
    go_ret
    exact ⟨rfl, BW.out⟩
  have Kac := aside (HQ.out rfl)
  clear HQ
  clear b4
  have ma := aside Kab.out.1
  have mb := aside Kab.out.2.1
  have mc := aside Kbc.out.2.1
  obtain ⟨qab, hqab⟩ : ∃ q, abL Ma Mb = q := ⟨_, rfl⟩
  obtain ⟨qba, hqba⟩ : ∃ q, abL Mb Ma = q := ⟨_, rfl⟩
  obtain ⟨qbc, hqbc⟩ : ∃ q, abL Mb Mc = q := ⟨_, rfl⟩
  obtain ⟨qac, hqac⟩ : ∃ q, abL Ma Mc = q := ⟨_, rfl⟩
  have Hab := aside hqab
  have Hba := aside hqba
  have Hbc := aside hqbc
  have Hac := aside hqac
  have HD := aside (ab_diff ma.out mb.out)
  rw [hqab, hqba] at HD
  have HT := aside (fun h1 h2 => hqac.symm.trans (ab_trans ma.out mb.out mc.out (hqab.trans h1) (hqbc.trans h2)))
  have HE := aside (fun h1 h2 => ab_eq ma.out mb.out Kab.out.2.2 (hqab.trans h1) (hqba.trans h2))
  clear hqab hqba hqbc hqac
  go_wp2_with fail
  refine (aboveL_ok La.out Lb.out ma.out mb.out (by have := HN.out; omega) Hab.out).mono ?_
  rintro e w5 ⟨rfl, b5⟩
  replace BW := aside (bthen BW.out b5)
  replace La := aside (La.out.keep b5)
  replace Lb := aside (Lb.out.keep b5)
  replace Lc := aside (Lc.out.keep b5)
  clear b5
  go_wp2_with fail
  refine (aboveL_ok Lb.out La.out mb.out ma.out (by have := HN.out; omega) Hba.out).mono ?_
  rintro e w6 ⟨rfl, b6⟩
  replace BW := aside (bthen BW.out b6)
  replace La := aside (La.out.keep b6)
  replace Lb := aside (Lb.out.keep b6)
  replace Lc := aside (Lc.out.keep b6)
  clear b6
  go_wp2_with fail
  refine (aboveL_ok Lb.out Lc.out mb.out mc.out (by have := HN.out; omega) Hbc.out).mono ?_
  rintro e w7 ⟨rfl, b7⟩
  replace BW := aside (bthen BW.out b7)
  replace La := aside (La.out.keep b7)
  replace Lb := aside (Lb.out.keep b7)
  replace Lc := aside (Lc.out.keep b7)
  clear b7
  go_wp2_with fail
  refine (aboveL_ok La.out Lc.out ma.out mc.out (by have := HN.out; omega) Hac.out).mono ?_
  rintro e w8 ⟨rfl, b8⟩
  replace BW := aside (bthen BW.out b8)
  replace La := aside (La.out.keep b8)
  replace Lb := aside (Lb.out.keep b8)
  replace Lc := aside (Lc.out.keep b8)
  clear b8
  go_wp2_with fail
  refine (diffL_ok La.out Lb.out ma.out mb.out (by have := HN.out; omega)).mono ?_
  rintro e w9 ⟨dd, nd, cd, rfl, ld, b9⟩
  replace BW := aside (bthen BW.out b9)
  replace La := aside (La.out.keep b9)
  replace Lb := aside (Lb.out.keep b9)
  replace Lc := aside (Lc.out.keep b9)
  have LD := aside ld.len
  rw [LD.out] at HD
  clear ld
  clear b9
  go_wp2_with fail
  refine (aboveL_ok La.out La.out ma.out ma.out (by have := HN.out; omega) (ab_self ma.out)).mono ?_
  rintro e w10 ⟨rfl, b10⟩
  replace BW := aside (bthen BW.out b10)
  replace La := aside (La.out.keep b10)
  replace Lb := aside (Lb.out.keep b10)
  replace Lc := aside (Lc.out.keep b10)
  clear b10
  clear Hab Hba Hbc Hac
  cases qab <;> cases qba <;> cases qbc <;> cases qac
  · -- false false false false
    have hnd : ((nd : Int) == 0) = false := by have h1 := HD.out; have : nd ≠ 0 := by simpa using h1.symm
                                               simp; omega
    go_wp2
    go_ret
    exact ⟨rfl, BW.out⟩
  · -- false false false true
    have hnd : ((nd : Int) == 0) = false := by have h1 := HD.out; have : nd ≠ 0 := by simpa using h1.symm
                                               simp; omega
    go_wp2
    go_ret
    exact ⟨rfl, BW.out⟩
  · -- false false true false
    have hnd : ((nd : Int) == 0) = false := by have h1 := HD.out; have : nd ≠ 0 := by simpa using h1.symm
                                               simp; omega
    go_wp2
    go_ret
    exact ⟨rfl, BW.out⟩
  · -- false false true true
    have hnd : ((nd : Int) == 0) = false := by have h1 := HD.out; have : nd ≠ 0 := by simpa using h1.symm
                                               simp; omega
    go_wp2
    go_ret
    exact ⟨rfl, BW.out⟩
  · -- false true false false
    have hnd : ((nd : Int) == 0) = false := by have h1 := HD.out; have : nd ≠ 0 := by simpa using h1.symm
                                               simp; omega
    go_wp2
    go_ret
    exact ⟨rfl, BW.out⟩
  · -- false true false true
    have hnd : ((nd : Int) == 0) = false := by have h1 := HD.out; have : nd ≠ 0 := by simpa using h1.symm
                                               simp; omega
    go_wp2
    go_ret
    exact ⟨rfl, BW.out⟩
  · -- false true true false
    have hnd : ((nd : Int) == 0) = false := by have h1 := HD.out; have : nd ≠ 0 := by simpa using h1.symm
                                               simp; omega
    go_wp2
    go_ret
    exact ⟨rfl, BW.out⟩
  · -- false true true true
    have hnd : ((nd : Int) == 0) = false := by have h1 := HD.out; have : nd ≠ 0 := by simpa using h1.symm
                                               simp; omega
    go_wp2
    go_ret
    exact ⟨rfl, BW.out⟩
  · -- true false false false
    have hnd : ((nd : Int) == 0) = false := by have h1 := HD.out; have : nd ≠ 0 := by simpa using h1.symm
                                               simp; omega
    go_wp2
    go_ret
    exact ⟨rfl, BW.out⟩
  · -- true false false true
    have hnd : ((nd : Int) == 0) = false := by have h1 := HD.out; have : nd ≠ 0 := by simpa using h1.symm
                                               simp; omega
    go_wp2
    go_ret
    exact ⟨rfl, BW.out⟩
  · -- true false true false
    exact absurd (HT.out rfl rfl) (by decide)
  · -- true false true true
    have hnd : ((nd : Int) == 0) = false := by have h1 := HD.out; have : nd ≠ 0 := by simpa using h1.symm
                                               simp; omega
    go_wp2
    go_ret
    exact ⟨rfl, BW.out⟩
  · -- true true false false
    obtain rfl : nd = 0 := by have := HD.out; simpa using this.symm
    have CS := aside (sameL La.out Lb.out (HE.out rfl rfl))
    go_wp2_with fail
    refine CS.out.mono ?_
    rintro e w99 ⟨rfl, b99⟩
    replace BW := aside (bthen BW.out b99)
    clear b99 CS
    go_wp2
    go_ret
    exact ⟨rfl, BW.out⟩
  · -- true true false true
    obtain rfl : nd = 0 := by have := HD.out; simpa using this.symm
    have CS := aside (sameL La.out Lb.out (HE.out rfl rfl))
    go_wp2_with fail
    refine CS.out.mono ?_
    rintro e w99 ⟨rfl, b99⟩
    replace BW := aside (bthen BW.out b99)
    clear b99 CS
    go_wp2
    go_ret
    exact ⟨rfl, BW.out⟩
  · -- true true true false
    exact absurd (HT.out rfl rfl) (by decide)
  · -- true true true true
    obtain rfl : nd = 0 := by have := HD.out; simpa using this.symm
    have CS := aside (sameL La.out Lb.out (HE.out rfl rfl))
    go_wp2_with fail
    refine CS.out.mono ?_
    rintro e w99 ⟨rfl, b99⟩
    replace BW := aside (bthen BW.out b99)
    clear b99 CS
    go_wp2
    go_ret
    exact ⟨rfl, BW.out⟩

end Go.Proofs.Ytgailbfoicoaiaa
