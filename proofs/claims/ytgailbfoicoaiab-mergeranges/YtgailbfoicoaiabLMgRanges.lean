/-
  The law MergeRanges, walked.
-/
import Derived.Test.YtgailbfoicoaiabMgCall3
import Derived.Test.YtgailbfoicoaiabMgPl4
import Derived.Test.YtgailbfoicoaiabMgSpo
namespace Go.Proofs.Ytgailbfoicoaiab
open Go.RowKit
set_option linter.unusedVariables false

set_option maxHeartbeats 6400000 in
set_option maxRecDepth 100000 in
theorem lmranges_walk (a : Option Addr) (la ca : Nat) (Ma : List En) (b : Option Addr) (lb cb : Nat) (Mb : List En) (lo hi : ByteArray) (op : Bool) (w : World) (ha : Lst w a la ca Ma) (hb : Lst w b lb cb Mb) :
    Calls Try.prog 5 #[.slice a la ca, .slice b lb cb, .agg #[.string lo, .string hi, .bool op]] w fun e w' => e = .returned (.bool true) ∧ Below w.heap.size w w' := by
  have B0 := aside (bnew w (.cells #[.string lo, .string hi, .bool op] 39))
  have K1 := aside (heap_alloc_new w (.cells #[.string lo, .string hi, .bool op] 39))
  have La := aside (ha.keep B0.out)
  have Lb := aside (hb.keep B0.out)
  have CB := aside (beyond2 La.out Lb.out)
  rw [World.size_alloc] at CB
  clear ha hb
  go_enter Try.func5, Try.ntmps5
  go_wp2_with fail
  refine CB.out.mono ?_
  rintro e w1 ⟨p, rfl, hp, b0⟩
  have b1 : Below (w.alloc (.cells #[.string lo, .string hi, .bool op] 39)).heap.size (w.alloc (.cells #[.string lo, .string hi, .bool op] 39)) w1 := by rw [World.size_alloc]; exact b0
  have BW := aside (bthen B0.out b1)
  replace La := aside (La.out.keep b1)
  replace Lb := aside (Lb.out.keep b1)
  replace K1 := aside (blk_on K1.out b1)
  obtain ⟨rb, hrb⟩ : ∃ rb, w.heap.size = rb := ⟨_, rfl⟩
  rw [hrb] at K1 ⊢
  have HP := aside hp
  clear b0 b1 hp CB B0 hrb
  cases p
  case true =>
    go_wp2
    go_ret
    exact ⟨rfl, BW.out⟩
  have HN := aside (HP.out rfl)
  clear HP
  obtain ⟨r0, r1, r2⟩ := box3r K1.out
  go_wp2_with fail
  refine (longr_any lo hi op _).mono ?_
  rintro e w2 ⟨q, rfl, b2⟩
  replace BW := aside (bthen BW.out b2)
  replace K1 := aside (blk_on K1.out b2)
  replace La := aside (La.out.keep b2)
  replace Lb := aside (Lb.out.keep b2)
  cases q
  case true =>
    go_wp2
    go_ret
    exact ⟨rfl, BW.out⟩
  clear b2 r0 r1 r2
  go_wp2_with fail
  refine (cleanL_any La.out Lb.out (by have := HN.out; omega)).mono ?_
  rintro e w3 ⟨q, rfl, hq, b3⟩
  replace BW := aside (bthen BW.out b3)
  replace K1 := aside (blk_on K1.out b3)
  replace La := aside (La.out.keep b3)
  replace Lb := aside (Lb.out.keep b3)
  have HQ := aside hq
  clear hq
  cases q
  case false =>
    go_wp2
    go_ret
    exact ⟨rfl, BW.out⟩
  have K := aside (HQ.out rfl)
  clear HQ
  clear b3
  have ma := aside K.out.1
  have mb := aside K.out.2.1
  have n1 := aside (mx_len Ma Mb)
  have mm := aside (mx_map ma.out mb.out)
  obtain ⟨q, hq⟩ : ∃ q, Rg.chk ⟨lo, hi, op⟩ = q := ⟨_, rfl⟩
  have Q0 := aside ((ckRL_map mm.out ⟨lo, hi, op⟩).trans hq)
  have Q1 := aside ((ckRL_map ma.out ⟨lo, hi, op⟩).trans hq)
  have Q2 := aside ((ckRL_map mb.out ⟨lo, hi, op⟩).trans hq)
  clear hq
  go_wp2_with fail
  refine (maxL_ok La.out Lb.out ma.out mb.out (by have := HN.out; omega)).mono ?_
  rintro e w4 ⟨d1, nd1, cd1, rfl, ld1, b4⟩
  replace BW := aside (bthen BW.out b4)
  replace K1 := aside (blk_on K1.out b4)
  replace La := aside (La.out.keep b4)
  replace Lb := aside (Lb.out.keep b4)
  have L1 := aside ld1
  clear ld1
  clear b4
  obtain ⟨r0, r1, r2⟩ := box3r K1.out
  go_wp2_with fail
  refine (minE L1.out (by have h1 := L1.out.len; have h2 := n1.out; have h3 := HN.out; omega) Q0.out).mono ?_
  rintro e w5 ⟨d2, nd2, cd2, rfl, ld2, b5⟩
  replace BW := aside (bthen BW.out b5)
  replace K1 := aside (blk_on K1.out b5)
  replace La := aside (La.out.keep b5)
  replace Lb := aside (Lb.out.keep b5)
  replace L1 := aside (L1.out.keep b5)
  have L2 := aside ld2
  clear ld2
  clear b5 r0 r1 r2
  obtain ⟨r0, r1, r2⟩ := box3r K1.out
  go_wp2_with fail
  refine (minE La.out (by have h1 := La.out.len; have h3 := HN.out; omega) Q1.out).mono ?_
  rintro e w6 ⟨d3, nd3, cd3, rfl, ld3, b6⟩
  replace BW := aside (bthen BW.out b6)
  replace K1 := aside (blk_on K1.out b6)
  replace La := aside (La.out.keep b6)
  replace Lb := aside (Lb.out.keep b6)
  replace L1 := aside (L1.out.keep b6)
  replace L2 := aside (L2.out.keep b6)
  have L3 := aside ld3
  clear ld3
  clear b6 r0 r1 r2
  obtain ⟨r0, r1, r2⟩ := box3r K1.out
  go_wp2_with fail
  refine (minE Lb.out (by have h1 := Lb.out.len; have h3 := HN.out; omega) Q2.out).mono ?_
  rintro e w7 ⟨d4, nd4, cd4, rfl, ld4, b7⟩
  replace BW := aside (bthen BW.out b7)
  replace K1 := aside (blk_on K1.out b7)
  replace La := aside (La.out.keep b7)
  replace Lb := aside (Lb.out.keep b7)
  replace L1 := aside (L1.out.keep b7)
  replace L2 := aside (L2.out.keep b7)
  replace L3 := aside (L3.out.keep b7)
  have L4 := aside ld4
  clear ld4
  clear b7 r0 r1 r2
  go_wp2_with fail
  refine (rmaxL_ok La.out Lb.out ma.out mb.out (by have := HN.out; omega)).mono ?_
  rintro e w8 ⟨d5, nd5, cd5, rfl, ld5, b8⟩
  replace BW := aside (bthen BW.out b8)
  replace K1 := aside (blk_on K1.out b8)
  replace La := aside (La.out.keep b8)
  replace Lb := aside (Lb.out.keep b8)
  replace L1 := aside (L1.out.keep b8)
  replace L2 := aside (L2.out.keep b8)
  replace L3 := aside (L3.out.keep b8)
  replace L4 := aside (L4.out.keep b8)
  have L5 := aside ld5
  clear ld5
  clear b8
  have hqq : (q == q) = true := by simp
  go_wp2_with fail
  refine (sameL L1.out L5.out rfl).mono ?_
  rintro e w9 ⟨rfl, b9⟩
  replace BW := aside (bthen BW.out b9)
  replace K1 := aside (blk_on K1.out b9)
  replace La := aside (La.out.keep b9)
  replace Lb := aside (Lb.out.keep b9)
  replace L1 := aside (L1.out.keep b9)
  replace L2 := aside (L2.out.keep b9)
  replace L3 := aside (L3.out.keep b9)
  replace L4 := aside (L4.out.keep b9)
  replace L5 := aside (L5.out.keep b9)
  clear b9
  by_cases h0 : q = 0
  case neg =>
    have h0' : (q == 0) = false := by simpa using h0
    have hn2 : nd2 = 0 := by have h1 := L2.out.len; rw [outL_bad _ h0] at h1; exact h1.symm
    subst hn2
    clear h0
    go_wp2
    go_ret
    exact ⟨rfl, BW.out⟩
  subst h0
  rw [outL_ok _ rfl] at L2 L3 L4
  have i1 := aside (inL_len ⟨lo, hi, op⟩ Ma)
  have i2 := aside (inL_len ⟨lo, hi, op⟩ Mb)
  clear hqq
  go_wp2_with fail
  refine (maxL_ok L3.out L4.out (in_map ma.out _) (in_map mb.out _) (by have := HN.out; have := i1.out; have := i2.out; omega)).mono ?_
  rintro e w10 ⟨d6, nd6, cd6, rfl, ld6, b10⟩
  replace BW := aside (bthen BW.out b10)
  replace K1 := aside (blk_on K1.out b10)
  replace La := aside (La.out.keep b10)
  replace Lb := aside (Lb.out.keep b10)
  replace L1 := aside (L1.out.keep b10)
  replace L2 := aside (L2.out.keep b10)
  replace L3 := aside (L3.out.keep b10)
  replace L4 := aside (L4.out.keep b10)
  replace L5 := aside (L5.out.keep b10)
  have L6 := aside ld6
  clear ld6
  clear b10
  go_wp2_with fail
  refine (sameL L2.out L6.out (mx_in ma.out mb.out _)).mono ?_
  rintro e w11 ⟨rfl, b11⟩
  replace BW := aside (bthen BW.out b11)
  replace K1 := aside (blk_on K1.out b11)
  replace La := aside (La.out.keep b11)
  replace Lb := aside (Lb.out.keep b11)
  replace L1 := aside (L1.out.keep b11)
  replace L2 := aside (L2.out.keep b11)
  replace L3 := aside (L3.out.keep b11)
  replace L4 := aside (L4.out.keep b11)
  replace L5 := aside (L5.out.keep b11)
  replace L6 := aside (L6.out.keep b11)
  clear b11
  go_wp2
  go_ret
  exact ⟨rfl, BW.out⟩

end Go.Proofs.Ytgailbfoicoaiab
