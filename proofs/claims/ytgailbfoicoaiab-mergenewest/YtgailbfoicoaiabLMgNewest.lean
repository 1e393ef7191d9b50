/-
  The law MergeNewest, walked.
-/
import Derived.Test.YtgailbfoicoaiabMgCalls
import Derived.Test.YtgailbfoicoaiabMgPl2
namespace Go.Proofs.Ytgailbfoicoaiab
open Go.RowKit
set_option linter.unusedVariables false

set_option maxHeartbeats 6400000 in
set_option maxRecDepth 100000 in
theorem lmnewest_walk (a : Option Addr) (la ca : Nat) (Ma : List En) (b : Option Addr) (lb cb : Nat) (Mb : List En) (c : Option Addr) (lc cc : Nat) (Mc : List En) (w : World) (ha : Lst w a la ca Ma) (hb : Lst w b lb cb Mb) (hc : Lst w c lc cc Mc) :
    Calls Try.prog 3 #[.slice a la ca, .slice b lb cb, .slice c lc cc] w fun e w' => e = .returned (.bool true) ∧ Below w.heap.size w w' := by
  have BW := aside (Below.refl w.heap.size w)
  have La := aside ha
  have Lb := aside hb
  have Lc := aside hc
  have CB := aside (beyond3 ha hb hc)
  clear ha hb hc
  go_enter Try.func3, Try.ntmps3
  go_wp2_with fail
  refine CB.out.mono ?_
  rintro e w1 ⟨q, rfl, hq, b1⟩
  replace BW := aside (bthen BW.out b1)
  replace La := aside (La.out.keep b1)
  replace Lb := aside (Lb.out.keep b1)
  replace Lc := aside (Lc.out.keep b1)
  have HQ := aside hq
  clear b1 hq CB
  cases q
  case true =>
    go_wp2
    go_ret
    exact ⟨rfl, BW.out⟩
  have HN := aside (HQ.out rfl)
  clear HQ
  go_wp2_with fail
  refine (cleanL_any La.out Lb.out (by have := HN.out; omega)).mono ?_
  rintro e w2 ⟨q, rfl, hq, b2⟩
  replace BW := aside (bthen BW.out b2)
  replace La := aside (La.out.keep b2)
  replace Lb := aside (Lb.out.keep b2)
  replace Lc := aside (Lc.out.keep b2)
  have HQ := aside hq
  clear hq
  cases q
  case false =>
    go_wp2
    go_ret
    exact ⟨rfl, BW.out⟩
  have Kab := aside (HQ.out rfl)
  clear HQ
  clear b2
  go_wp2_with fail
  refine (cleanL_any Lb.out Lc.out (by have := HN.out; omega)).mono ?_
  rintro e w3 ⟨q, rfl, hq, b3⟩
  replace BW := aside (bthen BW.out b3)
  replace La := aside (La.out.keep b3)
  replace Lb := aside (Lb.out.keep b3)
  replace Lc := aside (Lc.out.keep b3)
  have HQ := aside hq
  clear hq
  cases q
  case false =>
    go_wp2
    go_ret
    exact ⟨rfl, BW.out⟩
  have Kbc := aside (HQ.out rfl)
  clear HQ
  clear b3
  go_wp2_with fail
  refine (cleanL_any La.out Lc.out (by have := HN.out; omega)).mono ?_
  rintro e w4 ⟨q, rfl, hq, b4⟩
  replace BW := aside (bthen BW.out b4)
  replace La := aside (La.out.keep b4)
  replace Lb := aside (Lb.out.keep b4)
  replace Lc := aside (Lc.out.keep b4)
  have HQ := aside hq
  clear hq
  cases q
  case false =>
    go_wp2
    go_ret
    exact ⟨rfl, BW.out⟩
  have Kac := aside (HQ.out rfl)
  clear HQ
  clear b4
  have ma := aside Kab.out.1
  have mb := aside Kab.out.2.1
  have mc := aside Kbc.out.2.1
  have n1 := aside (mx_len Ma Mb)
  have n2 := aside (mx_len Mb Mc)
  go_wp2_with fail
  refine (maxL_ok La.out Lb.out ma.out mb.out (by have := HN.out; omega)).mono ?_
  rintro e w5 ⟨d1, nd1, cd1, rfl, ld1, b5⟩
  replace BW := aside (bthen BW.out b5)
  replace La := aside (La.out.keep b5)
  replace Lb := aside (Lb.out.keep b5)
  replace Lc := aside (Lc.out.keep b5)
  have L1 := aside ld1
  clear ld1
  clear b5
  go_wp2_with fail
  refine (maxL_ok Lb.out La.out mb.out ma.out (by have := HN.out; omega)).mono ?_
  rintro e w6 ⟨d2, nd2, cd2, rfl, ld2, b6⟩
  replace BW := aside (bthen BW.out b6)
  replace La := aside (La.out.keep b6)
  replace Lb := aside (Lb.out.keep b6)
  replace Lc := aside (Lc.out.keep b6)
  replace L1 := aside (L1.out.keep b6)
  have L2 := aside ld2
  clear ld2
  clear b6
  go_wp2_with fail
  refine (maxL_ok Lb.out Lc.out mb.out mc.out (by have := HN.out; omega)).mono ?_
  rintro e w7 ⟨d3, nd3, cd3, rfl, ld3, b7⟩
  replace BW := aside (bthen BW.out b7)
  replace La := aside (La.out.keep b7)
  replace Lb := aside (Lb.out.keep b7)
  replace Lc := aside (Lc.out.keep b7)
  replace L1 := aside (L1.out.keep b7)
  replace L2 := aside (L2.out.keep b7)
  have L3 := aside ld3
  clear ld3
  clear b7
  go_wp2_with fail
  refine (maxL_ok La.out La.out ma.out ma.out (by have := HN.out; omega)).mono ?_
  rintro e w8 ⟨d4, nd4, cd4, rfl, ld4, b8⟩
  replace BW := aside (bthen BW.out b8)
  replace La := aside (La.out.keep b8)
  replace Lb := aside (Lb.out.keep b8)
  replace Lc := aside (Lc.out.keep b8)
  replace L1 := aside (L1.out.keep b8)
  replace L2 := aside (L2.out.keep b8)
  replace L3 := aside (L3.out.keep b8)
  have L4 := aside ld4
  clear ld4
  clear b8
  go_wp2_with fail
  refine (sameL L1.out L2.out (mx_comm ma.out mb.out Kab.out.2.2)).mono ?_
  rintro e w9 ⟨rfl, b9⟩
  replace BW := aside (bthen BW.out b9)
  replace La := aside (La.out.keep b9)
  replace Lb := aside (Lb.out.keep b9)
  replace Lc := aside (Lc.out.keep b9)
  replace L1 := aside (L1.out.keep b9)
  replace L2 := aside (L2.out.keep b9)
  replace L3 := aside (L3.out.keep b9)
  replace L4 := aside (L4.out.keep b9)
  clear b9
  go_wp2_with fail
  refine (sameL L4.out La.out (mx_self ma.out)).mono ?_
  rintro e w10 ⟨rfl, b10⟩
  replace BW := aside (bthen BW.out b10)
  replace La := aside (La.out.keep b10)
  replace Lb := aside (Lb.out.keep b10)
  replace Lc := aside (Lc.out.keep b10)
  replace L1 := aside (L1.out.keep b10)
  replace L2 := aside (L2.out.keep b10)
  replace L3 := aside (L3.out.keep b10)
  replace L4 := aside (L4.out.keep b10)
  clear b10
  go_wp2_with fail
  refine (maxL_ok L1.out Lc.out (mx_map ma.out mb.out) mc.out (by have := HN.out; have := n1.out; omega)).mono ?_
  rintro e w11 ⟨d5, nd5, cd5, rfl, ld5, b11⟩
  replace BW := aside (bthen BW.out b11)
  replace La := aside (La.out.keep b11)
  replace Lb := aside (Lb.out.keep b11)
  replace Lc := aside (Lc.out.keep b11)
  replace L1 := aside (L1.out.keep b11)
  replace L2 := aside (L2.out.keep b11)
  replace L3 := aside (L3.out.keep b11)
  replace L4 := aside (L4.out.keep b11)
  have L5 := aside ld5
  clear ld5
  clear b11
  go_wp2_with fail
  refine (maxL_ok La.out L3.out ma.out (mx_map mb.out mc.out) (by have := HN.out; have := n2.out; omega)).mono ?_
  rintro e w12 ⟨d6, nd6, cd6, rfl, ld6, b12⟩
  replace BW := aside (bthen BW.out b12)
  replace La := aside (La.out.keep b12)
  replace Lb := aside (Lb.out.keep b12)
  replace Lc := aside (Lc.out.keep b12)
  replace L1 := aside (L1.out.keep b12)
  replace L2 := aside (L2.out.keep b12)
  replace L3 := aside (L3.out.keep b12)
  replace L4 := aside (L4.out.keep b12)
  replace L5 := aside (L5.out.keep b12)
  have L6 := aside ld6
  clear ld6
  clear b12
  go_wp2_with fail
  refine (sameL L5.out L6.out (mx_assoc ma.out mb.out mc.out Kab.out.2.2 Kbc.out.2.2 Kac.out.2.2)).mono ?_
  rintro e w13 ⟨rfl, b13⟩
  replace BW := aside (bthen BW.out b13)
  replace La := aside (La.out.keep b13)
  replace Lb := aside (Lb.out.keep b13)
  replace Lc := aside (Lc.out.keep b13)
  replace L1 := aside (L1.out.keep b13)
  replace L2 := aside (L2.out.keep b13)
  replace L3 := aside (L3.out.keep b13)
  replace L4 := aside (L4.out.keep b13)
  replace L5 := aside (L5.out.keep b13)
  replace L6 := aside (L6.out.keep b13)
  clear b13
  go_wp2_with fail
  refine (aboveL_ok L1.out La.out (mx_map ma.out mb.out) ma.out (by have := HN.out; have := n1.out; omega) (mx_above ma.out mb.out).1).mono ?_
  rintro e w14 ⟨rfl, b14⟩
  replace BW := aside (bthen BW.out b14)
  replace La := aside (La.out.keep b14)
  replace Lb := aside (Lb.out.keep b14)
  replace Lc := aside (Lc.out.keep b14)
  replace L1 := aside (L1.out.keep b14)
  replace L2 := aside (L2.out.keep b14)
  replace L3 := aside (L3.out.keep b14)
  replace L4 := aside (L4.out.keep b14)
  replace L5 := aside (L5.out.keep b14)
  replace L6 := aside (L6.out.keep b14)
  clear b14
  go_wp2_with fail
  refine (aboveL_ok L1.out Lb.out (mx_map ma.out mb.out) mb.out (by have := HN.out; have := n1.out; omega) (mx_above ma.out mb.out).2).mono ?_
  rintro e w15 ⟨rfl, b15⟩
  replace BW := aside (bthen BW.out b15)
  replace La := aside (La.out.keep b15)
  replace Lb := aside (Lb.out.keep b15)
  replace Lc := aside (Lc.out.keep b15)
  replace L1 := aside (L1.out.keep b15)
  replace L2 := aside (L2.out.keep b15)
  replace L3 := aside (L3.out.keep b15)
  replace L4 := aside (L4.out.keep b15)
  replace L5 := aside (L5.out.keep b15)
  replace L6 := aside (L6.out.keep b15)
  clear b15
  go_wp2
  go_ret
  exact ⟨rfl, BW.out⟩

end Go.Proofs.Ytgailbfoicoaiab
