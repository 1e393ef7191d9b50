/-
  The law MergeTells, walked.
-/
import Derived.Test.YtgailbfoicoaiaaMgTxt
namespace Go.Proofs.Ytgailbfoicoaiaa
open Go.RowKit
set_option linter.unusedVariables false

set_option maxHeartbeats 12800000 in
set_option maxRecDepth 100000 in
theorem lmtells_walk (a : Option Addr) (la ca : Nat) (Ma : List En) (b : Option Addr) (lb cb : Nat) (Mb : List En) (w : World) (ha : Lst w a la ca Ma) (hb : Lst w b lb cb Mb) (fa : (a = none ∧ la = 0 ∧ ca = 0) ∨ ∃ y, a = some y) (fb : (b = none ∧ lb = 0 ∧ cb = 0) ∨ ∃ y, b = some y) :
    Calls Try.prog 7 #[.slice a la ca, .slice b lb cb] w fun e w' => e = .returned (.bool true) ∧ Below w.heap.size w w' := by
  have BW := aside (Below.refl w.heap.size w)
  have KX := aside ha.keys
  have KY := aside hb.keys
  have HLA := aside ha.len
  have HLB := aside hb.len
  have La := aside ha
  have Lb := aside hb
  have FA := aside fa
  have FB := aside fb
  have CB := aside (beyond2 ha hb)
  obtain ⟨q, hq⟩ : ∃ q, ck2L Ma Mb = q := ⟨_, rfl⟩
  have HQ := aside hq
  obtain ⟨av, hav⟩ : ∃ av, aboveV q (prs Ma Mb) = av := ⟨_, rfl⟩
  have HAV := aside hav
  have hqq : (q == q) = true := by simp
  clear ha hb fa fb hq hav
  go_enter Try.func7, Try.ntmps7
  go_wp2_with fail
  refine CB.out.mono ?_
  rintro e w1 ⟨p, rfl, hp, b1⟩
  replace BW := aside (bthen BW.out b1)
  replace La := aside (La.out.keep b1)
  replace Lb := aside (Lb.out.keep b1)
  have HP := aside hp
  clear b1 hp CB
  cases p
  case true =>
    go_wp2
    go_ret
    exact ⟨rfl, BW.out⟩
  have HA := aside (show la ≤ 1073741824 from by have h1 := HP.out rfl; have h2 := HLA.out; omega)
  have HB := aside (show lb ≤ 1073741824 from by have h1 := HP.out rfl; have h2 := HLB.out; omega)
  clear HP
  go_wp2_with fail
  refine (copied_any a la ca Ma _ La.out FA.out HA.out).mono ?_
  rintro e w2 ⟨gx, rfl, hc, b2⟩
  have CX := aside hc
  replace BW := aside (bthen BW.out b2)
  replace La := aside (La.out.keep b2)
  replace Lb := aside (Lb.out.keep b2)
  clear hc b2
  go_wp2_with fail
  refine (copied_any b lb cb Mb _ Lb.out FB.out HB.out).mono ?_
  rintro e w3 ⟨gy, rfl, hc, b3⟩
  have CY := aside hc
  replace CX := aside (CX.out.keep b3)
  replace BW := aside (bthen BW.out b3)
  replace La := aside (La.out.keep b3)
  replace Lb := aside (Lb.out.keep b3)
  have BV := aside (Below.refl w3.heap.size w3)
  clear hc b3
  go_wp2_with fail
  refine (mmaxE ((CX.out.keep BV.out).lst KX.out) ((CY.out.keep BV.out).lst KY.out) (by have := HA.out; have := HB.out; omega) HQ.out).mono ?_
  rintro e w4 ⟨v, rfl, ho, b4⟩
  replace BV := aside (bthen BV.out b4)
  obtain ⟨mn, hn⟩ : ∃ n, (outL q (mxL Ma Mb)).length = n := ⟨_, rfl⟩
  rw [hn] at ho
  obtain ⟨ma, mc, rfl, hl⟩ := Lst.of_row (n := mn) ho (keys_mx HQ.out)
  have Lm := aside hl
  have Om := aside ho
  have Nm := aside hn
  clear ho hl hn
  clear b4
  go_wp2_with fail
  refine (rmaxE (La.out.keep BV.out) (Lb.out.keep BV.out) (by have := HA.out; have := HB.out; omega) HQ.out).mono ?_
  rintro e w5 ⟨v, rfl, ho, b5⟩
  replace Om := aside (own_on Om.out b5)
  replace Lm := aside (Lm.out.keep b5)
  replace BV := aside (bthen BV.out b5)
  obtain ⟨nn, hn⟩ : ∃ n, (outL q (mxL Ma Mb)).length = n := ⟨_, rfl⟩
  rw [hn] at ho
  obtain ⟨na, nc, rfl, hl⟩ := Lst.of_row (n := nn) ho (keys_mx HQ.out)
  have Ln := aside hl
  clear ho hl hn
  clear b5
  go_wp2_with fail
  refine (sameL Lm.out Ln.out rfl).mono ?_
  rintro e w6 ⟨rfl, b6⟩
  replace Om := aside (own_on Om.out b6)
  replace Lm := aside (Lm.out.keep b6)
  replace Ln := aside (Ln.out.keep b6)
  replace BV := aside (bthen BV.out b6)
  clear b6
  go_wp2_with fail
  refine (mdiffE ((CX.out.keep BV.out).lst KX.out) ((CY.out.keep BV.out).lst KY.out) (by have := HA.out; have := HB.out; omega) HQ.out).mono ?_
  rintro e w7 ⟨v, rfl, ho, b7⟩
  replace Om := aside (own_on Om.out b7)
  replace BV := aside (bthen BV.out b7)
  obtain ⟨dn, hn⟩ : ∃ n, (outL q (dfL Ma Mb)).length = n := ⟨_, rfl⟩
  rw [hn] at ho
  obtain ⟨da, dc, rfl, -⟩ := own_slice ho
  have Ld := aside (show TxL w7 da dn dc (outL q (dfL Ma Mb)) from ⟨_, ho⟩)
  clear ho hn
  clear b7
  go_wp2_with fail
  refine (rdiffE (La.out.keep BV.out) (Lb.out.keep BV.out) (by have := HA.out; have := HB.out; omega) HQ.out).mono ?_
  rintro e w8 ⟨v, rfl, ho, b8⟩
  replace Om := aside (own_on Om.out b8)
  replace Ld := aside (Ld.out.keep b8)
  replace BV := aside (bthen BV.out b8)
  obtain ⟨kn, hn⟩ : ∃ n, (outL q (dfL Ma Mb)).length = n := ⟨_, rfl⟩
  rw [hn] at ho
  obtain ⟨ka, kc, rfl, -⟩ := own_slice ho
  have Lk := aside (show TxL w8 ka kn kc (outL q (dfL Ma Mb)) from ⟨_, ho⟩)
  clear ho hn
  clear b8
  go_wp2_with fail
  refine (sameT Ld.out Lk.out rfl).mono ?_
  rintro e w9 ⟨rfl, b9⟩
  replace Om := aside (own_on Om.out b9)
  replace Ld := aside (Ld.out.keep b9)
  replace Lk := aside (Lk.out.keep b9)
  replace BV := aside (bthen BV.out b9)
  clear b9
  have HVL := aside (show w3.heap.size ≤ w9.heap.size from BV.out.size)
  have HMB := aside (fun j (h : (Value.slice ma mn mc).ownBlock = some j) => (Om.out.lt j h).2)
  go_wp2_with fail
  refine (mlackE ((CX.out.keep BV.out).lst KX.out) ((CY.out.keep BV.out).lst KY.out) (by have := HA.out; have := HB.out; omega) HQ.out).mono ?_
  rintro e w10 ⟨v, rfl, ho, b10⟩
  replace Om := aside (own_on Om.out b10)
  replace BV := aside (bthen BV.out b10)
  have BS9 := aside (show w9.heap.size ≤ w10.heap.size from b10.size)
  obtain ⟨ln, hn⟩ : ∃ n, (outL q (lkL Ma Mb)).length = n := ⟨_, rfl⟩
  rw [hn] at ho
  obtain ⟨la, lc, rfl, hl⟩ := Lst.of_row (n := ln) ho (keys_lk HQ.out)
  have Ll := aside hl
  have Ol := aside ho
  have Nl := aside hn
  clear ho hl hn
  clear b10
  go_wp2_with fail
  refine (rlackE (La.out.keep BV.out) (Lb.out.keep BV.out) (by have := HA.out; have := HB.out; omega) HQ.out).mono ?_
  rintro e w11 ⟨v, rfl, ho, b11⟩
  replace Om := aside (own_on Om.out b11)
  replace Ol := aside (own_on Ol.out b11)
  replace Ll := aside (Ll.out.keep b11)
  replace BV := aside (bthen BV.out b11)
  replace BS9 := aside (show w9.heap.size ≤ w11.heap.size from Nat.le_trans BS9.out b11.size)
  obtain ⟨on, hn⟩ : ∃ n, (outL q (lkL Ma Mb)).length = n := ⟨_, rfl⟩
  rw [hn] at ho
  obtain ⟨oa, oc, rfl, hl⟩ := Lst.of_row (n := on) ho (keys_lk HQ.out)
  have Lo := aside hl
  clear ho hl hn
  clear b11
  go_wp2_with fail
  refine (sameL Ll.out Lo.out rfl).mono ?_
  rintro e w12 ⟨rfl, b12⟩
  replace Om := aside (own_on Om.out b12)
  replace Ol := aside (own_on Ol.out b12)
  replace Ll := aside (Ll.out.keep b12)
  replace Lo := aside (Lo.out.keep b12)
  replace BV := aside (bthen BV.out b12)
  replace BS9 := aside (show w9.heap.size ≤ w12.heap.size from Nat.le_trans BS9.out b12.size)
  clear b12
  go_wp2_with fail
  refine (maboveE ((CX.out.keep BV.out).lst KX.out) ((CY.out.keep BV.out).lst KY.out) (by have := HA.out; have := HB.out; omega) HQ.out).mono ?_
  rintro e w13 ⟨rfl, b13⟩
  replace Om := aside (own_on Om.out b13)
  replace Ol := aside (own_on Ol.out b13)
  replace BV := aside (bthen BV.out b13)
  replace BS9 := aside (show w9.heap.size ≤ w13.heap.size from Nat.le_trans BS9.out b13.size)
  clear b13
  go_wp2_with fail
  refine (raboveE (La.out.keep BV.out) (Lb.out.keep BV.out) (by have := HA.out; have := HB.out; omega) HQ.out).mono ?_
  rintro e w14 ⟨rfl, b14⟩
  replace Om := aside (own_on Om.out b14)
  replace Ol := aside (own_on Ol.out b14)
  replace BV := aside (bthen BV.out b14)
  replace BS9 := aside (show w9.heap.size ≤ w14.heap.size from Nat.le_trans BS9.out b14.size)
  clear b14
  have HSZ := aside (show w9.heap.size ≤ w14.heap.size from Nat.le_trans BS9.out (Nat.le_refl _))
  have hab : (av == av) = true := by simp
  go_wp2_with fail
  refine (espoil_any _ mn _ _ _ Om.out BV.out.size (by have h1 := len_out q (mxL Ma Mb); have h2 := mx_len Ma Mb; have h3 := Nm.out; have h4 := HA.out; have h5 := HB.out; have h6 := HLA.out; have h7 := HLB.out; omega)).mono ?_
  rintro e w15 ⟨rfl, k1⟩
  have HS2 := aside k1.size
  replace Ol := aside (ownsRow_keep Ol.out k1 (fun j h1 h2 => by have h3 := (Ol.out.lt j h1).1; have h4 := HMB.out j h2; omega))
  replace BV := aside (spoilt BV.out Om.out k1)
  clear k1 Om HMB hab
  go_wp2_with fail
  refine (espoil_any w9.heap.size ln _ _ _ Ol.out (Nat.le_trans HSZ.out (show w14.heap.size ≤ w15.heap.size from HS2.out)) (by have h1 := len_out q (lkL Ma Mb); have h2 := lk_len Ma Mb; have h3 := Nl.out; have h4 := HA.out; have h5 := HB.out; have h6 := HLA.out; have h7 := HLB.out; omega)).mono ?_
  rintro e w16 ⟨rfl, k2⟩
  replace BV := aside (spoilt BV.out (own_low Ol.out HVL.out) k2)
  clear k2 Ol
  go_wp2_with fail
  refine (kept_any (CX.out.keep BV.out) (La.out.keep BV.out) HA.out).mono ?_
  rintro e w17 ⟨rfl, b17⟩
  replace BV := aside (bthen BV.out b17)
  clear b17
  go_wp2_with fail
  refine (kept_any (CY.out.keep BV.out) (Lb.out.keep BV.out) HB.out).mono ?_
  rintro e w18 ⟨rfl, b18⟩
  replace BV := aside (bthen BV.out b18)
  clear b18
  go_wp2
  go_ret
  exact ⟨rfl, bthen BW.out BV.out⟩

end Go.Proofs.Ytgailbfoicoaiaa
