/-
  MatchOnce, walked.
-/
import Derived.Test.YtpbkjffiohfkcaaGreatDoorBq35
import Derived.Test.YtpbkjffiohfkcaaGreatDoorBq32
namespace Go.Proofs.YtpbkjffiohfkcaaGreatDoor
open Go.RowKit
set_option linter.unusedVariables false
set_option maxHeartbeats 8000000 in
set_option maxRecDepth 100000 in
theorem onceLaw_any (a : Option Addr) (len cap : Nat) (T : Nat → En) (p : Pm) (w : World) (h : EntsIn w a len cap T) (hform : (a = none ∧ len = 0 ∧ cap = 0) ∨ ∃ y, a = some y) (hP : p.In w) (hz : p.el ≤ 4611686018427387904) (L : Lanes w) :
    Calls Tryz.prog 4 #[.slice a len cap, .agg #[.int .i64 p.kind, .string p.lo, .string p.hi, .bool p.op, .int .i64 p.cnt, .int .u64 p.s0, .int .u64 p.s1, .slice p.ea p.el p.ec]] w fun e w' => e = .returned (.bool true) ∧ Below w.heap.size w w' := by
 have HE := aside h
 have HF := aside hform
 have LL := aside L
 have HP := aside hP
 have HZ := aside hz
 clear h hform L hP hz
 have B0 := aside (bnew w (.cells #[.int .i64 p.kind, .string p.lo, .string p.hi, .bool p.op, .int .i64 p.cnt, .int .u64 p.s0, .int .u64 p.s1, .slice p.ea p.el p.ec] 47))
 have K0 := aside (heap_alloc_new w (.cells #[.int .i64 p.kind, .string p.lo, .string p.hi, .bool p.op, .int .i64 p.cnt, .int .u64 p.s0, .int .u64 p.s1, .slice p.ea p.el p.ec] 47))
 obtain ⟨qb, hqb⟩ : ∃ qb, w.heap.size = qb := ⟨_, rfl⟩
 rw [hqb] at K0
 obtain ⟨w0, hw0⟩ : ∃ w0, w.alloc (.cells #[.int .i64 p.kind, .string p.lo, .string p.hi, .bool p.op, .int .i64 p.cnt, .int .u64 p.s0, .int .u64 p.s1, .slice p.ea p.el p.ec] 47) = w0 := ⟨_, rfl⟩
 rw [hw0] at B0 K0
 obtain ⟨p0, p1, p2, p3, p4, p5, p6, p7⟩ := oct K0.out
 have C1 := aside (one_any p w0 (HP.out.keep B0.out))
 go_enter Tryz.func4, Tryz.ntmps4
 go_wp2_with fail
 refine C1.out.mono ?_
 rintro e w1 ⟨g1, c1, rfl, pi1, -, b1⟩
 have PI1 := aside (pi1.keep (bnew w1 (.cells #[.slice a len cap] 22)))
 have BN := aside (bthen b1 (bnew w1 (.cells #[.slice a len cap] 22)))
 have B1 := aside (bthen B0.out BN.out)
 have K1 := aside (blk_on K0.out BN.out)
 have LI := aside (show ListsIn (w1.alloc (.cells #[.slice a len cap] 22)) w1.heap.size 1 (fun _ => a) (fun _ => len) (fun _ => cap) (fun _ => T) from fun k hk => by
  obtain rfl : k = 0 := by omega
  exact ⟨cell_one (heap_alloc_new w1 (.cells #[.slice a len cap] 22)), HE.out.keep B1.out⟩)
 clear b1 pi1 C1 B0 K0 BN p0 p1 p2 p3 p4 p5 p6 p7
 obtain ⟨w2, hw2⟩ : ∃ w2, w1.alloc (.cells #[.slice a len cap] 22) = w2 := ⟨_, rfl⟩
 rw [hw2] at PI1 B1 K1 LI
 have C2 := aside (beyond13_any (some ⟨g1, 0, none⟩) 1 c1 (fun _ => p) w1.heap.size 1 1 _ _ _ _ w2 (by omega) LI.out PI1.out)
 go_wp2_with fail
 refine C2.out.mono ?_
 rintro e w3 ⟨q, rfl, -, b3⟩
 have B3 := aside (bthen B1.out b3)
 have K3 := aside (blk_on K1.out b3)
 clear b3 C2 LI PI1 B1 K1 hw2
 cases q with
 | true =>
  go_wp2
  go_ret
  exact ⟨rfl, B3.out⟩
 | false =>
  have C3 := aside (right13_any 2 a len cap T w3 (HE.out.keep B3.out) HF.out)
  go_wp2_with fail
  refine C3.out.mono ?_
  rintro e w4 ⟨q, rfl, hq, b4⟩
  have B4 := aside (bthen B3.out b4)
  have K4 := aside (blk_on K3.out b4)
  have HQ := aside hq
  clear b4 C3 B3 K3 hq
  cases q with
  | false =>
   go_wp2
   go_ret
   exact ⟨rfl, B4.out⟩
  | true =>
   have HO := aside (HQ.out.1 rfl)
   have C4 := aside (made13_any 2 a len cap T w4 (HE.out.keep B4.out) HF.out (LL.out.keep B4.out) HO.out)
   go_wp2_with fail
   refine C4.out.mono ?_
   rintro e w5 ⟨sb, g, tb, db, rfl, pp, b5⟩
   have BA := bthen b5 (bnew w5 (.cells #[.pointer (some ⟨sb, 0, none⟩), .pointer (some ⟨db, 0, none⟩)] 29))
   have B5 := aside (bthen B4.out BA)
   have K5 := aside (blk_on K4.out BA)
   have PP := aside (pp.below (bnew w5 (.cells #[.pointer (some ⟨sb, 0, none⟩), .pointer (some ⟨db, 0, none⟩)] 29)))
   have KP := aside (heap_alloc_new w5 (.cells #[.pointer (some ⟨sb, 0, none⟩), .pointer (some ⟨db, 0, none⟩)] 29))
   obtain ⟨pb, hpb⟩ : ∃ pb, w5.heap.size = pb := ⟨_, rfl⟩
   rw [hpb] at KP
   have HG := aside (show w.heap.size ≤ sb ∧ w.heap.size ≤ g ∧ w.heap.size ≤ tb ∧ w.heap.size ≤ db from by have h1 := pp.s; have h2 := pp.g; have h3 := pp.t; have h5 := pp.d; have h4 := B4.out.size; omega)
   have HD0 := aside (show w4.heap.size + 1 ≤ (w5.alloc (.cells #[.pointer (some ⟨sb, 0, none⟩), .pointer (some ⟨db, 0, none⟩)] 29)).heap.size from by have h1 := lt_of_blk (show w5.heap[sb]? = some _ from by obtain ⟨T9, n9, s9, -⟩ := pp.code; exact s9.blk); have h2 := pp.s; simp; omega)
   clear b5 pp C4 BA K4 B4
   obtain ⟨w6, hw6⟩ : ∃ w6, w5.alloc (.cells #[.pointer (some ⟨sb, 0, none⟩), .pointer (some ⟨db, 0, none⟩)] 29) = w6 := ⟨_, rfl⟩
   rw [hw6] at B5 K5 PP KP HD0
   generalize (w4.heap.size + 1) = D0 at *
   have HLN := aside (show (firstE T len).length = len from firstE_len T len)
   have HL256 := aside HO.out.len
   have HMP := aside HO.out.map
   generalize (firstE T len) = l at *
   have P6 := aside (HP.out.keep B5.out)
   obtain ⟨p0, p1, p2, p3, p4, p5, p6, p7⟩ := oct K5.out
   obtain ⟨u0, u1⟩ := two_cells KP.out
   have C5 := aside (xchg_any p PP.out.code HMP.out HL256.out P6.out HZ.out PP.out.lanes)
   go_wp2_with fail
   refine C5.out.mono ?_
   rintro e w7 (⟨hx, rfl, s7, k7, l7⟩ | ⟨hx, v, rfl, rp, s7, k7, l7⟩)
   ·have D7 := PP.out.doc.keeps PP.out.code k7
    have BN := bnew w7 (.cells #[.int .i64 0, .int .i64 0] 33)
    have P8 := aside ((show Pair2 w7 D0 sb g tb db 2 1099511627776 l from ⟨s7, D7, l7, PP.out.s, PP.out.g, PP.out.t, PP.out.d⟩).below BN)
    have K8 := aside (blk_on (blk_keep K5.out k7 (PP.out.code.not K5.out (by decide) (by decide) (by decide))) BN)
    have KP8 := aside (blk_on (blk_keep KP.out k7 (PP.out.code.not KP.out (by decide) (by decide) (by decide))) BN)
    have PI8 := aside ((EntsIn.keepS P6.out PP.out.code k7).keep BN)
    have B8 := aside ((B5.out.trans (k7.below B5.out.size (fun k hk => by have := HG.out; unfold Of; omega))).alloc (by have h1 := B5.out.size; have h2 := k7.size; omega) (.cells #[.int .i64 0, .int .i64 0] 33))
    have HD8 := aside (show D0 ≤ (w7.alloc (.cells #[.int .i64 0, .int .i64 0] 33)).heap.size from by have h1 := HD0.out; have h2 := k7.size; simp; omega)
    obtain ⟨er, her⟩ : ∃ er, xErr p = er := ⟨_, rfl⟩
    have HER := aside her
    rw [her] at hx ⊢
    have hxb : (er == 0) = false := by simpa using hx
    clear s7 k7 l7 D7 BN C5 K5 KP PP B5 P6 p0 p1 p2 p3 p4 p5 p6 p7 u0 u1 hw6 HD0 her
    obtain ⟨p0, p1, p2, p3, p4, p5, p6, p7⟩ := oct K8.out
    obtain ⟨u0, u1⟩ := two_cells KP8.out
    have C6 := aside (rxchg_any p P8.out.doc HMP.out HL256.out HD8.out PI8.out)
    go_wp2_with fail
    refine C6.out.mono ?_
    rintro e w9 (⟨-, rfl, d9, k9⟩ | ⟨h0, -⟩)
    rotate_left
    ·exact absurd (HER.out.symm.trans h0) hx
    rw [HER.out]
    have BN := bnew w9 (.cells #[.int .i64 0, .int .i64 0] 33)
    have P9 := aside ((show Pair2 w9 D0 sb g tb db 2 1099511627776 l from ⟨P8.out.code.keepD P8.out.doc k9, d9, P8.out.lanes.keeps k9 (P8.out.lanes.doc P8.out.doc), P8.out.s, P8.out.g, P8.out.t, P8.out.d⟩).below BN)
    have KP9 := aside (blk_on (blk_keep KP8.out k9 (P8.out.doc.other KP8.out (by decide))) BN)
    have B9 := aside ((B8.out.trans (k9.below B8.out.size (fun k hk => by have := HG.out; omega))).alloc (by have h1 := B8.out.size; have h2 := k9.size; omega) (.cells #[.int .i64 0, .int .i64 0] 33))
    clear d9 k9 BN C6 K8 KP8 PI8 B8 HD8 P8 p0 p1 p2 p3 p4 p5 p6 p7 u0 u1
    obtain ⟨u0, u1⟩ := two_cells KP9.out
    have CT := aside (still13_any P9.out HMP.out HL256.out)
    go_wp2_with fail
    refine CT.out.mono ?_
    rintro e w11 ⟨rfl, b11⟩
    have B11 := aside (bthen B9.out b11)
    clear b11 CT u0 u1
    go_wp2
    go_ret
    exact ⟨rfl, B11.out⟩
   ·have D7 := PP.out.doc.keeps PP.out.code k7
    obtain ⟨-, hk1, hEM, hEL, hRC⟩ := xErr_ok hx
    have HEM := aside hEM
    have HX := aside hx
    have HCE := aside (show ∀ e ∈ (firstE p.T p.el), e.chk = 0 from hEM.chk)
    have HOK := aside (tkAll_okE (s := ⟨l, 1099511627776, 0, 0⟩) ⟨HMP.out, HL256.out⟩ (firstE p.T p.el))
    have HSE := aside (tkAll_seen (s := ⟨l, 1099511627776, 0, 0⟩) ⟨HMP.out, HL256.out⟩ (firstE p.T p.el) HCE.out)
    have HFF := aside (tkAll_f (s := ⟨l, 1099511627776, 0, 0⟩) ⟨HMP.out, HL256.out⟩ (firstE p.T p.el) HCE.out)
    have HMO := aside (tkAll_more (s := ⟨l, 1099511627776, 0, 0⟩) (firstE p.T p.el))
    have HRA := aside (rp_again (p := p) (s := ⟨l, 1099511627776, 0, 0⟩) ⟨HMP.out, HL256.out⟩ hEM)
    have HRK := aside (rp_keys (p := p) HMP.out hEM)
    have HNB := aside (tkAll_n (s := ⟨l, 1099511627776, 0, 0⟩) p.T p.el)
    have HPE := aside hEL
    obtain ⟨s, hs⟩ : ∃ s, tkAll ⟨l, 1099511627776, 0, 0⟩ (firstE p.T p.el) = s := ⟨_, rfl⟩
    have HTK := aside hs
    rw [hs] at s7 HOK HSE HFF HMO HRA HNB ⊢
    obtain ⟨l1, k1, n, f⟩ := s
    dsimp only at s7 HRA ⊢
    have BN := bnew w7 (.cells #[.int .i64 (n : Int), .int .i64 (f : Int)] 33)
    have S8 := aside (s7.below BN)
    have D8 := aside (D7.below BN)
    have L8 := aside (l7.keep BN)
    have R8 := aside (rp.below BN)
    have K8 := aside (blk_on (blk_keep K5.out k7 (PP.out.code.not K5.out (by decide) (by decide) (by decide))) BN)
    have KP8 := aside (blk_on (blk_keep KP.out k7 (PP.out.code.not KP.out (by decide) (by decide) (by decide))) BN)
    have KH8 := aside (heap_alloc_new w7 (.cells #[.int .i64 (n : Int), .int .i64 (f : Int)] 33))
    have PI8 := aside ((EntsIn.keepS P6.out PP.out.code k7).keep BN)
    have B8 := aside ((B5.out.trans (k7.below B5.out.size (fun k hk => by have := HG.out; unfold Of; omega))).alloc (by have h1 := B5.out.size; have h2 := k7.size; omega) (.cells #[.int .i64 (n : Int), .int .i64 (f : Int)] 33))
    have HD8 := aside (show D0 ≤ (w7.alloc (.cells #[.int .i64 (n : Int), .int .i64 (f : Int)] 33)).heap.size from by have h1 := HD0.out; have h2 := k7.size; simp; omega)
    obtain ⟨hb, hhb⟩ : ∃ hb, w7.heap.size = hb := ⟨_, rfl⟩
    rw [hhb] at KH8
    clear s7 k7 l7 D7 BN C5 K5 KP PP B5 P6 p0 p1 p2 p3 p4 p5 p6 p7 u0 u1 hw6 HD0 rp hx hs hEM hEL hRC hk1
    obtain ⟨w8, hw8⟩ : ∃ w8, w7.alloc (.cells #[.int .i64 (n : Int), .int .i64 (f : Int)] 33) = w8 := ⟨_, rfl⟩
    rw [hw8] at S8 D8 L8 R8 K8 KP8 PI8 B8 HD8 KH8
    obtain ⟨p0, p1, p2, p3, p4, p5, p6, p7⟩ := oct K8.out
    obtain ⟨u0, u1⟩ := two_cells KP8.out
    have C6 := aside (rxchg_any p D8.out HMP.out HL256.out HD8.out PI8.out)
    go_wp2_with fail
    refine C6.out.mono ?_
    rintro e w9 (⟨h0, -⟩ | ⟨-, v2, rfl, d9, k9⟩)
    ·exact absurd HX.out h0
    rw [HTK.out]
    dsimp only
    have BN := bnew w9 (.cells #[.int .i64 (n : Int), .int .i64 (f : Int)] 33)
    have S9 := aside ((S8.out.keepD D8.out k9).below BN)
    have L9 := aside ((L8.out.keeps k9 (L8.out.doc D8.out)).keep BN)
    have R9 := aside ((R8.out.keepD D8.out k9).below BN)
    have K9 := aside (blk_on (blk_keep K8.out k9 (D8.out.other K8.out (by decide))) BN)
    have KP9 := aside (blk_on (blk_keep KP8.out k9 (D8.out.other KP8.out (by decide))) BN)
    have KH9 := aside (blk_on (blk_keep KH8.out k9 (D8.out.other KH8.out (by decide))) BN)
    have PI9 := aside ((EntsIn.keepD PI8.out D8.out k9).keep BN)
    have B9 := aside ((B8.out.trans (k9.below B8.out.size (fun k hk => by have := HG.out; omega))).alloc (by have h1 := B8.out.size; have h2 := k9.size; omega) (.cells #[.int .i64 (n : Int), .int .i64 (f : Int)] 33))
    clear d9 k9 BN C6 K8 KP8 KH8 PI8 B8 HD8 S8 D8 L8 R8 p0 p1 p2 p3 p4 p5 p6 p7 u0 u1 hw8
    obtain ⟨w10, hw10⟩ : ∃ w10, w9.alloc (.cells #[.int .i64 (n : Int), .int .i64 (f : Int)] 33) = w10 := ⟨_, rfl⟩
    rw [hw10] at S9 L9 R9 K9 KP9 KH9 PI9 B9
    obtain ⟨u0, u1⟩ := two_cells KP9.out
    have CH := aside (held13_any S9.out HOK.out.2)
    go_wp2_with fail
    refine CH.out.mono ?_
    rintro e w11 ⟨v11, rfl, o11, b11⟩
    have hK1 : KeysOk l1 := fun e he => key_small (HOK.out.1.chk e he)
    obtain ⟨a11, c11, rfl, -⟩ := own_ents o11 hK1
    have O11 := aside o11
    have S11 := aside (S9.out.below b11)
    have L11 := aside (L9.out.keep b11)
    have R11 := aside (R9.out.below b11)
    have K11 := aside (blk_on K9.out b11)
    have KP11 := aside (blk_on KP9.out b11)
    have KH11 := aside (blk_on KH9.out b11)
    have PI11 := aside (PI9.out.keep b11)
    have B11 := aside (bthen B9.out b11)
    clear o11 b11 CH S9 L9 R9 K9 KP9 KH9 PI9 B9 u0 u1 hw10
    obtain ⟨p0, p1, p2, p3, p4, p5, p6, p7⟩ := oct K11.out
    obtain ⟨u0, u1⟩ := two_cells KP11.out
    have C7 := aside (xchg_any p S11.out HOK.out.1 HOK.out.2 PI11.out HZ.out L11.out)
    go_wp2_with fail
    refine C7.out.mono ?_
    rintro e w12 (⟨h0, -⟩ | ⟨-, v12, rfl, rp2, s12, k12, l12⟩)
    ·exact absurd HX.out h0
    have hag := tkAll_again (L := l1) (c := k1) HOK.out.1 (firstE p.T p.el) HCE.out HSE.out
    have hff : f = lackN l1 (firstE p.T p.el) := by have := HFF.out; simpa using this
    rw [hag, ← hff] at s12 ⊢
    rw [HRA.out] at rp2
    dsimp only at s12 ⊢
    clear hag
    have BN := bnew w12 (.cells #[.int .i64 0, .int .i64 (f : Int)] 33)
    have S13 := aside (s12.below BN)
    have O13 := aside (own_on (own_keepS O11.out S11.out k12) BN)
    have R13 := aside ((R11.out.keepS S11.out k12).below BN)
    have RY13 := aside (rp2.below BN)
    have KP13 := aside (blk_on (blk_keep KP11.out k12 (S11.out.not KP11.out (by decide) (by decide) (by decide))) BN)
    have KH13 := aside (blk_on (blk_keep KH11.out k12 (S11.out.not KH11.out (by decide) (by decide) (by decide))) BN)
    have KY13 := aside (heap_alloc_new w12 (.cells #[.int .i64 0, .int .i64 (f : Int)] 33))
    have B13 := aside ((B11.out.trans (k12.below B11.out.size (fun k hk => by have := HG.out; unfold Of; omega))).alloc (by have h1 := B11.out.size; have h2 := k12.size; omega) (.cells #[.int .i64 0, .int .i64 (f : Int)] 33))
    obtain ⟨yb, hyb⟩ : ∃ yb, w12.heap.size = yb := ⟨_, rfl⟩
    rw [hyb] at KY13
    clear s12 k12 l12 rp2 BN C7 O11 S11 L11 R11 K11 KP11 KH11 PI11 B11 p0 p1 p2 p3 p4 p5 p6 p7 u0 u1 hff
    obtain ⟨w13, hw13⟩ : ∃ w13, w12.alloc (.cells #[.int .i64 0, .int .i64 (f : Int)] 33) = w13 := ⟨_, rfl⟩
    rw [hw13] at S13 O13 R13 RY13 KP13 KH13 KY13 B13
    obtain ⟨u0, u1⟩ := two_cells KP13.out
    obtain ⟨x0, x1⟩ := two_h KH13.out
    obtain ⟨y0, y1⟩ := two_h KY13.out
    have CH2 := aside (held13_any S13.out HOK.out.2)
    go_wp2_with fail
    refine CH2.out.mono ?_
    rintro e w14 ⟨v14, rfl, o14, b14⟩
    obtain ⟨a14, c14, rfl, hE14⟩ := own_ents o14 hK1
    obtain ⟨a15, c15, e15, hE15⟩ := own_ents (own_on O13.out b14) hK1
    simp only [Value.slice.injEq, true_and] at e15
    obtain ⟨rfl, rfl⟩ := e15
    have CS := aside (same13_yes a14 l1.length c14 (nthE l1) a11 l1.length c11 (nthE l1) w14 hE14 hE15 rfl)
    have R14 := aside (R13.out.below b14)
    have RY14 := aside (RY13.out.below b14)
    have KH14 := aside (blk_on KH13.out b14)
    have B14 := aside (bthen B13.out b14)
    clear o14 b14 hE14 hE15 CH2 S13 O13 R13 RY13 KP13 KH13 KY13 B13 u0 u1 x0 x1 y0 y1 hw13 hK1
    go_wp2_with fail
    refine CS.out.mono ?_
    rintro e w15 ⟨rfl, b15⟩
    have KH15 := aside (blk_on KH14.out b15)
    have B15 := aside (bthen B14.out b15)
    obtain ⟨ax, cx, Px, rfl, hpx, hsx⟩ := (R14.out.below b15).parts HRK.out
    obtain ⟨ay, cy, Py, rfl, hpy, hsy⟩ := (RY14.out.below b15).parts HRK.out
    have CSP := aside (samePs_yes ax _ cx Px ay cy Py w15 hpx hpy (fun i hi => (hsx i hi).trans' (hsy i hi).symm'))
    generalize (if rpL p l = [] then 0 else 1) = m9 at *
    obtain ⟨x0, x1⟩ := two_h KH15.out
    have hmo : l1.length ≤ len + n := by have h1 := HMO.out; have h2 := HLN.out; first | omega | (dsimp only at h1; omega)
    have hwr : IntKind.i64.wrap ((len : Int) + (n : Int)) = (len : Int) + (n : Int) := by rw [IntKind.wrap_i64]; have h1 := HNB.out; have h2 := HPE.out; have h3 := HLN.out; have h4 := HL256.out; first | omega | (dsimp only at h1; omega)
    clear b15 CS R14 RY14 KH14 B14 hpx hpy hsx hsy
    by_cases hcmp : (l1.length : Int) = (len : Int) + (n : Int)
    ·have hcb : ((l1.length : Int) == (len : Int) + (n : Int)) = true := by simpa using hcmp
     go_wp2_with fail
     refine CSP.out.mono ?_
     rintro e w16 ⟨rfl, b16⟩
     have B16 := aside (bthen B15.out b16)
     clear b16 CSP
     go_wp2
     go_ret
     exact ⟨rfl, B16.out⟩
    ·have hcb : ((l1.length : Int) == (len : Int) + (n : Int)) = false := by simpa using hcmp
     have hgt : ¬ (len : Int) + (n : Int) < (l1.length : Int) := by omega
     go_wp2_with fail
     refine CSP.out.mono ?_
     rintro e w16 ⟨rfl, b16⟩
     have B16 := aside (bthen B15.out b16)
     clear b16 CSP
     go_wp2
     go_ret
     exact ⟨rfl, B16.out⟩
end Go.Proofs.YtpbkjffiohfkcaaGreatDoor
