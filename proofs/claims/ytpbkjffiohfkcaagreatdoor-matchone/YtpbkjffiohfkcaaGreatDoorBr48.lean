/-
  The law MatchOne, walked for every argument.
-/
import Derived.Test.YtpbkjffiohfkcaaGreatDoorBr38
import Derived.Test.YtpbkjffiohfkcaaGreatDoorBr37
import Derived.Test.YtpbkjffiohfkcaaGreatDoorBr47
namespace Go.Proofs.YtpbkjffiohfkcaaGreatDoor
open Go.RowKit
set_option linter.unusedVariables false
set_option maxHeartbeats 12800000 in
set_option maxRecDepth 100000 in
theorem oneLaw_any (a : Option Addr) (len cap : Nat) (T : Nat → En) (p : Pm) (b lf : Int) (w : World) (h : EntsIn w a len cap T) (hform : (a = none ∧ len = 0 ∧ cap = 0) ∨ ∃ y, a = some y) (hP : p.In w) (hz : p.el ≤ 4611686018427387904) (L : Lanes w) :
    Calls Tryz.prog 6 #[.slice a len cap, .agg #[.int .i64 p.kind, .string p.lo, .string p.hi, .bool p.op, .int .i64 p.cnt, .int .u64 p.s0, .int .u64 p.s1, .slice p.ea p.el p.ec], .int .i64 b, .int .i64 lf] w fun e w' => e = .returned (.bool true) ∧ Below w.heap.size w w' := by
 have HE := aside h
 have HF := aside hform
 have LL := aside L
 have HP := aside hP
 have HZ := aside hz
 clear h hform L hP hz
 have B0 := aside (bnew w (.cells #[.int .i64 p.kind, .string p.lo, .string p.hi, .bool p.op, .int .i64 p.cnt, .int .u64 p.s0, .int .u64 p.s1, .slice p.ea p.el p.ec] 47))
 have K0 := aside (heap_alloc_new w (.cells #[.int .i64 p.kind, .string p.lo, .string p.hi, .bool p.op, .int .i64 p.cnt, .int .u64 p.s0, .int .u64 p.s1, .slice p.ea p.el p.ec] 47))
 obtain ⟨qb, hqb⟩ : ∃ qb, w.heap.size = qb := ⟨_, rfl⟩
 rw [hqb] at K0
 obtain ⟨w0, hw0⟩ : ∃ w0, w.alloc (.cells #[.int .i64 p.kind, .string p.lo, .string p.hi, .bool p.op, .int .i64 p.cnt, .int .u64 p.s0, .int .u64 p.s1, .slice p.ea p.el p.ec] 47) = w0 := ⟨_, rfl⟩
 rw [hw0] at B0 K0
 obtain ⟨p0, p1, p2, p3, p4, p5, p6, p7⟩ := oct K0.out
 have C1 := aside (one_any p w0 (HP.out.keep B0.out))
 go_enter Tryz.func6, Tryz.ntmps6
 go_wp2_with fail
 refine C1.out.mono ?_
 rintro e w1 ⟨g1, c1, rfl, pi1, -, b1⟩
 have PI1 := aside (pi1.keep (bnew w1 (.cells #[.slice a len cap] 22)))
 have BN := aside (bthen b1 (bnew w1 (.cells #[.slice a len cap] 22)))
 have B1 := aside (bthen B0.out BN.out)
 have K1 := aside (blk_on K0.out BN.out)
 have LI := aside (show ListsIn (w1.alloc (.cells #[.slice a len cap] 22)) w1.heap.size 1 (fun _ => a) (fun _ => len) (fun _ => cap) (fun _ => T) from fun k hk => by
  obtain rfl : k = 0 := by omega
  exact ⟨cell_one (heap_alloc_new w1 (.cells #[.slice a len cap] 22)), HE.out.keep B1.out⟩)
 clear b1 pi1 C1 B0 K0 BN p0 p1 p2 p3 p4 p5 p6 p7
 obtain ⟨w2, hw2⟩ : ∃ w2, w1.alloc (.cells #[.slice a len cap] 22) = w2 := ⟨_, rfl⟩
 rw [hw2] at PI1 B1 K1 LI
 have C2 := aside (beyond13_any (some ⟨g1, 0, none⟩) 1 c1 (fun _ => p) w1.heap.size 1 1 _ _ _ _ w2 (by omega) LI.out PI1.out)
 go_wp2_with fail
 refine C2.out.mono ?_
 rintro e w3 ⟨q, rfl, -, b3⟩
 have B3 := aside (bthen B1.out b3)
 have K3 := aside (blk_on K1.out b3)
 clear b3 C2 LI PI1 B1 K1 hw2
 cases q with
 | true =>
  go_wp2
  go_ret
  exact ⟨rfl, B3.out⟩
 | false =>
  have C3 := aside (right13_any 2 a len cap T w3 (HE.out.keep B3.out) HF.out)
  go_wp2_with fail
  refine C3.out.mono ?_
  rintro e w4 ⟨q, rfl, hq, b4⟩
  have B4 := aside (bthen B3.out b4)
  have K4 := aside (blk_on K3.out b4)
  have HQ := aside hq
  clear b4 C3 B3 K3 hq
  cases q with
  | false =>
   go_wp2
   go_ret
   exact ⟨rfl, B4.out⟩
  | true =>
   have HO := aside (HQ.out.1 rfl)
   have C4 := aside (made13_any 2 a len cap T w4 (HE.out.keep B4.out) HF.out (LL.out.keep B4.out) HO.out)
   go_wp2_with fail
   refine C4.out.mono ?_
   rintro e w5 ⟨sb, g, tb, db, rfl, pp, b5⟩
   have BA := bthen b5 (bnew w5 (.cells #[.pointer (some ⟨sb, 0, none⟩), .pointer (some ⟨db, 0, none⟩)] 29))
   have B5 := aside (bthen B4.out BA)
   have K5 := aside (blk_on K4.out BA)
   have PP := aside (pp.below (bnew w5 (.cells #[.pointer (some ⟨sb, 0, none⟩), .pointer (some ⟨db, 0, none⟩)] 29)))
   have KP := aside (heap_alloc_new w5 (.cells #[.pointer (some ⟨sb, 0, none⟩), .pointer (some ⟨db, 0, none⟩)] 29))
   obtain ⟨pb, hpb⟩ : ∃ pb, w5.heap.size = pb := ⟨_, rfl⟩
   rw [hpb] at KP
   have HG := aside (show w.heap.size ≤ sb ∧ w.heap.size ≤ g ∧ w.heap.size ≤ tb ∧ w.heap.size ≤ db from by have h1 := pp.s; have h2 := pp.g; have h3 := pp.t; have h5 := pp.d; have h4 := B4.out.size; omega)
   have HD0 := aside (show w4.heap.size + 1 ≤ (w5.alloc (.cells #[.pointer (some ⟨sb, 0, none⟩), .pointer (some ⟨db, 0, none⟩)] 29)).heap.size from by have h1 := lt_of_blk (show w5.heap[sb]? = some _ from by obtain ⟨T9, n9, s9, -⟩ := pp.code; exact s9.blk); have h2 := pp.s; simp; omega)
   clear b5 pp C4 BA K4 B4
   obtain ⟨w6, hw6⟩ : ∃ w6, w5.alloc (.cells #[.pointer (some ⟨sb, 0, none⟩), .pointer (some ⟨db, 0, none⟩)] 29) = w6 := ⟨_, rfl⟩
   rw [hw6] at B5 K5 PP KP HD0
   generalize (w4.heap.size + 1) = D0 at *
   have HLN := aside (show (firstE T len).length = len from firstE_len T len)
   have HL256 := aside HO.out.len
   have HMP := aside HO.out.map
   generalize (firstE T len) = l at *
   have P6 := aside (HP.out.keep B5.out)
   obtain ⟨p0, p1, p2, p3, p4, p5, p6, p7⟩ := oct K5.out
   obtain ⟨u0, u1⟩ := two_cells KP.out
   have C5 := aside (cmpX_any b lf p PP.out.code PP.out.lanes HMP.out HL256.out P6.out HZ.out)
   go_wp2_with fail
   refine C5.out.mono ?_
   rintro e w7 ⟨v7, rfl, t7, s7, k7, l7⟩
   have D7 := PP.out.doc.keeps PP.out.code k7
   have P7 := aside (show Pair2 w7 D0 sb g tb db 2 1099511627776 l from ⟨s7, D7, l7, PP.out.s, PP.out.g, PP.out.t, PP.out.d⟩)
   have K7 := aside (blk_keep K5.out k7 (PP.out.code.not K5.out (by decide) (by decide) (by decide)))
   have KP7 := aside (blk_keep KP.out k7 (PP.out.code.not KP.out (by decide) (by decide) (by decide)))
   have PI7 := aside (EntsIn.keepS P6.out PP.out.code k7)
   have B7 := aside (B5.out.trans (k7.below B5.out.size (fun k hk => by have := HG.out; unfold Of; omega)))
   have HD7 := aside (show D0 ≤ w7.heap.size from by have h1 := HD0.out; have h2 := k7.size; omega)
   have T7 := aside t7
   clear s7 k7 l7 D7 t7 C5 K5 KP PP B5 P6 p0 p1 p2 p3 p4 p5 p6 p7 u0 u1 hw6 HD0
   obtain ⟨p0, p1, p2, p3, p4, p5, p6, p7⟩ := oct K7.out
   obtain ⟨u0, u1⟩ := two_cells KP7.out
   have C6 := aside (rcmpU b lf p P7.out.doc HMP.out HL256.out PI7.out)
   go_wp2_with fail
   refine C6.out.mono ?_
   rintro e w8 ⟨v8, rfl, t8, b8⟩
   have P8 := aside (P7.out.below b8)
   have K8 := aside (blk_on K7.out b8)
   have KP8 := aside (blk_on KP7.out b8)
   have PI8 := aside (PI7.out.keep b8)
   have B8 := aside (bthen B7.out b8)
   have HD8 := aside (Nat.le_trans HD7.out b8.size)
   have C7 := aside (Told.same (T7.out.below b8) t8 (cQ_keys HMP.out))
   clear t8 b8 C6 P7 K7 KP7 PI7 B7 HD7 T7 p0 p1 p2 p3 p4 p5 p6 p7 u0 u1
   obtain ⟨ce, hce⟩ : ∃ ce, cErr b lf p = ce := ⟨_, rfl⟩
   rw [hce]
   go_wp2_with fail
   refine C7.out.mono ?_
   rintro e w9 ⟨rfl, b9⟩
   have P9 := aside (P8.out.below b9)
   have K9 := aside (blk_on K8.out b9)
   have KP9 := aside (blk_on KP8.out b9)
   have PI9 := aside (PI8.out.keep b9)
   have B9 := aside (bthen B8.out b9)
   have HD9 := aside (Nat.le_trans HD8.out b9.size)
   clear b9 C7 P8 K8 KP8 PI8 B8 HD8
   obtain ⟨u0, u1⟩ := two_cells KP9.out
   have CT := aside (still13_any P9.out HMP.out HL256.out)
   go_wp2_with fail
   refine CT.out.mono ?_
   rintro e w10 ⟨rfl, b10⟩
   have P10 := aside (P9.out.below b10)
   have K10 := aside (blk_on K9.out b10)
   have KP10 := aside (blk_on KP9.out b10)
   have PI10 := aside (PI9.out.keep b10)
   have B10 := aside (bthen B9.out b10)
   have HD10 := aside (Nat.le_trans HD9.out b10.size)
   clear b10 CT P9 K9 KP9 PI9 B9 HD9 u0 u1
   obtain ⟨p0, p1, p2, p3, p4, p5, p6, p7⟩ := oct K10.out
   obtain ⟨u0, u1⟩ := two_cells KP10.out
   have C8 := aside (xchgU p P10.out.code HMP.out HL256.out PI10.out HZ.out P10.out.lanes)
   have HOK := aside (tkX_ok (p := p) (s := ⟨l, 1099511627776, 0, 0⟩) ⟨HMP.out, HL256.out⟩)
   have C9 := aside (fun (W : World) (hd : DSt W D0 db 2 1099511627776 l) (hB : D0 ≤ W.heap.size) (hP : p.In W) => rxchgU p hd HMP.out HL256.out hB hP)
   obtain ⟨s, hs⟩ : ∃ s, tkX p ⟨l, 1099511627776, 0, 0⟩ = s := ⟨_, rfl⟩
   rw [hs] at C8 C9 HOK
   clear hs
   obtain ⟨l1, k1, n, f⟩ := s
   dsimp only at C8 C9 HOK
   obtain ⟨xe, hxe⟩ : ∃ xe, xErr p = xe := ⟨_, rfl⟩
   rw [hxe] at C8 C9
   go_wp2_with fail
   refine C8.out.mono ?_
   rintro e w11 ⟨v11, rfl, t11, s11, k11, l11⟩
   have BN := bnew w11 (.cells #[.int .i64 (n : Int), .int .i64 (f : Int)] 33)
   have D11 := P10.out.doc.keeps P10.out.code k11
   have S12 := aside (s11.below BN)
   have D12 := aside (D11.below BN)
   have L12 := aside (l11.keep BN)
   have T12 := aside (t11.below BN)
   have K12 := aside (blk_on (blk_keep K10.out k11 (P10.out.code.not K10.out (by decide) (by decide) (by decide))) BN)
   have KP12 := aside (blk_on (blk_keep KP10.out k11 (P10.out.code.not KP10.out (by decide) (by decide) (by decide))) BN)
   have KH12 := aside (heap_alloc_new w11 (.cells #[.int .i64 (n : Int), .int .i64 (f : Int)] 33))
   have PI12 := aside ((EntsIn.keepS PI10.out P10.out.code k11).keep BN)
   have B12 := aside ((B10.out.trans (k11.below B10.out.size (fun k hk => by have := HG.out; unfold Of; omega))).alloc (by have h1 := B10.out.size; have h2 := k11.size; omega) (.cells #[.int .i64 (n : Int), .int .i64 (f : Int)] 33))
   have HD12 := aside (show D0 ≤ (w11.alloc (.cells #[.int .i64 (n : Int), .int .i64 (f : Int)] 33)).heap.size from by have h1 := HD10.out; have h2 := k11.size; simp; omega)
   have HP4 := aside (show D0 ≤ sb ∧ D0 ≤ g ∧ D0 ≤ tb ∧ D0 ≤ db from ⟨P10.out.s, P10.out.g, P10.out.t, P10.out.d⟩)
   clear s11 k11 l11 t11 D11 BN C8 K10 KP10 P10 B10 PI10 HD10 p0 p1 p2 p3 p4 p5 p6 p7 u0 u1
   obtain ⟨hb, hhb⟩ : ∃ hb, w11.heap.size = hb := ⟨_, rfl⟩
   rw [hhb] at KH12
   obtain ⟨w12, hw12⟩ : ∃ w12, w11.alloc (.cells #[.int .i64 (n : Int), .int .i64 (f : Int)] 33) = w12 := ⟨_, rfl⟩
   rw [hw12] at S12 D12 L12 T12 K12 KP12 PI12 B12 HD12 KH12
   obtain ⟨p0, p1, p2, p3, p4, p5, p6, p7⟩ := oct K12.out
   obtain ⟨u0, u1⟩ := two_cells KP12.out
   have C9a := aside (C9.out w12 D12.out HD12.out PI12.out)
   clear C9
   go_wp2_with fail
   refine C9a.out.mono ?_
   rintro e w13 ⟨v13, rfl, t13, d13, k13⟩
   have BN := bnew w13 (.cells #[.int .i64 (n : Int), .int .i64 (f : Int)] 33)
   have P14 := aside ((show Pair2 w13 D0 sb g tb db 2 k1 l1 from ⟨S12.out.keepD D12.out k13, d13, L12.out.keeps k13 (L12.out.doc D12.out), HP4.out.1, HP4.out.2.1, HP4.out.2.2.1, HP4.out.2.2.2⟩).below BN)
   have T14 := aside ((T12.out.keepD D12.out k13).below BN)
   have U14 := aside (t13.below BN)
   have KP14 := aside (blk_on (blk_keep KP12.out k13 (D12.out.other KP12.out (by decide))) BN)
   have KH14 := aside (blk_on (blk_keep KH12.out k13 (D12.out.other KH12.out (by decide))) BN)
   have KI14 := aside (heap_alloc_new w13 (.cells #[.int .i64 (n : Int), .int .i64 (f : Int)] 33))
   have B14 := aside ((B12.out.trans (k13.below B12.out.size (fun k hk => by have := HG.out; omega))).alloc (by have h1 := B12.out.size; have h2 := k13.size; omega) (.cells #[.int .i64 (n : Int), .int .i64 (f : Int)] 33))
   clear d13 k13 BN C9a K12 KP12 KH12 PI12 B12 HD12 S12 D12 L12 T12 t13 p0 p1 p2 p3 p4 p5 p6 p7 u0 u1 hw12
   have C10 := aside (Told.same T14.out U14.out (xQ_keys HMP.out))
   obtain ⟨hb2, hhb2⟩ : ∃ hb2, w13.heap.size = hb2 := ⟨_, rfl⟩
   rw [hhb2] at KI14
   obtain ⟨w14, hw14⟩ : ∃ w14, w13.alloc (.cells #[.int .i64 (n : Int), .int .i64 (f : Int)] 33) = w14 := ⟨_, rfl⟩
   rw [hw14] at P14 KP14 KH14 KI14 B14 C10
   clear T14 U14
   obtain ⟨h0, h1⟩ := two_h KH14.out
   obtain ⟨j0, j1⟩ := two_h KI14.out
   have SQ : ∀ W, (binOp .eql 33 (.agg #[.int .i64 (n : Int), .int .i64 (f : Int)]) (.agg #[.int .i64 (n : Int), .int .i64 (f : Int)])).run Tryz.prog W = .ok (.bool true) W := fun W => by rw [heard_run]; simp
   go_wp2_with fail
   refine C10.out.mono ?_
   rintro e w15 ⟨rfl, b15⟩
   have P15 := aside (P14.out.below b15)
   have KP15 := aside (blk_on KP14.out b15)
   have B15 := aside (bthen B14.out b15)
   clear b15 C10 P14 KP14 KH14 KI14 B14 h0 h1 j0 j1 SQ hw14
   obtain ⟨u0, u1⟩ := two_cells KP15.out
   have CT := aside (still13_any P15.out HOK.out.1 HOK.out.2)
   go_wp2_with fail
   refine CT.out.mono ?_
   rintro e w16 ⟨rfl, b16⟩
   have B16 := aside (bthen B15.out b16)
   clear b16 CT u0 u1
   go_wp2
   go_ret
   exact ⟨rfl, B16.out⟩
end Go.Proofs.YtpbkjffiohfkcaaGreatDoor
