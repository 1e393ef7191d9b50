/-
  exchange.
-/
import Derived.Test.YtpbkjffiohfkcaaGreatDoorBs30
import Derived.Test.YtpbkjffiohfkcaaGreatDoorBs1
import Derived.Test.YtpbkjffiohfkcaaGreatDoorBs38
import Derived.Test.YtpbkjffiohfkcaaGreatDoorBs27
import Derived.Deep.Cut
import Derived.Test.YtpbkjffiohfkcaaGreatDoorBs17
import Derived.Test.YtpbkjffiohfkcaaGreatDoorBs18
import Derived.Test.YtpbkjffiohfkcaaGreatDoorBs39
namespace Go.Proofs.YtpbkjffiohfkcaaGreatDoor
open Go.RowKit
set_option linter.unusedVariables false
set_option maxHeartbeats 6400000 in
set_option maxRecDepth 100000 in
theorem exch_any (p : Pm) {w : World} {sb g tb : Nat} {nd ck : Int} {Ls : List En} (h : Sto w sb g tb nd ck Ls) (hm : MapL Ls) (hl : Ls.length ≤ 256) (hP : p.In w) (hpm : MapL (firstE p.T p.el)) (hpl : p.el ≤ 256) (hc : p.rg.chk = 0) (L : Lanes w) :
    Calls Tryz.prog 33 #[.pointer (some ⟨sb, 0, none⟩), .agg #[.int .i64 p.kind, .string p.lo, .string p.hi, .bool p.op, .int .i64 p.cnt, .int .u64 p.s0, .int .u64 p.s1, .slice p.ea p.el p.ec]] w fun r w' => ∃ v, r = .returned (.tuple #[v, .agg #[.int .i64 ((tkAll ⟨Ls, ck, 0, 0⟩ (firstE p.T p.el)).n : Int), .int .i64 ((tkAll ⟨Ls, ck, 0, 0⟩ (firstE p.T p.el)).f : Int)]]) ∧ RpAt (w.heap.size + 2) p (rpL p Ls) v w' ∧ Sto w' sb g tb nd (tkAll ⟨Ls, ck, 0, 0⟩ (firstE p.T p.el)).c (tkAll ⟨Ls, ck, 0, 0⟩ (firstE p.T p.el)).l ∧ Keeps (Of sb g tb) w w' ∧ Lanes w' := by
 have BX := aside (bthen (bnew w (.cells #[.int .i64 p.kind, .string p.lo, .string p.hi, .bool p.op, .int .i64 p.cnt, .int .u64 p.s0, .int .u64 p.s1, .slice p.ea p.el p.ec] 47)) (bnew _ (.cells #[.int .i64 0, .int .i64 0] 33)))
 have KX := aside (blk_on (heap_alloc_new w (.cells #[.int .i64 p.kind, .string p.lo, .string p.hi, .bool p.op, .int .i64 p.cnt, .int .u64 p.s0, .int .u64 p.s1, .slice p.ea p.el p.ec] 47)) (bnew _ (.cells #[.int .i64 0, .int .i64 0] 33)))
 have KZ := aside (heap_alloc_new (w.alloc (.cells #[.int .i64 p.kind, .string p.lo, .string p.hi, .bool p.op, .int .i64 p.cnt, .int .u64 p.s0, .int .u64 p.s1, .slice p.ea p.el p.ec] 47)) (.cells #[.int .i64 0, .int .i64 0] 33))
 rw [World.size_alloc] at KZ
 obtain ⟨pb, hpb⟩ : ∃ pb, w.heap.size = pb := ⟨_, rfl⟩
 rw [hpb] at KX KZ ⊢
 have ZX := aside (show ((w.alloc (.cells #[.int .i64 p.kind, .string p.lo, .string p.hi, .bool p.op, .int .i64 p.cnt, .int .u64 p.s0, .int .u64 p.s1, .slice p.ea p.el p.ec] 47)).alloc (.cells #[.int .i64 0, .int .i64 0] 33)).heap.size = pb + 2 from by rw [World.size_alloc, World.size_alloc, hpb])
 have HNL := aside (show w.heap.size ≤ pb ∧ pb + 1 < pb + 2 from by omega)
 obtain ⟨X, hX⟩ : ∃ X, (w.alloc (.cells #[.int .i64 p.kind, .string p.lo, .string p.hi, .bool p.op, .int .i64 p.cnt, .int .u64 p.s0, .int .u64 p.s1, .slice p.ea p.el p.ec] 47)).alloc (.cells #[.int .i64 0, .int .i64 0] 33) = X := ⟨_, rfl⟩
 rw [hX] at BX KX KZ ZX
 have HX := aside (h.below BX.out)
 have CR := aside (replyTo_any p HX.out hm hl (hP.keep BX.out) hpm hpl hc)
 have HPI := aside (hP.keep BX.out)
 have CT := aside (fun W (hs : Sto W sb g tb nd ck Ls) (hL : Lanes W) (hE : p.In W) => takeAll_any p.ea p.el p.ec p.T hs hL hl hE (by omega))
 have LX := aside (L.keep BX.out)
 obtain ⟨s, hs⟩ : ∃ s, (tkAll ⟨Ls, ck, 0, 0⟩ (firstE p.T p.el)) = s := ⟨_, rfl⟩
 rw [hs] at CT ⊢
 obtain ⟨Lj, cj, n, f⟩ := s
 dsimp only at CT ⊢
 clear h hm hl hP hpm hpl hc L hs
 obtain ⟨p0, p1, p2, p3, p4, p5, p6, p7⟩ := oct KX.out
 go_enter Tryz.func33, Tryz.ntmps33
 go_wp2_with fail
 refine CR.out.mono ?_
 rintro e w1 ⟨v, rfl, rp, b1⟩
 rw [ZX.out] at rp
 have RP := aside rp
 have K1 := aside (blk_on KX.out b1)
 have KZ1 := aside (blk_on KZ.out b1)
 have S1 := aside (HX.out.below b1)
 have L1 := aside (LX.out.keep b1)
 have B1 := aside (bthen BX.out b1)
 have P1 := aside (HPI.out.keep b1)
 clear rp b1 CR HX LX BX HPI KX KZ p0 p1 p2 p3 p4 p5 p6 p7 hX ZX
 obtain ⟨-, -, -, -, -, -, -, p7⟩ := oct K1.out
 go_wp2_with fail
 refine (CT.out _ S1.out L1.out P1.out).mono ?_
 rintro e w2 ⟨rfl, s2, k2, l2⟩
 have SA := aside s2
 have LA := aside l2
 have KA := aside ((Keeps.of_below B1.out _).trans k2)
 have KZ2 := aside (blk_keep KZ1.out k2 (S1.out.not KZ1.out (by decide) (by decide) (by decide)))
 have RP2 := aside (RP.out.keepS S1.out k2)
 clear s2 l2 k2 S1 L1 P1 K1 KZ1 CT RP B1 p7
 obtain ⟨z0, z1⟩ := two_h KZ2.out
 have y0 := frozen_of_row _ _ 0 _ _ KZ2.out
 have y1 := frozen_of_row _ _ 1 _ _ KZ2.out
 have KF := aside (((Keeps.refl (fun x => x = pb + 1) w2).setCell (p := ⟨pb + 1, 0, none⟩) (fun _ => rfl) (.int .i64 (n : Int))).setCell (p := ⟨pb + 1, 1, none⟩) (fun _ => rfl) (.int .i64 (f : Int)))
 have SF := aside (SA.out.set KZ2.out (by decide) (by decide) (by decide) (by decide) KF.out)
 have LF := aside (LA.out.keeps KF.out (fun (e : 0 = pb + 1) => by omega))
 have KW := aside ((KA.out.setCell (p := ⟨pb + 1, 0, none⟩) (fun hh => absurd hh (by have h9 := HNL.out; simp; omega)) (.int .i64 (n : Int))).setCell (p := ⟨pb + 1, 1, none⟩) (fun hh => absurd hh (by have h9 := HNL.out; simp; omega)) (.int .i64 (f : Int)))
 have KR := set_in 1 (.int .i64 (f : Int)) (set_in 0 (.int .i64 (n : Int)) KZ2.out)
 simp only [List.setIfInBounds_toArray, List.set_cons_zero, List.set_cons_succ] at KR
 have HKR := aside KR
 clear KR KF
 have RF := aside ((RP2.out.set (b := pb + 1) (by have h9 := HNL.out; omega) 0 (.int .i64 (n : Int))).set (b := pb + 1) (by have h9 := HNL.out; omega) 1 (.int .i64 (f : Int)))
 go_wp2
 obtain ⟨r0, r1⟩ := two_h HKR.out
 exact bodyPost_ret (v := .tuple #[v, .agg #[.int .i64 (n : Int), .int .i64 (f : Int)]]) (by simp [results, Tryz.results33, go_sem, r0, r1]) rfl ⟨v, rfl, RF.out, SF.out, KW.out, LF.out⟩
def XSay (w : World) (sb g tb : Nat) (nd ck : Int) (Ls : List En) (p : Pm) (r : Ending) (w' : World) : Prop :=
 (xErr p ≠ 0 ∧ r = .returned (.tuple #[.slice none 0 0, .agg #[.int .i64 0, .int .i64 0], .int .i64 (xErr p)]) ∧ Sto w' sb g tb nd ck Ls ∧ Keeps (Of sb g tb) w w' ∧ Lanes w') ∨
 (xErr p = 0 ∧ ∃ v, r = .returned (.tuple #[v, .agg #[.int .i64 ((tkAll ⟨Ls, ck, 0, 0⟩ (firstE p.T p.el)).n : Int), .int .i64 ((tkAll ⟨Ls, ck, 0, 0⟩ (firstE p.T p.el)).f : Int)], .int .i64 0]) ∧ RpAt (w.heap.size + 2) p (rpL p Ls) v w' ∧ Sto w' sb g tb nd (tkAll ⟨Ls, ck, 0, 0⟩ (firstE p.T p.el)).c (tkAll ⟨Ls, ck, 0, 0⟩ (firstE p.T p.el)).l ∧ Keeps (Of sb g tb) w w' ∧ Lanes w')
set_option maxHeartbeats 6400000 in
set_option maxRecDepth 100000 in
theorem xchg_any (p : Pm) {w : World} {sb g tb : Nat} {nd ck : Int} {Ls : List En} (h : Sto w sb g tb nd ck Ls) (hm : MapL Ls) (hl : Ls.length ≤ 256) (hP : p.In w) (hz : p.el ≤ 4611686018427387904) (L : Lanes w) :
    Calls Tryz.prog 15 #[.pointer (some ⟨sb, 0, none⟩), .agg #[.int .i64 p.kind, .string p.lo, .string p.hi, .bool p.op, .int .i64 p.cnt, .int .u64 p.s0, .int .u64 p.s1, .slice p.ea p.el p.ec]] w fun r w' => XSay w sb g tb nd ck Ls p r w' := by
 have BX := aside (bthen (bnew w (.cells #[.int .i64 p.kind, .string p.lo, .string p.hi, .bool p.op, .int .i64 p.cnt, .int .u64 p.s0, .int .u64 p.s1, .slice p.ea p.el p.ec] 47)) (bnew _ (.cells #[.int .i64 0, .int .i64 0] 33)))
 have KX := aside (blk_on (heap_alloc_new w (.cells #[.int .i64 p.kind, .string p.lo, .string p.hi, .bool p.op, .int .i64 p.cnt, .int .u64 p.s0, .int .u64 p.s1, .slice p.ea p.el p.ec] 47)) (bnew _ (.cells #[.int .i64 0, .int .i64 0] 33)))
 have KZ := aside (heap_alloc_new (w.alloc (.cells #[.int .i64 p.kind, .string p.lo, .string p.hi, .bool p.op, .int .i64 p.cnt, .int .u64 p.s0, .int .u64 p.s1, .slice p.ea p.el p.ec] 47)) (.cells #[.int .i64 0, .int .i64 0] 33))
 rw [World.size_alloc] at KZ
 obtain ⟨pb, hpb⟩ : ∃ pb, w.heap.size = pb := ⟨_, rfl⟩
 rw [hpb] at KX KZ
 have HNL := aside (show w.heap.size ≤ pb ∧ pb + 1 < pb + 2 from by omega)
 obtain ⟨X, hX⟩ : ∃ X, (w.alloc (.cells #[.int .i64 p.kind, .string p.lo, .string p.hi, .bool p.op, .int .i64 p.cnt, .int .u64 p.s0, .int .u64 p.s1, .slice p.ea p.el p.ec] 47)).alloc (.cells #[.int .i64 0, .int .i64 0] 33) = X := ⟨_, rfl⟩
 rw [hX] at BX KX KZ
 have ZX := aside (show X.heap.size = pb + 2 from by rw [← hX, World.size_alloc, World.size_alloc, hpb])
 have CK := aside (parts_any (some ⟨X.heap.size, 0, none⟩) 1 1 (fun _ => p) (X.alloc (.cells #[.int .i64 p.kind, .string p.lo, .string p.hi, .bool p.op, .int .i64 p.cnt, .int .u64 p.s0, .int .u64 p.s1, .slice p.ea p.el p.ec] 47)) ⟨Nat.le_refl _, by unfold maxLen; omega, .inr ⟨X.heap.size, 0, rfl, by simp, fun i hi => ⟨by
  obtain rfl : i = 0 := by omega
  exact oct (heap_alloc_new X (.cells #[.int .i64 p.kind, .string p.lo, .string p.hi, .bool p.op, .int .i64 p.cnt, .int .u64 p.s0, .int .u64 p.s1, .slice p.ea p.el p.ec] 47)), hP.keep (bthen BX.out (bnew X _))⟩⟩⟩ (by simp only [totE]; omega))
 obtain ⟨q, hq⟩ : ∃ q, psChk (fun _ => p) 1 = q := ⟨_, rfl⟩
 rw [hq] at CK
 have HXE := aside (show xErr p = if q ≠ 0 then q else if p.kind = 1 then 114 else 0 from by unfold xErr; rw [hq])
 have H := aside h
 have LL := aside L
 have HM := aside hm
 have HL := aside hl
 have HP := aside hP
 unfold XSay
 clear h hm hl hP hz L hq
 obtain ⟨p0, p1, p2, p3, p4, p5, p6, p7⟩ := oct KX.out
 by_cases hq0 : q = 0
 ·subst hq0
  by_cases hk : p.kind = 1
  ·have hkb : (p.kind == 1) = true := by simpa using hk
   rw [show xErr p = 114 from by rw [HXE.out, if_neg (by simp), if_pos hk]]
   have HQ := aside (show (114 : Int) ≠ 0 by decide)
   clear hk HXE
   go_enter Tryz.func15, Tryz.ntmps15
   go_wp2_with fail
   refine CK.out.mono ?_
   rintro e w1 ⟨rfl, b1⟩
   have B1 := aside (bthen BX.out (bthen (bnew X _) b1))
   have K1 := aside (blk_on KX.out (bthen (bnew X _) b1))
   have KZ1 := aside (blk_on KZ.out (bthen (bnew X _) b1))
   clear b1 CK BX KX KZ p0 p1 p2 p3 p4 p5 p6 p7 hX
   obtain ⟨p0, -⟩ := oct K1.out
   have SA := aside (H.out.below B1.out)
   have LA := aside (LL.out.keep B1.out)
   have KA := aside (Keeps.of_below B1.out (Of sb g tb))
   go_upto_region 5 with fail
   clear p0
   obtain ⟨z0, z1⟩ := two_h KZ1.out
   have y0 := frozen_of_row _ _ 0 _ _ KZ1.out
   have y1 := frozen_of_row _ _ 1 _ _ KZ1.out
   have KF := aside (((Keeps.refl (fun x => x = pb + 1) w1).setCell (p := ⟨pb + 1, 0, none⟩) (fun _ => rfl) (.int .i64 0)).setCell (p := ⟨pb + 1, 1, none⟩) (fun _ => rfl) (.int .i64 0))
   have SF := aside (SA.out.set KZ1.out (by decide) (by decide) (by decide) (by decide) KF.out)
   have LF := aside (LA.out.keeps KF.out (fun (e : 0 = pb + 1) => by omega))
   have KW := aside ((KA.out.setCell (p := ⟨pb + 1, 0, none⟩) (fun hh => absurd hh (by have h9 := HNL.out; simp; omega)) (.int .i64 0)).setCell (p := ⟨pb + 1, 1, none⟩) (fun hh => absurd hh (by have h9 := HNL.out; simp; omega)) (.int .i64 0))
   have KR := set_in 1 (.int .i64 0) (set_in 0 (.int .i64 0) KZ1.out)
   simp only [List.setIfInBounds_toArray, List.set_cons_zero, List.set_cons_succ] at KR
   have HKR := aside KR
   clear KR KF
   go_wp2
   obtain ⟨r0, r1⟩ := two_h HKR.out
   exact bodyPost_ret (v := .tuple #[.slice none 0 0, .agg #[.int .i64 0, .int .i64 0], .int .i64 114]) (by simp [results, Tryz.results15, go_sem, r0, r1]) rfl (.inl ⟨HQ.out, rfl, SF.out, KW.out, LF.out⟩)
  ·have hkb : (p.kind == 1) = false := by simpa using hk
   have hx0 : xErr p = 0 := by rw [HXE.out, if_neg (by simp), if_neg hk]
   rw [hx0]
   obtain ⟨-, -, x3, x4, x5⟩ := xErr_ok hx0
   have CE := aside (fun W (bb : Below w.heap.size w W) => exch_any p (H.out.below bb) HM.out HL.out (HP.out.keep bb) x3 x4 x5 (LL.out.keep bb))
   obtain ⟨s, hs⟩ : ∃ s, (tkAll ⟨Ls, ck, 0, 0⟩ (firstE p.T p.el)) = s := ⟨_, rfl⟩
   rw [hs] at CE ⊢
   obtain ⟨Lj, cj, n, f⟩ := s
   dsimp only at CE ⊢
   clear x3 x4 x5 hx0 hk HXE hs
   go_enter Tryz.func15, Tryz.ntmps15
   go_wp2_with fail
   refine CK.out.mono ?_
   rintro e w1 ⟨rfl, b1⟩
   have B1 := aside (bthen BX.out (bthen (bnew X _) b1))
   have K1 := aside (blk_on KX.out (bthen (bnew X _) b1))
   have KZ1 := aside (blk_on KZ.out (bthen (bnew X _) b1))
   clear b1 CK BX KX KZ p0 p1 p2 p3 p4 p5 p6 p7 hX
   obtain ⟨p0, p1, p2, p3, p4, p5, p6, p7⟩ := oct K1.out
   go_wp2_with fail
   refine (CE.out _ B1.out).mono ?_
   rintro e w2 ⟨v, rfl, rp, s2, k2, l2⟩
   have S1 := H.out.below B1.out
   have BN := bnew w2 (.cells #[.int .i64 (n : Int), .int .i64 (f : Int)] 33)
   have KZ2 := aside (blk_on (blk_on (blk_keep KZ1.out k2 (S1.not KZ1.out (by decide) (by decide) (by decide))) BN) (Below.refl _ _).drew)
   have SA := aside ((s2.below BN).below (Below.refl _ _).drew)
   have LA := aside ((l2.keep BN).keep (Below.refl _ _).drew)
   have KA := aside ((((Keeps.of_below B1.out _).trans k2).alloc (.cells #[.int .i64 (n : Int), .int .i64 (f : Int)] 33)).drew)
   have RP2 := aside (((rp.low (show pb + 2 ≤ w1.heap.size + 2 from by have h1 := B1.out.size; omega)).below BN).below (Below.refl _ _).drew)
   have KXB := aside (heap_alloc_new w2 (.cells #[.int .i64 (n : Int), .int .i64 (f : Int)] 33))
   have HNX := aside (show pb + 1 < w2.heap.size from by have h1 := lt_of_blk KZ1.out; have h2 := k2.size; omega)
   clear rp s2 k2 l2 CE BN S1 p0 p1 p2 p3 p4 p5 p6 p7 K1 KZ1 B1 hkb
   obtain ⟨xb, hxb⟩ : ∃ xb, w2.heap.size = xb := ⟨_, rfl⟩
   rw [hxb] at KXB HNX
   obtain ⟨x0, x1⟩ := two_h KXB.out
   go_wp2_with fail
   refine wp_region_held_drew (S := fun W => W.cell? ⟨xb, 0, none⟩ = some (.int .i64 (n : Int)) ∧ W.cell? ⟨xb, 1, none⟩ = some (.int .i64 (f : Int))) (by kernel_rfl) ⟨x0, x1⟩ (fun hHeld => ?_)
   refine tk 0 rfl _ ?_; refine tk 1 rfl _ ?_; refine tk 2 rfl _ ?_
   clear x0 x1
   generalize World.drew _ = Y at *
   obtain ⟨z0, z1⟩ := two_h KZ2.out
   have y0 := frozen_of_row _ _ 0 _ _ KZ2.out
   have y1 := frozen_of_row _ _ 1 _ _ KZ2.out
   have KF := aside (((Keeps.refl (fun x => x = pb + 1) Y).setCell (p := ⟨pb + 1, 0, none⟩) (fun _ => rfl) (.int .i64 (n : Int))).setCell (p := ⟨pb + 1, 1, none⟩) (fun _ => rfl) (.int .i64 (f : Int)))
   have SF := aside (SA.out.set KZ2.out (by decide) (by decide) (by decide) (by decide) KF.out)
   have LF := aside (LA.out.keeps KF.out (fun (e : 0 = pb + 1) => by omega))
   have KW := aside ((KA.out.setCell (p := ⟨pb + 1, 0, none⟩) (fun hh => absurd hh (by have h9 := HNL.out; simp; omega)) (.int .i64 (n : Int))).setCell (p := ⟨pb + 1, 1, none⟩) (fun hh => absurd hh (by have h9 := HNL.out; simp; omega)) (.int .i64 (f : Int)))
   have KR := set_in 1 (.int .i64 (f : Int)) (set_in 0 (.int .i64 (n : Int)) KZ2.out)
   simp only [List.setIfInBounds_toArray, List.set_cons_zero, List.set_cons_succ] at KR
   have HKR := aside KR
   clear KR KF
   have RF := aside ((RP2.out.set (b := pb + 1) (by have h9 := HNL.out; omega) 0 (.int .i64 (n : Int))).set (b := pb + 1) (by have h9 := HNL.out; omega) 1 (.int .i64 (f : Int)))
   refine rd 3 rfl fun K hK => ?_
   go_simp
   refine hK.out _ _ (⟨cell_apart (cell_apart hHeld.1 (by have := HNX.out; simp; omega)) (by have := HNX.out; simp; omega), cell_apart (cell_apart hHeld.2 (by have := HNX.out; simp; omega)) (by have := HNX.out; simp; omega)⟩) (fun hHeld => ?_)
   clear hK K z0 z1 y0 y1
   refine tk 4 rfl _ ?_
   refine wpAnyH_done (by kernel_rfl) ?_ _
   go_wp2
   obtain ⟨r0, r1⟩ := two_h HKR.out
   exact bodyPost_ret (v := .tuple #[v, .agg #[.int .i64 (n : Int), .int .i64 (f : Int)], .int .i64 0]) (by simp [results, Tryz.results15, go_sem, r0, r1]) rfl (.inr ⟨by first | rfl | trivial, v, rfl, by first | exact RF.out | (rw [hpb]; exact RF.out), SF.out, KW.out, LF.out⟩)
 ·have hqb : (q == 0) = false := by simpa using hq0
  rw [show xErr p = q from by rw [HXE.out, if_pos hq0]]
  have HQ := aside hq0
  clear HXE
  go_enter Tryz.func15, Tryz.ntmps15
  go_wp2_with fail
  refine CK.out.mono ?_
  rintro e w1 ⟨rfl, b1⟩
  have B1 := aside (bthen BX.out (bthen (bnew X _) b1))
  have K1 := aside (blk_on KX.out (bthen (bnew X _) b1))
  have KZ1 := aside (blk_on KZ.out (bthen (bnew X _) b1))
  clear b1 CK BX KX KZ p0 p1 p2 p3 p4 p5 p6 p7 hX
  obtain ⟨p0, -⟩ := oct K1.out
  have SA := aside (H.out.below B1.out)
  have LA := aside (LL.out.keep B1.out)
  have KA := aside (Keeps.of_below B1.out (Of sb g tb))
  go_upto_region 3 with fail
  clear p0
  obtain ⟨z0, z1⟩ := two_h KZ1.out
  have y0 := frozen_of_row _ _ 0 _ _ KZ1.out
  have y1 := frozen_of_row _ _ 1 _ _ KZ1.out
  have KF := aside (((Keeps.refl (fun x => x = pb + 1) w1).setCell (p := ⟨pb + 1, 0, none⟩) (fun _ => rfl) (.int .i64 0)).setCell (p := ⟨pb + 1, 1, none⟩) (fun _ => rfl) (.int .i64 0))
  have SF := aside (SA.out.set KZ1.out (by decide) (by decide) (by decide) (by decide) KF.out)
  have LF := aside (LA.out.keeps KF.out (fun (e : 0 = pb + 1) => by omega))
  have KW := aside ((KA.out.setCell (p := ⟨pb + 1, 0, none⟩) (fun hh => absurd hh (by have h9 := HNL.out; simp; omega)) (.int .i64 0)).setCell (p := ⟨pb + 1, 1, none⟩) (fun hh => absurd hh (by have h9 := HNL.out; simp; omega)) (.int .i64 0))
  have KR := set_in 1 (.int .i64 0) (set_in 0 (.int .i64 0) KZ1.out)
  simp only [List.setIfInBounds_toArray, List.set_cons_zero, List.set_cons_succ] at KR
  have HKR := aside KR
  clear KR KF
  go_wp2
  obtain ⟨r0, r1⟩ := two_h HKR.out
  exact bodyPost_ret (v := .tuple #[.slice none 0 0, .agg #[.int .i64 0, .int .i64 0], .int .i64 q]) (by simp [results, Tryz.results15, go_sem, r0, r1]) rfl (.inl ⟨HQ.out, rfl, SF.out, KW.out, LF.out⟩)
set_option maxHeartbeats 3200000 in
set_option maxRecDepth 100000 in
theorem qhold (e : En) {w : World} {sb g tb : Nat} {nd ck : Int} {Ls : List En} (h : Sto w sb g tb nd ck Ls) (L : Lanes w) (hl : Ls.length ≤ 1000000) (hk : e.k.size ≤ 140737488351232) :
    Calls Tryz.prog 57 #[.pointer (some ⟨sb, 0, none⟩), .agg #[.string e.k, .int .i64 e.c, .int .i64 e.n, .string e.v, .bool e.d]] w fun r w' => r = .returned (.tuple #[]) ∧ Sto w' sb g tb nd (ckm ck e.c) (insE e Ls) ∧ Keeps (Of sb g tb) w w' ∧ Lanes w' := by
 obtain ⟨T, n, h1, h2⟩ := h
 exact (shold e h1 L h2 hl hk).mono fun r w' ⟨e1, e2, e3⟩ => ⟨e1, ⟨_, _, e2, h2.put e⟩, e3, L.keeps e3 (L.apart h1)⟩
set_option maxHeartbeats 3200000 in
set_option maxRecDepth 100000 in
theorem sload (nd ck : Int) (a : Option Addr) (len cap : Nat) (T : Nat → En) (w : World) (h : EntsIn w a len cap T) (L : Lanes w) (hO : LdOk nd ck (firstE T len)) :
    Calls Tryz.prog 30 #[.int .i64 nd, .int .i64 ck, .slice a len cap] w fun e w' => Below w.heap.size w w' ∧ Lanes w' ∧ ∃ sb g tb, e = .returned (.tuple #[.pointer (some ⟨sb, 0, none⟩), .int .i64 0]) ∧ Sto w' sb g tb nd ck (firstE T len) ∧ w.heap.size ≤ sb ∧ w.heap.size ≤ g ∧ w.heap.size ≤ tb := by
 have HE := aside h
 have HO := aside hO
 have L0 := aside L
 clear L h
 have hnd : 0 ≤ nd ∧ nd < 8 := by have := hO.nd; simpa [nodeB] using this
 obtain ⟨hn1, hn2⟩ := hnd
 have h1 : ¬ nd < 0 := by omega
 have h2 : ¬ 8 ≤ nd := by omega
 have h3 : ¬ ck < 0 := by have := hO.c0; omega
 have h4 : ¬ 1099511627776 < ck := by have := hO.c1; omega
 have h5 : ¬ (256 : Int) < (len : Int) := by have := hO.len; rw [firstE_len] at this; omega
 have hmx : (len : Int) ≤ 9223372036854775807 := by omega
 clear hO hn1 hn2
 have C := aside (sempty nd ck w)
 go_enter Tryz.func30, Tryz.ntmps30
 go_wp2_with fail
 refine C.out.mono ?_
 rintro e w0 ⟨sb, g, tb, rfl, hs, b0, l1, l2, l3⟩
 have HS0 := aside (show Sto w0 sb g tb nd ck (firstE T 0) from ⟨_, _, hs, Hol.nil⟩)
 have B0 := aside b0
 have LL := aside (L0.out.keep b0)
 have HG := aside (show w.heap.size ≤ sb ∧ w.heap.size ≤ g ∧ w.heap.size ≤ tb from ⟨l1, l2, l3⟩)
 clear hs b0 l1 l2 l3 C h1 h2 h3 h4
 go_wp2
 go_loopw [36] (fun i wr => ∃ j : Nat, i = .int .i64 (j : Int) ∧ j ≤ len ∧ Sto wr sb g tb nd ck (firstE T j) ∧ Lanes wr ∧ Below w.heap.size w wr) (fun i _ => len - (intOf i).toNat)
 case atStart => exact ⟨0, rfl, Nat.zero_le _, HS0.out, LL.out, B0.out⟩
 case round =>
  obtain ⟨j, rfl, hj, hS, hL, hB⟩ := hrel
  have HB := aside hB
  have HS1 := aside hS
  have HL1 := aside hL
  clear hB hS hL LL B0 HS0
  by_cases hlt : (j : Int) < (len : Int)
  ·have hE := HE.out.keep HB.out
   rcases hE.2.2 with h0 | ⟨b, off, rfl, hb, hc⟩
   ·omega
   obtain ⟨⟨c0, c1, c2, c3, c4⟩, -⟩ := hc j (by omega)
   have hq : (T j).chk = 0 := HO.out.map.chk _ (first_mem (by omega))
   have HQ := aside hq
   have hver : (T j).c ≤ ck := HO.out.ver _ (first_mem (by omega))
   have HV := aside hver
   have hj0 : (0 : Int) ≤ (j : Int) := by omega
   have HCC := aside hc
   clear hc hE hver
   obtain ⟨t, ht⟩ : ∃ t, T j = t := ⟨_, rfl⟩
   have HT := aside ht
   rw [ht] at c0 c1 c2 c3 c4 hq HQ HV
   have CQ := aside (fun W => chk_of t W hq _ ichk_any)
   clear ht hq
   go_wp2_with fail
   refine (CQ.out _).mono ?_
   rintro e w1 ⟨rfl, b1⟩
   have BN := bthen (bnew wr (.cells #[.string t.k, .int .i64 t.c, .int .i64 t.n, .string t.v, .bool t.d] 77)) b1
   have B2 := aside (HB.out.trans (BN.mono HB.out.size))
   have HS := aside (HS1.out.below BN)
   have HL := aside (HL1.out.keep BN)
   have KB := aside (blk_on (heap_alloc_new wr (.cells #[.string t.k, .int .i64 t.c, .int .i64 t.n, .string t.v, .bool t.d] 77)) b1)
   obtain ⟨⟨e0, -⟩, -⟩ := box5 KB.out
   have HC2 := aside (fun (i : Nat) (hi : i < len) => cell_in (HCC.out i hi).1.1 BN)
   generalize wr.heap.size = bx at *
   clear b1 c0 c1 c2 c3 c4 CQ HCC BN HS1 HL1
   cases j with
   | zero =>
    go_wp2_with fail
    refine wp_region_held_drew (S := fun W => Below w1.heap.size w1 W) (by kernel_rfl) ((Below.refl _ w1).drew) (fun hHeld => ?_)
    refine tk 0 rfl _ ?_; refine tk 1 rfl _ ?_; refine tk 2 rfl _ ?_; refine tn 3 rfl ?_; refine tn 4 rfl ?_; refine tn 5 rfl ?_; refine tn 6 rfl ?_; refine tn 7 rfl ?_; refine tn 8 rfl ?_; refine tn 9 rfl ?_; refine tn 10 rfl ?_; refine tn 11 rfl ?_; refine tk 12 rfl _ ?_; refine tk 13 rfl _ ?_
    refine wpAnyH_done (by kernel_rfl) ?_ _
    have B3 := aside hHeld
    clear hHeld e0
    have KX := aside (blk_on KB.out B3.out)
    obtain ⟨⟨y0, y1, y2, y3, y4⟩, -⟩ := box5 KX.out
    have hv : ¬ ck < t.c := by have := HV.out; omega
    have hS9 := HS.out.below B3.out
    have CH := aside (fun W (hW : Sto W sb g tb nd ck (firstE T 0)) (hL : Lanes W) => qhold t hW hL (by rw [firstE_len]; have := HO.out.len; rw [firstE_len] at this; omega) (key_small HQ.out))
    go_wp2_with fail
    refine (CH.out _ hS9 (HL.out.keep B3.out)).mono ?_
    rintro e9 w9 ⟨rfl, s9, k9, l9⟩
    rw [ckm_low HV.out, ← HT.out, ld_step HO.out.map (by omega)] at s9
    have S9 := aside s9
    have L9 := aside l9
    have B9 := aside (B2.out.trans ((B3.out.mono B2.out.size).trans (k9.below (by have := B2.out.size; have := B3.out.size; omega) (fun k hk => by have := HG.out; unfold Of; omega))))
    clear s9 l9 k9 CH y0 y1 y2 y3 y4 hS9
    go_wp2
    go_roundw
    case rel => exact ⟨0 + 1, by go_num, by omega, S9.out, L9.out, B9.out⟩
    case measure => simp [intOf]; omega
   | succ k =>
    have d0 := HC2.out k (by omega)
    have hris : kLt (T k).k (T (k + 1)).k = true := by
     have h9 := (mapL_sub HO.out.map (first_sub T (show k + 2 ≤ len by omega))).rises
     rw [firstE_succ, rises_snoc] at h9
     exact h9.2 _ (first_mem (by omega))
    rw [HT.out] at hris
    obtain ⟨u, hu⟩ : ∃ u, T k = u := ⟨_, rfl⟩
    rw [hu] at d0 hris
    have HR := aside hris
    clear hu HC2 hris
    have hk0 : (0 : Int) ≤ (k : Int) := by omega
    have hk1 : (k : Int) < (len : Int) := by omega
    have hk2 : (0 : Int) ≤ (k : Int) + 1 := by omega
    have hk3 : (0 : Int) < (k : Int) + 1 := by omega
    have hk4 : (k : Int) + 1 < (len : Int) := by omega
    have hw2 : IntKind.i64.wrap (k : Int) = (k : Int) := by simp only [IntKind.wrap_i64]; omega
    go_wp2_with fail
    refine wp_region_held_drew (S := fun W => Below w1.heap.size w1 W ∧ W.cell? ⟨b, off + k * 5, none⟩ = some (.string u.k) ∧ W.cell? ⟨bx, 0, none⟩ = some (.string t.k)) (by kernel_rfl) ⟨(Below.refl _ w1).drew, d0, e0⟩ (fun hHeld => ?_)
    refine tk 0 rfl _ ?_; refine tk 1 rfl _ ?_; refine tk 2 rfl _ ?_; refine tk 3 rfl _ ?_; refine tk 4 rfl _ ?_; refine tk 5 rfl _ ?_; refine tk 6 rfl _ ?_; refine tk 7 rfl _ ?_; refine tk 8 rfl _ ?_; refine tk 9 rfl _ ?_; refine tk 10 rfl _ ?_; refine tk 11 rfl (.bool (!kLt u.k t.k)) ?_ (by intro w hSw; go_simp; exact leq_eq _ _); refine tk 12 rfl _ ?_; refine tk 13 rfl _ ?_
    refine wpAnyH_done (by kernel_rfl) ?_ _
    have B3 := aside hHeld.1
    clear hHeld hw2 e0 d0
    cases hkk : kLt u.k t.k
    ·rw [HR.out] at hkk
     cases hkk
    ·clear hkk
     have KX := aside (blk_on KB.out B3.out)
     obtain ⟨⟨y0, y1, y2, y3, y4⟩, -⟩ := box5 KX.out
     have hv : ¬ ck < t.c := by have := HV.out; omega
     have hS9 := HS.out.below B3.out
     have CH := aside (fun W (hW : Sto W sb g tb nd ck (firstE T (k + 1))) (hL : Lanes W) => qhold t hW hL (by rw [firstE_len]; have := HO.out.len; rw [firstE_len] at this; omega) (key_small HQ.out))
     go_wp2_with fail
     refine (CH.out _ hS9 (HL.out.keep B3.out)).mono ?_
     rintro e9 w9 ⟨rfl, s9, k9, l9⟩
     rw [ckm_low HV.out, ← HT.out, ld_step HO.out.map (by omega)] at s9
     have S9 := aside s9
     have L9 := aside l9
     have B9 := aside (B2.out.trans ((B3.out.mono B2.out.size).trans (k9.below (by have := B2.out.size; have := B3.out.size; omega) (fun k hk => by have := HG.out; unfold Of; omega))))
     clear s9 l9 k9 CH y0 y1 y2 y3 y4 hS9
     go_wp2
     go_roundw
     case rel => exact ⟨(k + 1) + 1, by go_num, by omega, S9.out, L9.out, B9.out⟩
     case measure => simp [intOf]; omega
  ·have hjl : j = len := by omega
   subst hjl
   go_wp2
   go_ret2
   refine ⟨HB.out, HL1.out, ?_⟩
   exact ⟨sb, rfl, g, tb, HS1.out, HG.out⟩
theorem two_cells {w : World} {i : Nat} {a b : Value} {T : TypeId} (h : w.heap[i]? = some (.cells #[a, b] T (0, 0))) : w.cell? ⟨i, 0, none⟩ = some a ∧ w.cell? ⟨i, 1, none⟩ = some b := ⟨by simp [World.cell?, h], by simp [World.cell?, h]⟩
theorem Lanes.apart0 {w : World} (L : Lanes w) : ∀ (cs : Array Value) (T : TypeId), w.heap[0]? = some (.cells cs T (0, 0)) → cs.size = 2 → False := fun cs T h hs => by
 have h5 := L.c5
 simp only [World.cell?, h] at h5
 have : cs[5]? = none := by rw [Array.getElem?_eq_none_iff]; omega
 simp [this] at h5
def RtSay (w : World) (nd : Int) (l : List En) (e : Ending) (w' : World) : Prop := ∃ q, e = .returned (.bool q) ∧ (q = true ↔ LdOk nd 1099511627776 l) ∧ Below w.heap.size w w'
set_option maxHeartbeats 3200000 in
set_option maxRecDepth 100000 in
theorem right13_any (nd : Int) (a : Option Addr) (len cap : Nat) (T : Nat → En) (w : World) (h : EntsIn w a len cap T) (hform : (a = none ∧ len = 0 ∧ cap = 0) ∨ ∃ y, a = some y) : Calls Tryz.prog 9 #[.int .i64 nd, .slice a len cap] w fun e w' => RtSay w nd (firstE T len) e w' := by
 have C := aside (rload nd 1099511627776 a len cap T w h hform)
 clear h hform
 go_enter Tryz.func9, Tryz.ntmps9
 go_wp2_with fail
 refine C.out.mono ?_
 rintro e w1 ⟨b1, ⟨hO, db, rfl, -, -⟩ | ⟨hN, c, hc, rfl⟩⟩
 ·have HO := aside hO
  have B1 := aside b1
  clear b1 hO C
  go_wp2
  go_ret
  exact ⟨true, rfl, ⟨fun _ => HO.out, fun _ => rfl⟩, B1.out⟩
 ·have HN := aside hN
  have B1 := aside b1
  have hcb : (c == 0) = false := by simpa using hc
  clear b1 hN C
  go_wp2
  go_ret
  exact ⟨false, rfl, ⟨fun e => (by cases e), fun e => absurd e HN.out⟩, B1.out⟩
theorem DSt.set {w : World} {B db : Nat} {nd ck : Int} {l : List En} (h : DSt w B db nd ck l) {b : Nat} (hb : b < B) (hd : B ≤ db) (k : Nat) (u : Value) : DSt (w.setCell ⟨b, k, none⟩ u) B db nd ck l := by
 obtain ⟨v, h1, h2⟩ := h
 exact ⟨v, by rw [heap_setCell_other _ _ _ _ (by simp; omega)]; exact h1, own_set h2 hb k u⟩
structure Pair2 (w : World) (B sb g tb db : Nat) (nd ck : Int) (l : List En) : Prop where
 code : Sto w sb g tb nd ck l
 doc : DSt w B db nd ck l
 lanes : Lanes w
 s : B ≤ sb
 g : B ≤ g
 t : B ≤ tb
 d : B ≤ db
theorem Pair2.below {w w' : World} {B sb g tb db : Nat} {nd ck : Int} {l : List En} (h : Pair2 w B sb g tb db nd ck l) (b : Below w.heap.size w w') : Pair2 w' B sb g tb db nd ck l :=
 ⟨h.code.below b, h.doc.below b, h.lanes.keep b, h.s, h.g, h.t, h.d⟩
def MkSay (w : World) (nd : Int) (l : List En) (e : Ending) (w' : World) : Prop := ∃ sb g tb db, e = .returned (.tuple #[.agg #[.pointer (some ⟨sb, 0, none⟩), .pointer (some ⟨db, 0, none⟩)], .bool true]) ∧ Pair2 w' (w.heap.size + 1) sb g tb db nd 1099511627776 l ∧ Below w.heap.size w w'
set_option maxHeartbeats 3200000 in
set_option maxRecDepth 100000 in
theorem made13_any (nd : Int) (a : Option Addr) (len cap : Nat) (T : Nat → En) (w : World) (h : EntsIn w a len cap T) (hform : (a = none ∧ len = 0 ∧ cap = 0) ∨ ∃ y, a = some y) (L : Lanes w) (hO : LdOk nd 1099511627776 (firstE T len)) : Calls Tryz.prog 10 #[.int .i64 nd, .slice a len cap] w fun e w' => MkSay w nd (firstE T len) e w' := by
 have BZ := aside (bnew w (.cells #[.pointer none, .pointer none] 29))
 have KZ := aside (heap_alloc_new w (.cells #[.pointer none, .pointer none] 29))
 have C1 := aside (rload nd 1099511627776 a len cap T _ (h.keep BZ.out) hform)
 have C2 := aside (fun W (b : Below w.heap.size w W) => sload nd 1099511627776 a len cap T W (h.keep b) (L.keep b) hO)
 have HO := aside hO
 clear h hform L hO
 go_enter Tryz.func10, Tryz.ntmps10
 go_wp2_with fail
 refine C1.out.mono ?_
 rintro e w1 ⟨b1, ⟨-, db, rfl, hd, ds⟩ | ⟨hN, c, hc, rfl⟩⟩
 rotate_left
 ·exact absurd HO.out hN
 have B1 := aside (bthen BZ.out b1)
 have K1 := aside (blk_on KZ.out b1)
 have D1 := aside ds
 have HD := aside (show w.heap.size + 1 ≤ db from by simpa using hd)
 clear b1 ds hd KZ BZ C1
 go_wp2_with fail
 refine (C2.out _ B1.out).mono ?_
 rintro e w2 ⟨b2, l2, sb, g, tb, rfl, s2, h1, h2, h3⟩
 have K2 := aside (blk_on K1.out b2)
 have HG := aside (show w1.heap.size ≤ sb ∧ w1.heap.size ≤ g ∧ w1.heap.size ≤ tb from ⟨h1, h2, h3⟩)
 have Z1 := aside (show w.heap.size + 1 ≤ w1.heap.size from lt_of_blk K1.out)
 have B2 := aside (bthen B1.out b2)
 have D2 := aside (D1.out.below b2)
 rw [World.size_alloc] at D2
 have S2 := aside s2
 have L2 := aside l2
 clear b2 s2 l2 h1 h2 h3 K1 D1 B1 C2
 obtain ⟨pb, hpb⟩ : ∃ pb, w.heap.size = pb := ⟨_, rfl⟩
 rw [hpb] at K2 D2 HD Z1 ⊢
 have z0 := (two_cells K2.out).1
 have z1 := (two_cells K2.out).2
 have y0 := frozen_of_row _ _ 0 _ _ K2.out
 have y1 := frozen_of_row _ _ 1 _ _ K2.out
 have KR := set_in 1 (.pointer (some ⟨db, 0, none⟩)) (set_in 0 (.pointer (some ⟨sb, 0, none⟩)) K2.out)
 simp only [List.setIfInBounds_toArray, List.set_cons_zero, List.set_cons_succ] at KR
 have HKR := aside KR
 have KF := aside (((Keeps.refl (fun x => x = pb) w2).setCell (p := ⟨pb, 0, none⟩) (fun _ => rfl) (.pointer (some ⟨sb, 0, none⟩))).setCell (p := ⟨pb, 1, none⟩) (fun _ => rfl) (.pointer (some ⟨db, 0, none⟩)))
 have SF := aside (S2.out.set K2.out (by decide) (by decide) (by decide) (by decide) KF.out)
 have LF := aside (L2.out.keeps KF.out (fun e => by have h9 := L2.out.apart0; have h8 := K2.out; subst e; exact h9 _ _ h8 rfl))
 have DF := aside ((D2.out.set (b := pb) (by omega) HD.out 0 (.pointer (some ⟨sb, 0, none⟩))).set (b := pb) (by omega) HD.out 1 (.pointer (some ⟨db, 0, none⟩)))
 have BF := aside ((B2.out.setCell (p := ⟨pb, 0, none⟩) (by simp; omega) (.pointer (some ⟨sb, 0, none⟩))).setCell (p := ⟨pb, 1, none⟩) (by simp; omega) (.pointer (some ⟨db, 0, none⟩)))
 clear KR KF D2 S2 L2 B2
 go_wp2
 obtain ⟨r0, r1⟩ := two_cells HKR.out
 exact bodyPost_ret (v := .tuple #[.agg #[.pointer (some ⟨sb, 0, none⟩), .pointer (some ⟨db, 0, none⟩)], .bool true]) (by simp [results, Tryz.results10, go_sem, r0, r1]) rfl ⟨sb, g, tb, db, rfl, ⟨SF.out, by rw [hpb]; exact DF.out, LF.out, by have h1 := HG.out; have h2 := Z1.out; omega, by have h1 := HG.out; have h2 := Z1.out; omega, by have h1 := HG.out; have h2 := Z1.out; omega, by have h1 := HD.out; omega⟩, BF.out⟩
theorem DSt.keeps {w w' : World} {B db sb g tb : Nat} {nd ck nd' ck' : Int} {l Ls : List En} (h : DSt w B db nd ck l) (hs : Sto w sb g tb nd' ck' Ls) (k : Keeps (Of sb g tb) w w') : DSt w' B db nd ck l := by
 obtain ⟨v, h1, h2⟩ := h
 refine ⟨v, blk_keep h1 k (hs.not h1 (by decide) (by decide) (by decide)), h2.1, ?_⟩
 rcases h2.2 with h0 | ⟨g2, cap, cur, e1, e2, e3, e4⟩
 ·exact .inl h0
 ·exact .inr ⟨g2, cap, cur, e1, e2, blk_keep e3 k (hs.not e3 (by decide) (by decide) (by decide)), e4⟩
theorem Sto.keepD {w w' : World} {sb g tb B db : Nat} {nd ck nd' ck' : Int} {Ls l : List En} (h : Sto w sb g tb nd ck Ls) (hd : DSt w B db nd' ck' l) (k : Keeps (fun x => x = db) w w') : Sto w' sb g tb nd ck Ls := by
 obtain ⟨v, d1, -⟩ := hd
 exact h.set d1 (by decide) (by decide) (by decide) (by decide) k
theorem Lanes.small {w : World} (L : Lanes w) {cs : Array Value} {T : TypeId} (h : w.heap[0]? = some (.cells cs T (0, 0))) (hs : cs.size ≤ 5) : False := by
 have h5 := L.c5
 simp only [World.cell?, h] at h5
 have : cs[5]? = none := by rw [Array.getElem?_eq_none_iff]; omega
 simp [this] at h5
theorem Lanes.doc {w : World} (L : Lanes w) {B db : Nat} {nd ck : Int} {l : List En} (h : DSt w B db nd ck l) : ¬ 0 = db := by
 rintro rfl
 obtain ⟨v, d, -⟩ := h
 exact L.small d (by simp)
theorem rp_keys {p : Pm} {l : List En} (h : MapL l) (hE : MapL (firstE p.T p.el)) : KeysOk (rpL p l) := by
 unfold rpL
 split
 ·exact fun e he => key_small ((thru_map h).chk e ((lk_sub _ _ (thru_map h) hE).subset he))
 ·intro e he; cases he
end Go.Proofs.YtpbkjffiohfkcaaGreatDoor
