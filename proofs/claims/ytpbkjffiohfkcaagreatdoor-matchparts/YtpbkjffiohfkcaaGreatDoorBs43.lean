/-
  Exchange of the document's, with the parts that it tells.
-/
import Derived.Test.YtpbkjffiohfkcaaGreatDoorBs1
import Derived.Test.YtpbkjffiohfkcaaGreatDoorBs38
import Derived.Test.YtpbkjffiohfkcaaGreatDoorBs37
import Derived.Test.YtpbkjffiohfkcaaGreatDoorBs26
import Derived.Test.YtpbkjffiohfkcaaGreatDoorBs29
import Derived.Test.YtpbkjffiohfkcaaGreatDoorBs30
import Derived.Deep.Cut
namespace Go.Proofs.YtpbkjffiohfkcaaGreatDoor
open Go.RowKit
set_option linter.unusedVariables false
def ZSay (w : World) (B db : Nat) (nd ck : Int) (l : List En) (p : Pm) (r : Ending) (w' : World) : Prop :=
 (xErr p ≠ 0 ∧ r = .returned (.tuple #[.slice none 0 0, .agg #[.int .i64 0, .int .i64 0], .int .i64 (xErr p)]) ∧ DSt w' B db nd ck l ∧ Keeps (fun x => x = db) w w') ∨
 (xErr p = 0 ∧ ∃ v, r = .returned (.tuple #[v, .agg #[.int .i64 ((tkAll ⟨l, ck, 0, 0⟩ (firstE p.T p.el)).n : Int), .int .i64 ((tkAll ⟨l, ck, 0, 0⟩ (firstE p.T p.el)).f : Int)], .int .i64 0]) ∧ Told w.heap.size v (rpQ p l) w' ∧ DSt w' B db nd (tkAll ⟨l, ck, 0, 0⟩ (firstE p.T p.el)).c (tkAll ⟨l, ck, 0, 0⟩ (firstE p.T p.el)).l ∧ Keeps (fun x => x = db) w w')
theorem Told.other {B : Nat} {v : Value} {l : List Pq} {w w' : World} {i : Nat} {cs : Array Value} {U : TypeId} (h : Told B v l w) (hi : w.heap[i]? = some (.cells cs U (0, 0))) (h1 : U ≠ 47) (h2 : U ≠ 77) (k : Keeps (fun x => x = i) w w') : Told B v l w' :=
 h.keep k (fun j cs' e f => by subst f; rw [e] at hi; simp only [Option.some.injEq, Obj.cells.injEq] at hi; exact h1 hi.2.1.symm) (fun j cs' e f => by subst f; rw [e] at hi; simp only [Option.some.injEq, Obj.cells.injEq] at hi; exact h2 hi.2.1.symm)
set_option maxHeartbeats 8000000 in
set_option maxRecDepth 100000 in
theorem rxchgQ_any (p : Pm) {w : World} {B db : Nat} {nd ck : Int} {l : List En} (h : DSt w B db nd ck l) (hm : MapL l) (hl : l.length ≤ 256) (hB : B ≤ w.heap.size) (hP : p.In w) :
    Calls Tryz.prog 20 #[.pointer (some ⟨db, 0, none⟩), .agg #[.int .i64 p.kind, .string p.lo, .string p.hi, .bool p.op, .int .i64 p.cnt, .int .u64 p.s0, .int .u64 p.s1, .slice p.ea p.el p.ec]] w fun r w' => ZSay w B db nd ck l p r w' := by
 have BX := aside (bthen (bnew w (.cells #[.int .i64 p.kind, .string p.lo, .string p.hi, .bool p.op, .int .i64 p.cnt, .int .u64 p.s0, .int .u64 p.s1, .slice p.ea p.el p.ec] 47)) (bnew _ (.cells #[.int .i64 0, .int .i64 0] 33)))
 have KX := aside (blk_on (heap_alloc_new w (.cells #[.int .i64 p.kind, .string p.lo, .string p.hi, .bool p.op, .int .i64 p.cnt, .int .u64 p.s0, .int .u64 p.s1, .slice p.ea p.el p.ec] 47)) (bnew _ (.cells #[.int .i64 0, .int .i64 0] 33)))
 have KZ := aside (heap_alloc_new (w.alloc (.cells #[.int .i64 p.kind, .string p.lo, .string p.hi, .bool p.op, .int .i64 p.cnt, .int .u64 p.s0, .int .u64 p.s1, .slice p.ea p.el p.ec] 47)) (.cells #[.int .i64 0, .int .i64 0] 33))
 rw [World.size_alloc] at KZ
 obtain ⟨pb, hpb⟩ : ∃ pb, w.heap.size = pb := ⟨_, rfl⟩
 rw [hpb] at KX KZ
 have HNL := aside (show w.heap.size ≤ pb ∧ pb + 1 < pb + 2 from by omega)
 obtain ⟨X, hX⟩ : ∃ X, (w.alloc (.cells #[.int .i64 p.kind, .string p.lo, .string p.hi, .bool p.op, .int .i64 p.cnt, .int .u64 p.s0, .int .u64 p.s1, .slice p.ea p.el p.ec] 47)).alloc (.cells #[.int .i64 0, .int .i64 0] 33) = X := ⟨_, rfl⟩
 rw [hX] at BX KX KZ
 have CO := aside (oneR_any p X (hP.keep BX.out))
 obtain ⟨q, hq⟩ : ∃ q, psChk (fun _ => p) 1 = q := ⟨_, rfl⟩
 have HPS := aside hq
 have HXE := aside (show xErr p = if q ≠ 0 then q else if p.kind = 1 then 114 else 0 from by unfold xErr; rw [hq])
 have H := aside h
 have HM := aside hm
 have HL := aside hl
 have HBB := aside hB
 have HP := aside hP
 have HES := aside (show ∀ W, Keeps (fun x => x = db) w W → EntsIn W p.ea p.el p.ec p.T from fun W k => hP.keepD h k)
 have HTL := aside (fun j => tkAll_ok (s := ⟨l, ck, 0, 0⟩) ⟨hm, hl⟩ p.T j)
 have HTN := aside (fun j => tkAll_n (s := ⟨l, ck, 0, 0⟩) p.T j)
 have HTS := aside (fun j => tkAll_succ ⟨l, ck, 0, 0⟩ p.T j)
 unfold ZSay
 clear h hm hl hP hB hq
 obtain ⟨p0, p1, p2, p3, p4, p5, p6, p7⟩ := oct KX.out
 by_cases hq0 : q = 0
 ·subst hq0
  by_cases hk : p.kind = 1
  ·have hkb : (p.kind == 1) = true := by simpa using hk
   rw [show xErr p = 114 from by rw [HXE.out, if_neg (by simp), if_pos hk]]
   have HQ := aside (show (114 : Int) ≠ 0 by decide)
   clear hk HXE
   go_enter Tryz.func20, Tryz.ntmps20
   go_wp2_with fail
   refine CO.out.mono ?_
   rintro e w1 ⟨g1, c1, rfl, pi1, -, b1⟩
   have C1 := aside (partsR_any _ 1 c1 _ w1 pi1)
   rw [HPS.out] at C1
   have BN := b1
   clear CO p0 p1 p2 p3 p4 p5 p6 p7 hX pi1
   go_wp2_with fail
   refine C1.out.mono ?_
   rintro e w2 ⟨rfl, b2⟩
   have B2 := aside (bthen BX.out (bthen BN b2))
   have K2 := aside (blk_on KX.out (bthen BN b2))
   have KZ2 := aside (blk_on KZ.out (bthen BN b2))
   clear b2 BN b1 C1 BX KX KZ
   obtain ⟨p0, -⟩ := oct K2.out
   have DA := aside (H.out.below B2.out)
   have KA := aside (Keeps.of_below B2.out (fun x => x = db))
   go_upto_region 5 with fail
   clear p0
   obtain ⟨z0, z1⟩ := two_h KZ2.out
   have y0 := frozen_of_row _ _ 0 _ _ KZ2.out
   have y1 := frozen_of_row _ _ 1 _ _ KZ2.out
   have KF := aside (((Keeps.refl (fun x => x = pb + 1) w2).setCell (p := ⟨pb + 1, 0, none⟩) (fun _ => rfl) (.int .i64 0)).setCell (p := ⟨pb + 1, 1, none⟩) (fun _ => rfl) (.int .i64 0))
   have DF := aside (DA.out.set2 KZ2.out (by decide) (by decide) KF.out)

   have KW := aside ((KA.out.setCell (p := ⟨pb + 1, 0, none⟩) (fun hh => absurd hh (by have h9 := HNL.out; simp; omega)) (.int .i64 0)).setCell (p := ⟨pb + 1, 1, none⟩) (fun hh => absurd hh (by have h9 := HNL.out; simp; omega)) (.int .i64 0))
   have KR := set_in 1 (.int .i64 0) (set_in 0 (.int .i64 0) KZ2.out)
   simp only [List.setIfInBounds_toArray, List.set_cons_zero, List.set_cons_succ] at KR
   have HKR := aside KR
   clear KR KF
   go_wp2
   obtain ⟨r0, r1⟩ := two_h HKR.out
   exact bodyPost_ret (v := .tuple #[.slice none 0 0, .agg #[.int .i64 0, .int .i64 0], .int .i64 114]) (by simp [results, Tryz.results20, go_sem, r0, r1]) rfl (.inl ⟨HQ.out, rfl, DF.out, KW.out⟩)
  ·have hkb : (p.kind == 1) = false := by simpa using hk
   have hx0 : xErr p = 0 := by rw [HXE.out, if_neg (by simp), if_neg hk]
   have HX0 := aside hx0
   obtain ⟨-, -, x3, x4, x5⟩ := xErr_ok hx0
   have HPM := aside x3
   have HPL := aside x4
   have HRC := aside x5
   clear x3 x4 x5 hx0 hk HXE
   go_enter Tryz.func20, Tryz.ntmps20
   go_wp2_with fail
   refine CO.out.mono ?_
   rintro e w1 ⟨g1, c1, rfl, pi1, -, b1⟩
   have C1 := aside (partsR_any _ 1 c1 _ w1 pi1)
   rw [HPS.out] at C1
   have BN := b1
   clear CO p0 p1 p2 p3 p4 p5 p6 p7 hX pi1
   go_wp2_with fail
   refine C1.out.mono ?_
   rintro e w2 ⟨rfl, b2⟩
   have B2 := aside (bthen BX.out (bthen BN b2))
   have K2 := aside (blk_on KX.out (bthen BN b2))
   have KZ2 := aside (blk_on KZ.out (bthen BN b2))
   clear b2 BN b1 C1 BX KX KZ
   have hmx : (p.el : Int) ≤ 9223372036854775807 := by have := HPL.out; omega
   have NB3 := bnew w2 (.cells #[] 47)
   have B3 := aside (bthen B2.out NB3)
   have K3 := aside (blk_on K2.out NB3)
   have KZ3 := aside (blk_on KZ2.out NB3)
   have OE := aside (ownP_empty w2 w.heap.size B2.out.size)
   have HWE := aside (show ¬ pb = w2.heap.size ∧ ¬ pb + 1 = w2.heap.size from by have h1 := lt_of_blk KZ2.out; omega)
   obtain ⟨w3, hw3⟩ : ∃ w3, w2.alloc (.cells #[] 47) = w3 := ⟨_, rfl⟩
   rw [hw3] at B3 K3 KZ3 OE
   obtain ⟨q0, -⟩ := oct K2.out
   clear NB3 K2 KZ2 B2
   obtain ⟨p0, p1, p2, p3, p4, p5, p6, p7⟩ := oct K3.out
   by_cases hk2 : p.kind = 2
   rotate_left
   ·have hk2b : (p.kind == 2) = false := by simpa using hk2
    have TL := aside (show Told w.heap.size (.slice (some ⟨w2.heap.size, 0, none⟩) 0 0) (rpQ p l) w3 from by rw [rpQ_nil (show rpL p l = [] from by unfold rpL; rw [if_neg hk2])]; exact Told.emp OE.out)
    clear hk2
    have NB := bnew w3 (.cells #[.int .i64 0, .int .i64 0] 33)
    have D0 := aside ((H.out.below B3.out).below NB)
    have TL0 := aside (TL.out.below NB)
    clear TL
    have X0 := aside (heap_alloc_new w3 (.cells #[.int .i64 0, .int .i64 0] 33))
    have P0 := aside (blk_on K3.out NB)
    have Z0 := aside (blk_on KZ3.out NB)
    have K0 := aside (Keeps.of_below (bthen B3.out NB) (fun x => x = db))
    have HLT := aside (show w.heap.size ≤ pb ∧ pb + 1 < w3.heap.size from by have h1 := lt_of_blk KZ3.out; have h2 := HNL.out; omega)
    obtain ⟨xb, hxb⟩ : ∃ xb, w3.heap.size = xb := ⟨_, rfl⟩
    rw [hxb] at X0 HLT
    clear NB
    go_wp2
    clear p0 p1 p2 p3 p4 p5 p6 p7 q0
    go_loopw [14] (fun i wr => ∃ j : Nat, i = .int .i64 (j : Int) ∧ j ≤ p.el ∧ DSt wr B db nd (tkAll ⟨l, ck, 0, 0⟩ (firstE p.T j)).c (tkAll ⟨l, ck, 0, 0⟩ (firstE p.T j)).l ∧ wr.heap[xb]? = some (.cells #[.int .i64 ((tkAll ⟨l, ck, 0, 0⟩ (firstE p.T j)).n : Int), .int .i64 ((tkAll ⟨l, ck, 0, 0⟩ (firstE p.T j)).f : Int)] 33 (0, 0)) ∧ wr.heap[pb]? = some (.cells #[.int .i64 p.kind, .string p.lo, .string p.hi, .bool p.op, .int .i64 p.cnt, .int .u64 p.s0, .int .u64 p.s1, .slice p.ea p.el p.ec] 47 (0, 0)) ∧ wr.heap[pb + 1]? = some (.cells #[.int .i64 0, .int .i64 0] 33 (0, 0)) ∧ Keeps (fun x => x = db) w wr ∧ Told w.heap.size (.slice (some ⟨w2.heap.size, 0, none⟩) 0 0) (rpQ p l) wr) (fun i _ => p.el - (intOf i).toNat)
    case atStart => exact ⟨0, rfl, Nat.zero_le _, D0.out, X0.out, P0.out, Z0.out, K0.out, TL0.out⟩
    case round =>
     obtain ⟨j, rfl, hj, hS, hH, hPB, hZ, hK, hTL⟩ := hrel
     clear D0 X0 P0 Z0 K0 TL0
     have TL1 := aside hTL
     clear hTL
     have h1 := HTL.out j
     have h2 := HTN.out j
     have h3 := HTS.out j
     obtain ⟨s, hs⟩ : ∃ s, (tkAll ⟨l, ck, 0, 0⟩ (firstE p.T j)) = s := ⟨_, rfl⟩
     have HSJ := aside hs
     rw [hs] at hS hH h1 h2 h3
     obtain ⟨Lj, cj, n, f⟩ := s
     have HST := aside h3
     have HD1 := aside hS
     have HH1 := aside hH
     have HP1 := aside hPB
     have HZ1 := aside hZ
     have HK1 := aside hK
     have HOK := aside (show MapL Lj ∧ Lj.length ≤ 256 from h1)
     have HNF := aside (show n ≤ 1000 ∧ f ≤ 1000 from by have := HPL.out; first | omega | (dsimp only at h2; omega))
     clear hS hH hZ hK h1 h2 h3 hs hPB
     have p7 := (oct HP1.out).2.2.2.2.2.2.2
     by_cases hlt : (j : Int) < (p.el : Int)
     ·have hj0 : (0 : Int) ≤ (j : Int) := by omega
      have eA := HES.out wr HK1.out
      rcases eA.2.2 with h0 | ⟨b, off, hea, -, hc⟩
      ·omega
      rw [hea] at p7
      clear hea
      obtain ⟨⟨c0, c1, c2, c3, c4⟩, -⟩ := hc j (by omega)
      obtain ⟨t, ht⟩ : ∃ t, p.T j = t := ⟨_, rfl⟩
      rw [ht] at c0 c1 c2 c3 c4
      rw [ht] at HST
      have C := aside (rtake t HD1.out HOK.out.1 HOK.out.2 (Nat.le_trans HBB.out HK1.out.size))
      obtain ⟨q, hq⟩ : ∃ q, tkSay t Lj = q := ⟨_, rfl⟩
      have HQ := aside hq
      rw [hq] at C
      obtain ⟨q1, q2⟩ := q
      clear hc eA ht hq
      go_wp2_with fail
      refine C.out.mono ?_
      rintro e w4 ⟨rfl, k4, hcase⟩
      have HB4 := aside (blk_keep HH1.out k4 (HD1.out.other HH1.out (by decide)))
      have HZ4 := aside (blk_keep HZ1.out k4 (HD1.out.other HZ1.out (by decide)))
      have P4 := aside (blk_keep HP1.out k4 (HD1.out.other HP1.out (by decide)))
      have K4 := aside (HK1.out.trans k4)
      have TL4 := aside (TL1.out.keepD HD1.out k4)
      clear TL1
      clear k4 HH1 HZ1 HK1 HP1 C c0 c1 c2 c3 c4 HD1 p7
      rcases hcase with ⟨e2, s4⟩ | ⟨e2, s4⟩
      ·dsimp only at e2
       subst e2
       have D4 := aside s4
       clear s4
       by_cases h80 : q1 = 80
       ·subst h80
        have HNX := aside (show tkStep ⟨Lj, cj, n, f⟩ t = ⟨Lj, cj, n, f + 1⟩ from by unfold tkStep; dsimp only; rw [HQ.out, if_neg (by simp), if_pos rfl])
        obtain ⟨z0, z1⟩ := two_h HB4.out
        have y0 := frozen_of_row _ _ 1 _ _ HB4.out
        have KF := aside ((Keeps.refl (fun x => x = xb) w4).setCell (p := ⟨xb, 1, none⟩) (fun _ => rfl) (.int .i64 (((f + 1 : Nat)) : Int)))
        have D5 := aside (D4.out.set2 HB4.out (by decide) (by decide) KF.out)
        have TL5 := aside (TL4.out.other HB4.out (by decide) (by decide) KF.out)
        have HB5 := set_in 1 (.int .i64 (((f + 1 : Nat)) : Int)) HB4.out
        simp only [List.setIfInBounds_toArray, List.set_cons_zero, List.set_cons_succ] at HB5
        have HB6 := aside HB5
        have HZ5 := aside (show (w4.setCell ⟨xb, 1, none⟩ (.int .i64 (((f + 1 : Nat)) : Int))).heap[pb + 1]? = some (.cells #[.int .i64 0, .int .i64 0] 33 (0, 0)) from by rw [heap_setCell_other _ _ _ _ (by have h9 := HLT.out; simp; omega)]; exact HZ4.out)
        have P5 := aside (show (w4.setCell ⟨xb, 1, none⟩ (.int .i64 (((f + 1 : Nat)) : Int))).heap[pb]? = some (.cells #[.int .i64 p.kind, .string p.lo, .string p.hi, .bool p.op, .int .i64 p.cnt, .int .u64 p.s0, .int .u64 p.s1, .slice p.ea p.el p.ec] 47 (0, 0)) from by rw [heap_setCell_other _ _ _ _ (by have h9 := HLT.out; simp; omega)]; exact P4.out)
        have K5 := aside (K4.out.setCell (p := ⟨xb, 1, none⟩) (fun hh => absurd hh (by have h9 := HLT.out; simp; omega)) (.int .i64 (((f + 1 : Nat)) : Int)))
        have hwr2 : IntKind.i64.wrap ((f : Int) + 1) = (((f + 1 : Nat)) : Int) := by rw [IntKind.wrap_i64]; push_cast; have := HNF.out; omega
        clear HB5 KF
        go_wp2
        go_roundw
        case rel => exact ⟨j + 1, by go_num, by omega, by rw [HST.out, HNX.out]; exact D5.out, by rw [HST.out, HNX.out]; exact HB6.out, P5.out, HZ5.out, K5.out, TL5.out⟩
        case measure => simp [intOf]; omega
       ·have hb80 : (q1 == 80) = false := by simpa using h80
        have HNX := aside (show tkStep ⟨Lj, cj, n, f⟩ t = ⟨Lj, cj, n, f⟩ from by unfold tkStep; dsimp only; rw [HQ.out, if_neg (by simp), if_neg (by simpa using h80)])
        go_wp2
        go_roundw
        case rel => exact ⟨j + 1, by go_num, by omega, by rw [HST.out, HNX.out]; exact D4.out, by rw [HST.out, HNX.out]; exact HB4.out, P4.out, HZ4.out, K4.out, TL4.out⟩
        case measure => simp [intOf]; omega
      ·dsimp only at e2
       subst e2
       have D4 := aside s4
       clear s4
       have hq1 : q1 = 0 := by have h9 := tk_yes (e := t) (Ls := Lj) (by rw [HQ.out]); rw [HQ.out] at h9; exact h9.1
       subst hq1
       have HNX := aside (show tkStep ⟨Lj, cj, n, f⟩ t = ⟨insE t Lj, ckm cj t.c, n + 1, f⟩ from by unfold tkStep; dsimp only; rw [HQ.out, if_pos rfl])
       obtain ⟨z0, z1⟩ := two_h HB4.out
       have y0 := frozen_of_row _ _ 0 _ _ HB4.out
       have KF := aside ((Keeps.refl (fun x => x = xb) w4).setCell (p := ⟨xb, 0, none⟩) (fun _ => rfl) (.int .i64 (((n + 1 : Nat)) : Int)))
       have D5 := aside (D4.out.set2 HB4.out (by decide) (by decide) KF.out)
       have TL5 := aside (TL4.out.other HB4.out (by decide) (by decide) KF.out)
       have HB5 := set_in 0 (.int .i64 (((n + 1 : Nat)) : Int)) HB4.out
       simp only [List.setIfInBounds_toArray, List.set_cons_zero] at HB5
       have HB6 := aside HB5
       have HZ5 := aside (show (w4.setCell ⟨xb, 0, none⟩ (.int .i64 (((n + 1 : Nat)) : Int))).heap[pb + 1]? = some (.cells #[.int .i64 0, .int .i64 0] 33 (0, 0)) from by rw [heap_setCell_other _ _ _ _ (by have h9 := HLT.out; simp; omega)]; exact HZ4.out)
       have P5 := aside (show (w4.setCell ⟨xb, 0, none⟩ (.int .i64 (((n + 1 : Nat)) : Int))).heap[pb]? = some (.cells #[.int .i64 p.kind, .string p.lo, .string p.hi, .bool p.op, .int .i64 p.cnt, .int .u64 p.s0, .int .u64 p.s1, .slice p.ea p.el p.ec] 47 (0, 0)) from by rw [heap_setCell_other _ _ _ _ (by have h9 := HLT.out; simp; omega)]; exact P4.out)
       have K5 := aside (K4.out.setCell (p := ⟨xb, 0, none⟩) (fun hh => absurd hh (by have h9 := HLT.out; simp; omega)) (.int .i64 (((n + 1 : Nat)) : Int)))
       have hwr2 : IntKind.i64.wrap ((n : Int) + 1) = (((n + 1 : Nat)) : Int) := by rw [IntKind.wrap_i64]; push_cast; have := HNF.out; omega
       clear HB5 KF
       go_wp2
       go_roundw
       case rel => exact ⟨j + 1, by go_num, by omega, by rw [HST.out, HNX.out]; exact D5.out, by rw [HST.out, HNX.out]; exact HB6.out, P5.out, HZ5.out, K5.out, TL5.out⟩
       case measure => simp [intOf]; omega
     ·have hjl : j = p.el := by omega
      have DA := aside (HD1.out.below (Below.refl _ wr).drew)
      have TLA := aside (TL1.out.below (Below.refl _ wr).drew)
      clear TL1
      have KA := aside HK1.out.drew
      have KZ2 := aside (blk_on HZ1.out (Below.refl _ wr).drew)
      have XX := aside HH1.out
      obtain ⟨x0, x1⟩ := two_h HH1.out
      have HJJ := aside (show (tkAll ⟨l, ck, 0, 0⟩ (firstE p.T p.el)) = ⟨Lj, cj, n, f⟩ from by rw [← hjl]; exact HSJ.out)
      clear HD1 HH1 HP1 HZ1 HK1
      go_wp2_with fail
      clear p7 hlt hjl
      refine wp_region_held_drew (S := fun W => W.cell? ⟨xb, 0, none⟩ = some (.int .i64 (n : Int)) ∧ W.cell? ⟨xb, 1, none⟩ = some (.int .i64 (f : Int))) (by kernel_rfl) ⟨x0, x1⟩ (fun hHeld => ?_)
      refine tk 0 rfl _ ?_; refine tk 1 rfl _ ?_; refine tk 2 rfl _ ?_
      clear x0 x1
      generalize World.drew _ = Y at *
      obtain ⟨z0, z1⟩ := two_h KZ2.out
      have y0 := frozen_of_row _ _ 0 _ _ KZ2.out
      have y1 := frozen_of_row _ _ 1 _ _ KZ2.out
      have KF := aside (((Keeps.refl (fun x => x = pb + 1) Y).setCell (p := ⟨pb + 1, 0, none⟩) (fun _ => rfl) (.int .i64 (n : Int))).setCell (p := ⟨pb + 1, 1, none⟩) (fun _ => rfl) (.int .i64 (f : Int)))
      have DF := aside (DA.out.set2 KZ2.out (by decide) (by decide) KF.out)
      have TF := aside (TLA.out.other KZ2.out (by decide) (by decide) KF.out)
      have KW := aside ((KA.out.setCell (p := ⟨pb + 1, 0, none⟩) (fun hh => absurd hh (by have h9 := HNL.out; simp; omega)) (.int .i64 (n : Int))).setCell (p := ⟨pb + 1, 1, none⟩) (fun hh => absurd hh (by have h9 := HNL.out; simp; omega)) (.int .i64 (f : Int)))
      have KR := set_in 1 (.int .i64 (f : Int)) (set_in 0 (.int .i64 (n : Int)) KZ2.out)
      simp only [List.setIfInBounds_toArray, List.set_cons_zero, List.set_cons_succ] at KR
      have HKR := aside KR
      clear KR KF
      refine rd 3 rfl fun K hK => ?_
      go_simp
      refine hK.out _ _ (⟨cell_apart (cell_apart hHeld.1 (by have := HLT.out; simp; omega)) (by have := HLT.out; simp; omega), cell_apart (cell_apart hHeld.2 (by have := HLT.out; simp; omega)) (by have := HLT.out; simp; omega)⟩) (fun hHeld => ?_)
      clear hK K z0 z1 y0 y1
      refine tk 4 rfl _ ?_
      refine wpAnyH_done (by kernel_rfl) ?_ _
      go_wp2
      obtain ⟨r0, r1⟩ := two_h HKR.out
      exact bodyPost_ret (v := .tuple #[.slice (some ⟨w2.heap.size, 0, none⟩) 0 0, .agg #[.int .i64 (n : Int), .int .i64 (f : Int)], .int .i64 0]) (by simp [results, Tryz.results20, go_sem, r0, r1]) rfl (.inr ⟨HX0.out, _, by rw [HJJ.out], TF.out, by rw [HJJ.out]; exact DF.out, KW.out⟩)
   ·have hk2b : (p.kind == 2) = true := by simpa using hk2
    have HRL := aside (show rpL p l = lkL (inL ⟨p.lo, p.hi, p.op⟩ l) (firstE p.T p.el) from by unfold rpL; rw [if_pos hk2, thru_inL HRC.out HM.out])
    clear hk2
    have CA := aside (rallS p.lo p.hi p.op (H.out.below B3.out) HM.out (by have := HL.out; omega))
    rw [show Rg.chk ⟨p.lo, p.hi, p.op⟩ = 0 from HRC.out, outL_ok _ rfl] at CA
    have HIM := aside (show MapL (inL ⟨p.lo, p.hi, p.op⟩ l) from mapL_sub HM.out List.filter_sublist)
    have HIL := aside (show (inL ⟨p.lo, p.hi, p.op⟩ l).length ≤ 256 from Nat.le_trans (inL_len _ _) HL.out)
    generalize inL ⟨p.lo, p.hi, p.op⟩ l = m4 at *
    go_wp2_with fail
    refine CA.out.mono ?_
    rintro e w4 ⟨b4, v4, rfl, o4⟩
    obtain ⟨a4, c4, rfl, hE4⟩ := own_ents o4 (fun e he => key_small (HIM.out.chk e he))
    have hck : ck2 (nthE m4) m4.length p.T p.el = 0 := ck2_ok.2 ⟨by rw [firstE_nth]; exact HIM.out, HPM.out⟩
    have CL := rlack_any a4 m4.length c4 (nthE m4) p.ea p.el p.ec p.T w4 hE4 (HP.out.keep (bthen B3.out b4)) (by have h1 := HIL.out; have h2 := HPL.out; omega)
    rw [hck, outL_ok _ rfl, firstE_nth, lkP_prs] at CL
    have CLH := aside CL
    have HKL := aside (show KeysOk (lkL m4 (firstE p.T p.el)) ∧ (lkL m4 (firstE p.T p.el)).length ≤ 256 from ⟨fun e he => key_small (HIM.out.chk e ((lk_sub _ _ HIM.out HPM.out).subset he)), Nat.le_trans (lk_sub _ _ HIM.out HPM.out).length_le HIL.out⟩)
    have B4 := aside (bthen B3.out b4)
    have K4 := aside (blk_on K3.out b4)
    have KZ4 := aside (blk_on KZ3.out b4)
    have OE4 := aside (own_on OE.out b4)
    have HW2 := aside (show w2.heap.size < w4.heap.size from (OE4.out.lt _ rfl).2)
    clear o4 hE4 CL CA b4 hck K3 KZ3 OE B3 p0 p1 p2 p3 p4 p5 p6 p7 q0 hw3
    generalize lkL m4 (firstE p.T p.el) = m5 at *
    obtain ⟨p0, p1, p2, p3, p4, p5, p6, p7⟩ := oct K4.out
    go_wp2_with fail
    refine CLH.out.mono ?_
    rintro e w5 ⟨v5, rfl, o5, b5⟩
    obtain ⟨a5, c5, rfl, hE5⟩ := own_ents o5 HKL.out.1
    have B5 := aside (bthen B4.out b5)
    have K5 := aside (blk_on K4.out b5)
    have KZ5 := aside (blk_on KZ4.out b5)
    have OE5 := aside (own_on OE4.out b5)
    have HE5 := aside hE5
    have O5 := aside (own_low o5 B4.out.size)
    have O5B := aside (show ∀ j, Value.ownBlock (.slice a5 m5.length c5) = some j → ¬ j = w2.heap.size from fun j e f => by have h1 := (o5.lt j e).1; have h2 := HW2.out; omega)
    clear o5 hE5 CLH b5 K4 KZ4 OE4 B4 p0 p1 p2 p3 p4 p5 p6 p7
    obtain ⟨p0, p1, p2, p3, p4, p5, p6, p7⟩ := oct K5.out
    have q0 := p0
    by_cases hm5 : (0 : Int) < (m5.length : Int)
    ·have hm5n : 0 < m5.length := by omega
     have hm5d : decide (0 < m5.length) = true := by simpa using hm5n
     have PI := aside (show PartsIn (w5.alloc (.cells #[.int .i64 3, .string p.lo, .string p.hi, .bool p.op, .int .i64 0, .int .u64 0, .int .u64 0, .slice a5 m5.length c5] 47)) (some ⟨w5.heap.size, 0, none⟩) 1 1 (fun _ => (⟨3, p.lo, p.hi, p.op, 0, 0, 0, a5, m5.length, c5, nthE m5⟩ : Pm)) from ⟨Nat.le_refl _, by unfold maxLen; omega, .inr ⟨w5.heap.size, 0, rfl, by simp, fun i hi => ⟨by
      obtain rfl : i = 0 := by omega
      exact oct (p := (⟨3, p.lo, p.hi, p.op, 0, 0, 0, a5, m5.length, c5, nthE m5⟩ : Pm)) (heap_alloc_new w5 (.cells #[.int .i64 3, .string p.lo, .string p.hi, .bool p.op, .int .i64 0, .int .u64 0, .int .u64 0, .slice a5 m5.length c5] 47)), HE5.out.keep (bnew w5 _)⟩⟩⟩)
     go_wp2_with (at_builtin; go_loud (refine wpList_plain rfl fun K hK => op_append_parts (V := w) _ _ rfl 0 _ [] (by rfl) (OE5.out.alloc _) ⟨w5.heap.size, 0, none⟩ 1 1 (fun _ => (⟨3, p.lo, p.hi, p.op, 0, 0, 0, a5, m5.length, c5, nthE m5⟩ : Pm)) (by rfl) PI.out (by omega) (bthen B5.out (bnew w5 _)) ?_); intro v6 w6 own6 b6 gr6; refine hK _ _ ?_; refine Hid.out ?_)
     refine aside ?_
     rw [Nat.zero_add] at own6
     obtain ⟨a6, c6, rfl, -, -, -⟩ := own_slice own6
     have HM5 := hm5n
     clear hm5 hm5n hm5d
     have B6 := aside b6
     have TL := aside (show Told w.heap.size (.slice a6 1 c6) (rpQ p l) w6 from by
      rw [rpQ_one (by rw [HRL.out]; intro h0; rw [h0] at HM5; simp at HM5), HRL.out]
      refine ⟨[(⟨3, p.lo, p.hi, p.op, 0, 0, 0, a5, m5.length, c5, nthE m5⟩ : Pm)], own6, rfl, fun i m q e1 e2 => ?_⟩
      match i, e1, e2 with
      | 0, e1, e2 =>
       simp at e1 e2
       subst e1 e2
       refine ⟨rfl, ?_⟩
       refine ⟨O5.out.1, ?_⟩
       rcases O5.out.2 with h5 | ⟨g9, cap9, cur9, f1, f2, f3, f4⟩
       ·exact .inl h5
       ·refine .inr ⟨g9, cap9, cur9, f1, f2, ?_, f4⟩
        rw [gr6.block g9 (by have := lt_of_blk f3; simp; omega) (fun e => O5B.out g9 (by rw [f1]; rfl) (by simpa [Value.ownBlock] using e))]
        exact blk_on f3 (bnew _ _)
      | i + 1, e1, e2 => simp at e1)
     have K6 := aside (show w6.heap[pb]? = some (.cells #[.int .i64 p.kind, .string p.lo, .string p.hi, .bool p.op, .int .i64 p.cnt, .int .u64 p.s0, .int .u64 p.s1, .slice p.ea p.el p.ec] 47 (0, 0)) from by
      rw [gr6.block pb (by have := lt_of_blk K5.out; simp; omega) (fun e => HWE.out.1 (by simpa [Value.ownBlock] using e))]
      exact blk_on K5.out (bnew _ _))
     have KZ6 := aside (show w6.heap[pb + 1]? = some (.cells #[.int .i64 0, .int .i64 0] 33 (0, 0)) from by
      rw [gr6.block (pb + 1) (by have := lt_of_blk KZ5.out; simp; omega) (fun e => HWE.out.2 (by simpa [Value.ownBlock] using e))]
      exact blk_on KZ5.out (bnew _ _))
     clear own6 b6 gr6 PI OE5 HE5 O5 O5B HM5 p0 p1 p2 p3 p4 p5 p6 p7
     obtain ⟨p0, p1, p2, p3, p4, p5, p6, p7⟩ := oct K6.out
     have NB := bnew w6 (.cells #[.int .i64 0, .int .i64 0] 33)
     have D0 := aside ((H.out.below B6.out).below NB)
     have TL0 := aside (TL.out.below NB)
     clear TL
     have X0 := aside (heap_alloc_new w6 (.cells #[.int .i64 0, .int .i64 0] 33))
     have P0 := aside (blk_on K6.out NB)
     have Z0 := aside (blk_on KZ6.out NB)
     have K0 := aside (Keeps.of_below (bthen B6.out NB) (fun x => x = db))
     have HLT := aside (show w.heap.size ≤ pb ∧ pb + 1 < w6.heap.size from by have h1 := lt_of_blk KZ6.out; have h2 := HNL.out; omega)
     obtain ⟨xb, hxb⟩ : ∃ xb, w6.heap.size = xb := ⟨_, rfl⟩
     rw [hxb] at X0 HLT
     clear NB
     go_wp2
     clear p0 p1 p2 p3 p4 p5 p6 p7 q0
     go_loopw [14] (fun i wr => ∃ j : Nat, i = .int .i64 (j : Int) ∧ j ≤ p.el ∧ DSt wr B db nd (tkAll ⟨l, ck, 0, 0⟩ (firstE p.T j)).c (tkAll ⟨l, ck, 0, 0⟩ (firstE p.T j)).l ∧ wr.heap[xb]? = some (.cells #[.int .i64 ((tkAll ⟨l, ck, 0, 0⟩ (firstE p.T j)).n : Int), .int .i64 ((tkAll ⟨l, ck, 0, 0⟩ (firstE p.T j)).f : Int)] 33 (0, 0)) ∧ wr.heap[pb]? = some (.cells #[.int .i64 p.kind, .string p.lo, .string p.hi, .bool p.op, .int .i64 p.cnt, .int .u64 p.s0, .int .u64 p.s1, .slice p.ea p.el p.ec] 47 (0, 0)) ∧ wr.heap[pb + 1]? = some (.cells #[.int .i64 0, .int .i64 0] 33 (0, 0)) ∧ Keeps (fun x => x = db) w wr ∧ Told w.heap.size (.slice a6 1 c6) (rpQ p l) wr) (fun i _ => p.el - (intOf i).toNat)
     case atStart => exact ⟨0, rfl, Nat.zero_le _, D0.out, X0.out, P0.out, Z0.out, K0.out, TL0.out⟩
     case round =>
      obtain ⟨j, rfl, hj, hS, hH, hPB, hZ, hK, hTL⟩ := hrel
      clear D0 X0 P0 Z0 K0 TL0
      have TL1 := aside hTL
      clear hTL
      have h1 := HTL.out j
      have h2 := HTN.out j
      have h3 := HTS.out j
      obtain ⟨s, hs⟩ : ∃ s, (tkAll ⟨l, ck, 0, 0⟩ (firstE p.T j)) = s := ⟨_, rfl⟩
      have HSJ := aside hs
      rw [hs] at hS hH h1 h2 h3
      obtain ⟨Lj, cj, n, f⟩ := s
      have HST := aside h3
      have HD1 := aside hS
      have HH1 := aside hH
      have HP1 := aside hPB
      have HZ1 := aside hZ
      have HK1 := aside hK
      have HOK := aside (show MapL Lj ∧ Lj.length ≤ 256 from h1)
      have HNF := aside (show n ≤ 1000 ∧ f ≤ 1000 from by have := HPL.out; first | omega | (dsimp only at h2; omega))
      clear hS hH hZ hK h1 h2 h3 hs hPB
      have p7 := (oct HP1.out).2.2.2.2.2.2.2
      by_cases hlt : (j : Int) < (p.el : Int)
      ·have hj0 : (0 : Int) ≤ (j : Int) := by omega
       have eA := HES.out wr HK1.out
       rcases eA.2.2 with h0 | ⟨b, off, hea, -, hc⟩
       ·omega
       rw [hea] at p7
       clear hea
       obtain ⟨⟨c0, c1, c2, c3, c4⟩, -⟩ := hc j (by omega)
       obtain ⟨t, ht⟩ : ∃ t, p.T j = t := ⟨_, rfl⟩
       rw [ht] at c0 c1 c2 c3 c4
       rw [ht] at HST
       have C := aside (rtake t HD1.out HOK.out.1 HOK.out.2 (Nat.le_trans HBB.out HK1.out.size))
       obtain ⟨q, hq⟩ : ∃ q, tkSay t Lj = q := ⟨_, rfl⟩
       have HQ := aside hq
       rw [hq] at C
       obtain ⟨q1, q2⟩ := q
       clear hc eA ht hq
       go_wp2_with fail
       refine C.out.mono ?_
       rintro e w4 ⟨rfl, k4, hcase⟩
       have HB4 := aside (blk_keep HH1.out k4 (HD1.out.other HH1.out (by decide)))
       have HZ4 := aside (blk_keep HZ1.out k4 (HD1.out.other HZ1.out (by decide)))
       have P4 := aside (blk_keep HP1.out k4 (HD1.out.other HP1.out (by decide)))
       have K4 := aside (HK1.out.trans k4)
       have TL4 := aside (TL1.out.keepD HD1.out k4)
       clear TL1
       clear k4 HH1 HZ1 HK1 HP1 C c0 c1 c2 c3 c4 HD1 p7
       rcases hcase with ⟨e2, s4⟩ | ⟨e2, s4⟩
       ·dsimp only at e2
        subst e2
        have D4 := aside s4
        clear s4
        by_cases h80 : q1 = 80
        ·subst h80
         have HNX := aside (show tkStep ⟨Lj, cj, n, f⟩ t = ⟨Lj, cj, n, f + 1⟩ from by unfold tkStep; dsimp only; rw [HQ.out, if_neg (by simp), if_pos rfl])
         obtain ⟨z0, z1⟩ := two_h HB4.out
         have y0 := frozen_of_row _ _ 1 _ _ HB4.out
         have KF := aside ((Keeps.refl (fun x => x = xb) w4).setCell (p := ⟨xb, 1, none⟩) (fun _ => rfl) (.int .i64 (((f + 1 : Nat)) : Int)))
         have D5 := aside (D4.out.set2 HB4.out (by decide) (by decide) KF.out)
         have TL5 := aside (TL4.out.other HB4.out (by decide) (by decide) KF.out)
         have HB5 := set_in 1 (.int .i64 (((f + 1 : Nat)) : Int)) HB4.out
         simp only [List.setIfInBounds_toArray, List.set_cons_zero, List.set_cons_succ] at HB5
         have HB6 := aside HB5
         have HZ5 := aside (show (w4.setCell ⟨xb, 1, none⟩ (.int .i64 (((f + 1 : Nat)) : Int))).heap[pb + 1]? = some (.cells #[.int .i64 0, .int .i64 0] 33 (0, 0)) from by rw [heap_setCell_other _ _ _ _ (by have h9 := HLT.out; simp; omega)]; exact HZ4.out)
         have P5 := aside (show (w4.setCell ⟨xb, 1, none⟩ (.int .i64 (((f + 1 : Nat)) : Int))).heap[pb]? = some (.cells #[.int .i64 p.kind, .string p.lo, .string p.hi, .bool p.op, .int .i64 p.cnt, .int .u64 p.s0, .int .u64 p.s1, .slice p.ea p.el p.ec] 47 (0, 0)) from by rw [heap_setCell_other _ _ _ _ (by have h9 := HLT.out; simp; omega)]; exact P4.out)
         have K5 := aside (K4.out.setCell (p := ⟨xb, 1, none⟩) (fun hh => absurd hh (by have h9 := HLT.out; simp; omega)) (.int .i64 (((f + 1 : Nat)) : Int)))
         have hwr2 : IntKind.i64.wrap ((f : Int) + 1) = (((f + 1 : Nat)) : Int) := by rw [IntKind.wrap_i64]; push_cast; have := HNF.out; omega
         clear HB5 KF
         go_wp2
         go_roundw
         case rel => exact ⟨j + 1, by go_num, by omega, by rw [HST.out, HNX.out]; exact D5.out, by rw [HST.out, HNX.out]; exact HB6.out, P5.out, HZ5.out, K5.out, TL5.out⟩
         case measure => simp [intOf]; omega
        ·have hb80 : (q1 == 80) = false := by simpa using h80
         have HNX := aside (show tkStep ⟨Lj, cj, n, f⟩ t = ⟨Lj, cj, n, f⟩ from by unfold tkStep; dsimp only; rw [HQ.out, if_neg (by simp), if_neg (by simpa using h80)])
         go_wp2
         go_roundw
         case rel => exact ⟨j + 1, by go_num, by omega, by rw [HST.out, HNX.out]; exact D4.out, by rw [HST.out, HNX.out]; exact HB4.out, P4.out, HZ4.out, K4.out, TL4.out⟩
         case measure => simp [intOf]; omega
       ·dsimp only at e2
        subst e2
        have D4 := aside s4
        clear s4
        have hq1 : q1 = 0 := by have h9 := tk_yes (e := t) (Ls := Lj) (by rw [HQ.out]); rw [HQ.out] at h9; exact h9.1
        subst hq1
        have HNX := aside (show tkStep ⟨Lj, cj, n, f⟩ t = ⟨insE t Lj, ckm cj t.c, n + 1, f⟩ from by unfold tkStep; dsimp only; rw [HQ.out, if_pos rfl])
        obtain ⟨z0, z1⟩ := two_h HB4.out
        have y0 := frozen_of_row _ _ 0 _ _ HB4.out
        have KF := aside ((Keeps.refl (fun x => x = xb) w4).setCell (p := ⟨xb, 0, none⟩) (fun _ => rfl) (.int .i64 (((n + 1 : Nat)) : Int)))
        have D5 := aside (D4.out.set2 HB4.out (by decide) (by decide) KF.out)
        have TL5 := aside (TL4.out.other HB4.out (by decide) (by decide) KF.out)
        have HB5 := set_in 0 (.int .i64 (((n + 1 : Nat)) : Int)) HB4.out
        simp only [List.setIfInBounds_toArray, List.set_cons_zero] at HB5
        have HB6 := aside HB5
        have HZ5 := aside (show (w4.setCell ⟨xb, 0, none⟩ (.int .i64 (((n + 1 : Nat)) : Int))).heap[pb + 1]? = some (.cells #[.int .i64 0, .int .i64 0] 33 (0, 0)) from by rw [heap_setCell_other _ _ _ _ (by have h9 := HLT.out; simp; omega)]; exact HZ4.out)
        have P5 := aside (show (w4.setCell ⟨xb, 0, none⟩ (.int .i64 (((n + 1 : Nat)) : Int))).heap[pb]? = some (.cells #[.int .i64 p.kind, .string p.lo, .string p.hi, .bool p.op, .int .i64 p.cnt, .int .u64 p.s0, .int .u64 p.s1, .slice p.ea p.el p.ec] 47 (0, 0)) from by rw [heap_setCell_other _ _ _ _ (by have h9 := HLT.out; simp; omega)]; exact P4.out)
        have K5 := aside (K4.out.setCell (p := ⟨xb, 0, none⟩) (fun hh => absurd hh (by have h9 := HLT.out; simp; omega)) (.int .i64 (((n + 1 : Nat)) : Int)))
        have hwr2 : IntKind.i64.wrap ((n : Int) + 1) = (((n + 1 : Nat)) : Int) := by rw [IntKind.wrap_i64]; push_cast; have := HNF.out; omega
        clear HB5 KF
        go_wp2
        go_roundw
        case rel => exact ⟨j + 1, by go_num, by omega, by rw [HST.out, HNX.out]; exact D5.out, by rw [HST.out, HNX.out]; exact HB6.out, P5.out, HZ5.out, K5.out, TL5.out⟩
        case measure => simp [intOf]; omega
      ·have hjl : j = p.el := by omega
       have DA := aside (HD1.out.below (Below.refl _ wr).drew)
       have TLA := aside (TL1.out.below (Below.refl _ wr).drew)
       clear TL1
       have KA := aside HK1.out.drew
       have KZ2 := aside (blk_on HZ1.out (Below.refl _ wr).drew)
       have XX := aside HH1.out
       obtain ⟨x0, x1⟩ := two_h HH1.out
       have HJJ := aside (show (tkAll ⟨l, ck, 0, 0⟩ (firstE p.T p.el)) = ⟨Lj, cj, n, f⟩ from by rw [← hjl]; exact HSJ.out)
       clear HD1 HH1 HP1 HZ1 HK1
       go_wp2_with fail
       clear p7 hlt hjl
       refine wp_region_held_drew (S := fun W => W.cell? ⟨xb, 0, none⟩ = some (.int .i64 (n : Int)) ∧ W.cell? ⟨xb, 1, none⟩ = some (.int .i64 (f : Int))) (by kernel_rfl) ⟨x0, x1⟩ (fun hHeld => ?_)
       refine tk 0 rfl _ ?_; refine tk 1 rfl _ ?_; refine tk 2 rfl _ ?_
       clear x0 x1
       generalize World.drew _ = Y at *
       obtain ⟨z0, z1⟩ := two_h KZ2.out
       have y0 := frozen_of_row _ _ 0 _ _ KZ2.out
       have y1 := frozen_of_row _ _ 1 _ _ KZ2.out
       have KF := aside (((Keeps.refl (fun x => x = pb + 1) Y).setCell (p := ⟨pb + 1, 0, none⟩) (fun _ => rfl) (.int .i64 (n : Int))).setCell (p := ⟨pb + 1, 1, none⟩) (fun _ => rfl) (.int .i64 (f : Int)))
       have DF := aside (DA.out.set2 KZ2.out (by decide) (by decide) KF.out)
       have TF := aside (TLA.out.other KZ2.out (by decide) (by decide) KF.out)
       have KW := aside ((KA.out.setCell (p := ⟨pb + 1, 0, none⟩) (fun hh => absurd hh (by have h9 := HNL.out; simp; omega)) (.int .i64 (n : Int))).setCell (p := ⟨pb + 1, 1, none⟩) (fun hh => absurd hh (by have h9 := HNL.out; simp; omega)) (.int .i64 (f : Int)))
       have KR := set_in 1 (.int .i64 (f : Int)) (set_in 0 (.int .i64 (n : Int)) KZ2.out)
       simp only [List.setIfInBounds_toArray, List.set_cons_zero, List.set_cons_succ] at KR
       have HKR := aside KR
       clear KR KF
       refine rd 3 rfl fun K hK => ?_
       go_simp
       refine hK.out _ _ (⟨cell_apart (cell_apart hHeld.1 (by have := HLT.out; simp; omega)) (by have := HLT.out; simp; omega), cell_apart (cell_apart hHeld.2 (by have := HLT.out; simp; omega)) (by have := HLT.out; simp; omega)⟩) (fun hHeld => ?_)
       clear hK K z0 z1 y0 y1
       refine tk 4 rfl _ ?_
       refine wpAnyH_done (by kernel_rfl) ?_ _
       go_wp2
       obtain ⟨r0, r1⟩ := two_h HKR.out
       exact bodyPost_ret (v := .tuple #[.slice a6 1 c6, .agg #[.int .i64 (n : Int), .int .i64 (f : Int)], .int .i64 0]) (by simp [results, Tryz.results20, go_sem, r0, r1]) rfl (.inr ⟨HX0.out, _, by rw [HJJ.out], TF.out, by rw [HJJ.out]; exact DF.out, KW.out⟩)
    ·obtain rfl : m5 = [] := List.eq_nil_of_length_eq_zero (by omega)
     clear hm5
     have TL := aside (show Told w.heap.size (.slice (some ⟨w2.heap.size, 0, none⟩) 0 0) (rpQ p l) w5 from by rw [rpQ_nil HRL.out]; exact Told.emp OE5.out)
     have NB := bnew w5 (.cells #[.int .i64 0, .int .i64 0] 33)
     have D0 := aside ((H.out.below B5.out).below NB)
     have TL0 := aside (TL.out.below NB)
     clear TL
     have X0 := aside (heap_alloc_new w5 (.cells #[.int .i64 0, .int .i64 0] 33))
     have P0 := aside (blk_on K5.out NB)
     have Z0 := aside (blk_on KZ5.out NB)
     have K0 := aside (Keeps.of_below (bthen B5.out NB) (fun x => x = db))
     have HLT := aside (show w.heap.size ≤ pb ∧ pb + 1 < w5.heap.size from by have h1 := lt_of_blk KZ5.out; have h2 := HNL.out; omega)
     obtain ⟨xb, hxb⟩ : ∃ xb, w5.heap.size = xb := ⟨_, rfl⟩
     rw [hxb] at X0 HLT
     clear NB
     go_wp2
     clear p0 p1 p2 p3 p4 p5 p6 p7 q0
     go_loopw [14] (fun i wr => ∃ j : Nat, i = .int .i64 (j : Int) ∧ j ≤ p.el ∧ DSt wr B db nd (tkAll ⟨l, ck, 0, 0⟩ (firstE p.T j)).c (tkAll ⟨l, ck, 0, 0⟩ (firstE p.T j)).l ∧ wr.heap[xb]? = some (.cells #[.int .i64 ((tkAll ⟨l, ck, 0, 0⟩ (firstE p.T j)).n : Int), .int .i64 ((tkAll ⟨l, ck, 0, 0⟩ (firstE p.T j)).f : Int)] 33 (0, 0)) ∧ wr.heap[pb]? = some (.cells #[.int .i64 p.kind, .string p.lo, .string p.hi, .bool p.op, .int .i64 p.cnt, .int .u64 p.s0, .int .u64 p.s1, .slice p.ea p.el p.ec] 47 (0, 0)) ∧ wr.heap[pb + 1]? = some (.cells #[.int .i64 0, .int .i64 0] 33 (0, 0)) ∧ Keeps (fun x => x = db) w wr ∧ Told w.heap.size (.slice (some ⟨w2.heap.size, 0, none⟩) 0 0) (rpQ p l) wr) (fun i _ => p.el - (intOf i).toNat)
     case atStart => exact ⟨0, rfl, Nat.zero_le _, D0.out, X0.out, P0.out, Z0.out, K0.out, TL0.out⟩
     case round =>
      obtain ⟨j, rfl, hj, hS, hH, hPB, hZ, hK, hTL⟩ := hrel
      clear D0 X0 P0 Z0 K0 TL0
      have TL1 := aside hTL
      clear hTL
      have h1 := HTL.out j
      have h2 := HTN.out j
      have h3 := HTS.out j
      obtain ⟨s, hs⟩ : ∃ s, (tkAll ⟨l, ck, 0, 0⟩ (firstE p.T j)) = s := ⟨_, rfl⟩
      have HSJ := aside hs
      rw [hs] at hS hH h1 h2 h3
      obtain ⟨Lj, cj, n, f⟩ := s
      have HST := aside h3
      have HD1 := aside hS
      have HH1 := aside hH
      have HP1 := aside hPB
      have HZ1 := aside hZ
      have HK1 := aside hK
      have HOK := aside (show MapL Lj ∧ Lj.length ≤ 256 from h1)
      have HNF := aside (show n ≤ 1000 ∧ f ≤ 1000 from by have := HPL.out; first | omega | (dsimp only at h2; omega))
      clear hS hH hZ hK h1 h2 h3 hs hPB
      have p7 := (oct HP1.out).2.2.2.2.2.2.2
      by_cases hlt : (j : Int) < (p.el : Int)
      ·have hj0 : (0 : Int) ≤ (j : Int) := by omega
       have eA := HES.out wr HK1.out
       rcases eA.2.2 with h0 | ⟨b, off, hea, -, hc⟩
       ·omega
       rw [hea] at p7
       clear hea
       obtain ⟨⟨c0, c1, c2, c3, c4⟩, -⟩ := hc j (by omega)
       obtain ⟨t, ht⟩ : ∃ t, p.T j = t := ⟨_, rfl⟩
       rw [ht] at c0 c1 c2 c3 c4
       rw [ht] at HST
       have C := aside (rtake t HD1.out HOK.out.1 HOK.out.2 (Nat.le_trans HBB.out HK1.out.size))
       obtain ⟨q, hq⟩ : ∃ q, tkSay t Lj = q := ⟨_, rfl⟩
       have HQ := aside hq
       rw [hq] at C
       obtain ⟨q1, q2⟩ := q
       clear hc eA ht hq
       go_wp2_with fail
       refine C.out.mono ?_
       rintro e w4 ⟨rfl, k4, hcase⟩
       have HB4 := aside (blk_keep HH1.out k4 (HD1.out.other HH1.out (by decide)))
       have HZ4 := aside (blk_keep HZ1.out k4 (HD1.out.other HZ1.out (by decide)))
       have P4 := aside (blk_keep HP1.out k4 (HD1.out.other HP1.out (by decide)))
       have K4 := aside (HK1.out.trans k4)
       have TL4 := aside (TL1.out.keepD HD1.out k4)
       clear TL1
       clear k4 HH1 HZ1 HK1 HP1 C c0 c1 c2 c3 c4 HD1 p7
       rcases hcase with ⟨e2, s4⟩ | ⟨e2, s4⟩
       ·dsimp only at e2
        subst e2
        have D4 := aside s4
        clear s4
        by_cases h80 : q1 = 80
        ·subst h80
         have HNX := aside (show tkStep ⟨Lj, cj, n, f⟩ t = ⟨Lj, cj, n, f + 1⟩ from by unfold tkStep; dsimp only; rw [HQ.out, if_neg (by simp), if_pos rfl])
         obtain ⟨z0, z1⟩ := two_h HB4.out
         have y0 := frozen_of_row _ _ 1 _ _ HB4.out
         have KF := aside ((Keeps.refl (fun x => x = xb) w4).setCell (p := ⟨xb, 1, none⟩) (fun _ => rfl) (.int .i64 (((f + 1 : Nat)) : Int)))
         have D5 := aside (D4.out.set2 HB4.out (by decide) (by decide) KF.out)
         have TL5 := aside (TL4.out.other HB4.out (by decide) (by decide) KF.out)
         have HB5 := set_in 1 (.int .i64 (((f + 1 : Nat)) : Int)) HB4.out
         simp only [List.setIfInBounds_toArray, List.set_cons_zero, List.set_cons_succ] at HB5
         have HB6 := aside HB5
         have HZ5 := aside (show (w4.setCell ⟨xb, 1, none⟩ (.int .i64 (((f + 1 : Nat)) : Int))).heap[pb + 1]? = some (.cells #[.int .i64 0, .int .i64 0] 33 (0, 0)) from by rw [heap_setCell_other _ _ _ _ (by have h9 := HLT.out; simp; omega)]; exact HZ4.out)
         have P5 := aside (show (w4.setCell ⟨xb, 1, none⟩ (.int .i64 (((f + 1 : Nat)) : Int))).heap[pb]? = some (.cells #[.int .i64 p.kind, .string p.lo, .string p.hi, .bool p.op, .int .i64 p.cnt, .int .u64 p.s0, .int .u64 p.s1, .slice p.ea p.el p.ec] 47 (0, 0)) from by rw [heap_setCell_other _ _ _ _ (by have h9 := HLT.out; simp; omega)]; exact P4.out)
         have K5 := aside (K4.out.setCell (p := ⟨xb, 1, none⟩) (fun hh => absurd hh (by have h9 := HLT.out; simp; omega)) (.int .i64 (((f + 1 : Nat)) : Int)))
         have hwr2 : IntKind.i64.wrap ((f : Int) + 1) = (((f + 1 : Nat)) : Int) := by rw [IntKind.wrap_i64]; push_cast; have := HNF.out; omega
         clear HB5 KF
         go_wp2
         go_roundw
         case rel => exact ⟨j + 1, by go_num, by omega, by rw [HST.out, HNX.out]; exact D5.out, by rw [HST.out, HNX.out]; exact HB6.out, P5.out, HZ5.out, K5.out, TL5.out⟩
         case measure => simp [intOf]; omega
        ·have hb80 : (q1 == 80) = false := by simpa using h80
         have HNX := aside (show tkStep ⟨Lj, cj, n, f⟩ t = ⟨Lj, cj, n, f⟩ from by unfold tkStep; dsimp only; rw [HQ.out, if_neg (by simp), if_neg (by simpa using h80)])
         go_wp2
         go_roundw
         case rel => exact ⟨j + 1, by go_num, by omega, by rw [HST.out, HNX.out]; exact D4.out, by rw [HST.out, HNX.out]; exact HB4.out, P4.out, HZ4.out, K4.out, TL4.out⟩
         case measure => simp [intOf]; omega
       ·dsimp only at e2
        subst e2
        have D4 := aside s4
        clear s4
        have hq1 : q1 = 0 := by have h9 := tk_yes (e := t) (Ls := Lj) (by rw [HQ.out]); rw [HQ.out] at h9; exact h9.1
        subst hq1
        have HNX := aside (show tkStep ⟨Lj, cj, n, f⟩ t = ⟨insE t Lj, ckm cj t.c, n + 1, f⟩ from by unfold tkStep; dsimp only; rw [HQ.out, if_pos rfl])
        obtain ⟨z0, z1⟩ := two_h HB4.out
        have y0 := frozen_of_row _ _ 0 _ _ HB4.out
        have KF := aside ((Keeps.refl (fun x => x = xb) w4).setCell (p := ⟨xb, 0, none⟩) (fun _ => rfl) (.int .i64 (((n + 1 : Nat)) : Int)))
        have D5 := aside (D4.out.set2 HB4.out (by decide) (by decide) KF.out)
        have TL5 := aside (TL4.out.other HB4.out (by decide) (by decide) KF.out)
        have HB5 := set_in 0 (.int .i64 (((n + 1 : Nat)) : Int)) HB4.out
        simp only [List.setIfInBounds_toArray, List.set_cons_zero] at HB5
        have HB6 := aside HB5
        have HZ5 := aside (show (w4.setCell ⟨xb, 0, none⟩ (.int .i64 (((n + 1 : Nat)) : Int))).heap[pb + 1]? = some (.cells #[.int .i64 0, .int .i64 0] 33 (0, 0)) from by rw [heap_setCell_other _ _ _ _ (by have h9 := HLT.out; simp; omega)]; exact HZ4.out)
        have P5 := aside (show (w4.setCell ⟨xb, 0, none⟩ (.int .i64 (((n + 1 : Nat)) : Int))).heap[pb]? = some (.cells #[.int .i64 p.kind, .string p.lo, .string p.hi, .bool p.op, .int .i64 p.cnt, .int .u64 p.s0, .int .u64 p.s1, .slice p.ea p.el p.ec] 47 (0, 0)) from by rw [heap_setCell_other _ _ _ _ (by have h9 := HLT.out; simp; omega)]; exact P4.out)
        have K5 := aside (K4.out.setCell (p := ⟨xb, 0, none⟩) (fun hh => absurd hh (by have h9 := HLT.out; simp; omega)) (.int .i64 (((n + 1 : Nat)) : Int)))
        have hwr2 : IntKind.i64.wrap ((n : Int) + 1) = (((n + 1 : Nat)) : Int) := by rw [IntKind.wrap_i64]; push_cast; have := HNF.out; omega
        clear HB5 KF
        go_wp2
        go_roundw
        case rel => exact ⟨j + 1, by go_num, by omega, by rw [HST.out, HNX.out]; exact D5.out, by rw [HST.out, HNX.out]; exact HB6.out, P5.out, HZ5.out, K5.out, TL5.out⟩
        case measure => simp [intOf]; omega
      ·have hjl : j = p.el := by omega
       have DA := aside (HD1.out.below (Below.refl _ wr).drew)
       have TLA := aside (TL1.out.below (Below.refl _ wr).drew)
       clear TL1
       have KA := aside HK1.out.drew
       have KZ2 := aside (blk_on HZ1.out (Below.refl _ wr).drew)
       have XX := aside HH1.out
       obtain ⟨x0, x1⟩ := two_h HH1.out
       have HJJ := aside (show (tkAll ⟨l, ck, 0, 0⟩ (firstE p.T p.el)) = ⟨Lj, cj, n, f⟩ from by rw [← hjl]; exact HSJ.out)
       clear HD1 HH1 HP1 HZ1 HK1
       go_wp2_with fail
       clear p7 hlt hjl
       refine wp_region_held_drew (S := fun W => W.cell? ⟨xb, 0, none⟩ = some (.int .i64 (n : Int)) ∧ W.cell? ⟨xb, 1, none⟩ = some (.int .i64 (f : Int))) (by kernel_rfl) ⟨x0, x1⟩ (fun hHeld => ?_)
       refine tk 0 rfl _ ?_; refine tk 1 rfl _ ?_; refine tk 2 rfl _ ?_
       clear x0 x1
       generalize World.drew _ = Y at *
       obtain ⟨z0, z1⟩ := two_h KZ2.out
       have y0 := frozen_of_row _ _ 0 _ _ KZ2.out
       have y1 := frozen_of_row _ _ 1 _ _ KZ2.out
       have KF := aside (((Keeps.refl (fun x => x = pb + 1) Y).setCell (p := ⟨pb + 1, 0, none⟩) (fun _ => rfl) (.int .i64 (n : Int))).setCell (p := ⟨pb + 1, 1, none⟩) (fun _ => rfl) (.int .i64 (f : Int)))
       have DF := aside (DA.out.set2 KZ2.out (by decide) (by decide) KF.out)
       have TF := aside (TLA.out.other KZ2.out (by decide) (by decide) KF.out)
       have KW := aside ((KA.out.setCell (p := ⟨pb + 1, 0, none⟩) (fun hh => absurd hh (by have h9 := HNL.out; simp; omega)) (.int .i64 (n : Int))).setCell (p := ⟨pb + 1, 1, none⟩) (fun hh => absurd hh (by have h9 := HNL.out; simp; omega)) (.int .i64 (f : Int)))
       have KR := set_in 1 (.int .i64 (f : Int)) (set_in 0 (.int .i64 (n : Int)) KZ2.out)
       simp only [List.setIfInBounds_toArray, List.set_cons_zero, List.set_cons_succ] at KR
       have HKR := aside KR
       clear KR KF
       refine rd 3 rfl fun K hK => ?_
       go_simp
       refine hK.out _ _ (⟨cell_apart (cell_apart hHeld.1 (by have := HLT.out; simp; omega)) (by have := HLT.out; simp; omega), cell_apart (cell_apart hHeld.2 (by have := HLT.out; simp; omega)) (by have := HLT.out; simp; omega)⟩) (fun hHeld => ?_)
       clear hK K z0 z1 y0 y1
       refine tk 4 rfl _ ?_
       refine wpAnyH_done (by kernel_rfl) ?_ _
       go_wp2
       obtain ⟨r0, r1⟩ := two_h HKR.out
       exact bodyPost_ret (v := .tuple #[.slice (some ⟨w2.heap.size, 0, none⟩) 0 0, .agg #[.int .i64 (n : Int), .int .i64 (f : Int)], .int .i64 0]) (by simp [results, Tryz.results20, go_sem, r0, r1]) rfl (.inr ⟨HX0.out, _, by rw [HJJ.out], TF.out, by rw [HJJ.out]; exact DF.out, KW.out⟩)
 ·have hqb : (q == 0) = false := by simpa using hq0
  rw [show xErr p = q from by rw [HXE.out, if_pos hq0]]
  have HQ := aside hq0
  clear HXE
  go_enter Tryz.func20, Tryz.ntmps20
  go_wp2_with fail
  refine CO.out.mono ?_
  rintro e w1 ⟨g1, c1, rfl, pi1, -, b1⟩
  have C1 := aside (partsR_any _ 1 c1 _ w1 pi1)
  rw [HPS.out] at C1
  have BN := b1
  clear CO p0 p1 p2 p3 p4 p5 p6 p7 hX pi1
  go_wp2_with fail
  refine C1.out.mono ?_
  rintro e w2 ⟨rfl, b2⟩
  have B2 := aside (bthen BX.out (bthen BN b2))
  have K2 := aside (blk_on KX.out (bthen BN b2))
  have KZ2 := aside (blk_on KZ.out (bthen BN b2))
  clear b2 BN b1 C1 BX KX KZ
  obtain ⟨p0, -⟩ := oct K2.out
  have DA := aside (H.out.below B2.out)
  have KA := aside (Keeps.of_below B2.out (fun x => x = db))
  go_upto_region 3 with fail
  clear p0
  obtain ⟨z0, z1⟩ := two_h KZ2.out
  have y0 := frozen_of_row _ _ 0 _ _ KZ2.out
  have y1 := frozen_of_row _ _ 1 _ _ KZ2.out
  have KF := aside (((Keeps.refl (fun x => x = pb + 1) w2).setCell (p := ⟨pb + 1, 0, none⟩) (fun _ => rfl) (.int .i64 0)).setCell (p := ⟨pb + 1, 1, none⟩) (fun _ => rfl) (.int .i64 0))
  have DF := aside (DA.out.set2 KZ2.out (by decide) (by decide) KF.out)

  have KW := aside ((KA.out.setCell (p := ⟨pb + 1, 0, none⟩) (fun hh => absurd hh (by have h9 := HNL.out; simp; omega)) (.int .i64 0)).setCell (p := ⟨pb + 1, 1, none⟩) (fun hh => absurd hh (by have h9 := HNL.out; simp; omega)) (.int .i64 0))
  have KR := set_in 1 (.int .i64 0) (set_in 0 (.int .i64 0) KZ2.out)
  simp only [List.setIfInBounds_toArray, List.set_cons_zero, List.set_cons_succ] at KR
  have HKR := aside KR
  clear KR KF
  go_wp2
  obtain ⟨r0, r1⟩ := two_h HKR.out
  exact bodyPost_ret (v := .tuple #[.slice none 0 0, .agg #[.int .i64 0, .int .i64 0], .int .i64 q]) (by simp [results, Tryz.results20, go_sem, r0, r1]) rfl (.inl ⟨HQ.out, rfl, DF.out, KW.out⟩)
end Go.Proofs.YtpbkjffiohfkcaaGreatDoor
