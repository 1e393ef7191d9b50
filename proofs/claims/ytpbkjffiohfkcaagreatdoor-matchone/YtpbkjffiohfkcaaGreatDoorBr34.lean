/-
  exchange.
-/
import Derived.Test.YtpbkjffiohfkcaaGreatDoorBr33
import Derived.Test.YtpbkjffiohfkcaaGreatDoorBr26
import Derived.Test.YtpbkjffiohfkcaaGreatDoorBr18
import Derived.Test.YtpbkjffiohfkcaaGreatDoorBr1
import Derived.Test.YtpbkjffiohfkcaaGreatDoorBr29
import Derived.Deep.Cut
import Derived.Test.YtpbkjffiohfkcaaGreatDoorBr28
import Derived.Test.YtpbkjffiohfkcaaGreatDoorBr20
namespace Go.Proofs.YtpbkjffiohfkcaaGreatDoor
open Go.RowKit
set_option linter.unusedVariables false
set_option maxHeartbeats 6400000 in
set_option maxRecDepth 100000 in
theorem exch_any (p : Pm) {w : World} {sb g tb : Nat} {nd ck : Int} {Ls : List En} (h : Sto w sb g tb nd ck Ls) (hm : MapL Ls) (hl : Ls.length ≤ 256) (hP : p.In w) (hpm : MapL (firstE p.T p.el)) (hpl : p.el ≤ 256) (hc : p.rg.chk = 0) (L : Lanes w) :
    Calls Tryz.prog 33 #[.pointer (some ⟨sb, 0, none⟩), .agg #[.int .i64 p.kind, .string p.lo, .string p.hi, .bool p.op, .int .i64 p.cnt, .int .u64 p.s0, .int .u64 p.s1, .slice p.ea p.el p.ec]] w fun r w' => ∃ v, r = .returned (.tuple #[v, .agg #[.int .i64 ((tkAll ⟨Ls, ck, 0, 0⟩ (firstE p.T p.el)).n : Int), .int .i64 ((tkAll ⟨Ls, ck, 0, 0⟩ (firstE p.T p.el)).f : Int)]]) ∧ RpAt (w.heap.size + 2) p (rpL p Ls) v w' ∧ Sto w' sb g tb nd (tkAll ⟨Ls, ck, 0, 0⟩ (firstE p.T p.el)).c (tkAll ⟨Ls, ck, 0, 0⟩ (firstE p.T p.el)).l ∧ Keeps (Of sb g tb) w w' ∧ Lanes w' := by
 have BX := aside (bthen (bnew w (.cells #[.int .i64 p.kind, .string p.lo, .string p.hi, .bool p.op, .int .i64 p.cnt, .int .u64 p.s0, .int .u64 p.s1, .slice p.ea p.el p.ec] 47)) (bnew _ (.cells #[.int .i64 0, .int .i64 0] 33)))
 have KX := aside (blk_on (heap_alloc_new w (.cells #[.int .i64 p.kind, .string p.lo, .string p.hi, .bool p.op, .int .i64 p.cnt, .int .u64 p.s0, .int .u64 p.s1, .slice p.ea p.el p.ec] 47)) (bnew _ (.cells #[.int .i64 0, .int .i64 0] 33)))
 have KZ := aside (heap_alloc_new (w.alloc (.cells #[.int .i64 p.kind, .string p.lo, .string p.hi, .bool p.op, .int .i64 p.cnt, .int .u64 p.s0, .int .u64 p.s1, .slice p.ea p.el p.ec] 47)) (.cells #[.int .i64 0, .int .i64 0] 33))
 rw [World.size_alloc] at KZ
 obtain ⟨pb, hpb⟩ : ∃ pb, w.heap.size = pb := ⟨_, rfl⟩
 rw [hpb] at KX KZ ⊢
 have ZX := aside (show ((w.alloc (.cells #[.int .i64 p.kind, .string p.lo, .string p.hi, .bool p.op, .int .i64 p.cnt, .int .u64 p.s0, .int .u64 p.s1, .slice p.ea p.el p.ec] 47)).alloc (.cells #[.int .i64 0, .int .i64 0] 33)).heap.size = pb + 2 from by rw [World.size_alloc, World.size_alloc, hpb])
 have HNL := aside (show w.heap.size ≤ pb ∧ pb + 1 < pb + 2 from by omega)
 obtain ⟨X, hX⟩ : ∃ X, (w.alloc (.cells #[.int .i64 p.kind, .string p.lo, .string p.hi, .bool p.op, .int .i64 p.cnt, .int .u64 p.s0, .int .u64 p.s1, .slice p.ea p.el p.ec] 47)).alloc (.cells #[.int .i64 0, .int .i64 0] 33) = X := ⟨_, rfl⟩
 rw [hX] at BX KX KZ ZX
 have HX := aside (h.below BX.out)
 have CR := aside (replyTo_any p HX.out hm hl (hP.keep BX.out) hpm hpl hc)
 have HPI := aside (hP.keep BX.out)
 have CT := aside (fun W (hs : Sto W sb g tb nd ck Ls) (hL : Lanes W) (hE : p.In W) => takeAll_any p.ea p.el p.ec p.T hs hL hl hE (by omega))
 have LX := aside (L.keep BX.out)
 obtain ⟨s, hs⟩ : ∃ s, (tkAll ⟨Ls, ck, 0, 0⟩ (firstE p.T p.el)) = s := ⟨_, rfl⟩
 rw [hs] at CT ⊢
 obtain ⟨Lj, cj, n, f⟩ := s
 dsimp only at CT ⊢
 clear h hm hl hP hpm hpl hc L hs
 obtain ⟨p0, p1, p2, p3, p4, p5, p6, p7⟩ := oct KX.out
 go_enter Tryz.func33, Tryz.ntmps33
 go_wp2_with fail
 refine CR.out.mono ?_
 rintro e w1 ⟨v, rfl, rp, b1⟩
 rw [ZX.out] at rp
 have RP := aside rp
 have K1 := aside (blk_on KX.out b1)
 have KZ1 := aside (blk_on KZ.out b1)
 have S1 := aside (HX.out.below b1)
 have L1 := aside (LX.out.keep b1)
 have B1 := aside (bthen BX.out b1)
 have P1 := aside (HPI.out.keep b1)
 clear rp b1 CR HX LX BX HPI KX KZ p0 p1 p2 p3 p4 p5 p6 p7 hX ZX
 obtain ⟨-, -, -, -, -, -, -, p7⟩ := oct K1.out
 go_wp2_with fail
 refine (CT.out _ S1.out L1.out P1.out).mono ?_
 rintro e w2 ⟨rfl, s2, k2, l2⟩
 have SA := aside s2
 have LA := aside l2
 have KA := aside ((Keeps.of_below B1.out _).trans k2)
 have KZ2 := aside (blk_keep KZ1.out k2 (S1.out.not KZ1.out (by decide) (by decide) (by decide)))
 have RP2 := aside (RP.out.keepS S1.out k2)
 clear s2 l2 k2 S1 L1 P1 K1 KZ1 CT RP B1 p7
 obtain ⟨z0, z1⟩ := two_h KZ2.out
 have y0 := frozen_of_row _ _ 0 _ _ KZ2.out
 have y1 := frozen_of_row _ _ 1 _ _ KZ2.out
 have KF := aside (((Keeps.refl (fun x => x = pb + 1) w2).setCell (p := ⟨pb + 1, 0, none⟩) (fun _ => rfl) (.int .i64 (n : Int))).setCell (p := ⟨pb + 1, 1, none⟩) (fun _ => rfl) (.int .i64 (f : Int)))
 have SF := aside (SA.out.set KZ2.out (by decide) (by decide) (by decide) (by decide) KF.out)
 have LF := aside (LA.out.keeps KF.out (fun (e : 0 = pb + 1) => by omega))
 have KW := aside ((KA.out.setCell (p := ⟨pb + 1, 0, none⟩) (fun hh => absurd hh (by have h9 := HNL.out; simp; omega)) (.int .i64 (n : Int))).setCell (p := ⟨pb + 1, 1, none⟩) (fun hh => absurd hh (by have h9 := HNL.out; simp; omega)) (.int .i64 (f : Int)))
 have KR := set_in 1 (.int .i64 (f : Int)) (set_in 0 (.int .i64 (n : Int)) KZ2.out)
 simp only [List.setIfInBounds_toArray, List.set_cons_zero, List.set_cons_succ] at KR
 have HKR := aside KR
 clear KR KF
 have RF := aside ((RP2.out.set (b := pb + 1) (by have h9 := HNL.out; omega) 0 (.int .i64 (n : Int))).set (b := pb + 1) (by have h9 := HNL.out; omega) 1 (.int .i64 (f : Int)))
 go_wp2
 obtain ⟨r0, r1⟩ := two_h HKR.out
 exact bodyPost_ret (v := .tuple #[v, .agg #[.int .i64 (n : Int), .int .i64 (f : Int)]]) (by simp [results, Tryz.results33, go_sem, r0, r1]) rfl ⟨v, rfl, RF.out, SF.out, KW.out, LF.out⟩
end Go.Proofs.YtpbkjffiohfkcaaGreatDoor
namespace Go.Proofs.YtpbkjffiohfkcaaGreatDoor
open Go.RowKit
set_option linter.unusedVariables false
theorem ptN_all {P : Nat → Pm} : ∀ {n : Nat}, ptN P n = 0 → ∀ i, i < n → ptAt P i = 0 := by
 intro n
 induction n with
 | zero => intro _ i hi; omega
 | succ n ih =>
  intro h i hi
  have h0 : ptN P n = 0 := by
   by_cases g : ptN P n = 0
   ·exact g
   ·rw [ptN_stay g (n + 1) (by omega)] at h; exact absurd h g
  rcases Nat.lt_or_ge i n with g | g
  ·exact ih h0 i g
  ·obtain rfl : i = n := by omega
   rw [← ptN_step h0]; exact h
theorem itN_all {r : Rg} {T : Nat → En} : ∀ {n : Nat}, itN r T n = 0 → ∀ i, i < n → itAt r T i = 0 := by
 intro n
 induction n with
 | zero => intro _ i hi; omega
 | succ n ih =>
  intro h i hi
  have h0 : itN r T n = 0 := by
   by_cases g : itN r T n = 0
   ·exact g
   ·rw [itN_stay g (n + 1) (by omega)] at h; exact absurd h g
  rcases Nat.lt_or_ge i n with g | g
  ·exact ih h0 i g
  ·obtain rfl : i = n := by omega
   rw [← itN_step h0]; exact h
theorem itAt_zero {r : Rg} {T : Nat → En} {i : Nat} (h : itAt r T i = 0) : r.has (T i).k = true ∧ (0 < i → kLt (T (i - 1)).k (T i).k = true) := by
 unfold itAt at h
 by_cases g : (T i).chk = 0
 ·rw [if_neg (by simp [g])] at h
  by_cases g2 : r.has (T i).k = false ∨ (0 < i ∧ kLt (T (i - 1)).k (T i).k = false)
  ·rw [if_pos g2] at h; cases h
  ·refine ⟨?_, fun hi => ?_⟩
   ·cases e : r.has (T i).k
    ·exact absurd (.inl e) g2
    ·rfl
   ·cases e : kLt (T (i - 1)).k (T i).k
    ·exact absurd (.inr ⟨hi, e⟩) g2
    ·rfl
 ·rw [if_pos g] at h; exact absurd h g
structure GoodP (P : Nat → Pm) (i : Nat) : Prop where
 chk : (P i).rg.chk = 0
 emp : (P i).rg.emp = false
 op : ahOp P i = false
 lo : kLt (P i).lo (ahHi P i) = false
 its : ∀ k, k < (P i).el → itAt (P i).rg (P i).T k = 0
theorem good_of {P : Nat → Pm} {i : Nat} (h : ptAt P i = 0) : GoodP P i := by
 unfold ptAt Pm.chk at h
 cases h1 : (P i).alone
 ·rw [if_pos h1] at h; cases h
 ·rw [if_neg (by simp [h1])] at h
  by_cases h2 : (P i).rg.chk = 0
  ·rw [if_neg (by simp [h2])] at h
   by_cases h3 : (P i).rg.emp = true ∨ ahOp P i = true ∨ kLt (P i).lo (ahHi P i) = true
   ·rw [if_pos h3] at h; cases h
   ·rw [if_neg h3] at h
    refine ⟨h2, ?_, ?_, ?_, ?_⟩
    ·cases e : (P i).rg.emp
     ·rfl
     ·exact absurd (.inl e) h3
    ·cases e : ahOp P i
     ·rfl
     ·exact absurd (.inr (.inl e)) h3
    ·cases e : kLt (P i).lo (ahHi P i)
     ·rfl
     ·exact absurd (.inr (.inr e)) h3
    ·by_cases h4 : (P i).kind = 1
     ·unfold Pm.alone at h1
      rw [if_pos h4] at h1
      intro k hk
      have : (P i).el = 0 := by simpa using h1
      omega
     ·rw [if_neg h4] at h
      unfold Pm.its at h
      by_cases h5 : itN (P i).rg (P i).T (P i).el = 0
      ·exact fun k hk => itN_all h5 k hk
      ·rw [if_pos h5] at h; exact absurd h h5
  ·rw [if_pos h2] at h; exact absurd h h2
theorem goods {P : Nat → Pm} {n : Nat} (h : psChk P n = 0) : n ≤ 768 ∧ totE P n ≤ 256 ∧ ∀ i, i < n → GoodP P i := by
 unfold psChk at h
 by_cases g : 768 < n ∨ 256 < totE P n
 ·rw [if_pos g] at h; cases h
 ·rw [if_neg g] at h
  exact ⟨by omega, by omega, fun i hi => good_of (ptN_all h i hi)⟩
end Go.Proofs.YtpbkjffiohfkcaaGreatDoor
namespace Go.Proofs.YtpbkjffiohfkcaaGreatDoor
open Go.RowKit
set_option linter.unusedVariables false
theorem good_map {P : Nat → Pm} {i : Nat} (h : GoodP P i) : MapL (firstE (P i).T (P i).el) := by
 have hc : ∀ n, n ≤ (P i).el → ckN (P i).T n = 0 := by
  intro n
  induction n with
  | zero => intro _; rfl
  | succ n ih =>
   intro hn
   have h0 := h.its n (by omega)
   have h1 := itAt_zero h0
   have h2 : ((P i).T n).chk = 0 := by
    unfold itAt at h0
    by_cases g : ((P i).T n).chk = 0
    ·exact g
    ·rw [if_pos g] at h0; exact absurd h0 g
   rw [ckN_step (ih (by omega)), ckAt_ok h2 (fun g => by rw [h1.2 g.1] at g; cases g.2)]
 exact (ck_map _).1 (hc _ (Nat.le_refl _))
def xErr (p : Pm) : Int := if psChk (fun _ => p) 1 ≠ 0 then psChk (fun _ => p) 1 else if p.kind = 1 then 114 else 0
theorem xErr_ok {p : Pm} (h : xErr p = 0) : psChk (fun _ => p) 1 = 0 ∧ p.kind ≠ 1 ∧ MapL (firstE p.T p.el) ∧ p.el ≤ 256 ∧ p.rg.chk = 0 := by
 unfold xErr at h
 by_cases h1 : psChk (fun _ => p) 1 = 0
 ·rw [if_neg (by simp [h1])] at h
  by_cases h2 : p.kind = 1
  ·rw [if_pos h2] at h; cases h
  ·obtain ⟨-, g2, g3⟩ := goods h1
   have g := g3 0 (by omega)
   simp only [totE] at g2
   exact ⟨h1, h2, good_map g, by omega, g.chk⟩
 ·rw [if_pos h1] at h; exact absurd h h1
end Go.Proofs.YtpbkjffiohfkcaaGreatDoor
namespace Go.Proofs.YtpbkjffiohfkcaaGreatDoor
open Go.RowKit
set_option linter.unusedVariables false
def XSay (w : World) (sb g tb : Nat) (nd ck : Int) (Ls : List En) (p : Pm) (r : Ending) (w' : World) : Prop :=
 (xErr p ≠ 0 ∧ r = .returned (.tuple #[.slice none 0 0, .agg #[.int .i64 0, .int .i64 0], .int .i64 (xErr p)]) ∧ Sto w' sb g tb nd ck Ls ∧ Keeps (Of sb g tb) w w' ∧ Lanes w') ∨
 (xErr p = 0 ∧ ∃ v, r = .returned (.tuple #[v, .agg #[.int .i64 ((tkAll ⟨Ls, ck, 0, 0⟩ (firstE p.T p.el)).n : Int), .int .i64 ((tkAll ⟨Ls, ck, 0, 0⟩ (firstE p.T p.el)).f : Int)], .int .i64 0]) ∧ RpAt (w.heap.size + 2) p (rpL p Ls) v w' ∧ Sto w' sb g tb nd (tkAll ⟨Ls, ck, 0, 0⟩ (firstE p.T p.el)).c (tkAll ⟨Ls, ck, 0, 0⟩ (firstE p.T p.el)).l ∧ Keeps (Of sb g tb) w w' ∧ Lanes w')
set_option maxHeartbeats 6400000 in
set_option maxRecDepth 100000 in
theorem xchg_any (p : Pm) {w : World} {sb g tb : Nat} {nd ck : Int} {Ls : List En} (h : Sto w sb g tb nd ck Ls) (hm : MapL Ls) (hl : Ls.length ≤ 256) (hP : p.In w) (hz : p.el ≤ 4611686018427387904) (L : Lanes w) :
    Calls Tryz.prog 15 #[.pointer (some ⟨sb, 0, none⟩), .agg #[.int .i64 p.kind, .string p.lo, .string p.hi, .bool p.op, .int .i64 p.cnt, .int .u64 p.s0, .int .u64 p.s1, .slice p.ea p.el p.ec]] w fun r w' => XSay w sb g tb nd ck Ls p r w' := by
 have BX := aside (bthen (bnew w (.cells #[.int .i64 p.kind, .string p.lo, .string p.hi, .bool p.op, .int .i64 p.cnt, .int .u64 p.s0, .int .u64 p.s1, .slice p.ea p.el p.ec] 47)) (bnew _ (.cells #[.int .i64 0, .int .i64 0] 33)))
 have KX := aside (blk_on (heap_alloc_new w (.cells #[.int .i64 p.kind, .string p.lo, .string p.hi, .bool p.op, .int .i64 p.cnt, .int .u64 p.s0, .int .u64 p.s1, .slice p.ea p.el p.ec] 47)) (bnew _ (.cells #[.int .i64 0, .int .i64 0] 33)))
 have KZ := aside (heap_alloc_new (w.alloc (.cells #[.int .i64 p.kind, .string p.lo, .string p.hi, .bool p.op, .int .i64 p.cnt, .int .u64 p.s0, .int .u64 p.s1, .slice p.ea p.el p.ec] 47)) (.cells #[.int .i64 0, .int .i64 0] 33))
 rw [World.size_alloc] at KZ
 obtain ⟨pb, hpb⟩ : ∃ pb, w.heap.size = pb := ⟨_, rfl⟩
 rw [hpb] at KX KZ
 have HNL := aside (show w.heap.size ≤ pb ∧ pb + 1 < pb + 2 from by omega)
 obtain ⟨X, hX⟩ : ∃ X, (w.alloc (.cells #[.int .i64 p.kind, .string p.lo, .string p.hi, .bool p.op, .int .i64 p.cnt, .int .u64 p.s0, .int .u64 p.s1, .slice p.ea p.el p.ec] 47)).alloc (.cells #[.int .i64 0, .int .i64 0] 33) = X := ⟨_, rfl⟩
 rw [hX] at BX KX KZ
 have ZX := aside (show X.heap.size = pb + 2 from by rw [← hX, World.size_alloc, World.size_alloc, hpb])
 have CK := aside (parts_any (some ⟨X.heap.size, 0, none⟩) 1 1 (fun _ => p) (X.alloc (.cells #[.int .i64 p.kind, .string p.lo, .string p.hi, .bool p.op, .int .i64 p.cnt, .int .u64 p.s0, .int .u64 p.s1, .slice p.ea p.el p.ec] 47)) ⟨Nat.le_refl _, by unfold maxLen; omega, .inr ⟨X.heap.size, 0, rfl, by simp, fun i hi => ⟨by
  obtain rfl : i = 0 := by omega
  exact oct (heap_alloc_new X (.cells #[.int .i64 p.kind, .string p.lo, .string p.hi, .bool p.op, .int .i64 p.cnt, .int .u64 p.s0, .int .u64 p.s1, .slice p.ea p.el p.ec] 47)), hP.keep (bthen BX.out (bnew X _))⟩⟩⟩ (by simp only [totE]; omega))
 obtain ⟨q, hq⟩ : ∃ q, psChk (fun _ => p) 1 = q := ⟨_, rfl⟩
 rw [hq] at CK
 have HXE := aside (show xErr p = if q ≠ 0 then q else if p.kind = 1 then 114 else 0 from by unfold xErr; rw [hq])
 have H := aside h
 have LL := aside L
 have HM := aside hm
 have HL := aside hl
 have HP := aside hP
 unfold XSay
 clear h hm hl hP hz L hq
 obtain ⟨p0, p1, p2, p3, p4, p5, p6, p7⟩ := oct KX.out
 by_cases hq0 : q = 0
 ·subst hq0
  by_cases hk : p.kind = 1
  ·have hkb : (p.kind == 1) = true := by simpa using hk
   rw [show xErr p = 114 from by rw [HXE.out, if_neg (by simp), if_pos hk]]
   have HQ := aside (show (114 : Int) ≠ 0 by decide)
   clear hk HXE
   go_enter Tryz.func15, Tryz.ntmps15
   go_wp2_with fail
   refine CK.out.mono ?_
   rintro e w1 ⟨rfl, b1⟩
   have B1 := aside (bthen BX.out (bthen (bnew X _) b1))
   have K1 := aside (blk_on KX.out (bthen (bnew X _) b1))
   have KZ1 := aside (blk_on KZ.out (bthen (bnew X _) b1))
   clear b1 CK BX KX KZ p0 p1 p2 p3 p4 p5 p6 p7 hX
   obtain ⟨p0, -⟩ := oct K1.out
   have SA := aside (H.out.below B1.out)
   have LA := aside (LL.out.keep B1.out)
   have KA := aside (Keeps.of_below B1.out (Of sb g tb))
   go_upto_region 5 with fail
   clear p0
   obtain ⟨z0, z1⟩ := two_h KZ1.out
   have y0 := frozen_of_row _ _ 0 _ _ KZ1.out
   have y1 := frozen_of_row _ _ 1 _ _ KZ1.out
   have KF := aside (((Keeps.refl (fun x => x = pb + 1) w1).setCell (p := ⟨pb + 1, 0, none⟩) (fun _ => rfl) (.int .i64 0)).setCell (p := ⟨pb + 1, 1, none⟩) (fun _ => rfl) (.int .i64 0))
   have SF := aside (SA.out.set KZ1.out (by decide) (by decide) (by decide) (by decide) KF.out)
   have LF := aside (LA.out.keeps KF.out (fun (e : 0 = pb + 1) => by omega))
   have KW := aside ((KA.out.setCell (p := ⟨pb + 1, 0, none⟩) (fun hh => absurd hh (by have h9 := HNL.out; simp; omega)) (.int .i64 0)).setCell (p := ⟨pb + 1, 1, none⟩) (fun hh => absurd hh (by have h9 := HNL.out; simp; omega)) (.int .i64 0))
   have KR := set_in 1 (.int .i64 0) (set_in 0 (.int .i64 0) KZ1.out)
   simp only [List.setIfInBounds_toArray, List.set_cons_zero, List.set_cons_succ] at KR
   have HKR := aside KR
   clear KR KF
   go_wp2
   obtain ⟨r0, r1⟩ := two_h HKR.out
   exact bodyPost_ret (v := .tuple #[.slice none 0 0, .agg #[.int .i64 0, .int .i64 0], .int .i64 114]) (by simp [results, Tryz.results15, go_sem, r0, r1]) rfl (.inl ⟨HQ.out, rfl, SF.out, KW.out, LF.out⟩)
  ·have hkb : (p.kind == 1) = false := by simpa using hk
   have hx0 : xErr p = 0 := by rw [HXE.out, if_neg (by simp), if_neg hk]
   rw [hx0]
   obtain ⟨-, -, x3, x4, x5⟩ := xErr_ok hx0
   have CE := aside (fun W (bb : Below w.heap.size w W) => exch_any p (H.out.below bb) HM.out HL.out (HP.out.keep bb) x3 x4 x5 (LL.out.keep bb))
   obtain ⟨s, hs⟩ : ∃ s, (tkAll ⟨Ls, ck, 0, 0⟩ (firstE p.T p.el)) = s := ⟨_, rfl⟩
   rw [hs] at CE ⊢
   obtain ⟨Lj, cj, n, f⟩ := s
   dsimp only at CE ⊢
   clear x3 x4 x5 hx0 hk HXE hs
   go_enter Tryz.func15, Tryz.ntmps15
   go_wp2_with fail
   refine CK.out.mono ?_
   rintro e w1 ⟨rfl, b1⟩
   have B1 := aside (bthen BX.out (bthen (bnew X _) b1))
   have K1 := aside (blk_on KX.out (bthen (bnew X _) b1))
   have KZ1 := aside (blk_on KZ.out (bthen (bnew X _) b1))
   clear b1 CK BX KX KZ p0 p1 p2 p3 p4 p5 p6 p7 hX
   obtain ⟨p0, p1, p2, p3, p4, p5, p6, p7⟩ := oct K1.out
   go_wp2_with fail
   refine (CE.out _ B1.out).mono ?_
   rintro e w2 ⟨v, rfl, rp, s2, k2, l2⟩
   have S1 := H.out.below B1.out
   have BN := bnew w2 (.cells #[.int .i64 (n : Int), .int .i64 (f : Int)] 33)
   have KZ2 := aside (blk_on (blk_on (blk_keep KZ1.out k2 (S1.not KZ1.out (by decide) (by decide) (by decide))) BN) (Below.refl _ _).drew)
   have SA := aside ((s2.below BN).below (Below.refl _ _).drew)
   have LA := aside ((l2.keep BN).keep (Below.refl _ _).drew)
   have KA := aside ((((Keeps.of_below B1.out _).trans k2).alloc (.cells #[.int .i64 (n : Int), .int .i64 (f : Int)] 33)).drew)
   have RP2 := aside (((rp.low (show pb + 2 ≤ w1.heap.size + 2 from by have h1 := B1.out.size; omega)).below BN).below (Below.refl _ _).drew)
   have KXB := aside (heap_alloc_new w2 (.cells #[.int .i64 (n : Int), .int .i64 (f : Int)] 33))
   have HNX := aside (show pb + 1 < w2.heap.size from by have h1 := lt_of_blk KZ1.out; have h2 := k2.size; omega)
   clear rp s2 k2 l2 CE BN S1 p0 p1 p2 p3 p4 p5 p6 p7 K1 KZ1 B1 hkb
   obtain ⟨xb, hxb⟩ : ∃ xb, w2.heap.size = xb := ⟨_, rfl⟩
   rw [hxb] at KXB HNX
   obtain ⟨x0, x1⟩ := two_h KXB.out
   go_wp2_with fail
   refine wp_region_held_drew (S := fun W => W.cell? ⟨xb, 0, none⟩ = some (.int .i64 (n : Int)) ∧ W.cell? ⟨xb, 1, none⟩ = some (.int .i64 (f : Int))) (by kernel_rfl) ⟨x0, x1⟩ (fun hHeld => ?_)
   refine tk 0 rfl _ ?_
   refine tk 1 rfl _ ?_
   refine tk 2 rfl _ ?_
   clear x0 x1
   generalize World.drew _ = Y at *
   obtain ⟨z0, z1⟩ := two_h KZ2.out
   have y0 := frozen_of_row _ _ 0 _ _ KZ2.out
   have y1 := frozen_of_row _ _ 1 _ _ KZ2.out
   have KF := aside (((Keeps.refl (fun x => x = pb + 1) Y).setCell (p := ⟨pb + 1, 0, none⟩) (fun _ => rfl) (.int .i64 (n : Int))).setCell (p := ⟨pb + 1, 1, none⟩) (fun _ => rfl) (.int .i64 (f : Int)))
   have SF := aside (SA.out.set KZ2.out (by decide) (by decide) (by decide) (by decide) KF.out)
   have LF := aside (LA.out.keeps KF.out (fun (e : 0 = pb + 1) => by omega))
   have KW := aside ((KA.out.setCell (p := ⟨pb + 1, 0, none⟩) (fun hh => absurd hh (by have h9 := HNL.out; simp; omega)) (.int .i64 (n : Int))).setCell (p := ⟨pb + 1, 1, none⟩) (fun hh => absurd hh (by have h9 := HNL.out; simp; omega)) (.int .i64 (f : Int)))
   have KR := set_in 1 (.int .i64 (f : Int)) (set_in 0 (.int .i64 (n : Int)) KZ2.out)
   simp only [List.setIfInBounds_toArray, List.set_cons_zero, List.set_cons_succ] at KR
   have HKR := aside KR
   clear KR KF
   have RF := aside ((RP2.out.set (b := pb + 1) (by have h9 := HNL.out; omega) 0 (.int .i64 (n : Int))).set (b := pb + 1) (by have h9 := HNL.out; omega) 1 (.int .i64 (f : Int)))
   refine wpAnyH_ready (rs := [3]) (by kernel_rfl) (by simp) ?_
   refine AllReadyH.cons rfl (fun K hK => ?_) AllReadyH.nil
   go_simp
   refine hK.out _ _ (⟨cell_apart (cell_apart hHeld.1 (by have := HNX.out; simp; omega)) (by have := HNX.out; simp; omega), cell_apart (cell_apart hHeld.2 (by have := HNX.out; simp; omega)) (by have := HNX.out; simp; omega)⟩) (fun hHeld => ?_)
   clear hK K z0 z1 y0 y1
   refine tk 4 rfl _ ?_
   refine wpAnyH_done (by kernel_rfl) ?_ _
   go_wp2
   obtain ⟨r0, r1⟩ := two_h HKR.out
   exact bodyPost_ret (v := .tuple #[v, .agg #[.int .i64 (n : Int), .int .i64 (f : Int)], .int .i64 0]) (by simp [results, Tryz.results15, go_sem, r0, r1]) rfl (.inr ⟨by first | rfl | trivial, v, rfl, by first | exact RF.out | (rw [hpb]; exact RF.out), SF.out, KW.out, LF.out⟩)
 ·have hqb : (q == 0) = false := by simpa using hq0
  rw [show xErr p = q from by rw [HXE.out, if_pos hq0]]
  have HQ := aside hq0
  clear HXE
  go_enter Tryz.func15, Tryz.ntmps15
  go_wp2_with fail
  refine CK.out.mono ?_
  rintro e w1 ⟨rfl, b1⟩
  have B1 := aside (bthen BX.out (bthen (bnew X _) b1))
  have K1 := aside (blk_on KX.out (bthen (bnew X _) b1))
  have KZ1 := aside (blk_on KZ.out (bthen (bnew X _) b1))
  clear b1 CK BX KX KZ p0 p1 p2 p3 p4 p5 p6 p7 hX
  obtain ⟨p0, -⟩ := oct K1.out
  have SA := aside (H.out.below B1.out)
  have LA := aside (LL.out.keep B1.out)
  have KA := aside (Keeps.of_below B1.out (Of sb g tb))
  go_upto_region 3 with fail
  clear p0
  obtain ⟨z0, z1⟩ := two_h KZ1.out
  have y0 := frozen_of_row _ _ 0 _ _ KZ1.out
  have y1 := frozen_of_row _ _ 1 _ _ KZ1.out
  have KF := aside (((Keeps.refl (fun x => x = pb + 1) w1).setCell (p := ⟨pb + 1, 0, none⟩) (fun _ => rfl) (.int .i64 0)).setCell (p := ⟨pb + 1, 1, none⟩) (fun _ => rfl) (.int .i64 0))
  have SF := aside (SA.out.set KZ1.out (by decide) (by decide) (by decide) (by decide) KF.out)
  have LF := aside (LA.out.keeps KF.out (fun (e : 0 = pb + 1) => by omega))
  have KW := aside ((KA.out.setCell (p := ⟨pb + 1, 0, none⟩) (fun hh => absurd hh (by have h9 := HNL.out; simp; omega)) (.int .i64 0)).setCell (p := ⟨pb + 1, 1, none⟩) (fun hh => absurd hh (by have h9 := HNL.out; simp; omega)) (.int .i64 0))
  have KR := set_in 1 (.int .i64 0) (set_in 0 (.int .i64 0) KZ1.out)
  simp only [List.setIfInBounds_toArray, List.set_cons_zero, List.set_cons_succ] at KR
  have HKR := aside KR
  clear KR KF
  go_wp2
  obtain ⟨r0, r1⟩ := two_h HKR.out
  exact bodyPost_ret (v := .tuple #[.slice none 0 0, .agg #[.int .i64 0, .int .i64 0], .int .i64 q]) (by simp [results, Tryz.results15, go_sem, r0, r1]) rfl (.inl ⟨HQ.out, rfl, SF.out, KW.out, LF.out⟩)
end Go.Proofs.YtpbkjffiohfkcaaGreatDoor
namespace Go.Proofs.YtpbkjffiohfkcaaGreatDoor
open Go.RowKit
set_option linter.unusedVariables false
def plc (k : ByteArray) : List En → Nat
 | [] => 0
 | y :: l => if kLt y.k k = true then plc k l + 1 else 0
def isP (k : ByteArray) : List En → Bool
 | [] => false
 | y :: l => if kLt y.k k = true then isP k l else y.k.toList == k.toList
theorem plc_le (k : ByteArray) : ∀ l : List En, plc k l ≤ l.length
 | [] => Nat.le_refl _
 | y :: l => by
  have := plc_le k l
  unfold plc
  split <;> simp <;> omega
theorem isP_lt {k : ByteArray} : ∀ {l : List En}, isP k l = true → plc k l < l.length
 | [], h => by simp [isP] at h
 | y :: l, h => by
  unfold isP at h
  unfold plc
  by_cases g : kLt y.k k = true
  ·rw [if_pos g] at h ⊢
   have := isP_lt h
   simp; omega
  ·rw [if_neg g]; simp
theorem nthE_succ (y : En) (l : List En) (i : Nat) : nthE (y :: l) (i + 1) = nthE l i := by simp [nthE]
theorem plc_of {k : ByteArray} : ∀ {l : List En} {j : Nat}, j ≤ l.length → (∀ i, i < j → kLt (nthE l i).k k = true) → (j = l.length ∨ kLt (nthE l j).k k = false) → plc k l = j ∧ isP k l = (decide (j < l.length) && ((nthE l j).k.toList == k.toList))
 | [], j, hj, _, _ => by
  obtain rfl : j = 0 := by simpa using hj
  simp [plc, isP]
 | y :: l, 0, _, _, hs => by
  have h0 : kLt y.k k = false := by
   rcases hs with h | h
   ·simp at h
   ·simpa [nthE] using h
  unfold plc isP
  rw [if_neg (by simp [h0]), if_neg (by simp [h0])]
  simp [nthE]
 | y :: l, j + 1, hj, hb, hs => by
  have h0 : kLt y.k k = true := by simpa [nthE] using hb 0 (by omega)
  obtain ⟨h1, h2⟩ := plc_of (k := k) (l := l) (j := j) (by simpa using hj) (fun i hi => by rw [← nthE_succ y l i]; exact hb (i + 1) (by omega)) (by
   rcases hs with h | h
   ·exact .inl (by simpa using h)
   ·exact .inr (by rw [← nthE_succ y l j]; exact h))
  unfold plc isP
  rw [if_pos h0, if_pos h0, h1, h2, nthE_succ]
  simp
theorem insE_plc (e : En) : ∀ l : List En, insE e l = l.take (plc e.k l) ++ [e] ++ l.drop (if isP e.k l = true then plc e.k l + 1 else plc e.k l)
 | [] => by simp [insE, plc, isP]
 | y :: l => by
  unfold insE plc isP
  by_cases g : kLt y.k e.k = true
  ·rw [if_neg (by rw [kLt_asymm g]; simp), if_pos g, if_pos g, if_pos g, insE_plc e l]
   by_cases h : isP e.k l = true
   ·rw [if_pos h, if_pos h]; simp
   ·rw [if_neg h, if_neg h]; simp
  ·rw [if_neg g, if_neg g, if_neg g]
   by_cases h : kLt e.k y.k = true
   ·rw [if_pos h, if_neg (by
      intro c
      have : y.k = e.k := toList_inj (by simpa using c)
      rw [this, kLt_irrefl] at h; cases h)]
    simp
   ·rw [if_neg h, if_pos (by
      have : y.k = e.k := kLt_total (by simpa using g) (by simpa using h)
      rw [this]; simp)]
    simp
theorem look_plc {k : ByteArray} : ∀ {l : List En}, RisesE l → lookE k l = if isP k l = true then some (nthE l (plc k l)) else none
 | [], _ => by simp [lookE, isP]
 | y :: l, hr => by
  have h1 := rises_consE.1 hr
  unfold lookE isP plc
  by_cases g : kLt y.k k = true
  ·rw [if_pos g, if_pos g]
   rw [List.find?_cons_of_neg (by simp [g])]
   have := look_plc (k := k) h1.2
   unfold lookE at this
   rw [this, nthE_succ]
  ·rw [if_neg g, if_neg g]
   by_cases h : kLt k y.k = true
   ·rw [List.find?_cons_of_neg (by simp [h]), if_neg (by
      intro c
      have : y.k = k := toList_inj (by simpa using c)
      rw [this, kLt_irrefl] at h; cases h)]
    rw [List.find?_eq_none]
    intro z hz
    have : kLt k z.k = true := kLt_trans h (h1.1 z hz)
    simp [this]
   ·rw [List.find?_cons_of_pos (by simp [g, h]), if_pos (by
      have : y.k = k := kLt_total (by simpa using g) (by simpa using h)
      rw [this]; simp)]
    simp [nthE]
theorem room_plc {k : ByteArray} {l : List En} (h : RisesE l) : roomB k l = (isP k l || decide (l.length < 256)) := by
 unfold roomB
 rw [look_plc h]
 cases isP k l <;> simp
theorem take_map {e : En} {l : List En} (h : MapL l) (he : e.chk = 0) : MapL (insE e l) := ⟨rises_of_map (by rw [← ins_map]; exact rises_ins _ (rises_map h.rises)), fun x hx => by
 rw [insE_plc] at hx
 simp only [List.append_assoc, List.singleton_append, List.mem_append, List.mem_cons] at hx
 rcases hx with hx | rfl | hx
 ·exact h.chk x (List.mem_of_mem_take hx)
 ·exact he
 ·exact h.chk x (List.mem_of_mem_drop hx)⟩
theorem take_len {e : En} {l : List En} (h : RisesE l) (hl : l.length ≤ 256) (hr : roomB e.k l = true) : (insE e l).length ≤ 256 := by
 rw [room_plc h] at hr
 rw [insE_plc]
 have h1 := plc_le e.k l
 cases hi : isP e.k l
 ·rw [hi] at hr
  simp at hr ⊢
  omega
 ·have h2 := isP_lt hi
  simp
  omega
end Go.Proofs.YtpbkjffiohfkcaaGreatDoor
namespace Go.Proofs.YtpbkjffiohfkcaaGreatDoor
open Go.RowKit
set_option linter.unusedVariables false
set_option maxHeartbeats 6400000 in
set_option maxRecDepth 100000 in
theorem place_any (k : ByteArray) {w : World} {B db : Nat} {nd ck : Int} {l : List En} (h : DSt w B db nd ck l) (hm : MapL l) :
    Calls Tryz.prog 72 #[.pointer (some ⟨db, 0, none⟩), .string k] w fun e w' => e = .returned (.tuple #[.int .i64 (plc k l : Int), .bool (isP k l)]) ∧ Below w.heap.size w w' := by
 obtain ⟨a, c, hd, hA, hmx0⟩ := h.ents hm
 have HD := aside hd
 have HA := aside hA
 have hmx : (l.length : Int) ≤ 9223372036854775807 := by omega
 clear h hm hd hA hmx0
 go_enter Tryz.func72, Tryz.ntmps72
 go_wp2
 go_loopw [6] (fun i wr => ∃ j : Nat, i = .int .i64 (j : Int) ∧ j ≤ l.length ∧ Hid (∀ i, i < j → kLt (nthE l i).k k = true) ∧ Below w.heap.size w wr) (fun i _ => l.length - (intOf i).toNat)
 case atStart => exact ⟨0, rfl, Nat.zero_le _, fun i hi => by omega, Below.refl _ _⟩
 case round =>
  obtain ⟨j, rfl, hj, HP, hB⟩ := hrel
  have HB := aside hB
  clear hB
  obtain ⟨d0, d1, d2⟩ := box3r (blk_on HD.out HB.out)
  by_cases hlt : (j : Int) < (l.length : Int)
  ·have hj0 : (0 : Int) ≤ (j : Int) := by omega
   have eA := HA.out.keep HB.out
   rcases eA.2.2 with h0 | ⟨b, off, rfl, -, -⟩
   ·omega
   obtain ⟨x, hx⟩ : ∃ x, nthE l j = x := ⟨_, rfl⟩
   obtain ⟨c0, -⟩ := ents_five eA (by omega) hx
   have HXX := aside hx
   clear eA hx
   cases hk : kLt x.k k
   ·have hkb : Op.bytesLess x.k.toList k.toList = false := hk
    have HPO := aside (plc_of (k := k) hj HP.out (.inr (by rw [HXX.out]; exact hk)))
    have hdl : decide (j < l.length) = true := by simp; omega
    rw [HXX.out, hdl, Bool.true_and] at HPO
    go_wp2_with fail
    have dx := d2
    have cx := c0
    clear d0 d1 hkb hk
    refine wp_region_held_drew (S := fun W => Below w.heap.size w W ∧ W.cell? ⟨db, 2, none⟩ = some (.slice (some ⟨b, off, none⟩) l.length c) ∧ W.cell? ⟨b, off + j * 5, none⟩ = some (.string x.k)) (by kernel_rfl) ⟨HB.out.drew, dx, cx⟩ (fun hHeld => ?_)
    refine tk 0 rfl _ ?_
    refine tk 1 rfl _ ?_
    refine tk 2 rfl _ ?_
    refine tk 3 rfl _ ?_
    refine tk 4 rfl _ ?_
    refine tk 5 rfl _ ?_
    refine tk 6 rfl _ ?_
    refine tk 7 rfl _ ?_
    refine tk 8 rfl _ ?_
    refine tk 9 rfl _ ?_
    refine tk 10 rfl _ ?_
    refine tk 11 rfl _ ?_
    refine tk 12 rfl _ ?_
    refine tk 13 rfl _ ?_
    refine tk 14 rfl _ ?_
    refine tk 15 rfl _ ?_
    refine tk 16 rfl _ ?_
    refine tk 17 rfl _ ?_
    refine tk 18 rfl _ ?_
    refine tk 19 rfl _ ?_
    refine tk 20 rfl _ ?_
    refine tk 21 rfl _ ?_
    refine wpAnyH_done (by kernel_rfl) ?_ _
    have B3 := aside hHeld.1
    clear hHeld dx cx d2 c0
    go_wp2
    go_ret2
    exact ⟨by rw [HPO.out.1, HPO.out.2]; rfl, B3.out⟩
   ·have hkb : Op.bytesLess x.k.toList k.toList = true := hk
    have HK := aside hk
    go_wp2
    go_roundw
    case rel => exact ⟨j + 1, by go_num, by omega, fun i hi => by rcases Nat.lt_succ_iff_lt_or_eq.1 hi with g | g; exact HP.out i g; (subst g; rw [HXX.out]; exact HK.out), HB.out⟩
    case measure => simp [intOf]; omega
  ·have hjl : j = l.length := by omega
   have HPO := aside (plc_of (k := k) hj HP.out (.inl hjl))
   have hdl : decide (j < l.length) = false := by simp; omega
   rw [hdl, Bool.false_and] at HPO
   go_wp2_with fail
   have dx := d2
   clear d0 d1
   refine wp_region_held_drew (S := fun W => Below w.heap.size w W ∧ W.cell? ⟨db, 2, none⟩ = some (.slice a l.length c)) (by kernel_rfl) ⟨HB.out.drew, dx⟩ (fun hHeld => ?_)
   refine tk 0 rfl _ ?_
   refine tk 1 rfl _ ?_
   refine tk 2 rfl _ ?_
   refine tk 3 rfl _ ?_
   refine tk 4 rfl _ ?_
   refine tk 5 rfl _ ?_
   refine tk 6 rfl _ ?_
   refine tk 7 rfl _ ?_
   refine tk 8 rfl _ ?_
   refine tn 9 rfl ?_
   refine tn 10 rfl ?_
   refine tn 11 rfl ?_
   refine tn 12 rfl ?_
   refine tn 13 rfl ?_
   refine tn 14 rfl ?_
   refine tn 15 rfl ?_
   refine tn 16 rfl ?_
   refine tn 17 rfl ?_
   refine tn 18 rfl ?_
   refine tk 19 rfl _ ?_
   refine tk 20 rfl _ ?_
   refine tk 21 rfl _ ?_
   refine wpAnyH_done (by kernel_rfl) ?_ _
   have B3 := aside hHeld.1
   clear hHeld dx d2
   go_wp2
   go_ret2
   exact ⟨by rw [HPO.out.1, HPO.out.2, hjl]; rfl, B3.out⟩
set_option maxHeartbeats 3200000 in
set_option maxRecDepth 100000 in
theorem room_any (k : ByteArray) {w : World} {B db : Nat} {nd ck : Int} {l : List En} (h : DSt w B db nd ck l) (hm : MapL l) :
    Calls Tryz.prog 71 #[.pointer (some ⟨db, 0, none⟩), .string k] w fun e w' => e = .returned (.bool (roomB k l)) ∧ Below w.heap.size w w' := by
 have CP := aside (place_any k h hm)
 obtain ⟨a, c, hd, -, -⟩ := h.ents hm
 have HD := aside hd
 rw [room_plc hm.rises]
 clear h hm hd
 cases hi : isP k l
 ·rw [hi] at CP
  go_enter Tryz.func71, Tryz.ntmps71
  go_wp2_with fail
  refine CP.out.mono ?_
  rintro e w1 ⟨rfl, b1⟩
  obtain ⟨d0, d1, d2⟩ := box3r (blk_on HD.out b1)
  have B1 := aside b1
  clear b1 CP
  go_wp2
  go_ret
  exact ⟨ret_bool (by simp; omega), B1.out⟩
 ·rw [hi] at CP
  go_enter Tryz.func71, Tryz.ntmps71
  go_wp2_with fail
  refine CP.out.mono ?_
  rintro e w1 ⟨rfl, b1⟩
  have B1 := aside b1
  clear b1 CP
  go_wp2
  go_ret
  exact ⟨rfl, B1.out⟩
end Go.Proofs.YtpbkjffiohfkcaaGreatDoor
