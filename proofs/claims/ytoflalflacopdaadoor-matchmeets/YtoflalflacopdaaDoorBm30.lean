/-
  Exchange.
  What the laws on merge ask of their own: lists compared, lists in which no two entries of one version are unlike, the bound of sizes.
-/
import Derived.Test.YtoflalflacopdaaDoorBm29
import Derived.Test.YtoflalflacopdaaDoorBm23
import Derived.Test.YtoflalflacopdaaDoorBm28
import Derived.Deep.Cut
import Derived.Test.YtoflalflacopdaaDoorBm18
import Derived.Test.YtoflalflacopdaaDoorBm21
namespace Go.Proofs.YtoflalflacopdaaDoor
open Go.RowKit
set_option linter.unusedVariables false
/-- What Exchange says. -/
def XSay (w : World) (sb g tb : Nat) (nd ck : Int) (Ls : List En) (p : Pm) (r : Ending) (w' : World) : Prop :=
  (xErr p ≠ 0 ∧ r = .returned (.tuple #[.slice none 0 0, .agg #[.int .i64 0, .int .i64 0], .int .i64 (xErr p)]) ∧ Sto w' sb g tb nd ck Ls ∧ Keeps (Of sb g tb) w w' ∧ Lanes w') ∨
  (xErr p = 0 ∧ ∃ v, r = .returned (.tuple #[v, .agg #[.int .i64 ((tkAll ⟨Ls, ck, 0, 0⟩ (firstE p.T p.el)).n : Int), .int .i64 ((tkAll ⟨Ls, ck, 0, 0⟩ (firstE p.T p.el)).f : Int)], .int .i64 0]) ∧ RpAt (w.heap.size + 2) p (rpL p Ls) v w' ∧ Sto w' sb g tb nd (tkAll ⟨Ls, ck, 0, 0⟩ (firstE p.T p.el)).c (tkAll ⟨Ls, ck, 0, 0⟩ (firstE p.T p.el)).l ∧ Keeps (Of sb g tb) w w' ∧ Lanes w')
set_option maxHeartbeats 6400000 in
set_option maxRecDepth 100000 in
theorem xchg_any (p : Pm) {w : World} {sb g tb : Nat} {nd ck : Int} {Ls : List En} (h : Sto w sb g tb nd ck Ls) (hm : MapL Ls) (hl : Ls.length ≤ 256) (hP : p.In w) (hz : p.el ≤ 4611686018427387904) (L : Lanes w) :
    Calls Tryd.prog 20 #[.pointer (some ⟨sb, 0, none⟩), .agg #[.int .i64 p.kind, .string p.lo, .string p.hi, .bool p.op, .int .i64 p.cnt, .int .u64 p.s0, .int .u64 p.s1, .slice p.ea p.el p.ec]] w fun r w' => XSay w sb g tb nd ck Ls p r w' := by
  have BX := aside (bthen (bnew w (.cells #[.int .i64 p.kind, .string p.lo, .string p.hi, .bool p.op, .int .i64 p.cnt, .int .u64 p.s0, .int .u64 p.s1, .slice p.ea p.el p.ec] 59)) (bnew _ (.cells #[.int .i64 0, .int .i64 0] 69)))
  have KX := aside (blk_on (heap_alloc_new w (.cells #[.int .i64 p.kind, .string p.lo, .string p.hi, .bool p.op, .int .i64 p.cnt, .int .u64 p.s0, .int .u64 p.s1, .slice p.ea p.el p.ec] 59)) (bnew _ (.cells #[.int .i64 0, .int .i64 0] 69)))
  have KZ := aside (heap_alloc_new (w.alloc (.cells #[.int .i64 p.kind, .string p.lo, .string p.hi, .bool p.op, .int .i64 p.cnt, .int .u64 p.s0, .int .u64 p.s1, .slice p.ea p.el p.ec] 59)) (.cells #[.int .i64 0, .int .i64 0] 69))
  rw [World.size_alloc] at KZ
  obtain ⟨pb, hpb⟩ : ∃ pb, w.heap.size = pb := ⟨_, rfl⟩
  rw [hpb] at KX KZ
  have HNL := aside (show w.heap.size ≤ pb ∧ pb + 1 < pb + 2 from by omega)
  obtain ⟨X, hX⟩ : ∃ X, (w.alloc (.cells #[.int .i64 p.kind, .string p.lo, .string p.hi, .bool p.op, .int .i64 p.cnt, .int .u64 p.s0, .int .u64 p.s1, .slice p.ea p.el p.ec] 59)).alloc (.cells #[.int .i64 0, .int .i64 0] 69) = X := ⟨_, rfl⟩
  rw [hX] at BX KX KZ
  have ZX := aside (show X.heap.size = pb + 2 from by rw [← hX, World.size_alloc, World.size_alloc, hpb])
  have CK := aside (parts_any (some ⟨X.heap.size, 0, none⟩) 1 1 (fun _ => p) (X.alloc (.cells #[.int .i64 p.kind, .string p.lo, .string p.hi, .bool p.op, .int .i64 p.cnt, .int .u64 p.s0, .int .u64 p.s1, .slice p.ea p.el p.ec] 59)) ⟨Nat.le_refl _, by unfold maxLen; omega, .inr ⟨X.heap.size, 0, rfl, by simp, fun i hi => ⟨by
    obtain rfl : i = 0 := by omega
    exact oct (heap_alloc_new X (.cells #[.int .i64 p.kind, .string p.lo, .string p.hi, .bool p.op, .int .i64 p.cnt, .int .u64 p.s0, .int .u64 p.s1, .slice p.ea p.el p.ec] 59)), hP.keep (bthen BX.out (bnew X _))⟩⟩⟩ (by simp only [totE]; omega))
  obtain ⟨q, hq⟩ : ∃ q, psChk (fun _ => p) 1 = q := ⟨_, rfl⟩
  rw [hq] at CK
  have HXE := aside (show xErr p = if q ≠ 0 then q else if p.kind = 1 then 114 else 0 from by unfold xErr; rw [hq])
  have H := aside h
  have LL := aside L
  have HM := aside hm
  have HL := aside hl
  have HP := aside hP
  unfold XSay
  clear h hm hl hP hz L hq
  obtain ⟨p0, p1, p2, p3, p4, p5, p6, p7⟩ := oct KX.out
  by_cases hq0 : q = 0
  · subst hq0
    by_cases hk : p.kind = 1
    · have hkb : (p.kind == 1) = true := by simpa using hk
      rw [show xErr p = 114 from by rw [HXE.out, if_neg (by simp), if_pos hk]]
      have HQ := aside (show (114 : Int) ≠ 0 by decide)
      clear hk HXE
      go_enter Tryd.func20, Tryd.ntmps20
      go_wp2_with fail
      refine CK.out.mono ?_
      rintro e w1 ⟨rfl, b1⟩
      have B1 := aside (bthen BX.out (bthen (bnew X _) b1))
      have K1 := aside (blk_on KX.out (bthen (bnew X _) b1))
      have KZ1 := aside (blk_on KZ.out (bthen (bnew X _) b1))
      clear b1 CK BX KX KZ p0 p1 p2 p3 p4 p5 p6 p7 hX
      obtain ⟨p0, -⟩ := oct K1.out
      have SA := aside (H.out.below B1.out)
      have LA := aside (LL.out.keep B1.out)
      have KA := aside (Keeps.of_below B1.out (Of sb g tb))
      go_upto_region 5 with fail
      clear p0
      obtain ⟨z0, z1⟩ := two_h KZ1.out
      have y0 := frozen_of_row _ _ 0 _ _ KZ1.out
      have y1 := frozen_of_row _ _ 1 _ _ KZ1.out
      have KF := aside (((Keeps.refl (fun x => x = pb + 1) w1).setCell (p := ⟨pb + 1, 0, none⟩) (fun _ => rfl) (.int .i64 0)).setCell (p := ⟨pb + 1, 1, none⟩) (fun _ => rfl) (.int .i64 0))
      have SF := aside (SA.out.set KZ1.out (by decide) (by decide) (by decide) (by decide) KF.out)
      have LF := aside (LA.out.keeps KF.out (fun (e : 0 = pb + 1) => by omega))
      have KW := aside ((KA.out.setCell (p := ⟨pb + 1, 0, none⟩) (fun hh => absurd hh (by have h9 := HNL.out; simp; omega)) (.int .i64 0)).setCell (p := ⟨pb + 1, 1, none⟩) (fun hh => absurd hh (by have h9 := HNL.out; simp; omega)) (.int .i64 0))
      have KR := set_in 1 (.int .i64 0) (set_in 0 (.int .i64 0) KZ1.out)
      simp only [List.setIfInBounds_toArray, List.set_cons_zero, List.set_cons_succ] at KR
      have HKR := aside KR
      clear KR KF
      go_wp2
      obtain ⟨r0, r1⟩ := two_h HKR.out
      exact bodyPost_ret (v := .tuple #[.slice none 0 0, .agg #[.int .i64 0, .int .i64 0], .int .i64 114]) (by simp [results, Tryd.results20, go_sem, r0, r1]) rfl (.inl ⟨HQ.out, rfl, SF.out, KW.out, LF.out⟩)
    · have hkb : (p.kind == 1) = false := by simpa using hk
      have hx0 : xErr p = 0 := by rw [HXE.out, if_neg (by simp), if_neg hk]
      rw [hx0]
      obtain ⟨-, -, x3, x4, x5⟩ := xErr_ok hx0
      have CE := aside (fun W (bb : Below w.heap.size w W) => exch_any p (H.out.below bb) HM.out HL.out (HP.out.keep bb) x3 x4 x5 (LL.out.keep bb))
      obtain ⟨s, hs⟩ : ∃ s, (tkAll ⟨Ls, ck, 0, 0⟩ (firstE p.T p.el)) = s := ⟨_, rfl⟩
      rw [hs] at CE ⊢
      obtain ⟨Lj, cj, n, f⟩ := s
      dsimp only at CE ⊢
      clear x3 x4 x5 hx0 hk HXE hs
      go_enter Tryd.func20, Tryd.ntmps20
      go_wp2_with fail
      refine CK.out.mono ?_
      rintro e w1 ⟨rfl, b1⟩
      have B1 := aside (bthen BX.out (bthen (bnew X _) b1))
      have K1 := aside (blk_on KX.out (bthen (bnew X _) b1))
      have KZ1 := aside (blk_on KZ.out (bthen (bnew X _) b1))
      clear b1 CK BX KX KZ p0 p1 p2 p3 p4 p5 p6 p7 hX
      obtain ⟨p0, p1, p2, p3, p4, p5, p6, p7⟩ := oct K1.out
      go_wp2_with fail
      refine (CE.out _ B1.out).mono ?_
      rintro e w2 ⟨v, rfl, rp, s2, k2, l2⟩
      have S1 := H.out.below B1.out
      have BN := bnew w2 (.cells #[.int .i64 (n : Int), .int .i64 (f : Int)] 69)
      have KZ2 := aside (blk_on (blk_on (blk_keep KZ1.out k2 (S1.not KZ1.out (by decide) (by decide) (by decide))) BN) (Below.refl _ _).drew)
      have SA := aside ((s2.below BN).below (Below.refl _ _).drew)
      have LA := aside ((l2.keep BN).keep (Below.refl _ _).drew)
      have KA := aside ((((Keeps.of_below B1.out _).trans k2).alloc (.cells #[.int .i64 (n : Int), .int .i64 (f : Int)] 69)).drew)
      have RP2 := aside (((rp.low (show pb + 2 ≤ w1.heap.size + 2 from by have h1 := B1.out.size; omega)).below BN).below (Below.refl _ _).drew)
      have KXB := aside (heap_alloc_new w2 (.cells #[.int .i64 (n : Int), .int .i64 (f : Int)] 69))
      have HNX := aside (show pb + 1 < w2.heap.size from by have h1 := lt_of_blk KZ1.out; have h2 := k2.size; omega)
      clear rp s2 k2 l2 CE BN S1 p0 p1 p2 p3 p4 p5 p6 p7 K1 KZ1 B1 hkb
      obtain ⟨xb, hxb⟩ : ∃ xb, w2.heap.size = xb := ⟨_, rfl⟩
      rw [hxb] at KXB HNX
      obtain ⟨x0, x1⟩ := two_h KXB.out
      go_wp2_with fail
      refine wp_region_held_drew (S := fun W => W.cell? ⟨xb, 0, none⟩ = some (.int .i64 (n : Int)) ∧ W.cell? ⟨xb, 1, none⟩ = some (.int .i64 (f : Int))) (by kernel_rfl) ⟨x0, x1⟩ (fun hHeld => ?_)
      refine wpAnyH_take (i := 0) (v := ?_) rfl (by kernel_rfl) (by kernel_rfl) (by kernel_rfl) (fun _ _ _ h => h) (Or.inl ⟨by rfl, ?_⟩) (by assumption) ?_
      rotate_left
      · intro w hSw
        go_simp
        try with_reducible rfl
      simp only [Act.put, List.getElem_toArray, List.getElem_cons_zero, List.setIfInBounds_toArray, List.set_cons_zero, List.set_cons_succ]
      refine wpAnyH_take (i := 1) (v := ?_) rfl (by kernel_rfl) (by kernel_rfl) (by kernel_rfl) (fun _ _ _ h => h) (Or.inl ⟨by rfl, ?_⟩) (by assumption) ?_
      rotate_left
      · intro w hSw
        go_simp
        try with_reducible rfl
      simp only [Act.put, List.getElem_toArray, List.getElem_cons_zero, List.getElem_cons_succ, List.setIfInBounds_toArray, List.set_cons_zero, List.set_cons_succ]
      refine wpAnyH_take (i := 2) (v := ?_) rfl (by kernel_rfl) (by kernel_rfl) (by kernel_rfl) (fun _ _ _ h => h) (Or.inl ⟨by rfl, ?_⟩) (by assumption) ?_
      rotate_left
      · intro w hSw
        go_simp
        try with_reducible rfl
      simp only [Act.put, List.getElem_toArray, List.getElem_cons_zero, List.getElem_cons_succ, List.setIfInBounds_toArray, List.set_cons_zero, List.set_cons_succ]
      clear x0 x1
      generalize World.drew _ = Y at *
      obtain ⟨z0, z1⟩ := two_h KZ2.out
      have y0 := frozen_of_row _ _ 0 _ _ KZ2.out
      have y1 := frozen_of_row _ _ 1 _ _ KZ2.out
      have KF := aside (((Keeps.refl (fun x => x = pb + 1) Y).setCell (p := ⟨pb + 1, 0, none⟩) (fun _ => rfl) (.int .i64 (n : Int))).setCell (p := ⟨pb + 1, 1, none⟩) (fun _ => rfl) (.int .i64 (f : Int)))
      have SF := aside (SA.out.set KZ2.out (by decide) (by decide) (by decide) (by decide) KF.out)
      have LF := aside (LA.out.keeps KF.out (fun (e : 0 = pb + 1) => by omega))
      have KW := aside ((KA.out.setCell (p := ⟨pb + 1, 0, none⟩) (fun hh => absurd hh (by have h9 := HNL.out; simp; omega)) (.int .i64 (n : Int))).setCell (p := ⟨pb + 1, 1, none⟩) (fun hh => absurd hh (by have h9 := HNL.out; simp; omega)) (.int .i64 (f : Int)))
      have KR := set_in 1 (.int .i64 (f : Int)) (set_in 0 (.int .i64 (n : Int)) KZ2.out)
      simp only [List.setIfInBounds_toArray, List.set_cons_zero, List.set_cons_succ] at KR
      have HKR := aside KR
      clear KR KF
      have RF := aside ((RP2.out.set (b := pb + 1) (by have h9 := HNL.out; omega) 0 (.int .i64 (n : Int))).set (b := pb + 1) (by have h9 := HNL.out; omega) 1 (.int .i64 (f : Int)))
      refine wpAnyH_ready (rs := [3]) (by kernel_rfl) (by simp) ?_
      refine AllReadyH.cons rfl (fun K hK => ?_) AllReadyH.nil
      go_simp
      refine hK.out _ _ (⟨cell_apart (cell_apart hHeld.1 (by have := HNX.out; simp; omega)) (by have := HNX.out; simp; omega), cell_apart (cell_apart hHeld.2 (by have := HNX.out; simp; omega)) (by have := HNX.out; simp; omega)⟩) (fun hHeld => ?_)
      clear hK K z0 z1 y0 y1
      refine wpAnyH_take (i := 4) (v := ?_) rfl (by kernel_rfl) (by kernel_rfl) (by kernel_rfl) (fun _ _ _ h => h) (Or.inl ⟨by rfl, ?_⟩) (by assumption) ?_
      rotate_left
      · intro w hSw
        go_simp
        try with_reducible rfl
      simp only [Act.put, List.getElem_toArray, List.getElem_cons_zero, List.getElem_cons_succ, List.setIfInBounds_toArray, List.set_cons_zero, List.set_cons_succ]
      refine wpAnyH_done (by kernel_rfl) ?_ _
      go_wp2
      obtain ⟨r0, r1⟩ := two_h HKR.out
      exact bodyPost_ret (v := .tuple #[v, .agg #[.int .i64 (n : Int), .int .i64 (f : Int)], .int .i64 0]) (by simp [results, Tryd.results20, go_sem, r0, r1]) rfl (.inr ⟨by first | rfl | trivial, v, rfl, by first | exact RF.out | (rw [hpb]; exact RF.out), SF.out, KW.out, LF.out⟩)
  · have hqb : (q == 0) = false := by simpa using hq0
    rw [show xErr p = q from by rw [HXE.out, if_pos hq0]]
    have HQ := aside hq0
    clear HXE
    go_enter Tryd.func20, Tryd.ntmps20
    go_wp2_with fail
    refine CK.out.mono ?_
    rintro e w1 ⟨rfl, b1⟩
    have B1 := aside (bthen BX.out (bthen (bnew X _) b1))
    have K1 := aside (blk_on KX.out (bthen (bnew X _) b1))
    have KZ1 := aside (blk_on KZ.out (bthen (bnew X _) b1))
    clear b1 CK BX KX KZ p0 p1 p2 p3 p4 p5 p6 p7 hX
    obtain ⟨p0, -⟩ := oct K1.out
    have SA := aside (H.out.below B1.out)
    have LA := aside (LL.out.keep B1.out)
    have KA := aside (Keeps.of_below B1.out (Of sb g tb))
    go_upto_region 3 with fail
    clear p0
    obtain ⟨z0, z1⟩ := two_h KZ1.out
    have y0 := frozen_of_row _ _ 0 _ _ KZ1.out
    have y1 := frozen_of_row _ _ 1 _ _ KZ1.out
    have KF := aside (((Keeps.refl (fun x => x = pb + 1) w1).setCell (p := ⟨pb + 1, 0, none⟩) (fun _ => rfl) (.int .i64 0)).setCell (p := ⟨pb + 1, 1, none⟩) (fun _ => rfl) (.int .i64 0))
    have SF := aside (SA.out.set KZ1.out (by decide) (by decide) (by decide) (by decide) KF.out)
    have LF := aside (LA.out.keeps KF.out (fun (e : 0 = pb + 1) => by omega))
    have KW := aside ((KA.out.setCell (p := ⟨pb + 1, 0, none⟩) (fun hh => absurd hh (by have h9 := HNL.out; simp; omega)) (.int .i64 0)).setCell (p := ⟨pb + 1, 1, none⟩) (fun hh => absurd hh (by have h9 := HNL.out; simp; omega)) (.int .i64 0))
    have KR := set_in 1 (.int .i64 0) (set_in 0 (.int .i64 0) KZ1.out)
    simp only [List.setIfInBounds_toArray, List.set_cons_zero, List.set_cons_succ] at KR
    have HKR := aside KR
    clear KR KF
    go_wp2
    obtain ⟨r0, r1⟩ := two_h HKR.out
    exact bodyPost_ret (v := .tuple #[.slice none 0 0, .agg #[.int .i64 0, .int .i64 0], .int .i64 q]) (by simp [results, Tryd.results20, go_sem, r0, r1]) rfl (.inl ⟨HQ.out, rfl, SF.out, KW.out, LF.out⟩)
end Go.Proofs.YtoflalflacopdaaDoor
namespace Go.Proofs.YtoflalflacopdaaDoor
open Go.RowKit
set_option linter.unusedVariables false
/-- How many entries the first k lists have. -/
def smL (ln : Nat → Nat) : Nat → Nat
  | 0 => 0
  | k + 1 => smL ln k + ln k
/-- Lists in a row. -/
def ListsIn (w : World) (gb m : Nat) (ad : Nat → Option Addr) (ln cp : Nat → Nat) (T : Nat → Nat → En) : Prop := ∀ k, k < m → w.cell? ⟨gb, k, none⟩ = some (.slice (ad k) (ln k) (cp k)) ∧ EntsIn w (ad k) (ln k) (cp k) (T k)
theorem by_step (c x y : Nat) (hc : c ≤ 1073741824) : Value.int .i64 (IntKind.i64.wrap ((c : Int) + IntKind.i64.wrap (IntKind.i64.wrap (1 + (if (1073741824 : Int) < (x : Int) then 1073741824 else (x : Int))) + if (1073741824 : Int) < (y : Int) then 1073741824 else (y : Int)))) = .int .i64 ((c + (1 + (min x 1073741824 + min y 1073741824)) : Nat) : Int) := by
  congr 1
  rw [IntKind.wrap_i64, IntKind.wrap_i64, IntKind.wrap_i64]
  split <;> split <;> omega
end Go.Proofs.YtoflalflacopdaaDoor
