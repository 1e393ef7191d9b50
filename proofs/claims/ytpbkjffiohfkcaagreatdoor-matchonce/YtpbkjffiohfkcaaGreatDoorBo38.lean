/-
  Exchange.
  Where a key stands among entries: plain.
-/
import Derived.Test.YtpbkjffiohfkcaaGreatDoorBo37
import Derived.Test.YtpbkjffiohfkcaaGreatDoorBo31
import Derived.Deep.Cut
import Derived.Test.YtpbkjffiohfkcaaGreatDoorBo30
import Derived.Test.YtpbkjffiohfkcaaGreatDoorBo19
namespace Go.Proofs.YtpbkjffiohfkcaaGreatDoor
open Go.RowKit
set_option linter.unusedVariables false
/-- What Exchange says. -/
def XSay (w : World) (sb g tb : Nat) (nd ck : Int) (Ls : List En) (p : Pm) (r : Ending) (w' : World) : Prop :=
  (xErr p ≠ 0 ∧ r = .returned (.tuple #[.slice none 0 0, .agg #[.int .i64 0, .int .i64 0], .int .i64 (xErr p)]) ∧ Sto w' sb g tb nd ck Ls ∧ Keeps (Of sb g tb) w w' ∧ Lanes w') ∨
  (xErr p = 0 ∧ ∃ v, r = .returned (.tuple #[v, .agg #[.int .i64 ((tkAll ⟨Ls, ck, 0, 0⟩ (firstE p.T p.el)).n : Int), .int .i64 ((tkAll ⟨Ls, ck, 0, 0⟩ (firstE p.T p.el)).f : Int)], .int .i64 0]) ∧ RpAt (w.heap.size + 2) p (rpL p Ls) v w' ∧ Sto w' sb g tb nd (tkAll ⟨Ls, ck, 0, 0⟩ (firstE p.T p.el)).c (tkAll ⟨Ls, ck, 0, 0⟩ (firstE p.T p.el)).l ∧ Keeps (Of sb g tb) w w' ∧ Lanes w')
set_option maxHeartbeats 6400000 in
set_option maxRecDepth 100000 in
theorem xchg_any (p : Pm) {w : World} {sb g tb : Nat} {nd ck : Int} {Ls : List En} (h : Sto w sb g tb nd ck Ls) (hm : MapL Ls) (hl : Ls.length ≤ 256) (hP : p.In w) (hz : p.el ≤ 4611686018427387904) (L : Lanes w) :
    Calls Tryz.prog 15 #[.pointer (some ⟨sb, 0, none⟩), .agg #[.int .i64 p.kind, .string p.lo, .string p.hi, .bool p.op, .int .i64 p.cnt, .int .u64 p.s0, .int .u64 p.s1, .slice p.ea p.el p.ec]] w fun r w' => XSay w sb g tb nd ck Ls p r w' := by
  have BX := aside (bthen (bnew w (.cells #[.int .i64 p.kind, .string p.lo, .string p.hi, .bool p.op, .int .i64 p.cnt, .int .u64 p.s0, .int .u64 p.s1, .slice p.ea p.el p.ec] 47)) (bnew _ (.cells #[.int .i64 0, .int .i64 0] 33)))
  have KX := aside (blk_on (heap_alloc_new w (.cells #[.int .i64 p.kind, .string p.lo, .string p.hi, .bool p.op, .int .i64 p.cnt, .int .u64 p.s0, .int .u64 p.s1, .slice p.ea p.el p.ec] 47)) (bnew _ (.cells #[.int .i64 0, .int .i64 0] 33)))
  have KZ := aside (heap_alloc_new (w.alloc (.cells #[.int .i64 p.kind, .string p.lo, .string p.hi, .bool p.op, .int .i64 p.cnt, .int .u64 p.s0, .int .u64 p.s1, .slice p.ea p.el p.ec] 47)) (.cells #[.int .i64 0, .int .i64 0] 33))
  rw [World.size_alloc] at KZ
  obtain ⟨pb, hpb⟩ : ∃ pb, w.heap.size = pb := ⟨_, rfl⟩
  rw [hpb] at KX KZ
  have HNL := aside (show w.heap.size ≤ pb ∧ pb + 1 < pb + 2 from by omega)
  obtain ⟨X, hX⟩ : ∃ X, (w.alloc (.cells #[.int .i64 p.kind, .string p.lo, .string p.hi, .bool p.op, .int .i64 p.cnt, .int .u64 p.s0, .int .u64 p.s1, .slice p.ea p.el p.ec] 47)).alloc (.cells #[.int .i64 0, .int .i64 0] 33) = X := ⟨_, rfl⟩
  rw [hX] at BX KX KZ
  have ZX := aside (show X.heap.size = pb + 2 from by rw [← hX, World.size_alloc, World.size_alloc, hpb])
  have CK := aside (parts_any (some ⟨X.heap.size, 0, none⟩) 1 1 (fun _ => p) (X.alloc (.cells #[.int .i64 p.kind, .string p.lo, .string p.hi, .bool p.op, .int .i64 p.cnt, .int .u64 p.s0, .int .u64 p.s1, .slice p.ea p.el p.ec] 47)) ⟨Nat.le_refl _, by unfold maxLen; omega, .inr ⟨X.heap.size, 0, rfl, by simp, fun i hi => ⟨by
    obtain rfl : i = 0 := by omega
    exact oct (heap_alloc_new X (.cells #[.int .i64 p.kind, .string p.lo, .string p.hi, .bool p.op, .int .i64 p.cnt, .int .u64 p.s0, .int .u64 p.s1, .slice p.ea p.el p.ec] 47)), hP.keep (bthen BX.out (bnew X _))⟩⟩⟩ (by simp only [totE]; omega))
  obtain ⟨q, hq⟩ : ∃ q, psChk (fun _ => p) 1 = q := ⟨_, rfl⟩
  rw [hq] at CK
  have HXE := aside (show xErr p = if q ≠ 0 then q else if p.kind = 1 then 114 else 0 from by unfold xErr; rw [hq])
  have H := aside h
  have LL := aside L
  have HM := aside hm
  have HL := aside hl
  have HP := aside hP
  unfold XSay
  clear h hm hl hP hz L hq
  obtain ⟨p0, p1, p2, p3, p4, p5, p6, p7⟩ := oct KX.out
  by_cases hq0 : q = 0
  · subst hq0
    by_cases hk : p.kind = 1
    · have hkb : (p.kind == 1) = true := by simpa using hk
      rw [show xErr p = 114 from by rw [HXE.out, if_neg (by simp), if_pos hk]]
      have HQ := aside (show (114 : Int) ≠ 0 by decide)
      clear hk HXE
      go_enter Tryz.func15, Tryz.ntmps15
      go_wp2_with fail
      refine CK.out.mono ?_
      rintro e w1 ⟨rfl, b1⟩
      have B1 := aside (bthen BX.out (bthen (bnew X _) b1))
      have K1 := aside (blk_on KX.out (bthen (bnew X _) b1))
      have KZ1 := aside (blk_on KZ.out (bthen (bnew X _) b1))
      clear b1 CK BX KX KZ p0 p1 p2 p3 p4 p5 p6 p7 hX
      obtain ⟨p0, -⟩ := oct K1.out
      have SA := aside (H.out.below B1.out)
      have LA := aside (LL.out.keep B1.out)
      have KA := aside (Keeps.of_below B1.out (Of sb g tb))
      go_upto_region 5 with fail
      clear p0
      obtain ⟨z0, z1⟩ := two_h KZ1.out
      have y0 := frozen_of_row _ _ 0 _ _ KZ1.out
      have y1 := frozen_of_row _ _ 1 _ _ KZ1.out
      have KF := aside (((Keeps.refl (fun x => x = pb + 1) w1).setCell (p := ⟨pb + 1, 0, none⟩) (fun _ => rfl) (.int .i64 0)).setCell (p := ⟨pb + 1, 1, none⟩) (fun _ => rfl) (.int .i64 0))
      have SF := aside (SA.out.set KZ1.out (by decide) (by decide) (by decide) (by decide) KF.out)
      have LF := aside (LA.out.keeps KF.out (fun (e : 0 = pb + 1) => by omega))
      have KW := aside ((KA.out.setCell (p := ⟨pb + 1, 0, none⟩) (fun hh => absurd hh (by have h9 := HNL.out; simp; omega)) (.int .i64 0)).setCell (p := ⟨pb + 1, 1, none⟩) (fun hh => absurd hh (by have h9 := HNL.out; simp; omega)) (.int .i64 0))
      have KR := set_in 1 (.int .i64 0) (set_in 0 (.int .i64 0) KZ1.out)
      simp only [List.setIfInBounds_toArray, List.set_cons_zero, List.set_cons_succ] at KR
      have HKR := aside KR
      clear KR KF
      go_wp2
      obtain ⟨r0, r1⟩ := two_h HKR.out
      exact bodyPost_ret (v := .tuple #[.slice none 0 0, .agg #[.int .i64 0, .int .i64 0], .int .i64 114]) (by simp [results, Tryz.results15, go_sem, r0, r1]) rfl (.inl ⟨HQ.out, rfl, SF.out, KW.out, LF.out⟩)
    · have hkb : (p.kind == 1) = false := by simpa using hk
      have hx0 : xErr p = 0 := by rw [HXE.out, if_neg (by simp), if_neg hk]
      rw [hx0]
      obtain ⟨-, -, x3, x4, x5⟩ := xErr_ok hx0
      have CE := aside (fun W (bb : Below w.heap.size w W) => exch_any p (H.out.below bb) HM.out HL.out (HP.out.keep bb) x3 x4 x5 (LL.out.keep bb))
      obtain ⟨s, hs⟩ : ∃ s, (tkAll ⟨Ls, ck, 0, 0⟩ (firstE p.T p.el)) = s := ⟨_, rfl⟩
      rw [hs] at CE ⊢
      obtain ⟨Lj, cj, n, f⟩ := s
      dsimp only at CE ⊢
      clear x3 x4 x5 hx0 hk HXE hs
      go_enter Tryz.func15, Tryz.ntmps15
      go_wp2_with fail
      refine CK.out.mono ?_
      rintro e w1 ⟨rfl, b1⟩
      have B1 := aside (bthen BX.out (bthen (bnew X _) b1))
      have K1 := aside (blk_on KX.out (bthen (bnew X _) b1))
      have KZ1 := aside (blk_on KZ.out (bthen (bnew X _) b1))
      clear b1 CK BX KX KZ p0 p1 p2 p3 p4 p5 p6 p7 hX
      obtain ⟨p0, p1, p2, p3, p4, p5, p6, p7⟩ := oct K1.out
      go_wp2_with fail
      refine (CE.out _ B1.out).mono ?_
      rintro e w2 ⟨v, rfl, rp, s2, k2, l2⟩
      have S1 := H.out.below B1.out
      have BN := bnew w2 (.cells #[.int .i64 (n : Int), .int .i64 (f : Int)] 33)
      have KZ2 := aside (blk_on (blk_on (blk_keep KZ1.out k2 (S1.not KZ1.out (by decide) (by decide) (by decide))) BN) (Below.refl _ _).drew)
      have SA := aside ((s2.below BN).below (Below.refl _ _).drew)
      have LA := aside ((l2.keep BN).keep (Below.refl _ _).drew)
      have KA := aside ((((Keeps.of_below B1.out _).trans k2).alloc (.cells #[.int .i64 (n : Int), .int .i64 (f : Int)] 33)).drew)
      have RP2 := aside (((rp.low (show pb + 2 ≤ w1.heap.size + 2 from by have h1 := B1.out.size; omega)).below BN).below (Below.refl _ _).drew)
      have KXB := aside (heap_alloc_new w2 (.cells #[.int .i64 (n : Int), .int .i64 (f : Int)] 33))
      have HNX := aside (show pb + 1 < w2.heap.size from by have h1 := lt_of_blk KZ1.out; have h2 := k2.size; omega)
      clear rp s2 k2 l2 CE BN S1 p0 p1 p2 p3 p4 p5 p6 p7 K1 KZ1 B1 hkb
      obtain ⟨xb, hxb⟩ : ∃ xb, w2.heap.size = xb := ⟨_, rfl⟩
      rw [hxb] at KXB HNX
      obtain ⟨x0, x1⟩ := two_h KXB.out
      go_wp2_with fail
      refine wp_region_held_drew (S := fun W => W.cell? ⟨xb, 0, none⟩ = some (.int .i64 (n : Int)) ∧ W.cell? ⟨xb, 1, none⟩ = some (.int .i64 (f : Int))) (by kernel_rfl) ⟨x0, x1⟩ (fun hHeld => ?_)
      refine wpAnyH_take (i := 0) (v := ?_) rfl (by kernel_rfl) (by kernel_rfl) (by kernel_rfl) (fun _ _ _ h => h) (Or.inl ⟨by rfl, ?_⟩) (by assumption) ?_
      rotate_left
      · intro w hSw
        go_simp
        try with_reducible rfl
      simp only [Act.put, List.getElem_toArray, List.getElem_cons_zero, List.setIfInBounds_toArray, List.set_cons_zero, List.set_cons_succ]
      refine wpAnyH_take (i := 1) (v := ?_) rfl (by kernel_rfl) (by kernel_rfl) (by kernel_rfl) (fun _ _ _ h => h) (Or.inl ⟨by rfl, ?_⟩) (by assumption) ?_
      rotate_left
      · intro w hSw
        go_simp
        try with_reducible rfl
      simp only [Act.put, List.getElem_toArray, List.getElem_cons_zero, List.getElem_cons_succ, List.setIfInBounds_toArray, List.set_cons_zero, List.set_cons_succ]
      refine wpAnyH_take (i := 2) (v := ?_) rfl (by kernel_rfl) (by kernel_rfl) (by kernel_rfl) (fun _ _ _ h => h) (Or.inl ⟨by rfl, ?_⟩) (by assumption) ?_
      rotate_left
      · intro w hSw
        go_simp
        try with_reducible rfl
      simp only [Act.put, List.getElem_toArray, List.getElem_cons_zero, List.getElem_cons_succ, List.setIfInBounds_toArray, List.set_cons_zero, List.set_cons_succ]
      clear x0 x1
      generalize World.drew _ = Y at *
      obtain ⟨z0, z1⟩ := two_h KZ2.out
      have y0 := frozen_of_row _ _ 0 _ _ KZ2.out
      have y1 := frozen_of_row _ _ 1 _ _ KZ2.out
      have KF := aside (((Keeps.refl (fun x => x = pb + 1) Y).setCell (p := ⟨pb + 1, 0, none⟩) (fun _ => rfl) (.int .i64 (n : Int))).setCell (p := ⟨pb + 1, 1, none⟩) (fun _ => rfl) (.int .i64 (f : Int)))
      have SF := aside (SA.out.set KZ2.out (by decide) (by decide) (by decide) (by decide) KF.out)
      have LF := aside (LA.out.keeps KF.out (fun (e : 0 = pb + 1) => by omega))
      have KW := aside ((KA.out.setCell (p := ⟨pb + 1, 0, none⟩) (fun hh => absurd hh (by have h9 := HNL.out; simp; omega)) (.int .i64 (n : Int))).setCell (p := ⟨pb + 1, 1, none⟩) (fun hh => absurd hh (by have h9 := HNL.out; simp; omega)) (.int .i64 (f : Int)))
      have KR := set_in 1 (.int .i64 (f : Int)) (set_in 0 (.int .i64 (n : Int)) KZ2.out)
      simp only [List.setIfInBounds_toArray, List.set_cons_zero, List.set_cons_succ] at KR
      have HKR := aside KR
      clear KR KF
      have RF := aside ((RP2.out.set (b := pb + 1) (by have h9 := HNL.out; omega) 0 (.int .i64 (n : Int))).set (b := pb + 1) (by have h9 := HNL.out; omega) 1 (.int .i64 (f : Int)))
      refine wpAnyH_ready (rs := [3]) (by kernel_rfl) (by simp) ?_
      refine AllReadyH.cons rfl (fun K hK => ?_) AllReadyH.nil
      go_simp
      refine hK.out _ _ (⟨cell_apart (cell_apart hHeld.1 (by have := HNX.out; simp; omega)) (by have := HNX.out; simp; omega), cell_apart (cell_apart hHeld.2 (by have := HNX.out; simp; omega)) (by have := HNX.out; simp; omega)⟩) (fun hHeld => ?_)
      clear hK K z0 z1 y0 y1
      refine wpAnyH_take (i := 4) (v := ?_) rfl (by kernel_rfl) (by kernel_rfl) (by kernel_rfl) (fun _ _ _ h => h) (Or.inl ⟨by rfl, ?_⟩) (by assumption) ?_
      rotate_left
      · intro w hSw
        go_simp
        try with_reducible rfl
      simp only [Act.put, List.getElem_toArray, List.getElem_cons_zero, List.getElem_cons_succ, List.setIfInBounds_toArray, List.set_cons_zero, List.set_cons_succ]
      refine wpAnyH_done (by kernel_rfl) ?_ _
      go_wp2
      obtain ⟨r0, r1⟩ := two_h HKR.out
      exact bodyPost_ret (v := .tuple #[v, .agg #[.int .i64 (n : Int), .int .i64 (f : Int)], .int .i64 0]) (by simp [results, Tryz.results15, go_sem, r0, r1]) rfl (.inr ⟨by first | rfl | trivial, v, rfl, by first | exact RF.out | (rw [hpb]; exact RF.out), SF.out, KW.out, LF.out⟩)
  · have hqb : (q == 0) = false := by simpa using hq0
    rw [show xErr p = q from by rw [HXE.out, if_pos hq0]]
    have HQ := aside hq0
    clear HXE
    go_enter Tryz.func15, Tryz.ntmps15
    go_wp2_with fail
    refine CK.out.mono ?_
    rintro e w1 ⟨rfl, b1⟩
    have B1 := aside (bthen BX.out (bthen (bnew X _) b1))
    have K1 := aside (blk_on KX.out (bthen (bnew X _) b1))
    have KZ1 := aside (blk_on KZ.out (bthen (bnew X _) b1))
    clear b1 CK BX KX KZ p0 p1 p2 p3 p4 p5 p6 p7 hX
    obtain ⟨p0, -⟩ := oct K1.out
    have SA := aside (H.out.below B1.out)
    have LA := aside (LL.out.keep B1.out)
    have KA := aside (Keeps.of_below B1.out (Of sb g tb))
    go_upto_region 3 with fail
    clear p0
    obtain ⟨z0, z1⟩ := two_h KZ1.out
    have y0 := frozen_of_row _ _ 0 _ _ KZ1.out
    have y1 := frozen_of_row _ _ 1 _ _ KZ1.out
    have KF := aside (((Keeps.refl (fun x => x = pb + 1) w1).setCell (p := ⟨pb + 1, 0, none⟩) (fun _ => rfl) (.int .i64 0)).setCell (p := ⟨pb + 1, 1, none⟩) (fun _ => rfl) (.int .i64 0))
    have SF := aside (SA.out.set KZ1.out (by decide) (by decide) (by decide) (by decide) KF.out)
    have LF := aside (LA.out.keeps KF.out (fun (e : 0 = pb + 1) => by omega))
    have KW := aside ((KA.out.setCell (p := ⟨pb + 1, 0, none⟩) (fun hh => absurd hh (by have h9 := HNL.out; simp; omega)) (.int .i64 0)).setCell (p := ⟨pb + 1, 1, none⟩) (fun hh => absurd hh (by have h9 := HNL.out; simp; omega)) (.int .i64 0))
    have KR := set_in 1 (.int .i64 0) (set_in 0 (.int .i64 0) KZ1.out)
    simp only [List.setIfInBounds_toArray, List.set_cons_zero, List.set_cons_succ] at KR
    have HKR := aside KR
    clear KR KF
    go_wp2
    obtain ⟨r0, r1⟩ := two_h HKR.out
    exact bodyPost_ret (v := .tuple #[.slice none 0 0, .agg #[.int .i64 0, .int .i64 0], .int .i64 q]) (by simp [results, Tryz.results15, go_sem, r0, r1]) rfl (.inl ⟨HQ.out, rfl, SF.out, KW.out, LF.out⟩)
end Go.Proofs.YtpbkjffiohfkcaaGreatDoor
namespace Go.Proofs.YtpbkjffiohfkcaaGreatDoor
open Go.RowKit
set_option linter.unusedVariables false
/-- How many entries stand ahead of a key. -/
def plc (k : ByteArray) : List En → Nat
  | [] => 0
  | y :: l => if kLt y.k k = true then plc k l + 1 else 0
/-- Whether it stands there. -/
def isP (k : ByteArray) : List En → Bool
  | [] => false
  | y :: l => if kLt y.k k = true then isP k l else y.k.toList == k.toList
theorem plc_le (k : ByteArray) : ∀ l : List En, plc k l ≤ l.length
  | [] => Nat.le_refl _
  | y :: l => by
    have := plc_le k l
    unfold plc
    split <;> simp <;> omega
theorem isP_lt {k : ByteArray} : ∀ {l : List En}, isP k l = true → plc k l < l.length
  | [], h => by simp [isP] at h
  | y :: l, h => by
    unfold isP at h
    unfold plc
    by_cases g : kLt y.k k = true
    · rw [if_pos g] at h ⊢
      have := isP_lt h
      simp; omega
    · rw [if_neg g]; simp
theorem nthE_succ (y : En) (l : List En) (i : Nat) : nthE (y :: l) (i + 1) = nthE l i := by simp [nthE]
/-- What a loop finds that goes on while keys are below. -/
theorem plc_of {k : ByteArray} : ∀ {l : List En} {j : Nat}, j ≤ l.length → (∀ i, i < j → kLt (nthE l i).k k = true) → (j = l.length ∨ kLt (nthE l j).k k = false) → plc k l = j ∧ isP k l = (decide (j < l.length) && ((nthE l j).k.toList == k.toList))
  | [], j, hj, _, _ => by
    obtain rfl : j = 0 := by simpa using hj
    simp [plc, isP]
  | y :: l, 0, _, _, hs => by
    have h0 : kLt y.k k = false := by
      rcases hs with h | h
      · simp at h
      · simpa [nthE] using h
    unfold plc isP
    rw [if_neg (by simp [h0]), if_neg (by simp [h0])]
    simp [nthE]
  | y :: l, j + 1, hj, hb, hs => by
    have h0 : kLt y.k k = true := by simpa [nthE] using hb 0 (by omega)
    obtain ⟨h1, h2⟩ := plc_of (k := k) (l := l) (j := j) (by simpa using hj) (fun i hi => by rw [← nthE_succ y l i]; exact hb (i + 1) (by omega)) (by
      rcases hs with h | h
      · exact .inl (by simpa using h)
      · exact .inr (by rw [← nthE_succ y l j]; exact h))
    unfold plc isP
    rw [if_pos h0, if_pos h0, h1, h2, nthE_succ]
    simp
/-- An entry laid: those ahead, it, those behind. -/
theorem insE_plc (e : En) : ∀ l : List En, insE e l = l.take (plc e.k l) ++ [e] ++ l.drop (if isP e.k l = true then plc e.k l + 1 else plc e.k l)
  | [] => by simp [insE, plc, isP]
  | y :: l => by
    unfold insE plc isP
    by_cases g : kLt y.k e.k = true
    · rw [if_neg (by rw [kLt_asymm g]; simp), if_pos g, if_pos g, if_pos g, insE_plc e l]
      by_cases h : isP e.k l = true
      · rw [if_pos h, if_pos h]; simp
      · rw [if_neg h, if_neg h]; simp
    · rw [if_neg g, if_neg g, if_neg g]
      by_cases h : kLt e.k y.k = true
      · rw [if_pos h, if_neg (by
          intro c
          have : y.k = e.k := toList_inj (by simpa using c)
          rw [this, kLt_irrefl] at h; cases h)]
        simp
      · rw [if_neg h, if_pos (by
          have : y.k = e.k := kLt_total (by simpa using g) (by simpa using h)
          rw [this]; simp)]
        simp
/-- What is held under a key. -/
theorem look_plc {k : ByteArray} : ∀ {l : List En}, RisesE l → lookE k l = if isP k l = true then some (nthE l (plc k l)) else none
  | [], _ => by simp [lookE, isP]
  | y :: l, hr => by
    have h1 := rises_consE.1 hr
    unfold lookE isP plc
    by_cases g : kLt y.k k = true
    · rw [if_pos g, if_pos g]
      rw [List.find?_cons_of_neg (by simp [g])]
      have := look_plc (k := k) h1.2
      unfold lookE at this
      rw [this, nthE_succ]
    · rw [if_neg g, if_neg g]
      by_cases h : kLt k y.k = true
      · rw [List.find?_cons_of_neg (by simp [h]), if_neg (by
          intro c
          have : y.k = k := toList_inj (by simpa using c)
          rw [this, kLt_irrefl] at h; cases h)]
        rw [List.find?_eq_none]
        intro z hz
        have : kLt k z.k = true := kLt_trans h (h1.1 z hz)
        simp [this]
      · rw [List.find?_cons_of_pos (by simp [g, h]), if_pos (by
          have : y.k = k := kLt_total (by simpa using g) (by simpa using h)
          rw [this]; simp)]
        simp [nthE]
theorem room_plc {k : ByteArray} {l : List En} (h : RisesE l) : roomB k l = (isP k l || decide (l.length < 256)) := by
  unfold roomB
  rw [look_plc h]
  cases isP k l <;> simp
theorem take_map {e : En} {l : List En} (h : MapL l) (he : e.chk = 0) : MapL (insE e l) := ⟨rises_of_map (by rw [← ins_map]; exact rises_ins _ (rises_map h.rises)), fun x hx => by
  rw [insE_plc] at hx
  simp only [List.append_assoc, List.singleton_append, List.mem_append, List.mem_cons] at hx
  rcases hx with hx | rfl | hx
  · exact h.chk x (List.mem_of_mem_take hx)
  · exact he
  · exact h.chk x (List.mem_of_mem_drop hx)⟩
theorem take_len {e : En} {l : List En} (h : RisesE l) (hl : l.length ≤ 256) (hr : roomB e.k l = true) : (insE e l).length ≤ 256 := by
  rw [room_plc h] at hr
  rw [insE_plc]
  have h1 := plc_le e.k l
  cases hi : isP e.k l
  · rw [hi] at hr
    simp at hr ⊢
    omega
  · have h2 := isP_lt hi
    simp
    omega
end Go.Proofs.YtpbkjffiohfkcaaGreatDoor
