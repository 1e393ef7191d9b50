/-
  First, the code's.
-/
import Derived.Test.YtfnmpfaecafckaaFeB
import Derived.Deep.DeepCutAuto
namespace Go.Proofs.Ytfnmpfaecafckaa
open Go.RowKit
set_option linter.unusedVariables false

/-- The one part of a first frame. -/
def P1 (c x z : Int) : Nat → Pm := fun _ => ⟨1, ⟨#[]⟩, ⟨#[]⟩, true, c, x, z, none, 0, 0, fun _ => ⟨⟨#[]⟩, 0, 0, ⟨#[]⟩, false⟩⟩
theorem P1_no (c x z : Int) (n : Nat) : NoEnts (P1 c x z) n := fun _ _ => ⟨rfl, rfl, rfl⟩
theorem P1_in {w : World} {k : Nat} {c x z : Int} (h : w.heap[k]? = some (.cells #[.int .i64 1, .string ⟨#[]⟩, .string ⟨#[]⟩, .bool true, .int .i64 c, .int .u64 x, .int .u64 z, .slice none 0 0] 39 (0, 0))) : PartsIn w (some ⟨k, 0, none⟩) 1 1 (P1 c x z) := by
  refine ⟨Nat.le_refl _, by unfold maxLen; omega, .inr ⟨k, 0, rfl, (Array.getElem?_eq_some_iff.1 h).1, fun i hi => ⟨?_, (P1_no c x z 1).in_ _ i hi⟩⟩⟩
  obtain rfl : i = 0 := by omega
  exact oct8 h
theorem P1_tot (c x z : Int) : totE (P1 c x z) 1 = 0 := rfl

set_option maxHeartbeats 6400000 in
set_option maxRecDepth 100000 in
theorem first_any (peer o l n c x z : Int) (w : World) :
    Calls Try.prog 9 #[.int .i64 peer, .agg #[.int .i64 o, .int .i64 l, .int .i64 n], .agg #[.int .i64 c, .int .u64 x, .int .u64 z]] w (TellsF w o peer o l n 0 (fChk o peer o l n 0 (P1 c x z) 1) (P1 c x z) 1) := by
  obtain ⟨q, hq⟩ : ∃ q, fChk o peer o l n 0 (P1 c x z) 1 = q := ⟨_, rfl⟩
  have CK := aside (fun W k (hk : W.heap[k]? = some (.cells #[.int .i64 1, .string ⟨#[]⟩, .string ⟨#[]⟩, .bool true, .int .i64 c, .int .u64 x, .int .u64 z, .slice none 0 0] 39 (0, 0))) => checked_any o peer o l n 0 ⟨k, 0, none⟩ 1 1 (P1 c x z) W (P1_in hk) (by omega) (P1_no c x z 1) (by omega) (by rw [P1_tot]; omega))
  rw [hq] at CK ⊢
  clear hq
  go_enter Try.func9, Try.ntmps9
  go_upto_region 1 with fail
  have BX := aside (bthen (bthen (bnew w (.cells #[.int .i64 o, .int .i64 l, .int .i64 n] 23)) (bnew _ (.cells #[.int .i64 c, .int .u64 x, .int .u64 z] 28))) (bnew _ (.cells #[.int .i64 0, .int .i64 0, .int .i64 0, .int .i64 0, .int .i64 0, .int .i64 0, .slice none 0 0] 31)))
  have KN := aside (blk_on (blk_on (heap_alloc_new w (.cells #[.int .i64 o, .int .i64 l, .int .i64 n] 23)) (bnew _ (.cells #[.int .i64 c, .int .u64 x, .int .u64 z] 28))) (bnew _ (.cells #[.int .i64 0, .int .i64 0, .int .i64 0, .int .i64 0, .int .i64 0, .int .i64 0, .slice none 0 0] 31)))
  have KT := aside (blk_on (heap_alloc_new (w.alloc (.cells #[.int .i64 o, .int .i64 l, .int .i64 n] 23)) (.cells #[.int .i64 c, .int .u64 x, .int .u64 z] 28)) (bnew _ (.cells #[.int .i64 0, .int .i64 0, .int .i64 0, .int .i64 0, .int .i64 0, .int .i64 0, .slice none 0 0] 31)))
  have KZ := aside (heap_alloc_new ((w.alloc (.cells #[.int .i64 o, .int .i64 l, .int .i64 n] 23)).alloc (.cells #[.int .i64 c, .int .u64 x, .int .u64 z] 28)) (.cells #[.int .i64 0, .int .i64 0, .int .i64 0, .int .i64 0, .int .i64 0, .int .i64 0, .slice none 0 0] 31))
  rw [World.size_alloc] at KT KZ
  rw [World.size_alloc] at KZ
  generalize ((w.alloc (.cells #[.int .i64 o, .int .i64 l, .int .i64 n] 23)).alloc (.cells #[.int .i64 c, .int .u64 x, .int .u64 z] 28)).alloc (.cells #[.int .i64 0, .int .i64 0, .int .i64 0, .int .i64 0, .int .i64 0, .int .i64 0, .slice none 0 0] 31) = X0 at BX KN KT KZ ⊢
  have TX := aside (fun W (bb : Below X0.heap.size X0 W) => (show Below X0.heap.size X0 W ∧ W.cell? ⟨w.heap.size + 1, 0, none⟩ = some (.int .i64 c) ∧ W.cell? ⟨w.heap.size + 1, 1, none⟩ = some (.int .u64 x) ∧ W.cell? ⟨w.heap.size + 1, 2, none⟩ = some (.int .u64 z) from ⟨bb, (tri (blk_on KT.out bb)).1, (tri (blk_on KT.out bb)).2.1, (tri (blk_on KT.out bb)).2.2.1⟩))
  go_cut [8] (fun s9 wx => ∃ gp, s9 = .pointer (some ⟨gp, 0, none⟩) ∧ wx.heap[gp]? = some (.cells #[.int .i64 1, .string ⟨#[]⟩, .string ⟨#[]⟩, .bool true, .int .i64 c, .int .u64 x, .int .u64 z, .slice none 0 0] 39 (0, 0)) ∧ Below X0.heap.size X0 wx)
  case first =>
    clear CK
    refine wp_region_held_drew (S := fun W => Below X0.heap.size X0 W ∧ W.cell? ⟨w.heap.size + 1, 0, none⟩ = some (.int .i64 c) ∧ W.cell? ⟨w.heap.size + 1, 1, none⟩ = some (.int .u64 x) ∧ W.cell? ⟨w.heap.size + 1, 2, none⟩ = some (.int .u64 z)) (by kernel_rfl) (TX.out _ (Below.refl _ X0).drew) (fun hHeld => ?_)
    refine wpAnyH_take (i := 1) (v := ?_) rfl (by kernel_rfl) (by kernel_rfl) (by kernel_rfl) (fun _ _ _ h => h) (Or.inl ⟨by rfl, ?_⟩) (by assumption) ?_
    rotate_left
    · intro w hSw
      go_simp
      try with_reducible rfl
    simp only [Act.put, List.getElem_toArray, List.getElem_cons_zero, List.getElem_cons_succ, List.setIfInBounds_toArray, List.set_cons_zero, List.set_cons_succ]
    refine wpAnyH_ready (rs := [0, 3]) (by kernel_rfl) (by simp) ?_
    refine AllReadyH.cons rfl (fun K hK => ?_) (AllReadyH.cons rfl (fun K hK => ?_) AllReadyH.nil)
    · go_simp
      refine (whole_any _).mono ?_
      rintro e w9 ⟨rfl, bb⟩
      refine hK.out _ _ (TX.out _ (hHeld.1.trans (bb.mono hHeld.1.size))) (fun hHeld => ?_)
      clear hK K bb
      refine wpAnyH_take (i := 2) (v := .agg #[.int .i64 1, .string ⟨#[]⟩, .string ⟨#[]⟩, .bool true, .int .i64 c, .int .u64 x, .int .u64 z, .slice none 0 0]) rfl (by kernel_rfl) (by kernel_rfl) (by kernel_rfl) (fun _ _ _ h => h) (Or.inl ⟨by rfl, ?_⟩) (by assumption) ?_
      · intro w hSw
        go_simp
        all_goals (first | rfl | kernel_rfl)
      simp only [Act.put, List.getElem_toArray, List.getElem_cons_zero, List.getElem_cons_succ, List.setIfInBounds_toArray, List.set_cons_zero, List.set_cons_succ]
      refine wpAnyH_ready (rs := [3]) (by kernel_rfl) (by simp) ?_
      refine AllReadyH.cons rfl (fun K hK => ?_) AllReadyH.nil
      go_simp
      have BP := aside (hHeld.1.trans ((bnew w9 (.cells #[.int .i64 0, .string ⟨#[]⟩, .string ⟨#[]⟩, .bool false, .int .i64 0, .int .u64 0, .int .u64 0, .slice none 0 0] 39)).mono hHeld.1.size))
      have KP := aside (heap_alloc_new w9 (.cells #[.int .i64 0, .string ⟨#[]⟩, .string ⟨#[]⟩, .bool false, .int .i64 0, .int .u64 0, .int .u64 0, .slice none 0 0] 39))
      have HGP := aside hHeld.1.size
      refine hK.out _ _ (TX.out _ BP.out) (fun hHeld => ?_)
      clear hK K
      obtain ⟨gp, hgp⟩ : ∃ gp, w9.heap.size = gp := ⟨_, rfl⟩
      rw [hgp] at KP HGP ⊢
      clear hgp
      generalize w9.alloc (.cells #[.int .i64 0, .string ⟨#[]⟩, .string ⟨#[]⟩, .bool false, .int .i64 0, .int .u64 0, .int .u64 0, .slice none 0 0] 39) = Y0 at KP BP hHeld ⊢
      have HLE : X0.heap.size ≤ gp := by have h1 := HGP.out; omega
      obtain ⟨a0, a1, a2, a3, a4, a5, a6, a7, hkz⟩ : ∃ a0 a1 a2 a3 a4 a5 a6 a7 : Value, Y0.heap[gp]? = some (Obj.cells #[a0, a1, a2, a3, a4, a5, a6, a7] 39 (0, 0)) := ⟨_, _, _, _, _, _, _, _, KP.out⟩
      clear KP
      have KP := aside hkz
      clear hkz
      obtain ⟨z0, z1, z2, z3, z4, z5, z6, z7⟩ := oct8 KP.out
      have y0 := frozen_of_row _ _ 0 _ _ KP.out
      have y1 := frozen_of_row _ _ 1 _ _ KP.out
      have y2 := frozen_of_row _ _ 2 _ _ KP.out
      have y3 := frozen_of_row _ _ 3 _ _ KP.out
      have y4 := frozen_of_row _ _ 4 _ _ KP.out
      have y5 := frozen_of_row _ _ 5 _ _ KP.out
      have y6 := frozen_of_row _ _ 6 _ _ KP.out
      have y7 := frozen_of_row _ _ 7 _ _ KP.out
      have KR := (set_in 7 (.slice none 0 0) (set_in 6 (.int .u64 z) (set_in 5 (.int .u64 x) (set_in 4 (.int .i64 c) (set_in 3 (.bool true) (set_in 2 (.string ⟨#[]⟩) (set_in 1 (.string ⟨#[]⟩) (set_in 0 (.int .i64 1) KP.out))))))))
      simp only [List.setIfInBounds_toArray, List.set_cons_zero, List.set_cons_succ] at KR
      have HKR := aside KR
      have BF := aside (((((((((BP.out.setCell (p := ⟨gp, 0, none⟩) HLE (.int .i64 1)).setCell (p := ⟨gp, 1, none⟩) HLE (.string ⟨#[]⟩)).setCell (p := ⟨gp, 2, none⟩) HLE (.string ⟨#[]⟩)).setCell (p := ⟨gp, 3, none⟩) HLE (.bool true)).setCell (p := ⟨gp, 4, none⟩) HLE (.int .i64 c)).setCell (p := ⟨gp, 5, none⟩) HLE (.int .u64 x)).setCell (p := ⟨gp, 6, none⟩) HLE (.int .u64 z)).setCell (p := ⟨gp, 7, none⟩) HLE (.slice none 0 0)))
      clear KR
      refine wpAnyH_ready (rs := [4]) (by kernel_rfl) (by simp) ?_
      refine AllReadyH.cons rfl (fun K hK => ?_) AllReadyH.nil
      clear HLE
      go_simp
      refine hK.out _ _ (TX.out _ BF.out) (fun hHeld => ?_)
      clear hK K z0 y0 z1 y1 z2 y2 z3 y3 z4 y4 z5 y5 z6 y6 z7 y7
      refine wpAnyH_done (by kernel_rfl) ?_ _
      go_wp2
      go_meet
      exact ⟨gp, rfl, HKR.out, BF.out⟩
    · generalize X0.drew = Y at hHeld ⊢
      go_simp
      have BP := aside (hHeld.1.trans ((bnew Y (.cells #[.int .i64 0, .string ⟨#[]⟩, .string ⟨#[]⟩, .bool false, .int .i64 0, .int .u64 0, .int .u64 0, .slice none 0 0] 39)).mono hHeld.1.size))
      have KP := aside (heap_alloc_new Y (.cells #[.int .i64 0, .string ⟨#[]⟩, .string ⟨#[]⟩, .bool false, .int .i64 0, .int .u64 0, .int .u64 0, .slice none 0 0] 39))
      have HGP := aside hHeld.1.size
      refine hK.out _ _ (TX.out _ BP.out) (fun hHeld => ?_)
      clear hK K
      obtain ⟨gp, hgp⟩ : ∃ gp, Y.heap.size = gp := ⟨_, rfl⟩
      rw [hgp] at KP HGP ⊢
      clear hgp
      generalize Y.alloc (.cells #[.int .i64 0, .string ⟨#[]⟩, .string ⟨#[]⟩, .bool false, .int .i64 0, .int .u64 0, .int .u64 0, .slice none 0 0] 39) = Y0 at KP BP hHeld ⊢
      refine wpAnyH_ready (rs := [0]) (by kernel_rfl) (by simp) ?_
      refine AllReadyH.cons rfl (fun K hK => ?_) AllReadyH.nil
      go_simp
      refine (whole_any _).mono ?_
      rintro e w9 ⟨rfl, bb⟩
      replace KP := aside (blk_on KP.out bb)
      replace BP := aside (BP.out.trans (bb.mono BP.out.size))
      refine hK.out _ _ (TX.out _ (hHeld.1.trans (bb.mono hHeld.1.size))) (fun hHeld => ?_)
      clear hK K bb
      refine wpAnyH_take (i := 2) (v := .agg #[.int .i64 1, .string ⟨#[]⟩, .string ⟨#[]⟩, .bool true, .int .i64 c, .int .u64 x, .int .u64 z, .slice none 0 0]) rfl (by kernel_rfl) (by kernel_rfl) (by kernel_rfl) (fun _ _ _ h => h) (Or.inl ⟨by rfl, ?_⟩) (by assumption) ?_
      · intro w hSw
        go_simp
        all_goals (first | rfl | kernel_rfl)
      simp only [Act.put, List.getElem_toArray, List.getElem_cons_zero, List.getElem_cons_succ, List.setIfInBounds_toArray, List.set_cons_zero, List.set_cons_succ]
      have HLE : X0.heap.size ≤ gp := by have h1 := HGP.out; omega
      obtain ⟨a0, a1, a2, a3, a4, a5, a6, a7, hkz⟩ : ∃ a0 a1 a2 a3 a4 a5 a6 a7 : Value, w9.heap[gp]? = some (Obj.cells #[a0, a1, a2, a3, a4, a5, a6, a7] 39 (0, 0)) := ⟨_, _, _, _, _, _, _, _, KP.out⟩
      clear KP
      have KP := aside hkz
      clear hkz
      obtain ⟨z0, z1, z2, z3, z4, z5, z6, z7⟩ := oct8 KP.out
      have y0 := frozen_of_row _ _ 0 _ _ KP.out
      have y1 := frozen_of_row _ _ 1 _ _ KP.out
      have y2 := frozen_of_row _ _ 2 _ _ KP.out
      have y3 := frozen_of_row _ _ 3 _ _ KP.out
      have y4 := frozen_of_row _ _ 4 _ _ KP.out
      have y5 := frozen_of_row _ _ 5 _ _ KP.out
      have y6 := frozen_of_row _ _ 6 _ _ KP.out
      have y7 := frozen_of_row _ _ 7 _ _ KP.out
      have KR := (set_in 7 (.slice none 0 0) (set_in 6 (.int .u64 z) (set_in 5 (.int .u64 x) (set_in 4 (.int .i64 c) (set_in 3 (.bool true) (set_in 2 (.string ⟨#[]⟩) (set_in 1 (.string ⟨#[]⟩) (set_in 0 (.int .i64 1) KP.out))))))))
      simp only [List.setIfInBounds_toArray, List.set_cons_zero, List.set_cons_succ] at KR
      have HKR := aside KR
      have BF := aside (((((((((BP.out.setCell (p := ⟨gp, 0, none⟩) HLE (.int .i64 1)).setCell (p := ⟨gp, 1, none⟩) HLE (.string ⟨#[]⟩)).setCell (p := ⟨gp, 2, none⟩) HLE (.string ⟨#[]⟩)).setCell (p := ⟨gp, 3, none⟩) HLE (.bool true)).setCell (p := ⟨gp, 4, none⟩) HLE (.int .i64 c)).setCell (p := ⟨gp, 5, none⟩) HLE (.int .u64 x)).setCell (p := ⟨gp, 6, none⟩) HLE (.int .u64 z)).setCell (p := ⟨gp, 7, none⟩) HLE (.slice none 0 0)))
      clear KR
      refine wpAnyH_ready (rs := [4]) (by kernel_rfl) (by simp) ?_
      refine AllReadyH.cons rfl (fun K hK => ?_) AllReadyH.nil
      clear HLE
      go_simp
      refine hK.out _ _ (TX.out _ BF.out) (fun hHeld => ?_)
      clear hK K z0 y0 z1 y1 z2 y2 z3 y3 z4 y4 z5 y5 z6 y6 z7 y7
      refine wpAnyH_done (by kernel_rfl) ?_ _
      go_wp2
      go_meet
      exact ⟨gp, rfl, HKR.out, BF.out⟩
  case rest =>
    obtain ⟨gp, rfl, hkp, hbc⟩ := hcut
    have BC := aside hbc
    obtain ⟨n0, n1, n2, -⟩ := tri (blk_on KN.out BC.out)
    obtain ⟨p0, p1, p2, p3, p4, p5, p6, p7⟩ := oct8 hkp
    clear hbc hkp
    go_wp2_with fail
    refine (CK.out _ _ (heap_alloc_new wc (.cells #[.int .i64 1, .string ⟨#[]⟩, .string ⟨#[]⟩, .bool true, .int .i64 c, .int .u64 x, .int .u64 z, .slice none 0 0] 39))).mono ?_
    rintro e w5 ⟨b5, h5⟩
    have hsz : w.heap.size + 2 < X0.heap.size := (Array.getElem?_eq_some_iff.1 KZ.out).1
    have KZ5 := aside (blk_on KZ.out (BC.out.trans ((bthen (bnew wc (.cells #[.int .i64 1, .string ⟨#[]⟩, .string ⟨#[]⟩, .bool true, .int .i64 c, .int .u64 x, .int .u64 z, .slice none 0 0] 39)) b5).mono BC.out.size)))
    have B5 := aside (bthen BX.out (BC.out.trans ((bthen (bnew wc (.cells #[.int .i64 1, .string ⟨#[]⟩, .string ⟨#[]⟩, .bool true, .int .i64 c, .int .u64 x, .int .u64 z, .slice none 0 0] 39)) b5).mono BC.out.size)))
    have HSZ := aside (show w.heap.size + 2 < (wc.alloc (.cells #[.int .i64 1, .string ⟨#[]⟩, .string ⟨#[]⟩, .bool true, .int .i64 c, .int .u64 x, .int .u64 z, .slice none 0 0] 39)).heap.size from by have h1 := BC.out.size; rw [World.size_alloc]; omega)
    clear b5 hsz n0 n1 n2 p0 p1 p2 p3 p4 p5 p6 p7 CK BX KN KT KZ TX BC
    have HLE : w.heap.size ≤ w.heap.size + 2 := by omega
    rcases h5 with ⟨h0, g, cp, rfl, hp5, hg5⟩ | ⟨h0, rfl⟩
    · have HPN := aside hp5
      have HGB := aside (show w.heap.size + 2 < g from by have h1 := HSZ.out; omega)
      have H0 := aside h0
      clear hp5 hg5 h0
      obtain ⟨a0, a1, a2, a3, a4, a5, a6, hkz⟩ : ∃ a0 a1 a2 a3 a4 a5 a6 : Value, w5.heap[w.heap.size + 2]? = some (Obj.cells #[a0, a1, a2, a3, a4, a5, a6] 31 (0, 0)) := ⟨_, _, _, _, _, _, _, KZ5.out⟩
      clear KZ5
      have KZ5 := aside hkz
      clear hkz
      obtain ⟨z0, z1, z2, z3, z4, z5, z6⟩ := sep7 KZ5.out
      have y0 := frozen_of_row _ _ 0 _ _ KZ5.out
      have y1 := frozen_of_row _ _ 1 _ _ KZ5.out
      have y2 := frozen_of_row _ _ 2 _ _ KZ5.out
      have y3 := frozen_of_row _ _ 3 _ _ KZ5.out
      have y4 := frozen_of_row _ _ 4 _ _ KZ5.out
      have y5 := frozen_of_row _ _ 5 _ _ KZ5.out
      have y6 := frozen_of_row _ _ 6 _ _ KZ5.out
      have KR := (set_in 6 (.slice (some ⟨g, 0, none⟩) 1 cp) (set_in 5 (.int .i64 0) (set_in 4 (.int .i64 n) (set_in 3 (.int .i64 l) (set_in 2 (.int .i64 o) (set_in 1 (.int .i64 peer) (set_in 0 (.int .i64 o) KZ5.out)))))))
      simp only [List.setIfInBounds_toArray, List.set_cons_zero, List.set_cons_succ] at KR
      have HKR := aside KR
      have BF := aside ((((((((B5.out.setCell (p := ⟨w.heap.size + 2, 0, none⟩) HLE (.int .i64 o)).setCell (p := ⟨w.heap.size + 2, 1, none⟩) HLE (.int .i64 peer)).setCell (p := ⟨w.heap.size + 2, 2, none⟩) HLE (.int .i64 o)).setCell (p := ⟨w.heap.size + 2, 3, none⟩) HLE (.int .i64 l)).setCell (p := ⟨w.heap.size + 2, 4, none⟩) HLE (.int .i64 n)).setCell (p := ⟨w.heap.size + 2, 5, none⟩) HLE (.int .i64 0)).setCell (p := ⟨w.heap.size + 2, 6, none⟩) HLE (.slice (some ⟨g, 0, none⟩) 1 cp)))
      clear KR
      have HPF := aside ((parts_at (k := 6) (parts_at (k := 5) (parts_at (k := 4) (parts_at (k := 3) (parts_at (k := 2) (parts_at (k := 1) (parts_at (k := 0) HPN.out (P1_no c x z 1) (show w.heap.size + 2 ≠ g by have := HGB.out; omega) (.int .i64 o)) (P1_no c x z 1) (show w.heap.size + 2 ≠ g by have := HGB.out; omega) (.int .i64 peer)) (P1_no c x z 1) (show w.heap.size + 2 ≠ g by have := HGB.out; omega) (.int .i64 o)) (P1_no c x z 1) (show w.heap.size + 2 ≠ g by have := HGB.out; omega) (.int .i64 l)) (P1_no c x z 1) (show w.heap.size + 2 ≠ g by have := HGB.out; omega) (.int .i64 n)) (P1_no c x z 1) (show w.heap.size + 2 ≠ g by have := HGB.out; omega) (.int .i64 0)) (P1_no c x z 1) (show w.heap.size + 2 ≠ g by have := HGB.out; omega) (.slice (some ⟨g, 0, none⟩) 1 cp)))
      clear HLE
      go_wp2
      obtain ⟨r0, r1, r2, r3, r4, r5, r6⟩ := sep7 HKR.out
      exact bodyPost_ret (v := .tuple #[.agg #[.int .i64 o, .int .i64 peer, .int .i64 o, .int .i64 l, .int .i64 n, .int .i64 0, .slice (some ⟨g, 0, none⟩) 1 cp], .int .i64 0]) (by simp [results, Try.results9, go_sem, r0, r1, r2, r3, r4, r5, r6]) rfl ⟨BF.out, .inl ⟨H0.out, g, cp, rfl, HPF.out, by have h1 := HGB.out; omega⟩⟩
    · have H0 := aside h0
      clear h0
      obtain ⟨a0, a1, a2, a3, a4, a5, a6, hkz⟩ : ∃ a0 a1 a2 a3 a4 a5 a6 : Value, w5.heap[w.heap.size + 2]? = some (Obj.cells #[a0, a1, a2, a3, a4, a5, a6] 31 (0, 0)) := ⟨_, _, _, _, _, _, _, KZ5.out⟩
      clear KZ5
      have KZ5 := aside hkz
      clear hkz
      obtain ⟨z0, z1, z2, z3, z4, z5, z6⟩ := sep7 KZ5.out
      have y0 := frozen_of_row _ _ 0 _ _ KZ5.out
      have y1 := frozen_of_row _ _ 1 _ _ KZ5.out
      have y2 := frozen_of_row _ _ 2 _ _ KZ5.out
      have y3 := frozen_of_row _ _ 3 _ _ KZ5.out
      have y4 := frozen_of_row _ _ 4 _ _ KZ5.out
      have y5 := frozen_of_row _ _ 5 _ _ KZ5.out
      have y6 := frozen_of_row _ _ 6 _ _ KZ5.out
      have KR := (set_in 6 (.slice none 0 0) (set_in 5 (.int .i64 0) (set_in 4 (.int .i64 0) (set_in 3 (.int .i64 0) (set_in 2 (.int .i64 0) (set_in 1 (.int .i64 0) (set_in 0 (.int .i64 0) KZ5.out)))))))
      simp only [List.setIfInBounds_toArray, List.set_cons_zero, List.set_cons_succ] at KR
      have HKR := aside KR
      have BF := aside ((((((((B5.out.setCell (p := ⟨w.heap.size + 2, 0, none⟩) HLE (.int .i64 0)).setCell (p := ⟨w.heap.size + 2, 1, none⟩) HLE (.int .i64 0)).setCell (p := ⟨w.heap.size + 2, 2, none⟩) HLE (.int .i64 0)).setCell (p := ⟨w.heap.size + 2, 3, none⟩) HLE (.int .i64 0)).setCell (p := ⟨w.heap.size + 2, 4, none⟩) HLE (.int .i64 0)).setCell (p := ⟨w.heap.size + 2, 5, none⟩) HLE (.int .i64 0)).setCell (p := ⟨w.heap.size + 2, 6, none⟩) HLE (.slice none 0 0)))
      clear KR
      clear HLE
      go_wp2
      obtain ⟨r0, r1, r2, r3, r4, r5, r6⟩ := sep7 HKR.out
      exact bodyPost_ret (v := .tuple #[.agg #[.int .i64 0, .int .i64 0, .int .i64 0, .int .i64 0, .int .i64 0, .int .i64 0, .slice none 0 0], .int .i64 q]) (by simp [results, Try.results9, go_sem, r0, r1, r2, r3, r4, r5, r6]) rfl ⟨BF.out, .inr ⟨H0.out, rfl⟩⟩

end Go.Proofs.Ytfnmpfaecafckaa
