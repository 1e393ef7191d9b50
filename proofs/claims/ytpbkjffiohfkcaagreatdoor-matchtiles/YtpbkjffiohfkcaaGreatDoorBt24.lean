/-
  What is wrong with one part that has no fields but its own: the document's own (Items and Reply).
-/
import Derived.Test.YtpbkjffiohfkcaaGreatDoorBt1
import Derived.Test.YtpbkjffiohfkcaaGreatDoorBt23
namespace Go.Proofs.YtpbkjffiohfkcaaGreatDoor
open Go.RowKit
set_option linter.unusedVariables false
set_option maxHeartbeats 12800000 in
set_option maxRecDepth 100000 in
theorem rpart_np (a : Option Addr) (len cap : Nat) (P : Nat → Pm) (i : Nat) (w : World) (h : PartsIn w a len cap P) (hi0 : i < len) (kind : Int) (lo hi : ByteArray) (op : Bool) (cnt s0 s1 : Int) (ea : Option Addr) (el ec : Nat) (T : Nat → En) (hp : P i = ⟨kind, lo, hi, op, cnt, s0, s1, ea, el, ec, T⟩) (hk : kind = 2 ∨ kind = 3) (hz : (cnt == 0 && (s0 == 0 && s1 == 0)) = true) :
    Calls Tryz.prog 63 #[.slice a len cap, .int .i64 (i : Int)] w fun e w' => e = .returned (.int .i64 (ptAt P i)) ∧ Below w.heap.size w w' := by
 have hmx : (len : Int) ≤ 9223372036854775807 := by have := h.1; have h2 := h.2.1; unfold maxLen at h2; omega
 rcases h.2.2 with h0 | ⟨b, off, rfl, hb, hc⟩
 ·omega
 obtain ⟨hat, hin⟩ := hc i hi0
 rw [hp] at hat hin
 have HCC := aside hc
 have HP := aside hp
 clear hc hp
 obtain ⟨c0, c1, c2, c3, c4, c5, c6, c7⟩ := hat
 dsimp only at c0 c1 c2 c3 c4 c5 c6 c7
 have hj0 : (0 : Int) ≤ (i : Int) := by omega
 have hlt : (i : Int) < (len : Int) := by omega
 have HA := aside (show Pm.alone ⟨kind, lo, hi, op, cnt, s0, s1, ea, el, ec, T⟩ = true from by unfold Pm.alone; dsimp only; rw [if_neg (by omega), if_pos hk]; exact hz)
 have bk : (kind == 1) = false := by simp; omega
 have HK := aside (show ¬ kind = 1 by omega)
 have bk1 : ¬ kind < 1 := by omega
 have bk3 : ¬ 3 < kind := by omega
 have TQ := fun W => tal_ne_run cnt s0 s1 0 0 0 W
 rw [hz] at TQ
 have CI := aside (fun W (bb : Below w.heap.size w W) => itsR_of ⟨kind, lo, hi, op, cnt, s0, s1, ea, el, ec, T⟩ W (hin.keep bb) rfl)
 clear hk hz
 obtain ⟨q2, hq2⟩ : ∃ q, Rg.chk ⟨lo, hi, op⟩ = q := ⟨_, rfl⟩
 have C2 := aside (fun W => checkRef_at hq2 W)
 have H2 := aside hq2
 clear hq2 hin
 by_cases h2 : q2 = 0
 ·subst h2
  go_enter Tryz.func63, Tryz.ntmps63
  go_wp2_with fail
  have BX := aside (bnew w (.cells #[.int .i64 kind, .string lo, .string hi, .bool op, .int .i64 cnt, .int .u64 s0, .int .u64 s1, .slice ea el ec] 47))
  have KX := aside (heap_alloc_new w (.cells #[.int .i64 kind, .string lo, .string hi, .bool op, .int .i64 cnt, .int .u64 s0, .int .u64 s1, .slice ea el ec] 47))
  generalize w.alloc (.cells #[.int .i64 kind, .string lo, .string hi, .bool op, .int .i64 cnt, .int .u64 s0, .int .u64 s1, .slice ea el ec] 47) = X0 at BX KX ⊢
  have SX := aside (fun W (bb : Below X0.heap.size X0 W) => (show W.cell? ⟨w.heap.size, 0, none⟩ = some (.int .i64 kind) ∧ W.cell? ⟨w.heap.size, 1, none⟩ = some (.string lo) ∧ W.cell? ⟨w.heap.size, 2, none⟩ = some (.string hi) ∧ W.cell? ⟨w.heap.size, 3, none⟩ = some (.bool op) ∧ W.cell? ⟨w.heap.size, 4, none⟩ = some (.int .i64 cnt) ∧ W.cell? ⟨w.heap.size, 5, none⟩ = some (.int .u64 s0) ∧ W.cell? ⟨w.heap.size, 6, none⟩ = some (.int .u64 s1) ∧ W.cell? ⟨w.heap.size, 7, none⟩ = some (.slice ea el ec) from oct8 (blk_on KX.out bb)))
  refine (C2.out _).mono ?_
  rintro e w1 ⟨rfl, b1⟩
  have B1 := aside b1
  clear b1
  obtain ⟨p0, p1, p2, p3, p4, p5, p6, p7⟩ := SX.out _ B1.out
  have BW1 := aside (bthen BX.out B1.out)
  go_upto_region 8 with fail
  go_cut [87] (fun s9 wx => s9 = .bool (tileB lo hi op (ahHi P i) (ahOp P i)) ∧ Below w1.heap.size w1 wx)
  case first =>
   clear C2 SX c0 c1 c2 c3 c4 c5 c6 c7
   cases op
   ·cases hlh : (lo.toList == hi.toList)
    ·skip
     by_cases hi1 : i = 0
     ·have hiz : ¬ (0 : Int) < (i : Int) := by omega
      have HTL := aside (show tileB lo hi false (ahHi P i) (ahOp P i) = false from by subst hi1; unfold tileB; simp [ahOp, ahHi, kLt, hlh]; exact noless2 _)
      clear hi1
      have SY := aside (fun W (bb : Below w1.heap.size w1 W) => (show Below X0.heap.size X0 W ∧ W.cell? ⟨w.heap.size, 1, none⟩ = some (.string lo) ∧ W.cell? ⟨w.heap.size, 2, none⟩ = some (.string hi) ∧ W.cell? ⟨w.heap.size, 3, none⟩ = some (.bool false) from ⟨B1.out.trans (bb.mono B1.out.size), cell_in p1 bb, cell_in p2 bb, cell_in p3 bb⟩))
      clear p0 p1 p2 p3 p4 p5 p6 p7
      refine wp_region_held_drew (S := fun W => (Below X0.heap.size X0 W ∧ W.cell? ⟨w.heap.size, 1, none⟩ = some (.string lo) ∧ W.cell? ⟨w.heap.size, 2, none⟩ = some (.string hi) ∧ W.cell? ⟨w.heap.size, 3, none⟩ = some (.bool false)) ∧ Below w1.heap.size w1 W) (by kernel_rfl) ⟨SY.out _ (Below.refl _ w1).drew, (Below.refl _ w1).drew⟩ (fun hHeld => ?_)
      refine tk 0 rfl _ ?_; refine tk 1 rfl _ ?_; refine tk 2 rfl _ ?_; refine tk 3 rfl _ ?_; refine tk 4 rfl _ ?_; refine tk 5 rfl _ ?_; refine tk 6 rfl _ ?_; refine tk 7 rfl _ ?_; refine tk 8 rfl _ ?_; refine tk 9 rfl _ ?_; refine tk 10 rfl _ ?_; refine tk 11 rfl (.bool false) ?_ (by intro w hSw; go_simp); refine tk 12 rfl _ ?_; refine tk 13 rfl _ ?_; refine tk 14 rfl _ ?_; refine tk 15 rfl (.bool false) ?_ (by intro w hSw; go_simp; try omega); refine tk 16 rfl _ ?_; refine tn 17 rfl ?_; refine tn 18 rfl ?_; refine tn 19 rfl ?_; refine tn 20 rfl ?_; refine tn 21 rfl ?_; refine tn 22 rfl ?_; refine tn 23 rfl ?_; refine tn 24 rfl ?_; refine tn 25 rfl ?_; refine tn 26 rfl ?_; refine tn 27 rfl ?_; refine tn 28 rfl ?_; refine tn 29 rfl ?_; refine tn 30 rfl ?_; refine tn 31 rfl ?_; refine tn 32 rfl ?_; refine tn 33 rfl ?_; refine tn 34 rfl ?_; refine tn 35 rfl ?_; refine tn 36 rfl ?_; refine tk 37 rfl _ ?_; refine tk 38 rfl _ ?_
      refine wpAnyH_done (by kernel_rfl) ?_ _
      have B3 := aside hHeld.2
      clear hHeld SY
      go_wp2
      go_meet
      exact ⟨by first | rfl | (rw [HTL.out]), B3.out⟩
     ·obtain ⟨k, rfl⟩ : ∃ k, i = k + 1 := ⟨i - 1, by omega⟩
      clear hi1
      obtain ⟨hatk, -⟩ := HCC.out k (by omega)
      obtain ⟨pk, hpk⟩ : ∃ pk, P k = pk := ⟨_, rfl⟩
      rw [hpk] at hatk
      obtain ⟨-, -, d2, d3, -⟩ := hatk
      have HPK := aside hpk
      clear hpk
      obtain ⟨h1, hh1⟩ : ∃ h1, pk.hi = h1 := ⟨_, rfl⟩
      obtain ⟨o1, ho1⟩ : ∃ o1, pk.op = o1 := ⟨_, rfl⟩
      rw [hh1] at d2
      rw [ho1] at d3
      have HH1 := aside (show ahHi P (k + 1) = h1 from by simp only [ahHi]; rw [HPK.out]; exact hh1)
      have HO1 := aside (show ahOp P (k + 1) = o1 from by simp only [ahOp]; rw [HPK.out]; exact ho1)
      clear hh1 ho1
      have hk0 : (0 : Int) ≤ (k : Int) := by omega
      have hk1 : (k : Int) < (len : Int) := by omega
      have hk2 : (0 : Int) ≤ (k : Int) + 1 := by omega
      have hk3 : (0 : Int) < (k : Int) + 1 := by omega
      have hk4 : (k : Int) + 1 < (len : Int) := by omega
      have hw2 : IntKind.i64.wrap (k : Int) = (k : Int) := by simp only [IntKind.wrap_i64]; omega
      replace d2 := cell_in d2 BW1.out
      replace d3 := cell_in d3 BW1.out
      cases o1
      ·cases hlt1 : Op.bytesLess lo.toList h1.toList
       ·have HTL := aside (show tileB lo hi false (ahHi P (k + 1)) (ahOp P (k + 1)) = false from by unfold tileB; rw [HH1.out, HO1.out]; simp [kLt, hlt1, hlh])
        have SY := aside (fun W (bb : Below w1.heap.size w1 W) => (show Below X0.heap.size X0 W ∧ W.cell? ⟨w.heap.size, 1, none⟩ = some (.string lo) ∧ W.cell? ⟨w.heap.size, 2, none⟩ = some (.string hi) ∧ W.cell? ⟨w.heap.size, 3, none⟩ = some (.bool false) ∧ W.cell? ⟨b, off + k * 8 + 2, none⟩ = some (.string h1) ∧ W.cell? ⟨b, off + k * 8 + 3, none⟩ = some (.bool false) from ⟨B1.out.trans (bb.mono B1.out.size), cell_in p1 bb, cell_in p2 bb, cell_in p3 bb, cell_in d2 bb, cell_in d3 bb⟩))
        clear p0 p1 p2 p3 p4 p5 p6 p7 d2 d3
        refine wp_region_held_drew (S := fun W => (Below X0.heap.size X0 W ∧ W.cell? ⟨w.heap.size, 1, none⟩ = some (.string lo) ∧ W.cell? ⟨w.heap.size, 2, none⟩ = some (.string hi) ∧ W.cell? ⟨w.heap.size, 3, none⟩ = some (.bool false) ∧ W.cell? ⟨b, off + k * 8 + 2, none⟩ = some (.string h1) ∧ W.cell? ⟨b, off + k * 8 + 3, none⟩ = some (.bool false)) ∧ Below w1.heap.size w1 W) (by kernel_rfl) ⟨SY.out _ (Below.refl _ w1).drew, (Below.refl _ w1).drew⟩ (fun hHeld => ?_)
        refine tk 0 rfl _ ?_; refine tk 1 rfl _ ?_; refine tk 2 rfl _ ?_; refine tk 3 rfl _ ?_; refine tk 4 rfl _ ?_; refine tk 5 rfl _ ?_; refine tk 6 rfl _ ?_; refine tk 7 rfl _ ?_; refine tk 8 rfl _ ?_; refine tk 9 rfl _ ?_; refine tk 10 rfl _ ?_; refine tk 11 rfl (.bool false) ?_ (by intro w hSw; go_simp); refine tk 12 rfl _ ?_; refine tk 13 rfl _ ?_; refine tk 14 rfl _ ?_; refine tk 15 rfl (.bool true) ?_ (by intro w hSw; go_simp; try omega); refine tk 16 rfl _ ?_; refine tk 17 rfl _ ?_; refine tk 18 rfl _ ?_; refine tk 19 rfl _ ?_; refine tk 20 rfl _ ?_; refine tk 21 rfl _ ?_; refine tk 22 rfl _ ?_; refine tk 23 rfl _ ?_; refine tk 24 rfl _ ?_; refine tk 25 rfl _ ?_; refine tk 26 rfl _ ?_; refine tk 27 rfl _ ?_; refine tk 28 rfl _ ?_; refine tk 29 rfl _ ?_; refine tk 30 rfl _ ?_; refine tk 31 rfl _ ?_; refine tk 32 rfl _ ?_; refine tk 33 rfl _ ?_; refine tk 34 rfl _ ?_; refine tk 35 rfl (.bool false) ?_ (by intro w hSw; go_simp; try exact hlt1); refine tk 36 rfl _ ?_; refine tk 37 rfl _ ?_; refine tk 38 rfl _ ?_
        refine wpAnyH_done (by kernel_rfl) ?_ _
        have B3 := aside hHeld.2
        clear hHeld SY
        go_wp2
        go_meet
        exact ⟨by first | rfl | (rw [HTL.out]), B3.out⟩
       ·have HTL := aside (show tileB lo hi false (ahHi P (k + 1)) (ahOp P (k + 1)) = true from by unfold tileB; rw [HH1.out, HO1.out]; simp [kLt, hlt1])
        have SY := aside (fun W (bb : Below w1.heap.size w1 W) => (show Below X0.heap.size X0 W ∧ W.cell? ⟨w.heap.size, 1, none⟩ = some (.string lo) ∧ W.cell? ⟨w.heap.size, 2, none⟩ = some (.string hi) ∧ W.cell? ⟨w.heap.size, 3, none⟩ = some (.bool false) ∧ W.cell? ⟨b, off + k * 8 + 2, none⟩ = some (.string h1) ∧ W.cell? ⟨b, off + k * 8 + 3, none⟩ = some (.bool false) from ⟨B1.out.trans (bb.mono B1.out.size), cell_in p1 bb, cell_in p2 bb, cell_in p3 bb, cell_in d2 bb, cell_in d3 bb⟩))
        clear p0 p1 p2 p3 p4 p5 p6 p7 d2 d3
        refine wp_region_held_drew (S := fun W => (Below X0.heap.size X0 W ∧ W.cell? ⟨w.heap.size, 1, none⟩ = some (.string lo) ∧ W.cell? ⟨w.heap.size, 2, none⟩ = some (.string hi) ∧ W.cell? ⟨w.heap.size, 3, none⟩ = some (.bool false) ∧ W.cell? ⟨b, off + k * 8 + 2, none⟩ = some (.string h1) ∧ W.cell? ⟨b, off + k * 8 + 3, none⟩ = some (.bool false)) ∧ Below w1.heap.size w1 W) (by kernel_rfl) ⟨SY.out _ (Below.refl _ w1).drew, (Below.refl _ w1).drew⟩ (fun hHeld => ?_)
        refine tk 0 rfl _ ?_; refine tk 1 rfl _ ?_; refine tk 2 rfl _ ?_; refine tk 3 rfl _ ?_; refine tk 4 rfl _ ?_; refine tk 5 rfl _ ?_; refine tk 6 rfl _ ?_; refine tk 7 rfl _ ?_; refine tk 8 rfl _ ?_; refine tk 9 rfl _ ?_; refine tk 10 rfl _ ?_; refine tk 11 rfl (.bool false) ?_ (by intro w hSw; go_simp); refine tk 12 rfl _ ?_; refine tk 13 rfl _ ?_; refine tk 14 rfl _ ?_; refine tk 15 rfl (.bool true) ?_ (by intro w hSw; go_simp; try omega); refine tk 16 rfl _ ?_; refine tk 17 rfl _ ?_; refine tk 18 rfl _ ?_; refine tk 19 rfl _ ?_; refine tk 20 rfl _ ?_; refine tk 21 rfl _ ?_; refine tk 22 rfl _ ?_; refine tk 23 rfl _ ?_; refine tk 24 rfl _ ?_; refine tk 25 rfl _ ?_; refine tk 26 rfl _ ?_; refine tk 27 rfl _ ?_; refine tk 28 rfl _ ?_; refine tk 29 rfl _ ?_; refine tk 30 rfl _ ?_; refine tk 31 rfl _ ?_; refine tk 32 rfl _ ?_; refine tk 33 rfl _ ?_; refine tk 34 rfl _ ?_; refine tk 35 rfl (.bool true) ?_ (by intro w hSw; go_simp; try exact hlt1); refine tk 36 rfl _ ?_; refine tk 37 rfl _ ?_; refine tk 38 rfl _ ?_
        refine wpAnyH_done (by kernel_rfl) ?_ _
        have B3 := aside hHeld.2
        clear hHeld SY
        go_wp2
        go_meet
        exact ⟨by first | rfl | (rw [HTL.out]), B3.out⟩
      ·have HTL := aside (show tileB lo hi false (ahHi P (k + 1)) (ahOp P (k + 1)) = true from by unfold tileB; rw [HO1.out]; simp)
       have SY := aside (fun W (bb : Below w1.heap.size w1 W) => (show Below X0.heap.size X0 W ∧ W.cell? ⟨w.heap.size, 1, none⟩ = some (.string lo) ∧ W.cell? ⟨w.heap.size, 2, none⟩ = some (.string hi) ∧ W.cell? ⟨w.heap.size, 3, none⟩ = some (.bool false) ∧ W.cell? ⟨b, off + k * 8 + 2, none⟩ = some (.string h1) ∧ W.cell? ⟨b, off + k * 8 + 3, none⟩ = some (.bool true) from ⟨B1.out.trans (bb.mono B1.out.size), cell_in p1 bb, cell_in p2 bb, cell_in p3 bb, cell_in d2 bb, cell_in d3 bb⟩))
       clear p0 p1 p2 p3 p4 p5 p6 p7 d2 d3
       refine wp_region_held_drew (S := fun W => (Below X0.heap.size X0 W ∧ W.cell? ⟨w.heap.size, 1, none⟩ = some (.string lo) ∧ W.cell? ⟨w.heap.size, 2, none⟩ = some (.string hi) ∧ W.cell? ⟨w.heap.size, 3, none⟩ = some (.bool false) ∧ W.cell? ⟨b, off + k * 8 + 2, none⟩ = some (.string h1) ∧ W.cell? ⟨b, off + k * 8 + 3, none⟩ = some (.bool true)) ∧ Below w1.heap.size w1 W) (by kernel_rfl) ⟨SY.out _ (Below.refl _ w1).drew, (Below.refl _ w1).drew⟩ (fun hHeld => ?_)
       refine tk 0 rfl _ ?_; refine tk 1 rfl _ ?_; refine tk 2 rfl _ ?_; refine tk 3 rfl _ ?_; refine tk 4 rfl _ ?_; refine tk 5 rfl _ ?_; refine tk 6 rfl _ ?_; refine tk 7 rfl _ ?_; refine tk 8 rfl _ ?_; refine tk 9 rfl _ ?_; refine tk 10 rfl _ ?_; refine tk 11 rfl (.bool false) ?_ (by intro w hSw; go_simp); refine tk 12 rfl _ ?_; refine tk 13 rfl _ ?_; refine tk 14 rfl _ ?_; refine tk 15 rfl (.bool true) ?_ (by intro w hSw; go_simp; try omega); refine tk 16 rfl _ ?_; refine tk 17 rfl _ ?_; refine tk 18 rfl _ ?_; refine tk 19 rfl _ ?_; refine tk 20 rfl _ ?_; refine tk 21 rfl _ ?_; refine tk 22 rfl _ ?_; refine tk 23 rfl _ ?_; refine tk 24 rfl _ ?_; refine tn 25 rfl ?_; refine tn 26 rfl ?_; refine tn 27 rfl ?_; refine tn 28 rfl ?_; refine tn 29 rfl ?_; refine tn 30 rfl ?_; refine tn 31 rfl ?_; refine tn 32 rfl ?_; refine tn 33 rfl ?_; refine tn 34 rfl ?_; refine tn 35 rfl ?_; refine tk 36 rfl _ ?_; refine tk 37 rfl _ ?_; refine tk 38 rfl _ ?_
       refine wpAnyH_done (by kernel_rfl) ?_ _
       have B3 := aside hHeld.2
       clear hHeld SY
       go_wp2
       go_meet
       exact ⟨by first | rfl | (rw [HTL.out]), B3.out⟩
    ·have HTL := aside (show tileB lo hi false (ahHi P i) (ahOp P i) = true from by unfold tileB; simp [hlh])
     have SY := aside (fun W (bb : Below w1.heap.size w1 W) => (show Below X0.heap.size X0 W ∧ W.cell? ⟨w.heap.size, 1, none⟩ = some (.string lo) ∧ W.cell? ⟨w.heap.size, 2, none⟩ = some (.string hi) ∧ W.cell? ⟨w.heap.size, 3, none⟩ = some (.bool false) from ⟨B1.out.trans (bb.mono B1.out.size), cell_in p1 bb, cell_in p2 bb, cell_in p3 bb⟩))
     clear p0 p1 p2 p3 p4 p5 p6 p7
     refine wp_region_held_drew (S := fun W => (Below X0.heap.size X0 W ∧ W.cell? ⟨w.heap.size, 1, none⟩ = some (.string lo) ∧ W.cell? ⟨w.heap.size, 2, none⟩ = some (.string hi) ∧ W.cell? ⟨w.heap.size, 3, none⟩ = some (.bool false)) ∧ Below w1.heap.size w1 W) (by kernel_rfl) ⟨SY.out _ (Below.refl _ w1).drew, (Below.refl _ w1).drew⟩ (fun hHeld => ?_)
     refine tk 0 rfl _ ?_; refine tk 1 rfl _ ?_; refine tk 2 rfl _ ?_; refine tk 3 rfl _ ?_; refine tk 4 rfl _ ?_; refine tk 5 rfl _ ?_; refine tk 6 rfl _ ?_; refine tk 7 rfl _ ?_; refine tk 8 rfl _ ?_; refine tk 9 rfl _ ?_; refine tk 10 rfl _ ?_; refine tk 11 rfl (.bool true) ?_ (by intro w hSw; go_simp); refine tk 12 rfl _ ?_; refine tk 13 rfl _ ?_; refine tn 14 rfl ?_; refine tn 15 rfl ?_; refine tn 16 rfl ?_; refine tn 17 rfl ?_; refine tn 18 rfl ?_; refine tn 19 rfl ?_; refine tn 20 rfl ?_; refine tn 21 rfl ?_; refine tn 22 rfl ?_; refine tn 23 rfl ?_; refine tn 24 rfl ?_; refine tn 25 rfl ?_; refine tn 26 rfl ?_; refine tn 27 rfl ?_; refine tn 28 rfl ?_; refine tn 29 rfl ?_; refine tn 30 rfl ?_; refine tn 31 rfl ?_; refine tn 32 rfl ?_; refine tn 33 rfl ?_; refine tn 34 rfl ?_; refine tn 35 rfl ?_; refine tn 36 rfl ?_; refine tn 37 rfl ?_; refine tk 38 rfl _ ?_
     refine wpAnyH_done (by kernel_rfl) ?_ _
     have B3 := aside hHeld.2
     clear hHeld SY
     go_wp2
     go_meet
     exact ⟨by first | rfl | (rw [HTL.out]), B3.out⟩
   ·skip
    by_cases hi1 : i = 0
    ·have hiz : ¬ (0 : Int) < (i : Int) := by omega
     have HTL := aside (show tileB lo hi true (ahHi P i) (ahOp P i) = false from by subst hi1; unfold tileB; simp [ahOp, ahHi, kLt]; exact noless2 _)
     clear hi1
     have SY := aside (fun W (bb : Below w1.heap.size w1 W) => (show Below X0.heap.size X0 W ∧ W.cell? ⟨w.heap.size, 1, none⟩ = some (.string lo) ∧ W.cell? ⟨w.heap.size, 2, none⟩ = some (.string hi) ∧ W.cell? ⟨w.heap.size, 3, none⟩ = some (.bool true) from ⟨B1.out.trans (bb.mono B1.out.size), cell_in p1 bb, cell_in p2 bb, cell_in p3 bb⟩))
     clear p0 p1 p2 p3 p4 p5 p6 p7
     refine wp_region_held_drew (S := fun W => (Below X0.heap.size X0 W ∧ W.cell? ⟨w.heap.size, 1, none⟩ = some (.string lo) ∧ W.cell? ⟨w.heap.size, 2, none⟩ = some (.string hi) ∧ W.cell? ⟨w.heap.size, 3, none⟩ = some (.bool true)) ∧ Below w1.heap.size w1 W) (by kernel_rfl) ⟨SY.out _ (Below.refl _ w1).drew, (Below.refl _ w1).drew⟩ (fun hHeld => ?_)
     refine tk 0 rfl _ ?_; refine tk 1 rfl _ ?_; refine tk 2 rfl _ ?_; refine tk 3 rfl _ ?_; refine tk 4 rfl _ ?_; refine tn 5 rfl ?_; refine tn 6 rfl ?_; refine tn 7 rfl ?_; refine tn 8 rfl ?_; refine tn 9 rfl ?_; refine tn 10 rfl ?_; refine tn 11 rfl ?_; refine tk 12 rfl _ ?_; refine tk 13 rfl _ ?_; refine tk 14 rfl _ ?_; refine tk 15 rfl (.bool false) ?_ (by intro w hSw; go_simp; try omega); refine tk 16 rfl _ ?_; refine tn 17 rfl ?_; refine tn 18 rfl ?_; refine tn 19 rfl ?_; refine tn 20 rfl ?_; refine tn 21 rfl ?_; refine tn 22 rfl ?_; refine tn 23 rfl ?_; refine tn 24 rfl ?_; refine tn 25 rfl ?_; refine tn 26 rfl ?_; refine tn 27 rfl ?_; refine tn 28 rfl ?_; refine tn 29 rfl ?_; refine tn 30 rfl ?_; refine tn 31 rfl ?_; refine tn 32 rfl ?_; refine tn 33 rfl ?_; refine tn 34 rfl ?_; refine tn 35 rfl ?_; refine tn 36 rfl ?_; refine tk 37 rfl _ ?_; refine tk 38 rfl _ ?_
     refine wpAnyH_done (by kernel_rfl) ?_ _
     have B3 := aside hHeld.2
     clear hHeld SY
     go_wp2
     go_meet
     exact ⟨by first | rfl | (rw [HTL.out]), B3.out⟩
    ·obtain ⟨k, rfl⟩ : ∃ k, i = k + 1 := ⟨i - 1, by omega⟩
     clear hi1
     obtain ⟨hatk, -⟩ := HCC.out k (by omega)
     obtain ⟨pk, hpk⟩ : ∃ pk, P k = pk := ⟨_, rfl⟩
     rw [hpk] at hatk
     obtain ⟨-, -, d2, d3, -⟩ := hatk
     have HPK := aside hpk
     clear hpk
     obtain ⟨h1, hh1⟩ : ∃ h1, pk.hi = h1 := ⟨_, rfl⟩
     obtain ⟨o1, ho1⟩ : ∃ o1, pk.op = o1 := ⟨_, rfl⟩
     rw [hh1] at d2
     rw [ho1] at d3
     have HH1 := aside (show ahHi P (k + 1) = h1 from by simp only [ahHi]; rw [HPK.out]; exact hh1)
     have HO1 := aside (show ahOp P (k + 1) = o1 from by simp only [ahOp]; rw [HPK.out]; exact ho1)
     clear hh1 ho1
     have hk0 : (0 : Int) ≤ (k : Int) := by omega
     have hk1 : (k : Int) < (len : Int) := by omega
     have hk2 : (0 : Int) ≤ (k : Int) + 1 := by omega
     have hk3 : (0 : Int) < (k : Int) + 1 := by omega
     have hk4 : (k : Int) + 1 < (len : Int) := by omega
     have hw2 : IntKind.i64.wrap (k : Int) = (k : Int) := by simp only [IntKind.wrap_i64]; omega
     replace d2 := cell_in d2 BW1.out
     replace d3 := cell_in d3 BW1.out
     cases o1
     ·cases hlt1 : Op.bytesLess lo.toList h1.toList
      ·have HTL := aside (show tileB lo hi true (ahHi P (k + 1)) (ahOp P (k + 1)) = false from by unfold tileB; rw [HH1.out, HO1.out]; simp [kLt, hlt1])
       have SY := aside (fun W (bb : Below w1.heap.size w1 W) => (show Below X0.heap.size X0 W ∧ W.cell? ⟨w.heap.size, 1, none⟩ = some (.string lo) ∧ W.cell? ⟨w.heap.size, 2, none⟩ = some (.string hi) ∧ W.cell? ⟨w.heap.size, 3, none⟩ = some (.bool true) ∧ W.cell? ⟨b, off + k * 8 + 2, none⟩ = some (.string h1) ∧ W.cell? ⟨b, off + k * 8 + 3, none⟩ = some (.bool false) from ⟨B1.out.trans (bb.mono B1.out.size), cell_in p1 bb, cell_in p2 bb, cell_in p3 bb, cell_in d2 bb, cell_in d3 bb⟩))
       clear p0 p1 p2 p3 p4 p5 p6 p7 d2 d3
       refine wp_region_held_drew (S := fun W => (Below X0.heap.size X0 W ∧ W.cell? ⟨w.heap.size, 1, none⟩ = some (.string lo) ∧ W.cell? ⟨w.heap.size, 2, none⟩ = some (.string hi) ∧ W.cell? ⟨w.heap.size, 3, none⟩ = some (.bool true) ∧ W.cell? ⟨b, off + k * 8 + 2, none⟩ = some (.string h1) ∧ W.cell? ⟨b, off + k * 8 + 3, none⟩ = some (.bool false)) ∧ Below w1.heap.size w1 W) (by kernel_rfl) ⟨SY.out _ (Below.refl _ w1).drew, (Below.refl _ w1).drew⟩ (fun hHeld => ?_)
       refine tk 0 rfl _ ?_; refine tk 1 rfl _ ?_; refine tk 2 rfl _ ?_; refine tk 3 rfl _ ?_; refine tk 4 rfl _ ?_; refine tn 5 rfl ?_; refine tn 6 rfl ?_; refine tn 7 rfl ?_; refine tn 8 rfl ?_; refine tn 9 rfl ?_; refine tn 10 rfl ?_; refine tn 11 rfl ?_; refine tk 12 rfl _ ?_; refine tk 13 rfl _ ?_; refine tk 14 rfl _ ?_; refine tk 15 rfl (.bool true) ?_ (by intro w hSw; go_simp; try omega); refine tk 16 rfl _ ?_; refine tk 17 rfl _ ?_; refine tk 18 rfl _ ?_; refine tk 19 rfl _ ?_; refine tk 20 rfl _ ?_; refine tk 21 rfl _ ?_; refine tk 22 rfl _ ?_; refine tk 23 rfl _ ?_; refine tk 24 rfl _ ?_; refine tk 25 rfl _ ?_; refine tk 26 rfl _ ?_; refine tk 27 rfl _ ?_; refine tk 28 rfl _ ?_; refine tk 29 rfl _ ?_; refine tk 30 rfl _ ?_; refine tk 31 rfl _ ?_; refine tk 32 rfl _ ?_; refine tk 33 rfl _ ?_; refine tk 34 rfl _ ?_; refine tk 35 rfl (.bool false) ?_ (by intro w hSw; go_simp; try exact hlt1); refine tk 36 rfl _ ?_; refine tk 37 rfl _ ?_; refine tk 38 rfl _ ?_
       refine wpAnyH_done (by kernel_rfl) ?_ _
       have B3 := aside hHeld.2
       clear hHeld SY
       go_wp2
       go_meet
       exact ⟨by first | rfl | (rw [HTL.out]), B3.out⟩
      ·have HTL := aside (show tileB lo hi true (ahHi P (k + 1)) (ahOp P (k + 1)) = true from by unfold tileB; rw [HH1.out, HO1.out]; simp [kLt, hlt1])
       have SY := aside (fun W (bb : Below w1.heap.size w1 W) => (show Below X0.heap.size X0 W ∧ W.cell? ⟨w.heap.size, 1, none⟩ = some (.string lo) ∧ W.cell? ⟨w.heap.size, 2, none⟩ = some (.string hi) ∧ W.cell? ⟨w.heap.size, 3, none⟩ = some (.bool true) ∧ W.cell? ⟨b, off + k * 8 + 2, none⟩ = some (.string h1) ∧ W.cell? ⟨b, off + k * 8 + 3, none⟩ = some (.bool false) from ⟨B1.out.trans (bb.mono B1.out.size), cell_in p1 bb, cell_in p2 bb, cell_in p3 bb, cell_in d2 bb, cell_in d3 bb⟩))
       clear p0 p1 p2 p3 p4 p5 p6 p7 d2 d3
       refine wp_region_held_drew (S := fun W => (Below X0.heap.size X0 W ∧ W.cell? ⟨w.heap.size, 1, none⟩ = some (.string lo) ∧ W.cell? ⟨w.heap.size, 2, none⟩ = some (.string hi) ∧ W.cell? ⟨w.heap.size, 3, none⟩ = some (.bool true) ∧ W.cell? ⟨b, off + k * 8 + 2, none⟩ = some (.string h1) ∧ W.cell? ⟨b, off + k * 8 + 3, none⟩ = some (.bool false)) ∧ Below w1.heap.size w1 W) (by kernel_rfl) ⟨SY.out _ (Below.refl _ w1).drew, (Below.refl _ w1).drew⟩ (fun hHeld => ?_)
       refine tk 0 rfl _ ?_; refine tk 1 rfl _ ?_; refine tk 2 rfl _ ?_; refine tk 3 rfl _ ?_; refine tk 4 rfl _ ?_; refine tn 5 rfl ?_; refine tn 6 rfl ?_; refine tn 7 rfl ?_; refine tn 8 rfl ?_; refine tn 9 rfl ?_; refine tn 10 rfl ?_; refine tn 11 rfl ?_; refine tk 12 rfl _ ?_; refine tk 13 rfl _ ?_; refine tk 14 rfl _ ?_; refine tk 15 rfl (.bool true) ?_ (by intro w hSw; go_simp; try omega); refine tk 16 rfl _ ?_; refine tk 17 rfl _ ?_; refine tk 18 rfl _ ?_; refine tk 19 rfl _ ?_; refine tk 20 rfl _ ?_; refine tk 21 rfl _ ?_; refine tk 22 rfl _ ?_; refine tk 23 rfl _ ?_; refine tk 24 rfl _ ?_; refine tk 25 rfl _ ?_; refine tk 26 rfl _ ?_; refine tk 27 rfl _ ?_; refine tk 28 rfl _ ?_; refine tk 29 rfl _ ?_; refine tk 30 rfl _ ?_; refine tk 31 rfl _ ?_; refine tk 32 rfl _ ?_; refine tk 33 rfl _ ?_; refine tk 34 rfl _ ?_; refine tk 35 rfl (.bool true) ?_ (by intro w hSw; go_simp; try exact hlt1); refine tk 36 rfl _ ?_; refine tk 37 rfl _ ?_; refine tk 38 rfl _ ?_
       refine wpAnyH_done (by kernel_rfl) ?_ _
       have B3 := aside hHeld.2
       clear hHeld SY
       go_wp2
       go_meet
       exact ⟨by first | rfl | (rw [HTL.out]), B3.out⟩
     ·have HTL := aside (show tileB lo hi true (ahHi P (k + 1)) (ahOp P (k + 1)) = true from by unfold tileB; rw [HO1.out]; simp)
      have SY := aside (fun W (bb : Below w1.heap.size w1 W) => (show Below X0.heap.size X0 W ∧ W.cell? ⟨w.heap.size, 1, none⟩ = some (.string lo) ∧ W.cell? ⟨w.heap.size, 2, none⟩ = some (.string hi) ∧ W.cell? ⟨w.heap.size, 3, none⟩ = some (.bool true) ∧ W.cell? ⟨b, off + k * 8 + 2, none⟩ = some (.string h1) ∧ W.cell? ⟨b, off + k * 8 + 3, none⟩ = some (.bool true) from ⟨B1.out.trans (bb.mono B1.out.size), cell_in p1 bb, cell_in p2 bb, cell_in p3 bb, cell_in d2 bb, cell_in d3 bb⟩))
      clear p0 p1 p2 p3 p4 p5 p6 p7 d2 d3
      refine wp_region_held_drew (S := fun W => (Below X0.heap.size X0 W ∧ W.cell? ⟨w.heap.size, 1, none⟩ = some (.string lo) ∧ W.cell? ⟨w.heap.size, 2, none⟩ = some (.string hi) ∧ W.cell? ⟨w.heap.size, 3, none⟩ = some (.bool true) ∧ W.cell? ⟨b, off + k * 8 + 2, none⟩ = some (.string h1) ∧ W.cell? ⟨b, off + k * 8 + 3, none⟩ = some (.bool true)) ∧ Below w1.heap.size w1 W) (by kernel_rfl) ⟨SY.out _ (Below.refl _ w1).drew, (Below.refl _ w1).drew⟩ (fun hHeld => ?_)
      refine tk 0 rfl _ ?_; refine tk 1 rfl _ ?_; refine tk 2 rfl _ ?_; refine tk 3 rfl _ ?_; refine tk 4 rfl _ ?_; refine tn 5 rfl ?_; refine tn 6 rfl ?_; refine tn 7 rfl ?_; refine tn 8 rfl ?_; refine tn 9 rfl ?_; refine tn 10 rfl ?_; refine tn 11 rfl ?_; refine tk 12 rfl _ ?_; refine tk 13 rfl _ ?_; refine tk 14 rfl _ ?_; refine tk 15 rfl (.bool true) ?_ (by intro w hSw; go_simp; try omega); refine tk 16 rfl _ ?_; refine tk 17 rfl _ ?_; refine tk 18 rfl _ ?_; refine tk 19 rfl _ ?_; refine tk 20 rfl _ ?_; refine tk 21 rfl _ ?_; refine tk 22 rfl _ ?_; refine tk 23 rfl _ ?_; refine tk 24 rfl _ ?_; refine tn 25 rfl ?_; refine tn 26 rfl ?_; refine tn 27 rfl ?_; refine tn 28 rfl ?_; refine tn 29 rfl ?_; refine tn 30 rfl ?_; refine tn 31 rfl ?_; refine tn 32 rfl ?_; refine tn 33 rfl ?_; refine tn 34 rfl ?_; refine tn 35 rfl ?_; refine tk 36 rfl _ ?_; refine tk 37 rfl _ ?_; refine tk 38 rfl _ ?_
      refine wpAnyH_done (by kernel_rfl) ?_ _
      have B3 := aside hHeld.2
      clear hHeld SY
      go_wp2
      go_meet
      exact ⟨by first | rfl | (rw [HTL.out]), B3.out⟩
  case rest =>
   obtain ⟨rfl, hbc⟩ := hcut
   have BC := aside (B1.out.trans (hbc.mono B1.out.size))
   clear p0 p1 p2 p3 p4 p5 p6 p7 hbc
   obtain ⟨p0, p1, p2, p3, p4, p5, p6, p7⟩ := SX.out _ BC.out
   cases htl : tileB lo hi op (ahHi P i) (ahOp P i)
   ·have HTL := aside htl
    go_wp2_with fail
    refine (CI.out _ (bthen BX.out BC.out)).mono ?_
    rintro e w3 ⟨rfl, b3⟩
    have B3 := aside (BC.out.trans (b3.mono BC.out.size))
    clear b3 p0 p1 p2 p3 p4 p5 p6 p7
    go_wp2
    go_ret
    exact ⟨ret_i64 (((pt_rest HP.out HA.out H2.out HTL.out).trans (if_neg HK.out)).symm), bthen BX.out B3.out⟩
   ·have HTL := aside htl
    go_wp2
    go_ret
    exact ⟨ret_i64 ((pt_tile HP.out HA.out H2.out HTL.out).symm), bthen BX.out BC.out⟩
 ·have b2 : (q2 == 0) = false := by simpa using h2
  have N2 := aside h2
  go_enter Tryz.func63, Tryz.ntmps63
  go_wp2_with fail
  have BX := aside (bnew w (.cells #[.int .i64 kind, .string lo, .string hi, .bool op, .int .i64 cnt, .int .u64 s0, .int .u64 s1, .slice ea el ec] 47))
  have KX := aside (heap_alloc_new w (.cells #[.int .i64 kind, .string lo, .string hi, .bool op, .int .i64 cnt, .int .u64 s0, .int .u64 s1, .slice ea el ec] 47))
  generalize w.alloc (.cells #[.int .i64 kind, .string lo, .string hi, .bool op, .int .i64 cnt, .int .u64 s0, .int .u64 s1, .slice ea el ec] 47) = X0 at BX KX ⊢
  have SX := aside (fun W (bb : Below X0.heap.size X0 W) => (show W.cell? ⟨w.heap.size, 0, none⟩ = some (.int .i64 kind) ∧ W.cell? ⟨w.heap.size, 1, none⟩ = some (.string lo) ∧ W.cell? ⟨w.heap.size, 2, none⟩ = some (.string hi) ∧ W.cell? ⟨w.heap.size, 3, none⟩ = some (.bool op) ∧ W.cell? ⟨w.heap.size, 4, none⟩ = some (.int .i64 cnt) ∧ W.cell? ⟨w.heap.size, 5, none⟩ = some (.int .u64 s0) ∧ W.cell? ⟨w.heap.size, 6, none⟩ = some (.int .u64 s1) ∧ W.cell? ⟨w.heap.size, 7, none⟩ = some (.slice ea el ec) from oct8 (blk_on KX.out bb)))
  refine (C2.out _).mono ?_
  rintro e w1 ⟨rfl, b1⟩
  have B1 := aside b1
  clear b1
  obtain ⟨p0, p1, p2, p3, p4, p5, p6, p7⟩ := SX.out _ B1.out
  go_wp2
  go_ret
  exact ⟨ret_i64 ((pt_rg HP.out HA.out H2.out N2.out).symm), bthen BX.out B1.out⟩
theorem rpart_any (a : Option Addr) (len cap : Nat) (P : Nat → Pm) (i : Nat) (w : World) (h : PartsIn w a len cap P) (hi0 : i < len) :
    Calls Tryz.prog 63 #[.slice a len cap, .int .i64 (i : Int)] w fun e w' => e = .returned (.int .i64 (ptAt P i)) ∧ Below w.heap.size w w' := by
 obtain ⟨p, hp⟩ : ∃ p, P i = p := ⟨_, rfl⟩
 obtain ⟨kind, lo, hi, op, cnt, s0, s1, ea, el, ec, T⟩ := p
 cases ha : Pm.alone ⟨kind, lo, hi, op, cnt, s0, s1, ea, el, ec, T⟩
 ·exact rpart_bad a len cap P i w h hi0 kind lo hi op cnt s0 s1 ea el ec T hp ha
 ·unfold Pm.alone at ha
  dsimp only at ha
  by_cases h1 : kind = 1
  ·rw [if_pos h1] at ha
   exact rpart_pr a len cap P i w h hi0 kind lo hi op cnt s0 s1 ea el ec T hp h1 (by simpa using ha)
  ·rw [if_neg h1] at ha
   by_cases h2 : kind = 2 ∨ kind = 3
   ·rw [if_pos h2] at ha
    exact rpart_np a len cap P i w h hi0 kind lo hi op cnt s0 s1 ea el ec T hp h2 ha
   ·rw [if_neg h2] at ha
    cases ha
theorem rpart_of {a : Option Addr} {len cap : Nat} {P : Nat → Pm} {i : Nat} {w : World} (h : PartsIn w a len cap P) (hi0 : i < len) {q : Int} (hq : ptAt P i = q) :
    Calls Tryz.prog 63 #[.slice a len cap, .int .i64 (i : Int)] w fun e w' => e = .returned (.int .i64 q) ∧ Below w.heap.size w w' := by
 subst hq
 exact rpart_any a len cap P i w h hi0
set_option maxHeartbeats 6400000 in
set_option maxRecDepth 100000 in
theorem partsR_any (a : Option Addr) (len cap : Nat) (P : Nat → Pm) (w : World) (h : PartsIn w a len cap P) :
    Calls Tryz.prog 35 #[.slice a len cap] w fun e w' => e = .returned (.int .i64 (psChk P len)) ∧ Below w.heap.size w w' := by
 have HE := aside h
 obtain ⟨hlc, hcm, -⟩ := h
 have hmx : (len : Int) ≤ 9223372036854775807 := by unfold maxLen at hcm; omega
 clear hlc hcm
 by_cases h1 : (768 : Int) < (len : Int)
 ·go_enter Tryz.func35, Tryz.ntmps35
  go_wp2
  go_ret
  exact ⟨ret_i64 (by unfold psChk; rw [if_pos (.inl (by omega))]), Below.refl _ _⟩
 ·go_enter Tryz.func35, Tryz.ntmps35
  go_wp2
  go_loopw [3, 4] (fun c i wr => ∃ j : Nat, c = .int .i64 (totE P j : Int) ∧ i = .int .i64 (j : Int) ∧ j ≤ len ∧ Hid (totE P j ≤ 256) ∧ Hid (Below w.heap.size w wr)) (fun c i _ => len - (intOf i).toNat)
  case atStart => exact ⟨0, rfl, rfl, Nat.zero_le _, Nat.zero_le _, Below.refl _ _⟩
  case round =>
   obtain ⟨j, rfl, rfl, hj, HM, HB0⟩ := hrel
   by_cases hlt : (j : Int) < (len : Int)
   ·have hE := HE.out.keep HB0.out
    rcases hE.2.2 with h0 | ⟨b, off, rfl, hb, hc⟩
    ·omega
    obtain ⟨hat, hin⟩ := hc j (by omega)
    obtain ⟨p, hp⟩ : ∃ p, P j = p := ⟨_, rfl⟩
    have HP := aside hp
    rw [hp] at hat hin
    clear hp hc
    obtain ⟨kind, lo, hi, op, cnt, s0, s1, ea, el, ec, T⟩ := p
    obtain ⟨c0, c1, c2, c3, c4, c5, c6, c7⟩ := hat
    dsimp only at c0 c1 c2 c3 c4 c5 c6 c7
    have hj0 : (0 : Int) ≤ (j : Int) := by omega
    have hst : totE P (j + 1) = totE P j + el := by simp only [totE, HP.out]
    have HST := aside hst
    have hEL := hin.1
    have hEC := hin.2.1
    unfold maxLen at hEC
    obtain ⟨tj, htj⟩ : ∃ tj, totE P j = tj := ⟨_, rfl⟩
    rw [htj] at hst HM ⊢
    have htj2 : (tj : Int) ≤ 256 := by have := HM.out; omega
    have hw1 : IntKind.i64.wrap (256 - (tj : Int)) = 256 - (tj : Int) := by simp only [IntKind.wrap_i64]; omega
    by_cases hbig : 256 - (tj : Int) < (el : Int)
    ·have HBG := aside (show 256 < totE P len from by have h1 := totE_mono P (i := j + 1) (n := len) (by omega); have h2 := HST.out; omega)
     clear hin hst hEL hEC
     go_wp2
     go_ret
     exact ⟨ret_i64 (by unfold psChk; rw [if_pos (.inr HBG.out)]), HB0.out⟩
    ·have hw : IntKind.i64.wrap ((tj : Int) + (el : Int)) = (totE P (j + 1) : Int) := by simp only [IntKind.wrap_i64]; omega
     have HMN := aside (show totE P (j + 1) ≤ 256 from by omega)
     clear hin hst hEL hEC
     go_wp2
     go_roundw
     case rel => exact ⟨j + 1, by first | rfl | rw [hw], by go_num, by omega, HMN.out, HB0.out⟩
     case measure => simp [intOf]; omega
   ·have hjl : j = len := by omega
    subst hjl
    have HPS := aside (show psChk P j = ptN P j from by unfold psChk; rw [if_neg (by have := HM.out; omega)])
    go_wp2
    go_loopw [5] (fun i wr => ∃ k : Nat, i = .int .i64 (k : Int) ∧ k ≤ j ∧ Hid (ptN P k = 0) ∧ Below w.heap.size w wr) (fun i _ => j - (intOf i).toNat)
    case atStart => exact ⟨0, rfl, Nat.zero_le _, rfl, HB0.out⟩
    case round =>
     obtain ⟨k, rfl, hk, HC, hB⟩ := hrel
     have HB := aside hB
     clear hB
     by_cases hlt2 : (k : Int) < (j : Int)
     ·obtain ⟨q2, hq2⟩ : ∃ q2, ptAt P k = q2 := ⟨_, rfl⟩
      have HQ2 := aside hq2
      have CQ := aside (rpart_of (HE.out.keep HB.out) (show k < j by omega) hq2)
      clear hq2
      by_cases hq0 : q2 = 0
      ·subst hq0
       go_wp2_with fail
       refine CQ.out.mono ?_
       rintro e w2 ⟨rfl, b2⟩
       have B2 := aside (HB.out.trans (b2.mono HB.out.size))
       clear b2 CQ
       go_wp2
       go_roundw
       case rel => exact ⟨k + 1, by go_num, by omega, (ptN_step HC.out).trans HQ2.out, B2.out⟩
       case measure => simp [intOf]; omega
      ·have HQ0 := aside hq0
       go_wp2_with fail
       refine CQ.out.mono ?_
       rintro e w2 ⟨rfl, b2⟩
       have B2 := aside (HB.out.trans (b2.mono HB.out.size))
       clear b2 CQ
       have hqb : (q2 == 0) = false := by simpa using hq0
       go_wp2
       go_ret
       exact ⟨ret_i64 (by rw [HPS.out, ptN_bad HC.out (by omega) (by rw [HQ2.out]; exact HQ0.out)]; exact HQ2.out.symm), B2.out⟩
     ·have hkl : k = j := by omega
      subst hkl
      go_wp2
      go_ret
      exact ⟨ret_i64 (by rw [HPS.out]; exact HC.out.symm), HB.out⟩
end Go.Proofs.YtpbkjffiohfkcaaGreatDoor
