/-
  The law FrameTurns, walked: it returns true at any node, name and tally.
-/
import Derived.Test.YtfnmpfaecafckaaFeW
namespace Go.Proofs.Ytfnmpfaecafckaa
open Go.RowKit
set_option linter.unusedVariables false

set_option maxHeartbeats 12800000 in
set_option maxRecDepth 100000 in
theorem fturns_walk (peer o l n c x z : Int) (w : World) :
    Calls Try.prog 3 #[.int .i64 peer, .agg #[.int .i64 o, .int .i64 l, .int .i64 n], .agg #[.int .i64 c, .int .u64 x, .int .u64 z]] w fun e w' => e = .returned (.bool true) ∧ Below w.heap.size w w' := by
  obtain ⟨q, hq⟩ : ∃ q, fChk o peer o l n 0 (P1 c x z) 1 = q := ⟨_, rfl⟩
  have C1 := aside (fun W => first_any peer o l n c x z W)
  have C2 := aside (fun W => firstR_any peer o l n c x z W)
  rw [hq] at C1 C2
  have HQ := aside hq
  unfold TellsF at C1 C2
  clear hq
  by_cases h0 : q = 0
  · subst h0
    go_enter Try.func3, Try.ntmps3
    go_wp2_with fail
    have BX := aside (bthen (bnew w (.cells #[.int .i64 o, .int .i64 l, .int .i64 n] 23)) (bnew _ (.cells #[.int .i64 c, .int .u64 x, .int .u64 z] 28)))
    have KN := aside (blk_on (heap_alloc_new w (.cells #[.int .i64 o, .int .i64 l, .int .i64 n] 23)) (bnew _ (.cells #[.int .i64 c, .int .u64 x, .int .u64 z] 28)))
    have KT := aside (heap_alloc_new (w.alloc (.cells #[.int .i64 o, .int .i64 l, .int .i64 n] 23)) (.cells #[.int .i64 c, .int .u64 x, .int .u64 z] 28))
    rw [World.size_alloc] at KT
    refine (C1.out _).mono ?_
    rintro e w1 ⟨b1, h1⟩
    obtain ⟨g1, c1, rfl, hp1⟩ : ∃ g1 c1, e = .returned (.tuple #[.agg #[.int .i64 o, .int .i64 peer, .int .i64 o, .int .i64 l, .int .i64 n, .int .i64 0, .slice (some ⟨g1, 0, none⟩) 1 c1], .int .i64 0]) ∧ PartsIn w1 (some ⟨g1, 0, none⟩) 1 c1 (P1 c x z) := by
      rcases h1 with ⟨-, g, cp, h1, h2, -⟩ | ⟨hx, -⟩
      · exact ⟨g, cp, h1, h2⟩
      · exact absurd rfl hx
    clear h1
    have KN1 := aside (blk_on KN.out b1)
    have KT1 := aside (blk_on KT.out b1)
    have B1 := aside (bthen BX.out b1)
    clear b1 KN KT BX
    go_upto_region 2 with fail
    have KF1 := aside (heap_alloc_new w1 (.cells #[.int .i64 o, .int .i64 peer, .int .i64 o, .int .i64 l, .int .i64 n, .int .i64 0, .slice (some ⟨g1, 0, none⟩) 1 c1] 31))
    have BA := aside (bnew w1 (.cells #[.int .i64 o, .int .i64 peer, .int .i64 o, .int .i64 l, .int .i64 n, .int .i64 0, .slice (some ⟨g1, 0, none⟩) 1 c1] 31))
    obtain ⟨fb1, hfb1⟩ : ∃ fb1, w1.heap.size = fb1 := ⟨_, rfl⟩
    have HFB := aside (show w.heap.size < fb1 from by have h1 := (Array.getElem?_eq_some_iff.1 KN1.out).1; omega)
    rw [hfb1] at KF1 ⊢
    clear hfb1
    generalize w1.alloc (.cells #[.int .i64 o, .int .i64 peer, .int .i64 o, .int .i64 l, .int .i64 n, .int .i64 0, .slice (some ⟨g1, 0, none⟩) 1 c1] 31) = Y1 at KF1 BA ⊢
    have KN2 := aside (blk_on KN1.out BA.out)
    obtain ⟨n0, n1, n2, -⟩ := tri KN2.out
    obtain ⟨t0, t1, t2, -⟩ := tri (blk_on KT1.out BA.out)
    have B2 := aside (bthen B1.out BA.out)
    have HP1 := aside (hp1.keep BA.out)
    clear hp1
    clear KN1 KT1 B1 BA
    go_wp2_with fail
    refine (C2.out _).mono ?_
    rintro e w2 ⟨b2, h2⟩
    obtain ⟨g2, c2, rfl, hp2⟩ : ∃ g2 c2, e = .returned (.tuple #[.agg #[.int .i64 o, .int .i64 peer, .int .i64 o, .int .i64 l, .int .i64 n, .int .i64 0, .slice (some ⟨g2, 0, none⟩) 1 c2], .int .i64 0]) ∧ PartsIn w2 (some ⟨g2, 0, none⟩) 1 c2 (P1 c x z) := by
      rcases h2 with ⟨-, g, cp, h1, h2, -⟩ | ⟨hx, -⟩
      · exact ⟨g, cp, h1, h2⟩
      · exact absurd rfl hx
    clear h2
    have BA := aside (bthen b2 (bnew w2 (.cells #[.int .i64 o, .int .i64 peer, .int .i64 o, .int .i64 l, .int .i64 n, .int .i64 0, .slice (some ⟨g2, 0, none⟩) 1 c2] 31)))
    have KN3 := aside (blk_on KN2.out BA.out)
    have KF3 := aside (blk_on KF1.out BA.out)
    have HP3 := aside (HP1.out.keep BA.out)
    have B3 := aside (bthen B2.out BA.out)
    clear b2 hp2 n0 n1 n2 t0 t1 t2 B2 KN2 KF1 HP1
    go_upto_region 5 with fail
    generalize w2.alloc (.cells #[.int .i64 o, .int .i64 peer, .int .i64 o, .int .i64 l, .int .i64 n, .int .i64 0, .slice (some ⟨g2, 0, none⟩) 1 c2] 31) = Y2 at BA KN3 KF3 HP3 B3 ⊢
    clear BA
    have KP := aside (heap_alloc_new Y2 (.cells #[.int .i64 2, .string ⟨#[]⟩, .string ⟨#[]⟩, .bool true, .int .i64 0, .int .u64 0, .int .u64 0, .slice none 0 0] 39))
    have BB := aside (bnew Y2 (.cells #[.int .i64 2, .string ⟨#[]⟩, .string ⟨#[]⟩, .bool true, .int .i64 0, .int .u64 0, .int .u64 0, .slice none 0 0] 39))
    have KN4 := aside (blk_on KN3.out BB.out)
    have KF4 := aside (blk_on KF3.out BB.out)
    have HP4 := aside (HP3.out.keep BB.out)
    have B4 := aside (bthen B3.out BB.out)
    have HPK := aside (show fb1 < Y2.heap.size from (Array.getElem?_eq_some_iff.1 KF3.out).1)
    clear KN3 KF3 HP3 B3
    go_wp2
    obtain ⟨pk, hpk⟩ : ∃ pk, Y2.heap.size = pk := ⟨_, rfl⟩
    rw [hpk] at KP HPK ⊢
    clear hpk BB
    generalize Y2.alloc (.cells #[.int .i64 2, .string ⟨#[]⟩, .string ⟨#[]⟩, .bool true, .int .i64 0, .int .u64 0, .int .u64 0, .slice none 0 0] 39) = X5 at KP KN4 KF4 HP4 B4 ⊢
    go_loopw [12] (fun i wr => ∃ (j : Nat) (fr tz : Int) (Pc : Nat → Pm) (g cp : Nat), i = .int .i64 ((j : Int) + 1) ∧ j ≤ 63 ∧ Hid (fChk fr tz o l n (j : Int) Pc 1 = 0) ∧ Hid (totE Pc 1 = 0) ∧ Hid (PartsIn wr (some ⟨g, 0, none⟩) 1 cp Pc) ∧ Hid (wr.heap[fb1]? = some (.cells #[.int .i64 fr, .int .i64 tz, .int .i64 o, .int .i64 l, .int .i64 n, .int .i64 (j : Int), .slice (some ⟨g, 0, none⟩) 1 cp] 31 (0, 0))) ∧ Hid (wr.heap[w.heap.size]? = some (.cells #[.int .i64 o, .int .i64 l, .int .i64 n] 23 (0, 0))) ∧ Hid (wr.heap[pk]? = some (.cells #[.int .i64 2, .string ⟨#[]⟩, .string ⟨#[]⟩, .bool true, .int .i64 0, .int .u64 0, .int .u64 0, .slice none 0 0] 39 (0, 0))) ∧ Hid (Below w.heap.size w wr)) (fun i _ => 64 - (intOf i).toNat)
    case atStart => exact ⟨0, o, peer, P1 c x z, g1, c1, rfl, by omega, HQ.out, P1_tot c x z, HP4.out, KF4.out, KN4.out, KP.out, B4.out⟩
    case round =>
      obtain ⟨j, fr, tz, Pc, g, cp, rfl, hj, HC, HT, HPR, HF, HNN, HPP, HB⟩ := hrel
      obtain ⟨f0, f1, f2, f3, f4, f5, f6⟩ := sep7 HF.out
      by_cases hlt : (j : Int) + 1 ≤ 63
      · have HNX := aside (next_turn HC.out (show (j : Int) < 63 by omega))
        go_wp2_with fail
        refine (answer_ok fr tz o l n (j : Int) (some ⟨g, 0, none⟩) 1 cp Pc ⟨pk, 0, none⟩ 1 1 P2 _ HPR.out (by rw [HT.out]; omega) HC.out ⟨by omega, by omega⟩ (P2_in HPP.out) (by omega) (P2_no 1) (by omega) (by rw [P2_tot]; omega)).mono ?_
        rintro e w1 ⟨b1, h1⟩
        obtain ⟨g2, cp2, rfl, hp2, hg2⟩ : ∃ g2 cp2, e = .returned (.tuple #[.agg #[.int .i64 tz, .int .i64 fr, .int .i64 o, .int .i64 l, .int .i64 n, .int .i64 ((j : Int) + 1), .slice (some ⟨g2, 0, none⟩) 1 cp2], .int .i64 0]) ∧ PartsIn w1 (some ⟨g2, 0, none⟩) 1 cp2 P2 ∧ fb1 < g2 := by
          rcases h1 with ⟨-, g, cp, h1, h2, h3⟩ | ⟨hx, -⟩
          · exact ⟨g, cp, h1, h2, by have h4 := (Array.getElem?_eq_some_iff.1 HF.out).1; omega⟩
          · exact absurd HNX.out hx
        have HG2 := aside hg2
        have KF1 := aside (blk_on HF.out b1)
        have KN1 := aside (blk_on HNN.out b1)
        have KP1 := aside (blk_on HPP.out b1)
        have B1 := aside (bthen HB.out b1)
        clear h1 hg2 b1 f0 f1 f2 f3 f4 f5 f6 HF HNN HPP HB HPR
        go_upto_region 10 with fail
        have BA := aside (bnew w1 (.cells #[.int .i64 tz, .int .i64 fr, .int .i64 o, .int .i64 l, .int .i64 n, .int .i64 ((j : Int) + 1), .slice (some ⟨g2, 0, none⟩) 1 cp2] 31))
        have KG := aside (heap_alloc_new w1 (.cells #[.int .i64 tz, .int .i64 fr, .int .i64 o, .int .i64 l, .int .i64 n, .int .i64 ((j : Int) + 1), .slice (some ⟨g2, 0, none⟩) 1 cp2] 31))
        obtain ⟨fb3, hfb3⟩ : ∃ fb3, w1.heap.size = fb3 := ⟨_, rfl⟩
        rw [hfb3] at KG ⊢
        clear hfb3
        generalize w1.alloc (.cells #[.int .i64 tz, .int .i64 fr, .int .i64 o, .int .i64 l, .int .i64 n, .int .i64 ((j : Int) + 1), .slice (some ⟨g2, 0, none⟩) 1 cp2] 31) = Y at BA KG ⊢
        have KF3 := aside (blk_on KF1.out BA.out)
        have KN3 := aside (blk_on KN1.out BA.out)
        have KP3 := aside (blk_on KP1.out BA.out)
        have Q3 := aside (hp2.keep BA.out)
        have A3 := aside (bthen B1.out BA.out)
        clear hp2 BA KF1 KN1 KP1 B1
        obtain ⟨f0, f1, f2, f3, f4, f5, f6⟩ := sep7 KF3.out
        obtain ⟨e0, e1, e2, e3, e4, e5, e6⟩ := sep7 KG.out
        obtain ⟨n0, n1, n2, -⟩ := tri KN3.out
        have NQ := fun W => name_ne_same o l n W
        go_wp2_with fail
        refine (chkf_of Q3.out (by rw [P2_tot]; omega) HNX.out).mono ?_
        rintro e w4 ⟨rfl, b4⟩
        have KF4 := aside (blk_on KF3.out b4)
        have KN4 := aside (blk_on KN3.out b4)
        have KP4 := aside (blk_on KP3.out b4)
        have KG4 := aside (blk_on KG.out b4)
        have Q4 := aside (Q3.out.keep b4)
        have A4 := aside (bthen A3.out b4)
        clear b4 f0 f1 f2 f3 f4 f5 f6 e0 e1 e2 e3 e4 e5 e6 n0 n1 n2 NQ KF3 KN3 KP3 KG Q3 A3
        obtain ⟨e0, e1, e2, e3, e4, e5, e6⟩ := sep7 KG4.out
        go_wp2_with fail
        refine (closing_pos tz fr o l n ((j : Int) + 1) _ 1 cp2 _ (by omega)).mono ?_
        rintro e w5 ⟨rfl, b5⟩
        have KF5 := aside (blk_on KF4.out b5)
        have KN5 := aside (blk_on KN4.out b5)
        have KP5 := aside (blk_on KP4.out b5)
        have KG5 := aside (blk_on KG4.out b5)
        have Q5 := aside (Q4.out.keep b5)
        have A5 := aside (bthen A4.out b5)
        clear b5 e0 e1 e2 e3 e4 e5 e6 KF4 KN4 KP4 KG4 Q4 A4
        go_upto_region 12 with fail
        obtain ⟨e0, e1, e2, e3, e4, e5, e6⟩ := sep7 KG5.out
        have HLE : w.heap.size ≤ fb1 := by have := HFB.out; omega
        obtain ⟨a0, a1, a2, a3, a4, a5, a6, hkz⟩ : ∃ a0 a1 a2 a3 a4 a5 a6 : Value, w5.heap[fb1]? = some (Obj.cells #[a0, a1, a2, a3, a4, a5, a6] 31 (0, 0)) := ⟨_, _, _, _, _, _, _, KF5.out⟩
        clear KF5
        have KF5 := aside hkz
        clear hkz
        obtain ⟨z0, z1, z2, z3, z4, z5, z6⟩ := sep7 KF5.out
        have y0 := frozen_of_row _ _ 0 _ _ KF5.out
        have y1 := frozen_of_row _ _ 1 _ _ KF5.out
        have y2 := frozen_of_row _ _ 2 _ _ KF5.out
        have y3 := frozen_of_row _ _ 3 _ _ KF5.out
        have y4 := frozen_of_row _ _ 4 _ _ KF5.out
        have y5 := frozen_of_row _ _ 5 _ _ KF5.out
        have y6 := frozen_of_row _ _ 6 _ _ KF5.out
        have KR := (set_in 6 (.slice (some ⟨g2, 0, none⟩) 1 cp2) (set_in 5 (.int .i64 ((j : Int) + 1)) (set_in 4 (.int .i64 n) (set_in 3 (.int .i64 l) (set_in 2 (.int .i64 o) (set_in 1 (.int .i64 fr) (set_in 0 (.int .i64 tz) KF5.out)))))))
        simp only [List.setIfInBounds_toArray, List.set_cons_zero, List.set_cons_succ] at KR
        have HKR := aside KR
        have BF := aside ((((((((A5.out.setCell (p := ⟨fb1, 0, none⟩) HLE (.int .i64 tz)).setCell (p := ⟨fb1, 1, none⟩) HLE (.int .i64 fr)).setCell (p := ⟨fb1, 2, none⟩) HLE (.int .i64 o)).setCell (p := ⟨fb1, 3, none⟩) HLE (.int .i64 l)).setCell (p := ⟨fb1, 4, none⟩) HLE (.int .i64 n)).setCell (p := ⟨fb1, 5, none⟩) HLE (.int .i64 ((j : Int) + 1))).setCell (p := ⟨fb1, 6, none⟩) HLE (.slice (some ⟨g2, 0, none⟩) 1 cp2)))
        clear KR
        have HPF := aside ((parts_at (k := 6) (parts_at (k := 5) (parts_at (k := 4) (parts_at (k := 3) (parts_at (k := 2) (parts_at (k := 1) (parts_at (k := 0) Q5.out (P2_no 1) (show fb1 ≠ g2 by have := HG2.out; omega) (.int .i64 tz)) (P2_no 1) (show fb1 ≠ g2 by have := HG2.out; omega) (.int .i64 fr)) (P2_no 1) (show fb1 ≠ g2 by have := HG2.out; omega) (.int .i64 o)) (P2_no 1) (show fb1 ≠ g2 by have := HG2.out; omega) (.int .i64 l)) (P2_no 1) (show fb1 ≠ g2 by have := HG2.out; omega) (.int .i64 n)) (P2_no 1) (show fb1 ≠ g2 by have := HG2.out; omega) (.int .i64 ((j : Int) + 1))) (P2_no 1) (show fb1 ≠ g2 by have := HG2.out; omega) (.slice (some ⟨g2, 0, none⟩) 1 cp2)))
        have KNF := aside ((set_far1 (set_far1 (set_far1 (set_far1 (set_far1 (set_far1 (set_far1 KN5.out (show w.heap.size ≠ fb1 by have := HFB.out; omega) 0 (.int .i64 tz)) (show w.heap.size ≠ fb1 by have := HFB.out; omega) 1 (.int .i64 fr)) (show w.heap.size ≠ fb1 by have := HFB.out; omega) 2 (.int .i64 o)) (show w.heap.size ≠ fb1 by have := HFB.out; omega) 3 (.int .i64 l)) (show w.heap.size ≠ fb1 by have := HFB.out; omega) 4 (.int .i64 n)) (show w.heap.size ≠ fb1 by have := HFB.out; omega) 5 (.int .i64 ((j : Int) + 1))) (show w.heap.size ≠ fb1 by have := HFB.out; omega) 6 (.slice (some ⟨g2, 0, none⟩) 1 cp2)))
        have KPF := aside ((set_far1 (set_far1 (set_far1 (set_far1 (set_far1 (set_far1 (set_far1 KP5.out (show pk ≠ fb1 by have := HPK.out; omega) 0 (.int .i64 tz)) (show pk ≠ fb1 by have := HPK.out; omega) 1 (.int .i64 fr)) (show pk ≠ fb1 by have := HPK.out; omega) 2 (.int .i64 o)) (show pk ≠ fb1 by have := HPK.out; omega) 3 (.int .i64 l)) (show pk ≠ fb1 by have := HPK.out; omega) 4 (.int .i64 n)) (show pk ≠ fb1 by have := HPK.out; omega) 5 (.int .i64 ((j : Int) + 1))) (show pk ≠ fb1 by have := HPK.out; omega) 6 (.slice (some ⟨g2, 0, none⟩) 1 cp2)))
        clear HLE
        go_wp2
        go_roundw
        case rel => exact ⟨j + 1, tz, fr, P2, g2, cp2, by go_num, by omega, HNX.out, P2_tot, HPF.out, HKR.out, KNF.out, KPF.out, BF.out⟩
        case measure => simp [intOf]; omega
      · have HLS := aside (last_turn HC.out (show (j : Int) = 63 by omega))
        go_wp2_with fail
        refine (answer_ok fr tz o l n (j : Int) (some ⟨g, 0, none⟩) 1 cp Pc ⟨pk, 0, none⟩ 1 1 P2 _ HPR.out (by rw [HT.out]; omega) HC.out ⟨by omega, by omega⟩ (P2_in HPP.out) (by omega) (P2_no 1) (by omega) (by rw [P2_tot]; omega)).mono ?_
        rintro e w1 ⟨b1, h1⟩
        obtain rfl : e = .returned (.tuple #[.agg #[.int .i64 0, .int .i64 0, .int .i64 0, .int .i64 0, .int .i64 0, .int .i64 0, .slice none 0 0], .int .i64 112]) := by
          rw [HLS.out] at h1
          rcases h1 with ⟨hx, -⟩ | ⟨-, h2⟩
          · cases hx
          · exact h2
        have B1 := aside (bthen HB.out b1)
        clear h1 b1 f0 f1 f2 f3 f4 f5 f6 HF HNN HPP HB HPR
        go_upto_region 14 with fail
        have KG := aside (heap_alloc_new w1 (.cells #[.int .i64 0, .int .i64 0, .int .i64 0, .int .i64 0, .int .i64 0, .int .i64 0, .slice none 0 0] 31))
        have B2 := aside (bthen B1.out (bnew w1 (.cells #[.int .i64 0, .int .i64 0, .int .i64 0, .int .i64 0, .int .i64 0, .int .i64 0, .slice none 0 0] 31)))
        clear B1
        generalize w1.alloc (.cells #[.int .i64 0, .int .i64 0, .int .i64 0, .int .i64 0, .int .i64 0, .int .i64 0, .slice none 0 0] 31) = Y at KG B2 ⊢
        obtain ⟨e0, e1, e2, e3, e4, e5, e6⟩ := sep7 KG.out
        go_wp2
        go_ret
        exact ⟨rfl, B2.out⟩
  · have b0 : (q == 0) = false := by simpa using h0
    have H0 := aside h0
    go_enter Try.func3, Try.ntmps3
    go_wp2_with fail
    have BX := aside (bthen (bnew w (.cells #[.int .i64 o, .int .i64 l, .int .i64 n] 23)) (bnew _ (.cells #[.int .i64 c, .int .u64 x, .int .u64 z] 28)))
    have KN := aside (blk_on (heap_alloc_new w (.cells #[.int .i64 o, .int .i64 l, .int .i64 n] 23)) (bnew _ (.cells #[.int .i64 c, .int .u64 x, .int .u64 z] 28)))
    have KT := aside (heap_alloc_new (w.alloc (.cells #[.int .i64 o, .int .i64 l, .int .i64 n] 23)) (.cells #[.int .i64 c, .int .u64 x, .int .u64 z] 28))
    rw [World.size_alloc] at KT
    refine (C1.out _).mono ?_
    rintro e w1 ⟨b1, h1⟩
    obtain rfl : e = .returned (.tuple #[.agg #[.int .i64 0, .int .i64 0, .int .i64 0, .int .i64 0, .int .i64 0, .int .i64 0, .slice none 0 0], .int .i64 q]) := by
      rcases h1 with ⟨hx, -⟩ | ⟨-, h2⟩
      · exact absurd hx H0.out
      · exact h2
    clear h1
    have KN1 := aside (blk_on KN.out b1)
    have KT1 := aside (blk_on KT.out b1)
    have B1 := aside (bthen BX.out b1)
    clear b1 KN KT BX
    go_upto_region 2 with fail
    have KF1 := aside (heap_alloc_new w1 (.cells #[.int .i64 0, .int .i64 0, .int .i64 0, .int .i64 0, .int .i64 0, .int .i64 0, .slice none 0 0] 31))
    have BA := aside (bnew w1 (.cells #[.int .i64 0, .int .i64 0, .int .i64 0, .int .i64 0, .int .i64 0, .int .i64 0, .slice none 0 0] 31))
    obtain ⟨fb1, hfb1⟩ : ∃ fb1, w1.heap.size = fb1 := ⟨_, rfl⟩
    have HFB := aside (show w.heap.size < fb1 from by have h1 := (Array.getElem?_eq_some_iff.1 KN1.out).1; omega)
    rw [hfb1] at KF1 ⊢
    clear hfb1
    generalize w1.alloc (.cells #[.int .i64 0, .int .i64 0, .int .i64 0, .int .i64 0, .int .i64 0, .int .i64 0, .slice none 0 0] 31) = Y1 at KF1 BA ⊢
    have KN2 := aside (blk_on KN1.out BA.out)
    obtain ⟨n0, n1, n2, -⟩ := tri KN2.out
    obtain ⟨t0, t1, t2, -⟩ := tri (blk_on KT1.out BA.out)
    have B2 := aside (bthen B1.out BA.out)
    clear KN1 KT1 B1 BA
    go_wp2_with fail
    refine (C2.out _).mono ?_
    rintro e w2 ⟨b2, h2⟩
    obtain rfl : e = .returned (.tuple #[.agg #[.int .i64 0, .int .i64 0, .int .i64 0, .int .i64 0, .int .i64 0, .int .i64 0, .slice none 0 0], .int .i64 q]) := by
      rcases h2 with ⟨hx, -⟩ | ⟨-, h2⟩
      · exact absurd hx H0.out
      · exact h2
    clear h2
    have B3 := aside (bthen B2.out b2)
    clear b2 n0 n1 n2 t0 t1 t2 B2
    go_upto_region 4 with fail
    have B4 := aside (bthen B3.out (bnew w2 (.cells #[.int .i64 0, .int .i64 0, .int .i64 0, .int .i64 0, .int .i64 0, .int .i64 0, .slice none 0 0] 31)))
    clear B3
    generalize w2.alloc (.cells #[.int .i64 0, .int .i64 0, .int .i64 0, .int .i64 0, .int .i64 0, .int .i64 0, .slice none 0 0] 31) = Y2 at B4 ⊢
    go_wp2
    go_ret
    exact ⟨rfl, B4.out⟩

end Go.Proofs.Ytfnmpfaecafckaa
