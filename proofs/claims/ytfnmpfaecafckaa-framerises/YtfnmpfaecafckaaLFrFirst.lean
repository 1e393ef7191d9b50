/-
  The law FrameFirst, walked: it returns true at any node, name and tally.
-/
import Derived.Test.YtfnmpfaecafckaaFeR
namespace Go.Proofs.Ytfnmpfaecafckaa
open Go.RowKit
set_option linter.unusedVariables false

set_option maxHeartbeats 400000 in
theorem closing_pos (fr tz o l n tn : Int) (a : Option Addr) (len cap : Nat) (w : World) (hpos : 0 < len) : Calls Try.prog 13 #[.agg #[.int .i64 fr, .int .i64 tz, .int .i64 o, .int .i64 l, .int .i64 n, .int .i64 tn, .slice a len cap]] w fun e w' => e = .returned (.bool false) ∧ Below w.heap.size w w' := by
  have b : ((len : Int) == 0) = false := by simp; omega
  clear hpos
  go_enter Try.func13, Try.ntmps13
  go_wp2
  go_ret
  exact ⟨rfl, bnew w _⟩
set_option maxHeartbeats 1600000 in
theorem entries_any (fr tz o l n tn : Int) (a : Option Addr) (len cap : Nat) (P : Nat → Pm) (w : World) (h : PartsIn w a len cap P) (hT : totE P len ≤ 4611686018427387904) {q : Nat} (hq : totE P len = q) : Calls Try.prog 27 #[.agg #[.int .i64 fr, .int .i64 tz, .int .i64 o, .int .i64 l, .int .i64 n, .int .i64 tn, .slice a len cap]] w fun e w' => e = .returned (.int .i64 (q : Int)) ∧ Below w.heap.size w w' := by
  have BX := aside (bnew w (.cells #[.int .i64 fr, .int .i64 tz, .int .i64 o, .int .i64 l, .int .i64 n, .int .i64 tn, .slice a len cap] 31))
  have C := aside (count_of (h.keep BX.out) hT hq)
  clear h hT hq
  go_enter Try.func27, Try.ntmps27
  go_wp2_with fail
  refine C.out.mono ?_
  rintro e w1 ⟨rfl, b1⟩
  have B1 := aside (bthen BX.out b1)
  clear b1 C BX
  go_wp2
  go_ret
  exact ⟨rfl, B1.out⟩
theorem nil_in (w : World) (P : Nat → Pm) : PartsIn w none 0 0 P := ⟨Nat.le_refl _, Nat.zero_le _, .inl rfl⟩
theorem same_self (p : Pm) : SamePm p p := ⟨rfl, rfl, rfl, rfl, rfl, rfl, rfl, rfl, fun _ _ => rfl⟩

set_option maxHeartbeats 6400000 in
set_option maxRecDepth 100000 in
theorem ffirst_walk (peer o l n c x z : Int) (w : World) :
    Calls Try.prog 7 #[.int .i64 peer, .agg #[.int .i64 o, .int .i64 l, .int .i64 n], .agg #[.int .i64 c, .int .u64 x, .int .u64 z]] w fun e w' => e = .returned (.bool true) ∧ Below w.heap.size w w' := by
  obtain ⟨q, hq⟩ : ∃ q, fChk o peer o l n 0 (P1 c x z) 1 = q := ⟨_, rfl⟩
  have C1 := aside (fun W => first_any peer o l n c x z W)
  have C2 := aside (fun W => firstR_any peer o l n c x z W)
  rw [hq] at C1 C2
  have HQ := aside hq
  unfold TellsF at C1 C2
  clear hq
  by_cases h0 : q = 0
  · subst h0
    go_enter Try.func7, Try.ntmps7
    go_wp2_with fail
    have BX := aside (bthen (bnew w (.cells #[.int .i64 o, .int .i64 l, .int .i64 n] 23)) (bnew _ (.cells #[.int .i64 c, .int .u64 x, .int .u64 z] 28)))
    have KN := aside (blk_on (heap_alloc_new w (.cells #[.int .i64 o, .int .i64 l, .int .i64 n] 23)) (bnew _ (.cells #[.int .i64 c, .int .u64 x, .int .u64 z] 28)))
    have KT := aside (heap_alloc_new (w.alloc (.cells #[.int .i64 o, .int .i64 l, .int .i64 n] 23)) (.cells #[.int .i64 c, .int .u64 x, .int .u64 z] 28))
    rw [World.size_alloc] at KT
    refine (C1.out _).mono ?_
    rintro e w1 ⟨b1, h1⟩
    obtain ⟨g1, c1, rfl, hp1⟩ : ∃ g1 c1, e = .returned (.tuple #[.agg #[.int .i64 o, .int .i64 peer, .int .i64 o, .int .i64 l, .int .i64 n, .int .i64 0, .slice (some ⟨g1, 0, none⟩) 1 c1], .int .i64 0]) ∧ PartsIn w1 (some ⟨g1, 0, none⟩) 1 c1 (P1 c x z) := by
      rcases h1 with ⟨-, g, cp, h1, h2, -⟩ | ⟨hx, -⟩
      · exact ⟨g, cp, h1, h2⟩
      · exact absurd rfl hx
    clear h1
    have KN1 := aside (blk_on KN.out b1)
    have KT1 := aside (blk_on KT.out b1)
    have B1 := aside (bthen BX.out b1)
    clear b1 KN KT BX
    go_upto_region 2 with fail
    have KF1 := aside (heap_alloc_new w1 (.cells #[.int .i64 o, .int .i64 peer, .int .i64 o, .int .i64 l, .int .i64 n, .int .i64 0, .slice (some ⟨g1, 0, none⟩) 1 c1] 31))
    have BA := aside (bnew w1 (.cells #[.int .i64 o, .int .i64 peer, .int .i64 o, .int .i64 l, .int .i64 n, .int .i64 0, .slice (some ⟨g1, 0, none⟩) 1 c1] 31))
    obtain ⟨fb1, hfb1⟩ : ∃ fb1, w1.heap.size = fb1 := ⟨_, rfl⟩
    rw [hfb1] at KF1 ⊢
    clear hfb1
    generalize w1.alloc (.cells #[.int .i64 o, .int .i64 peer, .int .i64 o, .int .i64 l, .int .i64 n, .int .i64 0, .slice (some ⟨g1, 0, none⟩) 1 c1] 31) = Y1 at KF1 BA ⊢
    obtain ⟨n0, n1, n2, -⟩ := tri (blk_on KN1.out BA.out)
    obtain ⟨t0, t1, t2, -⟩ := tri (blk_on KT1.out BA.out)
    have B2 := aside (bthen B1.out BA.out)
    have HP1 := aside (hp1.keep BA.out)
    clear hp1
    clear KN1 KT1 B1 BA
    go_wp2_with fail
    refine (C2.out _).mono ?_
    rintro e w2 ⟨b2, h2⟩
    obtain ⟨g2, c2, rfl, hp2⟩ : ∃ g2 c2, e = .returned (.tuple #[.agg #[.int .i64 o, .int .i64 peer, .int .i64 o, .int .i64 l, .int .i64 n, .int .i64 0, .slice (some ⟨g2, 0, none⟩) 1 c2], .int .i64 0]) ∧ PartsIn w2 (some ⟨g2, 0, none⟩) 1 c2 (P1 c x z) := by
      rcases h2 with ⟨-, g, cp, h1, h2, -⟩ | ⟨hx, -⟩
      · exact ⟨g, cp, h1, h2⟩
      · exact absurd rfl hx
    clear h2
    have KF1b := aside (blk_on KF1.out b2)
    have B3 := aside (bthen B2.out b2)
    have HP1b := aside (HP1.out.keep b2)
    clear HP1
    clear b2 KF1 B2 n0 n1 n2 t0 t1 t2
    go_upto_region 3 with fail
    have KF2 := aside (heap_alloc_new w2 (.cells #[.int .i64 o, .int .i64 peer, .int .i64 o, .int .i64 l, .int .i64 n, .int .i64 0, .slice (some ⟨g2, 0, none⟩) 1 c2] 31))
    have BA := aside (bnew w2 (.cells #[.int .i64 o, .int .i64 peer, .int .i64 o, .int .i64 l, .int .i64 n, .int .i64 0, .slice (some ⟨g2, 0, none⟩) 1 c2] 31))
    obtain ⟨fb2, hfb2⟩ : ∃ fb2, w2.heap.size = fb2 := ⟨_, rfl⟩
    rw [hfb2] at KF2 ⊢
    clear hfb2
    generalize w2.alloc (.cells #[.int .i64 o, .int .i64 peer, .int .i64 o, .int .i64 l, .int .i64 n, .int .i64 0, .slice (some ⟨g2, 0, none⟩) 1 c2] 31) = Y2 at KF2 BA ⊢
    have KF1c := aside (blk_on KF1b.out BA.out)
    have B4 := aside (bthen B3.out BA.out)
    have HP1c := aside (HP1b.out.keep BA.out)
    have HP2 := aside (hp2.keep BA.out)
    clear hp2 HP1b
    clear KF1b B3 BA
    obtain ⟨f0, f1, f2, f3, f4, f5, f6⟩ := sep7 KF1c.out
    obtain ⟨e0, e1, e2, e3, e4, e5, e6⟩ := sep7 KF2.out
    go_wp2_with fail
    refine (same_yes o peer o l n 0 _ 1 c1 (P1 c x z) _ c2 (P1 c x z) _ HP1c.out HP2.out (fun i _ => same_self _)).mono ?_
    rintro e w3 ⟨rfl, b3⟩
    have B5 := aside (bthen B4.out b3)
    have K3 := aside (blk_on KF1c.out b3)
    have Q3 := aside (HP1c.out.keep b3)
    have A3 := B5
    clear f0 f1 f2 f3 f4 f5 f6 e0 e1 e2 e3 e4 e5 e6 b3 KF1c HP1c HP2 KF2 B4
    obtain ⟨f0, f1, f2, f3, f4, f5, f6⟩ := sep7 K3.out
    go_wp2_with fail
    refine (chkf_of Q3.out (by rw [P1_tot]; omega) HQ.out).mono ?_
    rintro e w4 ⟨rfl, b4⟩
    have K4 := aside (blk_on K3.out b4)
    have Q4 := aside (Q3.out.keep b4)
    have A4 := aside (bthen A3.out b4)
    clear f0 f1 f2 f3 f4 f5 f6 b4
    obtain ⟨f0, f1, f2, f3, f4, f5, f6⟩ := sep7 K4.out
    go_wp2_with fail
    refine (closing_pos o peer o l n 0 _ 1 c1 _ (by omega)).mono ?_
    rintro e w5 ⟨rfl, b5⟩
    have K5 := aside (blk_on K4.out b5)
    have Q5 := aside (Q4.out.keep b5)
    have A5 := aside (bthen A4.out b5)
    clear f0 f1 f2 f3 f4 f5 f6 b5
    obtain ⟨f0, f1, f2, f3, f4, f5, f6⟩ := sep7 K5.out
    go_wp2_with fail
    refine (entries_any o peer o l n 0 _ 1 c1 (P1 c x z) _ Q5.out (by rw [P1_tot]; omega) (P1_tot c x z)).mono ?_
    rintro e w6 ⟨rfl, b6⟩
    have K6 := aside (blk_on K5.out b6)
    have Q6 := aside (Q5.out.keep b6)
    have A6 := aside (bthen A5.out b6)
    clear f0 f1 f2 f3 f4 f5 f6 b6
    go_wp2
    go_ret
    exact ⟨rfl, A6.out⟩
  · have b0 : (q == 0) = false := by simpa using h0
    have H0 := aside h0
    go_enter Try.func7, Try.ntmps7
    go_wp2_with fail
    have BX := aside (bthen (bnew w (.cells #[.int .i64 o, .int .i64 l, .int .i64 n] 23)) (bnew _ (.cells #[.int .i64 c, .int .u64 x, .int .u64 z] 28)))
    have KN := aside (blk_on (heap_alloc_new w (.cells #[.int .i64 o, .int .i64 l, .int .i64 n] 23)) (bnew _ (.cells #[.int .i64 c, .int .u64 x, .int .u64 z] 28)))
    have KT := aside (heap_alloc_new (w.alloc (.cells #[.int .i64 o, .int .i64 l, .int .i64 n] 23)) (.cells #[.int .i64 c, .int .u64 x, .int .u64 z] 28))
    rw [World.size_alloc] at KT
    refine (C1.out _).mono ?_
    rintro e w1 ⟨b1, h1⟩
    obtain rfl : e = .returned (.tuple #[.agg #[.int .i64 0, .int .i64 0, .int .i64 0, .int .i64 0, .int .i64 0, .int .i64 0, .slice none 0 0], .int .i64 q]) := by
      rcases h1 with ⟨hx, -⟩ | ⟨-, h2⟩
      · exact absurd hx H0.out
      · exact h2
    clear h1
    have KN1 := aside (blk_on KN.out b1)
    have KT1 := aside (blk_on KT.out b1)
    have B1 := aside (bthen BX.out b1)
    clear b1 KN KT BX
    go_upto_region 2 with fail
    have KF1 := aside (heap_alloc_new w1 (.cells #[.int .i64 0, .int .i64 0, .int .i64 0, .int .i64 0, .int .i64 0, .int .i64 0, .slice none 0 0] 31))
    have BA := aside (bnew w1 (.cells #[.int .i64 0, .int .i64 0, .int .i64 0, .int .i64 0, .int .i64 0, .int .i64 0, .slice none 0 0] 31))
    obtain ⟨fb1, hfb1⟩ : ∃ fb1, w1.heap.size = fb1 := ⟨_, rfl⟩
    rw [hfb1] at KF1 ⊢
    clear hfb1
    generalize w1.alloc (.cells #[.int .i64 0, .int .i64 0, .int .i64 0, .int .i64 0, .int .i64 0, .int .i64 0, .slice none 0 0] 31) = Y1 at KF1 BA ⊢
    obtain ⟨n0, n1, n2, -⟩ := tri (blk_on KN1.out BA.out)
    obtain ⟨t0, t1, t2, -⟩ := tri (blk_on KT1.out BA.out)
    have B2 := aside (bthen B1.out BA.out)
    clear KN1 KT1 B1 BA
    go_wp2_with fail
    refine (C2.out _).mono ?_
    rintro e w2 ⟨b2, h2⟩
    obtain rfl : e = .returned (.tuple #[.agg #[.int .i64 0, .int .i64 0, .int .i64 0, .int .i64 0, .int .i64 0, .int .i64 0, .slice none 0 0], .int .i64 q]) := by
      rcases h2 with ⟨hx, -⟩ | ⟨-, h2⟩
      · exact absurd hx H0.out
      · exact h2
    clear h2
    have KF1b := aside (blk_on KF1.out b2)
    have B3 := aside (bthen B2.out b2)
    clear b2 KF1 B2 n0 n1 n2 t0 t1 t2
    go_upto_region 3 with fail
    have KF2 := aside (heap_alloc_new w2 (.cells #[.int .i64 0, .int .i64 0, .int .i64 0, .int .i64 0, .int .i64 0, .int .i64 0, .slice none 0 0] 31))
    have BA := aside (bnew w2 (.cells #[.int .i64 0, .int .i64 0, .int .i64 0, .int .i64 0, .int .i64 0, .int .i64 0, .slice none 0 0] 31))
    obtain ⟨fb2, hfb2⟩ : ∃ fb2, w2.heap.size = fb2 := ⟨_, rfl⟩
    rw [hfb2] at KF2 ⊢
    clear hfb2
    generalize w2.alloc (.cells #[.int .i64 0, .int .i64 0, .int .i64 0, .int .i64 0, .int .i64 0, .int .i64 0, .slice none 0 0] 31) = Y2 at KF2 BA ⊢
    have KF1c := aside (blk_on KF1b.out BA.out)
    have B4 := aside (bthen B3.out BA.out)
    clear KF1b B3 BA
    obtain ⟨f0, f1, f2, f3, f4, f5, f6⟩ := sep7 KF1c.out
    obtain ⟨e0, e1, e2, e3, e4, e5, e6⟩ := sep7 KF2.out
    go_wp2_with fail
    refine (same_yes 0 0 0 0 0 0 none 0 0 (P1 c x z) none 0 (P1 c x z) _ (nil_in _ _) (nil_in _ _) (fun i hi => by omega)).mono ?_
    rintro e w3 ⟨rfl, b3⟩
    have B5 := aside (bthen B4.out b3)
    clear f0 f1 f2 f3 f4 f5 f6 e0 e1 e2 e3 e4 e5 e6 b3 KF1c KF2 B4
    go_wp2
    go_ret
    exact ⟨rfl, B5.out⟩

end Go.Proofs.Ytfnmpfaecafckaa
