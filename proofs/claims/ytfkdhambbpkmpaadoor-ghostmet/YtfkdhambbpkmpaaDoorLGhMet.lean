/-
  The law GhostMet, walked.
-/
import Derived.Test.YtfkdhambbpkmpaaDoorGhJ
namespace Go.Proofs.YtfkdhambbpkmpaaDoor
open Go.RowKit
set_option linter.unusedVariables false

theorem chkH_same {T U : Nat → En} {n : Nat} (h : firstE T n = firstE U n) (h0 : chkH T n = 0) : chkH U n = 0 := by
  obtain ⟨h1, h2⟩ := chkH_ok h0
  exact chkH_of ((ck_map n).2 (by rw [← h]; exact (ck_map n).1 h1)) h2
theorem outKeys {A : Nat → En} {la : Nat} {B : Nat → En} {lb : Nat} : KeysOk (outL (ck2 A la B lb) (mxP (prs (firstE A la) (firstE B lb)))) := by
  by_cases h : ck2 A la B lb = 0
  · rw [outL_ok _ h]
    obtain ⟨h1, h2⟩ := ck2_ok.1 h
    exact mxKeys h1 h2
  · rw [outL_bad _ h]
    intro e he
    cases he
set_option maxHeartbeats 32000000 in
set_option maxRecDepth 100000 in
theorem gmet_walk (a : Option Addr) (la ca : Nat) (A : Nat → En) (b : Option Addr) (lb cb : Nat) (B : Nat → En) (br lf wt tr rf : Int) (w : World) (hA : EntsIn w a la ca A) (hB : EntsIn w b lb cb B) :
    Calls Tryd.prog 5 #[.slice a la ca, .slice b lb cb, .agg #[.int .i64 br, .int .i64 lf, .int .i64 wt, .int .i64 tr], .int .i64 rf] w fun e w' => e = .returned (.bool true) ∧ Below w.heap.size w w' := by
  obtain ⟨q, hq⟩ : ∃ q, w.heap.size = q := ⟨_, rfl⟩
  obtain ⟨V, hV⟩ : ∃ V, w.alloc (.cells #[.int .i64 br, .int .i64 lf, .int .i64 wt, .int .i64 tr] 44) = V := ⟨_, rfl⟩
  have kc := heap_alloc_new w (.cells #[.int .i64 br, .int .i64 lf, .int .i64 wt, .int .i64 tr] 44)
  have bv := bnew w (.cells #[.int .i64 br, .int .i64 lf, .int .i64 wt, .int .i64 tr] 44)
  rw [hV] at kc bv
  rw [hq] at kc
  have KC := aside kc
  have BV := aside bv
  have HA := aside (hA.keep bv)
  have HBB := aside (hB.keep bv)
  clear hA hB kc bv
  go_enter Tryd.func5, Tryd.ntmps5
  go_upto_region 1 with fail
  try rw [hV]
  try rw [hq]
  clear hV hq
  go_wp2_with fail
  refine (weigh19_any a la ca A _ HA.out).mono ?_
  rintro e w1 ⟨n1, rfl, -, hn1, b1⟩
  have B1 := aside b1
  clear b1
  obtain ⟨z1, hz1⟩ : ∃ z : Int, (n1 : Int) = z := ⟨_, rfl⟩
  rw [hz1]
  by_cases hw1 : (268435456 : Int) ≤ z1
  · go_wp2
    go_ret
    exact ⟨rfl, bthen BV.out B1.out⟩
  have HL1 := aside (show la ≤ 268435456 from by have := hn1 (by omega); omega)
  clear hn1 hz1
  go_wp2_with fail
  refine (weigh19_any b lb cb B _ (HBB.out.keep B1.out)).mono ?_
  rintro e w2 ⟨n2, rfl, -, hn2, b2⟩
  have B2 := aside (bthen B1.out b2)
  clear b2 B1
  obtain ⟨z2, hz2⟩ : ∃ z : Int, (n2 : Int) = z := ⟨_, rfl⟩
  rw [hz2]
  by_cases hw2 : (268435456 : Int) ≤ z2
  · go_wp2
    go_ret
    exact ⟨rfl, bthen BV.out B2.out⟩
  have HL2 := aside (show lb ≤ 268435456 from by have := hn2 (by omega); omega)
  clear hn2 hz2
  have HLN := aside (show (mxP (prs (firstE A la) (firstE B lb))).length ≤ la + lb from by
    have h1 := mxP_len (prs (firstE A la) (firstE B lb)); have h2 := prs_len (firstE A la) (firstE B lb); rw [firstE_len, firstE_len] at h2; omega)
  have CM := aside (mmax_any a la ca A b lb cb B w2 (HA.out.keep B2.out) (HBB.out.keep B2.out) (by have := HL1.out; have := HL2.out; omega))
  obtain ⟨k, hk⟩ : ∃ k, ck2 A la B lb = k := ⟨_, rfl⟩
  have HK := aside hk
  have HOK := aside (show KeysOk (outL k (mxP (prs (firstE A la) (firstE B lb)))) from by rw [← hk]; exact outKeys)
  rw [hk] at CM
  clear hk
  go_wp2_with fail
  refine CM.out.mono ?_
  rintro e w3 ⟨v, rfl, ho, b3⟩
  obtain ⟨a3, c3, T3, rfl, h3, f3⟩ := ents_of_says ho HOK.out
  have B3 := aside (bthen B2.out b3)
  have H3 := aside h3
  have CR := aside (rmax_any a la ca A b lb cb B w3 (HA.out.keep B3.out) (HBB.out.keep B3.out) (by have := HL1.out; have := HL2.out; omega))
  rw [HK.out] at CR
  obtain ⟨lm, hlm⟩ : ∃ n, (outL k (mxP (prs (firstE A la) (firstE B lb)))).length = n := ⟨_, rfl⟩
  have HLM := aside hlm
  rw [hlm] at f3
  have F3 := aside f3
  have HLL := aside (show lm ≤ la + lb from by
    rw [← hlm]
    unfold outL
    split
    · exact HLN.out
    · exact Nat.zero_le _)
  replace H3 := aside (show EntsIn w3 a3 lm c3 T3 from by have h9 := H3.out; rw [hlm] at h9; exact h9)
  clear ho b3 h3 f3 CM
  rw [hlm]
  clear hlm
  go_wp2_with fail
  refine CR.out.mono ?_
  rintro e w4 ⟨v, rfl, ho, b4⟩
  obtain ⟨a4, c4, T4, rfl, h4, f4⟩ := ents_of_says ho HOK.out
  rw [HLM.out] at h4 f4 ⊢
  have B4 := aside (bthen B3.out b4)
  have H4 := aside h4
  have F4 := aside f4
  have HSM := aside (same19_yes a3 lm c3 T3 a4 lm c4 T4 w4 (H3.out.keep b4) h4 (by rw [F3.out, f4]))
  replace H3 := aside (H3.out.keep b4)
  clear ho b4 h4 f4 CR
  go_wp2_with fail
  refine HSM.out.mono ?_
  rintro e w5 ⟨rfl, b5⟩
  have B5 := aside (bthen B4.out b5)
  replace H3 := aside (H3.out.keep b5)
  replace H4 := aside (H4.out.keep b5)
  have HAB := aside (show chkH A la = 0 → chkH B lb = 0 → ck2 A la B lb = 0 from fun h1 h2 => by
    unfold ck2
    rw [(chkH_ok h1).1, (chkH_ok h2).1]
    rfl)
  have CJ := aside (rjudge_any a la ca A b lb cb B a4 lm c4 T4 a4 lm c4 T4 br lf wt tr rf w5 (HA.out.keep B5.out) (HBB.out.keep B5.out) H4.out H4.out (by have := HL1.out; have := HL2.out; omega) (fun h1 h2 => by
    have h0 := HAB.out h1 h2
    rw [HK.out] at h0
    have h9 := F4.out
    rw [outL_ok _ h0] at h9
    exact ⟨h9, h9⟩))
  obtain ⟨c0, c1, c2, c3'⟩ := four19 (blk_on KC.out B5.out)
  clear b5 HSM
  go_wp2_with fail
  refine CJ.out.mono ?_
  rintro e w6 ⟨v0, v1, v2, v3, g, rfl, b6, hg⟩
  have B6 := aside (bthen B5.out b6)
  have HG := aside hg
  replace H3 := aside (H3.out.keep b6)
  clear b6 hg CJ c0 c1 c2 c3'
  obtain ⟨Vv, hVv⟩ : ∃ X, w6.alloc (.cells #[.int .i64 v0, .string v1, .string v2, .bool v3] 46) = X := ⟨_, rfl⟩
  have b7 := bnew w6 (.cells #[.int .i64 v0, .string v1, .string v2, .bool v3] 46)
  rw [hVv] at b7
  have B7 := aside (bthen B6.out b7)
  replace H3 := aside (H3.out.keep b7)
  clear b7
  go_upto_region 8 with fail
  try rw [hVv]
  clear hVv
  by_cases hk0 : k = 0
  case neg =>
    have hz : (k == 0) = false := by simpa using hk0
    go_wp2
    go_ret
    exact ⟨rfl, bthen BV.out B7.out⟩
  subst hk0
  by_cases hg0 : g = 0
  case neg =>
    have hz : (g == 0) = false := by simpa using hg0
    go_wp2
    go_ret
    exact ⟨rfl, bthen BV.out B7.out⟩
  subst hg0
  obtain ⟨g1, g2, g3, -, g5, g6⟩ := HG.out rfl
  have h3c : chkH T3 lm = 0 := chkH_same (by rw [F3.out, F4.out]) g3
  obtain ⟨mA, mB⟩ := ck2_ok.1 HK.out
  have e3 : firstE T3 lm = mxP (prs (firstE A la) (firstE B lb)) := by have h9 := F3.out; rw [outL_ok _ rfl] at h9; exact h9
  have HX1 := aside (show dfP (prs (firstE T3 lm) (mxP (prs (firstE A la) (firstE B lb)))) = [] from by rw [e3]; exact dfP_self _)
  have HX2 := aside (show dfP (prs (firstE T3 lm) (mxP (prs (firstE B lb) (firstE A la)))) = [] from by rw [e3]; exact mx_turned mA mB)
  have CG1 := aside (gjudge_met a la ca A b lb cb B a3 lm c3 T3 a3 lm c3 T3 br lf wt tr rf Vv (HA.out.keep B7.out) (HBB.out.keep B7.out) H3.out H3.out (by have := HL1.out; have := HL2.out; omega) g1 g2 h3c h3c g5 g6 HX1.out HX1.out)
  have CG2 := aside (fun (W : World) (bb : Below Vv.heap.size Vv W) => gjudge_met b lb cb B a la ca A a3 lm c3 T3 a3 lm c3 T3 br lf wt tr rf W ((HBB.out.keep B7.out).keep bb) ((HA.out.keep B7.out).keep bb) (H3.out.keep bb) (H3.out.keep bb) (by have := HL1.out; have := HL2.out; omega) g2 g1 h3c h3c g5 g6 HX2.out HX2.out)
  clear g1 g2 g3 g5 g6 h3c mA mB e3 HX1 HX2 HG HAB
  obtain ⟨c0, c1, c2, c3'⟩ := four19 (blk_on KC.out B7.out)
  have hEQ : ∀ W, (binOp .eql 46 (.agg #[.int .i64 1, .string ⟨#[]⟩, .string ⟨#[]⟩, .bool false]) (.agg #[.int .i64 1, .string ⟨#[]⟩, .string ⟨#[]⟩, .bool false])).run Tryd.prog W = .ok (.bool true) W := fun W => by kernel_rfl
  go_wp2_with fail
  refine CG1.out.mono ?_
  rintro e w8 ⟨rfl, b8⟩
  clear c0 c1 c2 c3' CG1
  obtain ⟨Z9, hZ9⟩ : ∃ X, w8.alloc (.cells #[.int .i64 0, .string ⟨#[]⟩, .string ⟨#[]⟩, .bool false] 46) = X := ⟨_, rfl⟩
  obtain ⟨q9, hq9⟩ : ∃ y, w8.heap.size = y := ⟨_, rfl⟩
  have kz9 := heap_alloc_new w8 (.cells #[.int .i64 0, .string ⟨#[]⟩, .string ⟨#[]⟩, .bool false] 46)
  have bz9 := bnew w8 (.cells #[.int .i64 0, .string ⟨#[]⟩, .string ⟨#[]⟩, .bool false] 46)
  rw [hZ9] at kz9 bz9
  rw [hq9] at kz9
  obtain ⟨V9, hV9⟩ : ∃ V, (((Z9.setCell ⟨q9, 0, none⟩ (.int .i64 1)).setCell ⟨q9, 1, none⟩ (.string ⟨#[]⟩)).setCell ⟨q9, 2, none⟩ (.string ⟨#[]⟩)).setCell ⟨q9, 3, none⟩ (.bool false) = V := ⟨_, rfl⟩
  have k9 : V9.heap[q9]? = some (.cells #[.int .i64 1, .string ⟨#[]⟩, .string ⟨#[]⟩, .bool false] 46 (0, 0)) := by rw [← hV9]; exact set_four19 kz9 _ _ _ _
  have b9 : Below w8.heap.size w8 V9 := by rw [← hV9]; exact bel_four19 bz9 (by rw [hq9]; exact Nat.le_refl _) _ _ _ _
  obtain ⟨y0, y1, y2, y3⟩ := four19 kz9
  have f0 := frozen_of_row Z9 q9 0 _ _ kz9
  have f1 := frozen_of_row Z9 q9 1 _ _ kz9
  have f2 := frozen_of_row Z9 q9 2 _ _ kz9
  have f3 := frozen_of_row Z9 q9 3 _ _ kz9
  have BB9 := aside (bthen b8 b9)
  have B9 := aside (bthen B7.out (bthen b8 b9))
  have K9 := aside k9
  clear b8 b9 k9 bz9 kz9
  go_upto_region 11 with (first | rw [hZ9, hq9] | fail)
  try rw [hV9]
  try rw [hq9]
  clear hV9 hq9 hZ9 y0 y1 y2 y3 f0 f1 f2 f3
  obtain ⟨c0, c1, c2, c3'⟩ := four19 (blk_on KC.out B9.out)
  go_wp2_with fail
  refine (CG2.out _ BB9.out).mono ?_
  rintro e w10 ⟨rfl, b10⟩
  clear c0 c1 c2 c3' CG2
  obtain ⟨Z11, hZ11⟩ : ∃ X, w10.alloc (.cells #[.int .i64 0, .string ⟨#[]⟩, .string ⟨#[]⟩, .bool false] 46) = X := ⟨_, rfl⟩
  obtain ⟨q11, hq11⟩ : ∃ y, w10.heap.size = y := ⟨_, rfl⟩
  have kz11 := heap_alloc_new w10 (.cells #[.int .i64 0, .string ⟨#[]⟩, .string ⟨#[]⟩, .bool false] 46)
  have bz11 := bnew w10 (.cells #[.int .i64 0, .string ⟨#[]⟩, .string ⟨#[]⟩, .bool false] 46)
  rw [hZ11] at kz11 bz11
  rw [hq11] at kz11
  obtain ⟨V11, hV11⟩ : ∃ V, (((Z11.setCell ⟨q11, 0, none⟩ (.int .i64 1)).setCell ⟨q11, 1, none⟩ (.string ⟨#[]⟩)).setCell ⟨q11, 2, none⟩ (.string ⟨#[]⟩)).setCell ⟨q11, 3, none⟩ (.bool false) = V := ⟨_, rfl⟩
  have k11 : V11.heap[q11]? = some (.cells #[.int .i64 1, .string ⟨#[]⟩, .string ⟨#[]⟩, .bool false] 46 (0, 0)) := by rw [← hV11]; exact set_four19 kz11 _ _ _ _
  have b11 : Below w10.heap.size w10 V11 := by rw [← hV11]; exact bel_four19 bz11 (by rw [hq11]; exact Nat.le_refl _) _ _ _ _
  obtain ⟨y0, y1, y2, y3⟩ := four19 kz11
  have f0 := frozen_of_row Z11 q11 0 _ _ kz11
  have f1 := frozen_of_row Z11 q11 1 _ _ kz11
  have f2 := frozen_of_row Z11 q11 2 _ _ kz11
  have f3 := frozen_of_row Z11 q11 3 _ _ kz11
  have B11 := aside (bthen B9.out (bthen b10 b11))
  have K11 := aside k11
  replace K9 := aside (blk_on K9.out (bthen b10 b11))
  clear b10 b11 k11 bz11 kz11
  go_upto_region 12 with (first | rw [hZ11, hq11] | fail)
  try rw [hV11]
  try rw [hq11]
  clear hV11 hq11 hZ11 y0 y1 y2 y3 f0 f1 f2 f3
  obtain ⟨c0, c1, c2, c3'⟩ := four19 K9.out
  obtain ⟨d0, d1, d2, d3⟩ := four19 K11.out
  go_wp2
  go_ret
  exact ⟨rfl, bthen BV.out B11.out⟩
end Go.Proofs.YtfkdhambbpkmpaaDoor
