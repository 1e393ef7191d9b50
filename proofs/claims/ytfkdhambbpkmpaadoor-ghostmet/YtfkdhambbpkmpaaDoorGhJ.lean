/-
  Judge of the document and of the code, where both maps have come to the newest.
-/
import Derived.Test.YtfkdhambbpkmpaaDoorGhB
import Derived.Deep.CutBlock
import Derived.Deep.DeepCutAuto
namespace Go.Proofs.YtfkdhambbpkmpaaDoor
open Go.RowKit
set_option linter.unusedVariables false

/-- What the document's judge tells: some verdict, and no error only where all may be. -/
def RJSay (q1 q2 q3 q4 br lf rf : Int) (w : World) (e : Ending) (w' : World) : Prop := ∃ v0 v1 v2 v3 g, e = .returned (.tuple #[.agg #[.int .i64 v0, .string v1, .string v2, .bool v3], .int .i64 g]) ∧ Below w.heap.size w w' ∧ (g = 0 → q1 = 0 ∧ q2 = 0 ∧ q3 = 0 ∧ q4 = 0 ∧ okC br lf ∧ 0 ≤ rf)
theorem mxKeys {a b : List En} (ha : MapL a) (hb : MapL b) : KeysOk (mxP (prs a b)) := fun e he => by
  have := (chk_pos ((mx_map ha hb).chk e he)).2.1
  omega
set_option maxHeartbeats 16000000 in
set_option maxRecDepth 100000 in
theorem rjudge_any (a : Option Addr) (la ca : Nat) (A : Nat → En) (b : Option Addr) (lb cb : Nat) (B : Nat → En) (x : Option Addr) (lx cx : Nat) (X : Nat → En) (y : Option Addr) (ly cy : Nat) (Y : Nat → En) (br lf wt tr rf : Int) (w : World) (hA : EntsIn w a la ca A) (hB : EntsIn w b lb cb B) (hX : EntsIn w x lx cx X) (hY : EntsIn w y ly cy Y) (hl : la + lb ≤ 1073741824)
    (hm : chkH A la = 0 → chkH B lb = 0 → firstE X lx = mxP (prs (firstE A la) (firstE B lb)) ∧ firstE Y ly = mxP (prs (firstE A la) (firstE B lb))) :
    Calls Tryd.prog 15 #[.slice a la ca, .slice b lb cb, .slice x lx cx, .slice y ly cy, .agg #[.int .i64 br, .int .i64 lf, .int .i64 wt, .int .i64 tr], .int .i64 rf] w fun e w' => RJSay (chkH A la) (chkH B lb) (chkH X lx) (chkH Y ly) br lf rf w e w' := by
  obtain ⟨q, hq⟩ : ∃ q, w.heap.size = q := ⟨_, rfl⟩
  obtain ⟨V1, hV1⟩ : ∃ V, (w.alloc (.cells #[.int .i64 br, .int .i64 lf, .int .i64 wt, .int .i64 tr] 44)).alloc (.cells #[.int .i64 0, .string ⟨#[]⟩, .string ⟨#[]⟩, .bool false] 46) = V := ⟨_, rfl⟩
  have bv1 : Below w.heap.size w V1 := by rw [← hV1]; exact bthen (bnew w _) (bnew _ _)
  have e0 := heap_alloc_new w (.cells #[.int .i64 br, .int .i64 lf, .int .i64 wt, .int .i64 tr] 44)
  have e1 := heap_alloc_new (w.alloc (.cells #[.int .i64 br, .int .i64 lf, .int .i64 wt, .int .i64 tr] 44)) (.cells #[.int .i64 0, .string ⟨#[]⟩, .string ⟨#[]⟩, .bool false] 46)
  simp only [World.size_alloc] at e1
  rw [hq] at e0 e1
  have kc : V1.heap[q]? = some (.cells #[.int .i64 br, .int .i64 lf, .int .i64 wt, .int .i64 tr] 44 (0, 0)) := by rw [← hV1]; exact blk_on e0 (bnew _ _)
  have kr : V1.heap[q + 1]? = some (.cells #[.int .i64 0, .string ⟨#[]⟩, .string ⟨#[]⟩, .bool false] 46 (0, 0)) := by rw [← hV1]; exact e1
  obtain ⟨p, hp⟩ : ∃ p, V1.heap.size = p := ⟨_, rfl⟩
  have kz := heap_alloc_new V1 (.cells #[.int .i64 0, .string ⟨#[]⟩, .string ⟨#[]⟩, .bool false] 46)
  have bz := bnew V1 (.cells #[.int .i64 0, .string ⟨#[]⟩, .string ⟨#[]⟩, .bool false] 46)
  rw [hp] at kz
  obtain ⟨V2, hV2⟩ : ∃ V, V1.alloc (.cells #[.int .i64 0, .string ⟨#[]⟩, .string ⟨#[]⟩, .bool false] 46) = V := ⟨_, rfl⟩
  rw [hV2] at kz bz
  obtain ⟨V, hV⟩ : ∃ V, (((V2.setCell ⟨p, 0, none⟩ (.int .i64 0)).setCell ⟨p, 1, none⟩ (.string ⟨#[]⟩)).setCell ⟨p, 2, none⟩ (.string ⟨#[]⟩)).setCell ⟨p, 3, none⟩ (.bool false) = V := ⟨_, rfl⟩
  have bs : Below V1.heap.size V1 V := by rw [← hV]; exact bel_four19 bz (by rw [hp]; exact Nat.le_refl _) _ _ _ _
  have BV := aside (bthen bv1 bs)
  have KC := aside (blk_on kc bs)
  have KR := aside (blk_on kr bs)
  have KZ := aside (show V.heap[p]? = some (.cells #[.int .i64 0, .string ⟨#[]⟩, .string ⟨#[]⟩, .bool false] 46 (0, 0)) from by rw [← hV]; exact set_four19 kz _ _ _ _)
  have HQ1 := aside (show w.heap.size ≤ q + 1 from by omega)
  have HZV := aside kz
  clear kc kr kz bz bs bv1
  have HA := aside (hA.keep BV.out)
  have HBB := aside (hB.keep BV.out)
  have HX := aside (hX.keep BV.out)
  have HY := aside (hY.keep BV.out)
  have HL := aside hl
  have HM := aside hm
  obtain ⟨q1, hq1⟩ : ∃ z, chkH A la = z := ⟨_, rfl⟩
  obtain ⟨q2, hq2⟩ : ∃ z, chkH B lb = z := ⟨_, rfl⟩
  obtain ⟨q3, hq3⟩ : ∃ z, chkH X lx = z := ⟨_, rfl⟩
  obtain ⟨q4, hq4⟩ : ∃ z, chkH Y ly = z := ⟨_, rfl⟩
  have C1 := aside (fun (W : World) (bb : Below V.heap.size V W) => held19_any a la ca A W (HA.out.keep bb))
  have C2 := aside (fun (W : World) (bb : Below V.heap.size V W) => held19_any b lb cb B W (HBB.out.keep bb))
  have C3 := aside (fun (W : World) (bb : Below V.heap.size V W) => held19_any x lx cx X W (HX.out.keep bb))
  have C4 := aside (fun (W : World) (bb : Below V.heap.size V W) => held19_any y ly cy Y W (HY.out.keep bb))
  have HQS := aside (show chkH A la = q1 ∧ chkH B lb = q2 from ⟨hq1, hq2⟩)
  rw [hq1] at C1 ⊢
  rw [hq2] at C2 ⊢
  rw [hq3] at C3 ⊢
  rw [hq4] at C4 ⊢
  clear hA hB hX hY hl hm e0 e1 hq1 hq2 hq3 hq4
  go_enter Tryd.func15, Tryd.ntmps15
  go_upto_region 1 with fail
  try rw [hV1]
  try rw [hq]
  obtain ⟨y0, y1, y2, y3⟩ := four19 HZV.out
  have f0 := frozen_of_row V2 p 0 _ _ HZV.out
  have f1 := frozen_of_row V2 p 1 _ _ HZV.out
  have f2 := frozen_of_row V2 p 2 _ _ HZV.out
  have f3 := frozen_of_row V2 p 3 _ _ HZV.out
  go_upto_region 2 with fail
  try rw [hV]
  clear hV hq hV1 hV2 hp y0 y1 y2 y3 f0 f1 f2 f3 HZV
  go_wp2_with fail
  refine (C1.out _ (Below.refl _ V)).mono ?_
  rintro e w1 ⟨rfl, b1⟩
  have B1 := aside (show Below V.heap.size V w1 from b1)
  clear b1 C1
  by_cases hz1 : q1 = 0
  case neg =>
    have hzz : (q1 == 0) = false := by simpa using hz1
    have KR1 := aside (blk_on KR.out B1.out)
    have KZ1 := aside (blk_on KZ.out B1.out)
    have BF := aside (bel_four19 (bthen BV.out B1.out) HQ1.out (.int .i64 0) (.string ⟨#[]⟩) (.string ⟨#[]⟩) (.bool false))
    obtain ⟨z0, z1, z2, z3⟩ := four19 KR1.out
    obtain ⟨y0, y1, y2, y3⟩ := four19 KZ1.out
    have f0 := frozen_of_row w1 (q + 1) 0 _ _ KR1.out
    have f1 := frozen_of_row w1 (q + 1) 1 _ _ KR1.out
    have f2 := frozen_of_row w1 (q + 1) 2 _ _ KR1.out
    have f3 := frozen_of_row w1 (q + 1) 3 _ _ KR1.out
    obtain ⟨r0, r1, r2, r3⟩ := four19 (set_four19 KR1.out (.int .i64 0) (.string ⟨#[]⟩) (.string ⟨#[]⟩) (.bool false))
    go_wp2
    try simp only [Exit.inBlock, Exit.then]
    exact bodyPost_ret (v := .tuple #[.agg #[.int .i64 0, .string ⟨#[]⟩, .string ⟨#[]⟩, .bool false], .int .i64 q1]) (by simp [results, Tryd.results15, go_sem, r0, r1, r2, r3]) rfl ⟨_, _, _, _, _, rfl, BF.out, fun h => absurd h hz1⟩
  subst hz1
  go_wp2_with fail
  refine (C2.out _ B1.out).mono ?_
  rintro e w2 ⟨rfl, b2⟩
  have B2 := aside (show Below V.heap.size V w2 from bthen B1.out b2)
  clear b2 C2
  by_cases hz2 : q2 = 0
  case neg =>
    have hzz : (q2 == 0) = false := by simpa using hz2
    have KR1 := aside (blk_on KR.out B2.out)
    have KZ1 := aside (blk_on KZ.out B2.out)
    have BF := aside (bel_four19 (bthen BV.out B2.out) HQ1.out (.int .i64 0) (.string ⟨#[]⟩) (.string ⟨#[]⟩) (.bool false))
    obtain ⟨z0, z1, z2, z3⟩ := four19 KR1.out
    obtain ⟨y0, y1, y2, y3⟩ := four19 KZ1.out
    have f0 := frozen_of_row w2 (q + 1) 0 _ _ KR1.out
    have f1 := frozen_of_row w2 (q + 1) 1 _ _ KR1.out
    have f2 := frozen_of_row w2 (q + 1) 2 _ _ KR1.out
    have f3 := frozen_of_row w2 (q + 1) 3 _ _ KR1.out
    obtain ⟨r0, r1, r2, r3⟩ := four19 (set_four19 KR1.out (.int .i64 0) (.string ⟨#[]⟩) (.string ⟨#[]⟩) (.bool false))
    go_wp2
    try simp only [Exit.inBlock, Exit.then]
    exact bodyPost_ret (v := .tuple #[.agg #[.int .i64 0, .string ⟨#[]⟩, .string ⟨#[]⟩, .bool false], .int .i64 q2]) (by simp [results, Tryd.results15, go_sem, r0, r1, r2, r3]) rfl ⟨_, _, _, _, _, rfl, BF.out, fun h => absurd h hz2⟩
  subst hz2
  go_wp2_with fail
  refine (C3.out _ B2.out).mono ?_
  rintro e w3 ⟨rfl, b3⟩
  have B3 := aside (show Below V.heap.size V w3 from bthen B2.out b3)
  clear b3 C3
  by_cases hz3 : q3 = 0
  case neg =>
    have hzz : (q3 == 0) = false := by simpa using hz3
    have KR1 := aside (blk_on KR.out B3.out)
    have KZ1 := aside (blk_on KZ.out B3.out)
    have BF := aside (bel_four19 (bthen BV.out B3.out) HQ1.out (.int .i64 0) (.string ⟨#[]⟩) (.string ⟨#[]⟩) (.bool false))
    obtain ⟨z0, z1, z2, z3⟩ := four19 KR1.out
    obtain ⟨y0, y1, y2, y3⟩ := four19 KZ1.out
    have f0 := frozen_of_row w3 (q + 1) 0 _ _ KR1.out
    have f1 := frozen_of_row w3 (q + 1) 1 _ _ KR1.out
    have f2 := frozen_of_row w3 (q + 1) 2 _ _ KR1.out
    have f3 := frozen_of_row w3 (q + 1) 3 _ _ KR1.out
    obtain ⟨r0, r1, r2, r3⟩ := four19 (set_four19 KR1.out (.int .i64 0) (.string ⟨#[]⟩) (.string ⟨#[]⟩) (.bool false))
    go_wp2
    try simp only [Exit.inBlock, Exit.then]
    exact bodyPost_ret (v := .tuple #[.agg #[.int .i64 0, .string ⟨#[]⟩, .string ⟨#[]⟩, .bool false], .int .i64 q3]) (by simp [results, Tryd.results15, go_sem, r0, r1, r2, r3]) rfl ⟨_, _, _, _, _, rfl, BF.out, fun h => absurd h hz3⟩
  subst hz3
  go_wp2_with fail
  refine (C4.out _ B3.out).mono ?_
  rintro e w4 ⟨rfl, b4⟩
  have B4 := aside (show Below V.heap.size V w4 from bthen B3.out b4)
  clear b4 C4
  by_cases hz4 : q4 = 0
  case neg =>
    have hzz : (q4 == 0) = false := by simpa using hz4
    have KR1 := aside (blk_on KR.out B4.out)
    have KZ1 := aside (blk_on KZ.out B4.out)
    have BF := aside (bel_four19 (bthen BV.out B4.out) HQ1.out (.int .i64 0) (.string ⟨#[]⟩) (.string ⟨#[]⟩) (.bool false))
    obtain ⟨z0, z1, z2, z3⟩ := four19 KR1.out
    obtain ⟨y0, y1, y2, y3⟩ := four19 KZ1.out
    have f0 := frozen_of_row w4 (q + 1) 0 _ _ KR1.out
    have f1 := frozen_of_row w4 (q + 1) 1 _ _ KR1.out
    have f2 := frozen_of_row w4 (q + 1) 2 _ _ KR1.out
    have f3 := frozen_of_row w4 (q + 1) 3 _ _ KR1.out
    obtain ⟨r0, r1, r2, r3⟩ := four19 (set_four19 KR1.out (.int .i64 0) (.string ⟨#[]⟩) (.string ⟨#[]⟩) (.bool false))
    go_wp2
    try simp only [Exit.inBlock, Exit.then]
    exact bodyPost_ret (v := .tuple #[.agg #[.int .i64 0, .string ⟨#[]⟩, .string ⟨#[]⟩, .bool false], .int .i64 q4]) (by simp [results, Tryd.results15, go_sem, r0, r1, r2, r3]) rfl ⟨_, _, _, _, _, rfl, BF.out, fun h => absurd h hz4⟩
  subst hz4
  have hcells := blk_on KC.out B4.out
  obtain ⟨c0, c1, c2, c3⟩ := four19 hcells
  clear hcells
  go_wp2_with fail
  refine (right19_any br lf _).mono ?_
  rintro e w5 ⟨rfl, rfl⟩
  clear c0 c1 c2 c3
  by_cases hok : okC br lf
  case neg =>
    have hd : decide (okC br lf) = false := decide_eq_false hok
    have KR1 := aside (blk_on KR.out B4.out)
    have KZ1 := aside (blk_on KZ.out B4.out)
    have BF := aside (bel_four19 (bthen BV.out B4.out) HQ1.out (.int .i64 0) (.string ⟨#[]⟩) (.string ⟨#[]⟩) (.bool false))
    obtain ⟨z0, z1, z2, z3⟩ := four19 KR1.out
    obtain ⟨y0, y1, y2, y3⟩ := four19 KZ1.out
    have f0 := frozen_of_row w5 (q + 1) 0 _ _ KR1.out
    have f1 := frozen_of_row w5 (q + 1) 1 _ _ KR1.out
    have f2 := frozen_of_row w5 (q + 1) 2 _ _ KR1.out
    have f3 := frozen_of_row w5 (q + 1) 3 _ _ KR1.out
    obtain ⟨r0, r1, r2, r3⟩ := four19 (set_four19 KR1.out (.int .i64 0) (.string ⟨#[]⟩) (.string ⟨#[]⟩) (.bool false))
    go_wp2
    try simp only [Exit.inBlock, Exit.then]
    exact bodyPost_ret (v := .tuple #[.agg #[.int .i64 0, .string ⟨#[]⟩, .string ⟨#[]⟩, .bool false], .int .i64 1]) (by simp [results, Tryd.results15, go_sem, r0, r1, r2, r3]) rfl ⟨_, _, _, _, _, rfl, BF.out, fun h => by omega⟩
  have hd : decide (okC br lf) = true := decide_eq_true hok
  have HOK := aside hok
  clear hok
  by_cases hrf : rf < 0
  case pos =>
    have KR1 := aside (blk_on KR.out B4.out)
    have KZ1 := aside (blk_on KZ.out B4.out)
    have BF := aside (bel_four19 (bthen BV.out B4.out) HQ1.out (.int .i64 0) (.string ⟨#[]⟩) (.string ⟨#[]⟩) (.bool false))
    obtain ⟨z0, z1, z2, z3⟩ := four19 KR1.out
    obtain ⟨y0, y1, y2, y3⟩ := four19 KZ1.out
    have f0 := frozen_of_row w5 (q + 1) 0 _ _ KR1.out
    have f1 := frozen_of_row w5 (q + 1) 1 _ _ KR1.out
    have f2 := frozen_of_row w5 (q + 1) 2 _ _ KR1.out
    have f3 := frozen_of_row w5 (q + 1) 3 _ _ KR1.out
    obtain ⟨r0, r1, r2, r3⟩ := four19 (set_four19 KR1.out (.int .i64 0) (.string ⟨#[]⟩) (.string ⟨#[]⟩) (.bool false))
    go_wp2
    try simp only [Exit.inBlock, Exit.then]
    exact bodyPost_ret (v := .tuple #[.agg #[.int .i64 0, .string ⟨#[]⟩, .string ⟨#[]⟩, .bool false], .int .i64 1]) (by simp [results, Tryd.results15, go_sem, r0, r1, r2, r3]) rfl ⟨_, _, _, _, _, rfl, BF.out, fun h => by omega⟩
  have HRF := aside (show 0 ≤ rf from by omega)
  obtain ⟨hx, hy⟩ := HM.out HQS.out.1 HQS.out.2
  have hmA : ck2 A la B lb = 0 := by
    unfold ck2
    rw [(chkH_ok HQS.out.1).1, (chkH_ok HQS.out.2).1]
    rfl
  have CM := aside (rmax_any a la ca A b lb cb B w5 (HA.out.keep B4.out) (HBB.out.keep B4.out) (by have := HL.out; omega))
  rw [hmA, outL_ok _ rfl] at CM
  obtain ⟨mA, mB⟩ := ck2_ok.1 hmA
  have HKY := aside (show KeysOk (mxP (prs (firstE A la) (firstE B lb))) from mxKeys mA mB)
  have HLN := aside (show (mxP (prs (firstE A la) (firstE B lb))).length ≤ la + lb from by
    have h1 := mxP_len (prs (firstE A la) (firstE B lb)); have h2 := prs_len (firstE A la) (firstE B lb); rw [firstE_len, firstE_len] at h2; omega)
  have HXY := aside (show firstE X lx = mxP (prs (firstE A la) (firstE B lb)) ∧ firstE Y ly = mxP (prs (firstE A la) (firstE B lb)) from ⟨hx, hy⟩)
  have HLX := aside (show lx ≤ la + lb ∧ ly ≤ la + lb from by
    have h1 := congrArg List.length hx; have h2 := congrArg List.length hy; rw [firstE_len] at h1 h2; have := HLN.out; omega)
  clear hx hy hmA mA mB
  go_wp2_with fail
  refine CM.out.mono ?_
  rintro e w6 ⟨v, rfl, ho, b6⟩
  obtain ⟨am, cm, M, rfl, hM, hMe⟩ := ents_of_says ho HKY.out
  have B6 := aside (bthen B4.out b6)
  obtain ⟨lm, hlm⟩ : ∃ n, (mxP (prs (firstE A la) (firstE B lb))).length = n := ⟨_, rfl⟩
  rw [hlm] at hM hMe ⊢
  have HMM := aside hM
  have HLM := aside (show lm ≤ la + lb from by rw [← hlm]; exact HLN.out)
  have HD1 := aside (show (outL (ck2 X lx M lm) (dfP (prs (firstE X lx) (firstE M lm)))).length = 0 from by
    rw [HXY.out.1, hMe, dfP_self]; unfold outL; split <;> rfl)
  have HD2 := aside (show (outL (ck2 Y ly M lm) (dfP (prs (firstE Y ly) (firstE M lm)))).length = 0 from by
    rw [HXY.out.2, hMe, dfP_self]; unfold outL; split <;> rfl)
  have CA := aside (alike19_any x lx cx X am lm cm M w6 (HX.out.keep B6.out) HMM.out (by have h1 := HLX.out; have h2 := HLM.out; have h3 := HL.out; omega))
  rw [HD1.out] at CA
  clear ho b6 hM hMe hlm CM
  go_wp2_with fail
  refine CA.out.mono ?_
  rintro e w7 ⟨rfl, b7⟩
  have B7 := aside (bthen B6.out b7)
  have CB := aside (alike19_any y ly cy Y am lm cm M w7 (HY.out.keep B7.out) (HMM.out.keep b7) (by have h1 := HLX.out; have h2 := HLM.out; have h3 := HL.out; omega))
  rw [HD2.out] at CB
  clear b7 CA
  go_wp2_with fail
  refine CB.out.mono ?_
  rintro e w8 ⟨rfl, b8⟩
  have B8 := aside (bthen B7.out b8)
  clear b8 CB
  have KR1 := aside (blk_on KR.out B8.out)
  have KZ1 := aside (blk_on KZ.out B8.out)
  have BF := aside (bel_four19 (bthen BV.out B8.out) HQ1.out (.int .i64 1) (.string ⟨#[]⟩) (.string ⟨#[]⟩) (.bool false))
  obtain ⟨z0, z1, z2, z3⟩ := four19 KR1.out
  have f0 := frozen_of_row w8 (q + 1) 0 _ _ KR1.out
  have f1 := frozen_of_row w8 (q + 1) 1 _ _ KR1.out
  have f2 := frozen_of_row w8 (q + 1) 2 _ _ KR1.out
  have f3 := frozen_of_row w8 (q + 1) 3 _ _ KR1.out
  obtain ⟨r0, r1, r2, r3⟩ := four19 (set_four19 KR1.out (.int .i64 1) (.string ⟨#[]⟩) (.string ⟨#[]⟩) (.bool false))
  go_wp2
  try simp only [Exit.inBlock, Exit.then]
  exact bodyPost_ret (v := .tuple #[.agg #[.int .i64 1, .string ⟨#[]⟩, .string ⟨#[]⟩, .bool false], .int .i64 0]) (by simp [results, Tryd.results15, go_sem, r0, r1, r2, r3]) rfl ⟨_, _, _, _, _, rfl, BF.out, fun _ => ⟨rfl, rfl, rfl, rfl, HOK.out, HRF.out⟩⟩
set_option maxHeartbeats 16000000 in
set_option maxRecDepth 100000 in
theorem gjudge_met (a : Option Addr) (la ca : Nat) (A : Nat → En) (b : Option Addr) (lb cb : Nat) (B : Nat → En) (x : Option Addr) (lx cx : Nat) (X : Nat → En) (y : Option Addr) (ly cy : Nat) (Y : Nat → En) (br lf wt tr rf : Int) (w : World) (hA : EntsIn w a la ca A) (hB : EntsIn w b lb cb B) (hX : EntsIn w x lx cx X) (hY : EntsIn w y ly cy Y) (hl : la + lb ≤ 1073741824) (hq1 : chkH A la = 0) (hq2 : chkH B lb = 0) (hq3 : chkH X lx = 0) (hq4 : chkH Y ly = 0) (hok : okC br lf) (hrf : 0 ≤ rf)
    (hx : dfP (prs (firstE X lx) (mxP (prs (firstE A la) (firstE B lb)))) = []) (hy : dfP (prs (firstE Y ly) (mxP (prs (firstE A la) (firstE B lb)))) = []) :
    Calls Tryd.prog 14 #[.slice a la ca, .slice b lb cb, .slice x lx cx, .slice y ly cy, .agg #[.int .i64 br, .int .i64 lf, .int .i64 wt, .int .i64 tr], .int .i64 rf] w fun e w' => e = .returned (.tuple #[.agg #[.int .i64 1, .string ⟨#[]⟩, .string ⟨#[]⟩, .bool false], .int .i64 0]) ∧ Below w.heap.size w w' := by
  obtain ⟨q, hq⟩ : ∃ q, w.heap.size = q := ⟨_, rfl⟩
  obtain ⟨V, hV⟩ : ∃ V, (w.alloc (.cells #[.int .i64 br, .int .i64 lf, .int .i64 wt, .int .i64 tr] 44)).alloc (.cells #[.int .i64 0, .string ⟨#[]⟩, .string ⟨#[]⟩, .bool false] 46) = V := ⟨_, rfl⟩
  have BV := aside (show Below w.heap.size w V from by rw [← hV]; exact bthen (bnew w _) (bnew _ _))
  have e0 := heap_alloc_new w (.cells #[.int .i64 br, .int .i64 lf, .int .i64 wt, .int .i64 tr] 44)
  have e1 := heap_alloc_new (w.alloc (.cells #[.int .i64 br, .int .i64 lf, .int .i64 wt, .int .i64 tr] 44)) (.cells #[.int .i64 0, .string ⟨#[]⟩, .string ⟨#[]⟩, .bool false] 46)
  simp only [World.size_alloc] at e1
  rw [hq] at e0 e1
  have KC := aside (show V.heap[q]? = some (.cells #[.int .i64 br, .int .i64 lf, .int .i64 wt, .int .i64 tr] 44 (0, 0)) from by rw [← hV]; exact blk_on e0 (bnew _ _))
  have KR := aside (show V.heap[q + 1]? = some (.cells #[.int .i64 0, .string ⟨#[]⟩, .string ⟨#[]⟩, .bool false] 46 (0, 0)) from by rw [← hV]; exact e1)
  have KZ := aside (show V.heap[q + 1]? = some (.cells #[.int .i64 0, .string ⟨#[]⟩, .string ⟨#[]⟩, .bool false] 46 (0, 0)) from by rw [← hV]; exact e1)
  have HQ1 := aside (show w.heap.size ≤ q + 1 from by omega)
  have HA := aside (hA.keep BV.out)
  have HBB := aside (hB.keep BV.out)
  have HX := aside (hX.keep BV.out)
  have HY := aside (hY.keep BV.out)
  have HL := aside hl
  have hmA : ck2 A la B lb = 0 := by
    unfold ck2
    rw [(chkH_ok hq1).1, (chkH_ok hq2).1]
    rfl
  obtain ⟨mA, mB⟩ := ck2_ok.1 hmA
  have HMA := aside hmA
  have HKY := aside (show KeysOk (mxP (prs (firstE A la) (firstE B lb))) from mxKeys mA mB)
  have HLN := aside (show (mxP (prs (firstE A la) (firstE B lb))).length ≤ la + lb from by
    have h1 := mxP_len (prs (firstE A la) (firstE B lb)); have h2 := prs_len (firstE A la) (firstE B lb); rw [firstE_len, firstE_len] at h2; omega)
  have HXY := aside (show dfP (prs (firstE X lx) (mxP (prs (firstE A la) (firstE B lb)))) = [] ∧ dfP (prs (firstE Y ly) (mxP (prs (firstE A la) (firstE B lb)))) = [] from ⟨hx, hy⟩)
  have HLX := aside (show lx ≤ 256 ∧ ly ≤ 256 from ⟨(chkH_ok hq3).2, (chkH_ok hq4).2⟩)
  have HCS := aside (cmN_ok (f := fun k => chkH (match k with | 0 => A | 1 => B | 2 => X | _ => Y) (match k with | 0 => la | 1 => lb | 2 => lx | _ => ly)) (m := 4) |>.2 (fun i hi => by
    match i, hi with
    | 0, _ => exact hq1
    | 1, _ => exact hq2
    | 2, _ => exact hq3
    | 3, _ => exact hq4))
  have bn := bnew V (.cells #[.slice a la ca, .slice b lb cb, .slice x lx cx, .slice y ly cy] 22)
  have kn := heap_alloc_new V (.cells #[.slice a la ca, .slice b lb cb, .slice x lx cx, .slice y ly cy] 22)
  have CK := aside (cmaps_any V.heap.size 4 4 (fun k => match k with | 0 => a | 1 => b | 2 => x | _ => y) (fun k => match k with | 0 => la | 1 => lb | 2 => lx | _ => ly) (fun k => match k with | 0 => ca | 1 => cb | 2 => cx | _ => cy) (fun k => match k with | 0 => A | 1 => B | 2 => X | _ => Y) (V.alloc (.cells #[.slice a la ca, .slice b lb cb, .slice x lx cx, .slice y ly cy] 22)) (by omega) (fun k hk => by
    match k, hk with
    | 0, _ => exact ⟨by rw [cell_of_row _ _ 0 _ _ _ kn]; rfl, HA.out.keep bn⟩
    | 1, _ => exact ⟨by rw [cell_of_row _ _ 1 _ _ _ kn]; rfl, HBB.out.keep bn⟩
    | 2, _ => exact ⟨by rw [cell_of_row _ _ 2 _ _ _ kn]; rfl, HX.out.keep bn⟩
    | 3, _ => exact ⟨by rw [cell_of_row _ _ 3 _ _ _ kn]; rfl, HY.out.keep bn⟩))
  rw [HCS.out] at CK
  have BN := aside bn
  have hd : decide (okC br lf) = true := decide_eq_true hok
  have hrf2 : ¬ rf < 0 := by omega
  clear hA hB hX hY hl e0 e1 hq1 hq2 hq3 hq4 hok hrf hx hy hmA mA mB HCS bn kn
  go_enter Tryd.func14, Tryd.ntmps14
  go_upto_region 1 with fail
  try rw [hV]
  try rw [hq]
  clear hV hq
  go_wp2_with fail
  refine CK.out.mono ?_
  rintro e w1 ⟨rfl, b1⟩
  have B1 := aside (bthen BN.out b1)
  clear b1 CK BN
  obtain ⟨c0, c1, c2, c3⟩ := four19 (blk_on KC.out B1.out)
  go_wp2_with fail
  refine (inbounds_any br lf _).mono ?_
  rintro e w5 ⟨rfl, rfl⟩
  clear c0 c1 c2 c3
  have CM := aside (mmax_any a la ca A b lb cb B w5 (HA.out.keep B1.out) (HBB.out.keep B1.out) (by have := HL.out; omega))
  rw [HMA.out, outL_ok _ rfl] at CM
  go_wp2_with fail
  refine CM.out.mono ?_
  rintro e w6 ⟨v, rfl, ho, b6⟩
  obtain ⟨am, cm, M, rfl, hM, hMe⟩ := ents_of_says ho HKY.out
  have B6 := aside (bthen B1.out b6)
  obtain ⟨lm, hlm⟩ : ∃ n, (mxP (prs (firstE A la) (firstE B lb))).length = n := ⟨_, rfl⟩
  rw [hlm] at hM hMe ⊢
  have HMM := aside hM
  have HLM := aside (show lm ≤ la + lb from by rw [← hlm]; exact HLN.out)
  have HD1 := aside (show (outL (ck2 X lx M lm) (dfP (prs (firstE X lx) (firstE M lm)))).length = 0 from by
    rw [hMe, HXY.out.1]; unfold outL; split <;> rfl)
  have HD2 := aside (show (outL (ck2 Y ly M lm) (dfP (prs (firstE Y ly) (firstE M lm)))).length = 0 from by
    rw [hMe, HXY.out.2]; unfold outL; split <;> rfl)
  have CA := aside (unlike_any x lx cx X am lm cm M w6 (HX.out.keep B6.out) HMM.out (by have h1 := HLX.out; have h2 := HLM.out; have h3 := HL.out; omega))
  rw [HD1.out] at CA
  clear ho b6 hM hMe hlm CM
  go_wp2_with fail
  refine CA.out.mono ?_
  rintro e w7 ⟨rfl, b7⟩
  have B7 := aside (bthen B6.out b7)
  have CB := aside (unlike_any y ly cy Y am lm cm M w7 (HY.out.keep B7.out) (HMM.out.keep b7) (by have h1 := HLX.out; have h2 := HLM.out; have h3 := HL.out; omega))
  rw [HD2.out] at CB
  clear b7 CA
  go_wp2_with fail
  refine CB.out.mono ?_
  rintro e w8 ⟨rfl, b8⟩
  have B8 := aside (bthen B7.out b8)
  clear b8 CB
  have KR1 := aside (blk_on KR.out B8.out)
  have KZ1 := aside (blk_on KZ.out B8.out)
  have BF := aside (bel_four19 (bthen BV.out B8.out) HQ1.out (.int .i64 1) (.string ⟨#[]⟩) (.string ⟨#[]⟩) (.bool false))
  obtain ⟨z0, z1, z2, z3⟩ := four19 KR1.out
  have f0 := frozen_of_row w8 (q + 1) 0 _ _ KR1.out
  have f1 := frozen_of_row w8 (q + 1) 1 _ _ KR1.out
  have f2 := frozen_of_row w8 (q + 1) 2 _ _ KR1.out
  have f3 := frozen_of_row w8 (q + 1) 3 _ _ KR1.out
  obtain ⟨r0, r1, r2, r3⟩ := four19 (set_four19 KR1.out (.int .i64 1) (.string ⟨#[]⟩) (.string ⟨#[]⟩) (.bool false))
  go_wp2
  try simp only [Exit.inBlock, Exit.then]
  exact bodyPost_ret (v := .tuple #[.agg #[.int .i64 1, .string ⟨#[]⟩, .string ⟨#[]⟩, .bool false], .int .i64 0]) (by simp [results, Tryd.results14, go_sem, r0, r1, r2, r3]) rfl ⟨rfl, BF.out⟩
end Go.Proofs.YtfkdhambbpkmpaaDoor
