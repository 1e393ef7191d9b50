/-
  Judge of the code, whatever the maps.
-/
import Derived.Test.YtfkdhambbpkmpaaDoorBv27
namespace Go.Proofs.YtfkdhambbpkmpaaDoor
open Go.RowKit
set_option linter.unusedVariables false
/-- What four checks come to. -/
def four4 (q1 q2 q3 q4 : Int) : Int := if q1 ≠ 0 then q1 else if q2 ≠ 0 then q2 else if q3 ≠ 0 then q3 else q4
theorem cmN_four (f : Nat → Int) : cmN f 4 = four4 (f 0) (f 1) (f 2) (f 3) := by
  have e1 : cmN f 1 = f 0 := by show (if (0 : Int) = 0 then f 0 else 0) = _; rw [if_pos rfl]
  have e2 : cmN f 2 = if f 0 = 0 then f 1 else f 0 := by show (if cmN f 1 = 0 then f 1 else cmN f 1) = _; rw [e1]
  have e3 : cmN f 3 = if cmN f 2 = 0 then f 2 else cmN f 2 := rfl
  have e4 : cmN f 4 = if cmN f 3 = 0 then f 3 else cmN f 3 := rfl
  unfold four4
  rw [e4, e3, e2]
  by_cases h0 : f 0 = 0
  · by_cases h1 : f 1 = 0
    · by_cases h2 : f 2 = 0 <;> simp [h0, h1, h2]
    · simp [h0, h1]
  · simp [h0]
theorem four_bad {q1 q2 q3 q4 br lf rf : Int} (h : ¬ four4 q1 q2 q3 q4 = 0) : jErr q1 q2 q3 q4 br lf rf = four4 q1 q2 q3 q4 := by
  unfold jErr four4 at *
  by_cases h1 : q1 = 0
  · by_cases h2 : q2 = 0
    · by_cases h3 : q3 = 0
      · by_cases h4 : q4 = 0
        · simp [h1, h2, h3, h4] at h
        · simp [h1, h2, h3, h4]
      · simp [h1, h2, h3]
    · simp [h1, h2]
  · simp [h1]
theorem four_zero {q1 q2 q3 q4 : Int} (h : four4 q1 q2 q3 q4 = 0) : q1 = 0 ∧ q2 = 0 ∧ q3 = 0 ∧ q4 = 0 := by
  unfold four4 at h
  by_cases h1 : q1 = 0
  · by_cases h2 : q2 = 0
    · by_cases h3 : q3 = 0
      · rw [if_neg (by simp [h1]), if_neg (by simp [h2]), if_neg (by simp [h3])] at h
        exact ⟨h1, h2, h3, h⟩
      · rw [if_neg (by simp [h1]), if_neg (by simp [h2]), if_pos h3] at h
        exact absurd h h3
    · rw [if_neg (by simp [h1]), if_pos h2] at h
      exact absurd h h2
  · rw [if_pos h1] at h
    exact absurd h h1
set_option maxHeartbeats 16000000 in
set_option maxRecDepth 100000 in
theorem gjudge_all (a : Option Addr) (la ca : Nat) (A : Nat → En) (b : Option Addr) (lb cb : Nat) (B : Nat → En) (x : Option Addr) (lx cx : Nat) (X : Nat → En) (y : Option Addr) (ly cy : Nat) (Y : Nat → En) (br lf wt tr rf : Int) (w : World) (hA : EntsIn w a la ca A) (hB : EntsIn w b lb cb B) (hX : EntsIn w x lx cx X) (hY : EntsIn w y ly cy Y) (L : Lanes w) :
    Calls Tryd.prog 14 #[.slice a la ca, .slice b lb cb, .slice x lx cx, .slice y ly cy, .agg #[.int .i64 br, .int .i64 lf, .int .i64 wt, .int .i64 tr], .int .i64 rf] w (fun e w' => e = .returned (.tuple #[jVal (jErr (chkH A la) (chkH B lb) (chkH X lx) (chkH Y ly) br lf rf) (dfP (prs (firstE X lx) (mxL (firstE A la) (firstE B lb)))).length (dfP (prs (firstE Y ly) (mxL (firstE A la) (firstE B lb)))).length (twAns (firstE A la) (firstE B lb) br lf) rf, .int .i64 (jErr (chkH A la) (chkH B lb) (chkH X lx) (chkH Y ly) br lf rf)]) ∧ Below w.heap.size w w') := by
  obtain ⟨q, hq⟩ : ∃ q, w.heap.size = q := ⟨_, rfl⟩
  obtain ⟨V, hV⟩ : ∃ V, (w.alloc (.cells #[.int .i64 br, .int .i64 lf, .int .i64 wt, .int .i64 tr] 44)).alloc (.cells #[.int .i64 0, .string ⟨#[]⟩, .string ⟨#[]⟩, .bool false] 46) = V := ⟨_, rfl⟩
  have BV := aside (show Below w.heap.size w V from by rw [← hV]; exact bthen (bnew w _) (bnew _ _))
  have e0 := heap_alloc_new w (.cells #[.int .i64 br, .int .i64 lf, .int .i64 wt, .int .i64 tr] 44)
  have e1 := heap_alloc_new (w.alloc (.cells #[.int .i64 br, .int .i64 lf, .int .i64 wt, .int .i64 tr] 44)) (.cells #[.int .i64 0, .string ⟨#[]⟩, .string ⟨#[]⟩, .bool false] 46)
  simp only [World.size_alloc] at e1
  rw [hq] at e0 e1
  have KC := aside (show V.heap[q]? = some (.cells #[.int .i64 br, .int .i64 lf, .int .i64 wt, .int .i64 tr] 44 (0, 0)) from by rw [← hV]; exact blk_on e0 (bnew _ _))
  have KR := aside (show V.heap[q + 1]? = some (.cells #[.int .i64 0, .string ⟨#[]⟩, .string ⟨#[]⟩, .bool false] 46 (0, 0)) from by rw [← hV]; exact e1)
  have KZ := aside (show V.heap[q + 1]? = some (.cells #[.int .i64 0, .string ⟨#[]⟩, .string ⟨#[]⟩, .bool false] 46 (0, 0)) from by rw [← hV]; exact e1)
  have HQ1 := aside (show w.heap.size ≤ q + 1 from by omega)
  have HA := aside (hA.keep BV.out)
  have HBB := aside (hB.keep BV.out)
  have HX := aside (hX.keep BV.out)
  have HY := aside (hY.keep BV.out)
  have LL := aside L
  have bn := bnew V (.cells #[.slice a la ca, .slice b lb cb, .slice x lx cx, .slice y ly cy] 22)
  have kn := heap_alloc_new V (.cells #[.slice a la ca, .slice b lb cb, .slice x lx cx, .slice y ly cy] 22)
  have CK := aside (cmaps_any V.heap.size 4 4 (fun k => match k with | 0 => a | 1 => b | 2 => x | _ => y) (fun k => match k with | 0 => la | 1 => lb | 2 => lx | _ => ly) (fun k => match k with | 0 => ca | 1 => cb | 2 => cx | _ => cy) (fun k => match k with | 0 => A | 1 => B | 2 => X | _ => Y) (V.alloc (.cells #[.slice a la ca, .slice b lb cb, .slice x lx cx, .slice y ly cy] 22)) (by omega) (fun k hk => by
    match k, hk with
    | 0, _ => exact ⟨by rw [cell_of_row _ _ 0 _ _ _ kn]; rfl, HA.out.keep bn⟩
    | 1, _ => exact ⟨by rw [cell_of_row _ _ 1 _ _ _ kn]; rfl, HBB.out.keep bn⟩
    | 2, _ => exact ⟨by rw [cell_of_row _ _ 2 _ _ _ kn]; rfl, HX.out.keep bn⟩
    | 3, _ => exact ⟨by rw [cell_of_row _ _ 3 _ _ _ kn]; rfl, HY.out.keep bn⟩))
  rw [cmN_four] at CK
  obtain ⟨q1, hq1⟩ : ∃ z, chkH A la = z := ⟨_, rfl⟩
  obtain ⟨q2, hq2⟩ : ∃ z, chkH B lb = z := ⟨_, rfl⟩
  obtain ⟨q3, hq3⟩ : ∃ z, chkH X lx = z := ⟨_, rfl⟩
  obtain ⟨q4, hq4⟩ : ∃ z, chkH Y ly = z := ⟨_, rfl⟩
  obtain ⟨qq, hqq⟩ : ∃ z, four4 q1 q2 q3 q4 = z := ⟨_, rfl⟩
  have HQS := aside (show chkH A la = q1 ∧ chkH B lb = q2 ∧ chkH X lx = q3 ∧ chkH Y ly = q4 from ⟨hq1, hq2, hq3, hq4⟩)
  have HQQ := aside hqq
  rw [show four4 ((fun k => chkH (match k with | 0 => A | 1 => B | 2 => X | _ => Y) (match k with | 0 => la | 1 => lb | 2 => lx | _ => ly)) 0) ((fun k => chkH (match k with | 0 => A | 1 => B | 2 => X | _ => Y) (match k with | 0 => la | 1 => lb | 2 => lx | _ => ly)) 1) ((fun k => chkH (match k with | 0 => A | 1 => B | 2 => X | _ => Y) (match k with | 0 => la | 1 => lb | 2 => lx | _ => ly)) 2) ((fun k => chkH (match k with | 0 => A | 1 => B | 2 => X | _ => Y) (match k with | 0 => la | 1 => lb | 2 => lx | _ => ly)) 3) = qq from by
    show four4 (chkH A la) (chkH B lb) (chkH X lx) (chkH Y ly) = qq
    rw [hq1, hq2, hq3, hq4]; exact hqq] at CK
  rw [hq1, hq2, hq3, hq4]
  have BN := aside bn
  clear hA hB hX hY L e0 e1 hq1 hq2 hq3 hq4 hqq bn kn
  go_enter Tryd.func14, Tryd.ntmps14
  go_upto_region 1 with fail
  try rw [hV]
  try rw [hq]
  clear hV hq
  go_wp2_with fail
  refine CK.out.mono ?_
  rintro e w1 ⟨rfl, b1⟩
  have B1 := aside (bthen BN.out b1)
  clear b1 CK BN
  by_cases hz : qq = 0
  case neg =>
    have hzz : (qq == 0) = false := by simpa using hz
    have HE9 := aside (show jErr q1 q2 q3 q4 br lf rf = qq from by
      rw [← HQQ.out]; exact four_bad (by rw [HQQ.out]; exact hz))
    have HZ := aside hz
    have KR1 := aside (blk_on KR.out B1.out)
    have BF := aside (bel_four19 (bthen BV.out B1.out) HQ1.out (.int .i64 0) (.string ⟨#[]⟩) (.string ⟨#[]⟩) (.bool false))
    obtain ⟨z0, z1, z2, z3⟩ := four19 KR1.out
    have f0 := frozen_of_row w1 (q + 1) 0 _ _ KR1.out
    have f1 := frozen_of_row w1 (q + 1) 1 _ _ KR1.out
    have f2 := frozen_of_row w1 (q + 1) 2 _ _ KR1.out
    have f3 := frozen_of_row w1 (q + 1) 3 _ _ KR1.out
    obtain ⟨r0, r1, r2, r3⟩ := four19 (set_four19 KR1.out (.int .i64 0) (.string ⟨#[]⟩) (.string ⟨#[]⟩) (.bool false))
    go_wp2
    try simp only [Exit.inBlock, Exit.then]
    exact bodyPost_ret (v := .tuple #[.agg #[.int .i64 0, .string ⟨#[]⟩, .string ⟨#[]⟩, .bool false], .int .i64 qq]) (by simp [results, Tryd.results14, go_sem, r0, r1, r2, r3]) rfl ⟨by rw [HE9.out, jVal_bad HZ.out], BF.out⟩
  subst hz
  obtain ⟨h1, h2, h3, h4⟩ := four_zero HQQ.out
  subst h1
  subst h2
  subst h3
  subst h4
  clear HQQ
  obtain ⟨c0, c1, c2, c3⟩ := four19 (blk_on KC.out B1.out)
  go_wp2_with fail
  refine (inbounds_any br lf _).mono ?_
  rintro e w5 ⟨rfl, rfl⟩
  clear c0 c1 c2 c3
  by_cases hok : okC br lf
  case neg =>
    have hd : decide (okC br lf) = false := decide_eq_false hok
    have HZ := aside (show ¬ (okC br lf ∧ 0 ≤ rf) from fun h => hok h.1)
    have KR1 := aside (blk_on KR.out B1.out)
    have BF := aside (bel_four19 (bthen BV.out B1.out) HQ1.out (.int .i64 0) (.string ⟨#[]⟩) (.string ⟨#[]⟩) (.bool false))
    obtain ⟨z0, z1, z2, z3⟩ := four19 KR1.out
    have f0 := frozen_of_row w5 (q + 1) 0 _ _ KR1.out
    have f1 := frozen_of_row w5 (q + 1) 1 _ _ KR1.out
    have f2 := frozen_of_row w5 (q + 1) 2 _ _ KR1.out
    have f3 := frozen_of_row w5 (q + 1) 3 _ _ KR1.out
    obtain ⟨r0, r1, r2, r3⟩ := four19 (set_four19 KR1.out (.int .i64 0) (.string ⟨#[]⟩) (.string ⟨#[]⟩) (.bool false))
    go_wp2
    try simp only [Exit.inBlock, Exit.then]
    exact bodyPost_ret (v := .tuple #[.agg #[.int .i64 0, .string ⟨#[]⟩, .string ⟨#[]⟩, .bool false], .int .i64 1]) (by simp [results, Tryd.results14, go_sem, r0, r1, r2, r3]) rfl ⟨by rw [jErr5 HZ.out, jVal_bad (by decide)], BF.out⟩
  have hd : decide (okC br lf) = true := decide_eq_true hok
  have HOK := aside hok
  clear hok
  by_cases hrf : rf < 0
  case pos =>
    have HZ := aside (show ¬ (okC br lf ∧ 0 ≤ rf) from fun h => by have := h.2; omega)
    have KR1 := aside (blk_on KR.out B1.out)
    have BF := aside (bel_four19 (bthen BV.out B1.out) HQ1.out (.int .i64 0) (.string ⟨#[]⟩) (.string ⟨#[]⟩) (.bool false))
    obtain ⟨z0, z1, z2, z3⟩ := four19 KR1.out
    have f0 := frozen_of_row w5 (q + 1) 0 _ _ KR1.out
    have f1 := frozen_of_row w5 (q + 1) 1 _ _ KR1.out
    have f2 := frozen_of_row w5 (q + 1) 2 _ _ KR1.out
    have f3 := frozen_of_row w5 (q + 1) 3 _ _ KR1.out
    obtain ⟨r0, r1, r2, r3⟩ := four19 (set_four19 KR1.out (.int .i64 0) (.string ⟨#[]⟩) (.string ⟨#[]⟩) (.bool false))
    go_wp2
    try simp only [Exit.inBlock, Exit.then]
    exact bodyPost_ret (v := .tuple #[.agg #[.int .i64 0, .string ⟨#[]⟩, .string ⟨#[]⟩, .bool false], .int .i64 1]) (by simp [results, Tryd.results14, go_sem, r0, r1, r2, r3]) rfl ⟨by rw [jErr5 HZ.out, jVal_bad (by decide)], BF.out⟩
  have HER := aside (jErr0 (br := br) (lf := lf) (rf := rf) ⟨HOK.out, by omega⟩)
  have cA := chkH_ok HQS.out.1
  have cB := chkH_ok HQS.out.2.1
  have cX := chkH_ok HQS.out.2.2.1
  have cY := chkH_ok HQS.out.2.2.2
  have MA := aside ((ck_map la).1 cA.1)
  have MB := aside ((ck_map lb).1 cB.1)
  have MX := aside ((ck_map lx).1 cX.1)
  have MY := aside ((ck_map ly).1 cY.1)
  have LS := aside (show la ≤ 256 ∧ lb ≤ 256 ∧ lx ≤ 256 ∧ ly ≤ 256 from ⟨cA.2, cB.2, cX.2, cY.2⟩)
  have CM := aside (mmax_any a la ca A b lb cb B w5 (HA.out.keep B1.out) (HBB.out.keep B1.out) (by omega))
  rw [ck2_ok.2 ⟨MA.out, MB.out⟩, outL_ok _ rfl, mxP_prs] at CM
  have MM := aside (mx_map MA.out MB.out)
  have HLN := aside (show (mxL (firstE A la) (firstE B lb)).length ≤ 512 from by
    have h1 := mxP_len (prs (firstE A la) (firstE B lb)); have h2 := prs_len (firstE A la) (firstE B lb); rw [firstE_len, firstE_len] at h2; rw [mxP_prs] at h1; omega)
  clear cA cB cX cY
  go_wp2_with fail
  refine CM.out.mono ?_
  rintro e w6 ⟨v, rfl, ho, b6⟩
  obtain ⟨am, cm, M, rfl, hM, hMe⟩ := ents_of_says ho (map_keys MM.out)
  have B6 := aside (bthen B1.out b6)
  obtain ⟨N, hN⟩ : ∃ N, mxL (firstE A la) (firstE B lb) = N := ⟨_, rfl⟩
  have HN := aside hN
  rw [hN] at hM hMe MM HLN ⊢
  obtain ⟨lm, hlm⟩ : ∃ n, N.length = n := ⟨_, rfl⟩
  rw [hlm] at hM hMe ⊢
  have HMM := aside (show LsIn w6 am lm cm N from ⟨M, hM, hMe⟩)
  have HLM := aside (show lm ≤ 512 from by rw [← hlm]; exact HLN.out)
  obtain ⟨nx, hnx⟩ : ∃ n, (dfP (prs (firstE X lx) N)).length = n := ⟨_, rfl⟩
  obtain ⟨ny, hny⟩ : ∃ n, (dfP (prs (firstE Y ly) N)).length = n := ⟨_, rfl⟩
  have HNX := aside hnx
  have HNY := aside hny
  have CA := aside (unlike_ls (⟨X, HX.out.keep B6.out, rfl⟩ : LsIn w6 x lx cx (firstE X lx)) HMM.out MX.out MM.out (by have h1 := LS.out; have h2 := HLM.out; omega))
  rw [hnx] at CA
  clear ho b6 hM hMe hlm hN hnx hny CM
  go_upto_region 7 with fail
  go_cut [55] (fun s wx => s = .bool (decide (nx = 0 ∧ ny = 0)) ∧ Hid (Below V.heap.size V wx))
  case first =>
    as_aux_lemma =>
      go_wp2_with fail
      refine CA.out.mono ?_
      rintro e w7 ⟨rfl, b7⟩
      have B7 := aside (bthen B6.out b7)
      have CB := aside (unlike_ls (⟨Y, HY.out.keep B7.out, rfl⟩ : LsIn w7 y ly cy (firstE Y ly)) (HMM.out.on b7) MY.out MM.out (by have h1 := LS.out; have h2 := HLM.out; omega))
      rw [HNY.out] at CB
      clear b7 CA
      by_cases hx0 : nx = 0
      · have hb1 : decide (0 < nx) = false := by simp [hx0]
        rw [hb1]
        go_wp2_with fail
        refine CB.out.mono ?_
        rintro e w8 ⟨rfl, b8⟩
        have B8 := aside (bthen B7.out b8)
        clear b8 CB
        by_cases hy0 : ny = 0
        · have hb2 : decide (0 < ny) = false := by simp [hy0]
          rw [hb2]
          have hd9 : decide (nx = 0 ∧ ny = 0) = true := decide_eq_true ⟨hx0, hy0⟩
          have HD9 := aside hd9
          clear hx0 hy0 hb1 hb2 hd9
          go_wp2
          go_meet
          exact ⟨by rw [HD9.out], B8⟩
        · have hb2 : decide (0 < ny) = true := by simp; omega
          rw [hb2]
          have hd9 : decide (nx = 0 ∧ ny = 0) = false := decide_eq_false (fun h => hy0 h.2)
          have HD9 := aside hd9
          clear hx0 hy0 hb1 hb2 hd9
          go_wp2
          go_meet
          exact ⟨by rw [HD9.out], B8⟩
      · have hb1 : decide (0 < nx) = true := by simp; omega
        rw [hb1]
        have hd9 : decide (nx = 0 ∧ ny = 0) = false := decide_eq_false (fun h => hx0 h.1)
        have HD9 := aside hd9
        clear hx0 hb1 hd9
        go_wp2
        go_meet
        exact ⟨by rw [HD9.out], B7⟩
  case rest =>
    obtain ⟨rfl, B8⟩ := hcut
    obtain ⟨w8, rfl⟩ : ∃ x, x = wc := ⟨_, rfl⟩
    clear CA B6 HMM HLM MX MY MM HLN HX HY
    by_cases hm : nx = 0 ∧ ny = 0
    · as_aux_lemma =>
        have hd9 : decide (nx = 0 ∧ ny = 0) = true := decide_eq_true hm
        try rw [hd9]
        have HXY := aside hm
        clear hm hd9
        have KR1 := aside (blk_on KR.out B8.out)
        have BF := aside (bel_four19 (bthen BV.out B8.out) HQ1.out (.int .i64 1) (.string ⟨#[]⟩) (.string ⟨#[]⟩) (.bool false))
        obtain ⟨z0, z1, z2, z3⟩ := four19 KR1.out
        have f0 := frozen_of_row w8 (q + 1) 0 _ _ KR1.out
        have f1 := frozen_of_row w8 (q + 1) 1 _ _ KR1.out
        have f2 := frozen_of_row w8 (q + 1) 2 _ _ KR1.out
        have f3 := frozen_of_row w8 (q + 1) 3 _ _ KR1.out
        obtain ⟨r0, r1, r2, r3⟩ := four19 (set_four19 KR1.out (.int .i64 1) (.string ⟨#[]⟩) (.string ⟨#[]⟩) (.bool false))
        go_wp2
        try simp only [Exit.inBlock, Exit.then]
        exact bodyPost_ret (v := .tuple #[.agg #[.int .i64 1, .string ⟨#[]⟩, .string ⟨#[]⟩, .bool false], .int .i64 0]) (by simp [results, Tryd.results14, go_sem, r0, r1, r2, r3]) rfl ⟨by rw [HER.out, HN.out, HNX.out, HNY.out, jVal_met HXY.out], BF.out⟩
    · have hd9 : decide (nx = 0 ∧ ny = 0) = false := decide_eq_false hm
      try rw [hd9]
      have HXY := aside hm
      clear hm hd9
      obtain ⟨O, hO⟩ : ∃ O, twAns (firstE A la) (firstE B lb) br lf = O := ⟨_, rfl⟩
      have HO := aside hO
      obtain ⟨x0, x1, x2, hx⟩ := rgV_form O
      have HXR := aside hx
      obtain ⟨bn, hbn⟩ : ∃ n : Nat, br = (n : Int) := ⟨br.toNat, by have := HOK.out.1; omega⟩
      obtain ⟨fn, hfn⟩ : ∃ n : Nat, lf = (n : Int) := ⟨lf.toNat, by have := HOK.out.2.2.1; omega⟩
      have CT := aside (first_any a la ca (firstE A la) b lb cb (firstE B lb) bn fn w8 ⟨A, HA.out.keep B8.out, rfl⟩ ⟨B, HBB.out.keep B8.out, rfl⟩ MA.out MB.out LS.out.1 LS.out.2.1 (by obtain ⟨h1, h2, h3, h4⟩ := HOK.out; omega) (LL.out.keep (bthen BV.out B8.out)))
      rw [← hbn, ← hfn, show twGo bn fn ((firstE A la).length + (firstE B lb).length + 1) (firstE B lb) (firstE A la) [wholeR] = O from by rw [← hO]; unfold twAns; rw [hbn, hfn, Int.toNat_natCast, Int.toNat_natCast], hx] at CT
      clear hbn hfn
      obtain ⟨c0, c1, c2, c3⟩ := four19 (blk_on KC.out B8.out)
      clear hO hx
      go_wp2_with fail
      refine CT.out.mono ?_
      rintro e w9 ⟨rfl, b9⟩
      have NX := bnew w9 (.cells #[.string x0, .string x1, .bool x2] 26)
      have B9 := aside (bthen (bthen B8.out b9) NX)
      obtain ⟨v0, v1, v2⟩ := box3r (heap_alloc_new w9 (.cells #[.string x0, .string x1, .bool x2] 26))
      clear b9 NX CT c0 c1 c2 c3
      cases O with
      | some r =>
        as_aux_lemma =>
        have hx := HXR.out
        unfold rgV at hx
        simp at hx
        obtain ⟨rfl, rfl, rfl⟩ := hx
        have KR1 := aside (blk_on KR.out B9.out)
        have BF := aside (bel_four19 (bthen BV.out B9.out) HQ1.out (.int .i64 2) (.string r.lo) (.string r.hi) (.bool r.op))
        obtain ⟨z0, z1, z2, z3⟩ := four19 KR1.out
        have f0 := frozen_of_row (w9.alloc (.cells #[.string r.lo, .string r.hi, .bool r.op] 26)) (q + 1) 0 _ _ KR1.out
        have f1 := frozen_of_row (w9.alloc (.cells #[.string r.lo, .string r.hi, .bool r.op] 26)) (q + 1) 1 _ _ KR1.out
        have f2 := frozen_of_row (w9.alloc (.cells #[.string r.lo, .string r.hi, .bool r.op] 26)) (q + 1) 2 _ _ KR1.out
        have f3 := frozen_of_row (w9.alloc (.cells #[.string r.lo, .string r.hi, .bool r.op] 26)) (q + 1) 3 _ _ KR1.out
        obtain ⟨r0, r1, r2, r3⟩ := four19 (set_four19 KR1.out (.int .i64 2) (.string r.lo) (.string r.hi) (.bool r.op))
        go_wp2
        try simp only [Exit.inBlock, Exit.then]
        exact bodyPost_ret (v := .tuple #[.agg #[.int .i64 2, .string r.lo, .string r.hi, .bool r.op], .int .i64 0]) (by simp [results, Tryd.results14, go_sem, r0, r1, r2, r3]) rfl ⟨by rw [HER.out, HN.out, HNX.out, HNY.out, HO.out, jVal_tw HXY.out], BF.out⟩
      | none =>
        by_cases hr0 : 0 < rf
        · as_aux_lemma =>
          have HR0 := aside hr0
          have KR1 := aside (blk_on KR.out B9.out)
          have BF := aside (bel_four19 (bthen BV.out B9.out) HQ1.out (.int .i64 3) (.string ⟨#[]⟩) (.string ⟨#[]⟩) (.bool false))
          obtain ⟨z0, z1, z2, z3⟩ := four19 KR1.out
          have f0 := frozen_of_row (w9.alloc (.cells #[.string x0, .string x1, .bool x2] 26)) (q + 1) 0 _ _ KR1.out
          have f1 := frozen_of_row (w9.alloc (.cells #[.string x0, .string x1, .bool x2] 26)) (q + 1) 1 _ _ KR1.out
          have f2 := frozen_of_row (w9.alloc (.cells #[.string x0, .string x1, .bool x2] 26)) (q + 1) 2 _ _ KR1.out
          have f3 := frozen_of_row (w9.alloc (.cells #[.string x0, .string x1, .bool x2] 26)) (q + 1) 3 _ _ KR1.out
          obtain ⟨r0, r1, r2, r3⟩ := four19 (set_four19 KR1.out (.int .i64 3) (.string ⟨#[]⟩) (.string ⟨#[]⟩) (.bool false))
          go_wp2
          try simp only [Exit.inBlock, Exit.then]
          exact bodyPost_ret (v := .tuple #[.agg #[.int .i64 3, .string ⟨#[]⟩, .string ⟨#[]⟩, .bool false], .int .i64 0]) (by simp [results, Tryd.results14, go_sem, r0, r1, r2, r3]) rfl ⟨by rw [HER.out, HN.out, HNX.out, HNY.out, HO.out, jVal_full HXY.out HR0.out], BF.out⟩
        · as_aux_lemma =>
          have HR0 := aside hr0
          have KR1 := aside (blk_on KR.out B9.out)
          have BF := aside (bel_four19 (bthen BV.out B9.out) HQ1.out (.int .i64 0) (.string ⟨#[]⟩) (.string ⟨#[]⟩) (.bool false))
          obtain ⟨z0, z1, z2, z3⟩ := four19 KR1.out
          have f0 := frozen_of_row (w9.alloc (.cells #[.string x0, .string x1, .bool x2] 26)) (q + 1) 0 _ _ KR1.out
          have f1 := frozen_of_row (w9.alloc (.cells #[.string x0, .string x1, .bool x2] 26)) (q + 1) 1 _ _ KR1.out
          have f2 := frozen_of_row (w9.alloc (.cells #[.string x0, .string x1, .bool x2] 26)) (q + 1) 2 _ _ KR1.out
          have f3 := frozen_of_row (w9.alloc (.cells #[.string x0, .string x1, .bool x2] 26)) (q + 1) 3 _ _ KR1.out
          obtain ⟨r0, r1, r2, r3⟩ := four19 (set_four19 KR1.out (.int .i64 0) (.string ⟨#[]⟩) (.string ⟨#[]⟩) (.bool false))
          go_wp2
          try simp only [Exit.inBlock, Exit.then]
          exact bodyPost_ret (v := .tuple #[.agg #[.int .i64 0, .string ⟨#[]⟩, .string ⟨#[]⟩, .bool false], .int .i64 0]) (by simp [results, Tryd.results14, go_sem, r0, r1, r2, r3]) rfl ⟨by rw [HER.out, HN.out, HNX.out, HNY.out, HO.out, jVal_none HXY.out (show ¬ 0 < rf by have := HR0.out; omega)], BF.out⟩
end Go.Proofs.YtfkdhambbpkmpaaDoor
