/-
  Judge of the document, whatever the maps.
-/
import Derived.Test.YtfkdhambbpkmpaaDoorBv25
import Derived.Test.YtfkdhambbpkmpaaDoorBv26
namespace Go.Proofs.YtfkdhambbpkmpaaDoor
open Go.RowKit
set_option linter.unusedVariables false
/-- What Judge refuses with. -/
def jErr (q1 q2 q3 q4 br lf rf : Int) : Int := if q1 ≠ 0 then q1 else if q2 ≠ 0 then q2 else if q3 ≠ 0 then q3 else if q4 ≠ 0 then q4 else if okC br lf ∧ 0 ≤ rf then 0 else 1
/-- What Judge says: nx and ny tell at how many keys x and y are not the newest. -/
def jVal (er : Int) (nx ny : Nat) (ans : Option Rg) (rf : Int) : Value :=
  if er ≠ 0 then .agg #[.int .i64 0, .string ⟨#[]⟩, .string ⟨#[]⟩, .bool false] else if nx = 0 ∧ ny = 0 then .agg #[.int .i64 1, .string ⟨#[]⟩, .string ⟨#[]⟩, .bool false] else match ans with
    | some r => .agg #[.int .i64 2, .string r.lo, .string r.hi, .bool r.op]
    | none => if 0 < rf then .agg #[.int .i64 3, .string ⟨#[]⟩, .string ⟨#[]⟩, .bool false] else .agg #[.int .i64 0, .string ⟨#[]⟩, .string ⟨#[]⟩, .bool false]
theorem jVal_bad {er : Int} (h : er ≠ 0) (nx ny : Nat) (ans : Option Rg) (rf : Int) : jVal er nx ny ans rf = .agg #[.int .i64 0, .string ⟨#[]⟩, .string ⟨#[]⟩, .bool false] := by unfold jVal; rw [if_pos h]
theorem jVal_met {nx ny : Nat} (h : nx = 0 ∧ ny = 0) (ans : Option Rg) (rf : Int) : jVal 0 nx ny ans rf = .agg #[.int .i64 1, .string ⟨#[]⟩, .string ⟨#[]⟩, .bool false] := by unfold jVal; rw [if_neg (by simp), if_pos h]
theorem jVal_tw {nx ny : Nat} (h : ¬ (nx = 0 ∧ ny = 0)) (r : Rg) (rf : Int) : jVal 0 nx ny (some r) rf = .agg #[.int .i64 2, .string r.lo, .string r.hi, .bool r.op] := by unfold jVal; rw [if_neg (by simp), if_neg h]
theorem jVal_full {nx ny : Nat} (h : ¬ (nx = 0 ∧ ny = 0)) {rf : Int} (hr : 0 < rf) : jVal 0 nx ny none rf = .agg #[.int .i64 3, .string ⟨#[]⟩, .string ⟨#[]⟩, .bool false] := by
  unfold jVal; rw [if_neg (by simp), if_neg h]; simp [hr]
theorem jVal_none {nx ny : Nat} (h : ¬ (nx = 0 ∧ ny = 0)) {rf : Int} (hr : ¬ 0 < rf) : jVal 0 nx ny none rf = .agg #[.int .i64 0, .string ⟨#[]⟩, .string ⟨#[]⟩, .bool false] := by
  unfold jVal; rw [if_neg (by simp), if_neg h]; simp [hr]
theorem jErr1 {q1 q2 q3 q4 br lf rf : Int} (h : ¬ q1 = 0) : jErr q1 q2 q3 q4 br lf rf = q1 := by unfold jErr; rw [if_pos h]
theorem jErr2 {q2 q3 q4 br lf rf : Int} (h : ¬ q2 = 0) : jErr 0 q2 q3 q4 br lf rf = q2 := by unfold jErr; rw [if_neg (by simp), if_pos h]
theorem jErr3 {q3 q4 br lf rf : Int} (h : ¬ q3 = 0) : jErr 0 0 q3 q4 br lf rf = q3 := by unfold jErr; rw [if_neg (by simp), if_neg (by simp), if_pos h]
theorem jErr4 {q4 br lf rf : Int} (h : ¬ q4 = 0) : jErr 0 0 0 q4 br lf rf = q4 := by unfold jErr; rw [if_neg (by simp), if_neg (by simp), if_neg (by simp), if_pos h]
theorem jErr5 {br lf rf : Int} (h : ¬ (okC br lf ∧ 0 ≤ rf)) : jErr 0 0 0 0 br lf rf = 1 := by unfold jErr; rw [if_neg (by simp), if_neg (by simp), if_neg (by simp), if_neg (by simp), if_neg h]
theorem jErr0 {br lf rf : Int} (h : okC br lf ∧ 0 ≤ rf) : jErr 0 0 0 0 br lf rf = 0 := by unfold jErr; rw [if_neg (by simp), if_neg (by simp), if_neg (by simp), if_neg (by simp), if_pos h]
theorem alike_ls {w : World} {a : Option Addr} {n c : Nat} {l : List En} {b : Option Addr} {m d : Nat} {k : List En} (hA : LsIn w a n c l) (hB : LsIn w b m d k) (ml : MapL l) (mk : MapL k) (hn : n + m ≤ 2147483648) : Calls Tryd.prog 34 #[.slice a n c, .slice b m d] w fun e w' => e = .returned (.bool (((dfP (prs l k)).length : Int) == 0)) ∧ Below w.heap.size w w' := by
  obtain ⟨T, hE, rfl⟩ := hA
  obtain ⟨U, hF, rfl⟩ := hB
  have h := alike19_any a n c T b m d U w hE hF hn
  rwa [ck2_ok.2 ⟨ml, mk⟩, outL_ok _ rfl] at h
set_option maxHeartbeats 16000000 in
set_option maxRecDepth 100000 in
theorem rjudge_all (a : Option Addr) (la ca : Nat) (A : Nat → En) (b : Option Addr) (lb cb : Nat) (B : Nat → En) (x : Option Addr) (lx cx : Nat) (X : Nat → En) (y : Option Addr) (ly cy : Nat) (Y : Nat → En) (br lf wt tr rf : Int) (w : World) (hA : EntsIn w a la ca A) (hB : EntsIn w b lb cb B) (hX : EntsIn w x lx cx X) (hY : EntsIn w y ly cy Y) :
    Calls Tryd.prog 15 #[.slice a la ca, .slice b lb cb, .slice x lx cx, .slice y ly cy, .agg #[.int .i64 br, .int .i64 lf, .int .i64 wt, .int .i64 tr], .int .i64 rf] w (fun e w' => e = .returned (.tuple #[jVal (jErr (chkH A la) (chkH B lb) (chkH X lx) (chkH Y ly) br lf rf) (dfP (prs (firstE X lx) (mxL (firstE A la) (firstE B lb)))).length (dfP (prs (firstE Y ly) (mxL (firstE A la) (firstE B lb)))).length (twAns (firstE A la) (firstE B lb) br lf) rf, .int .i64 (jErr (chkH A la) (chkH B lb) (chkH X lx) (chkH Y ly) br lf rf)]) ∧ Below w.heap.size w w') := by
  obtain ⟨q, hq⟩ : ∃ q, w.heap.size = q := ⟨_, rfl⟩
  obtain ⟨V1, hV1⟩ : ∃ V, (w.alloc (.cells #[.int .i64 br, .int .i64 lf, .int .i64 wt, .int .i64 tr] 44)).alloc (.cells #[.int .i64 0, .string ⟨#[]⟩, .string ⟨#[]⟩, .bool false] 46) = V := ⟨_, rfl⟩
  have bv1 : Below w.heap.size w V1 := by rw [← hV1]; exact bthen (bnew w _) (bnew _ _)
  have e0 := heap_alloc_new w (.cells #[.int .i64 br, .int .i64 lf, .int .i64 wt, .int .i64 tr] 44)
  have e1 := heap_alloc_new (w.alloc (.cells #[.int .i64 br, .int .i64 lf, .int .i64 wt, .int .i64 tr] 44)) (.cells #[.int .i64 0, .string ⟨#[]⟩, .string ⟨#[]⟩, .bool false] 46)
  simp only [World.size_alloc] at e1
  rw [hq] at e0 e1
  have kc : V1.heap[q]? = some (.cells #[.int .i64 br, .int .i64 lf, .int .i64 wt, .int .i64 tr] 44 (0, 0)) := by rw [← hV1]; exact blk_on e0 (bnew _ _)
  have kr : V1.heap[q + 1]? = some (.cells #[.int .i64 0, .string ⟨#[]⟩, .string ⟨#[]⟩, .bool false] 46 (0, 0)) := by rw [← hV1]; exact e1
  obtain ⟨p, hp⟩ : ∃ p, V1.heap.size = p := ⟨_, rfl⟩
  have kz := heap_alloc_new V1 (.cells #[.int .i64 0, .string ⟨#[]⟩, .string ⟨#[]⟩, .bool false] 46)
  have bz := bnew V1 (.cells #[.int .i64 0, .string ⟨#[]⟩, .string ⟨#[]⟩, .bool false] 46)
  rw [hp] at kz
  obtain ⟨V2, hV2⟩ : ∃ V, V1.alloc (.cells #[.int .i64 0, .string ⟨#[]⟩, .string ⟨#[]⟩, .bool false] 46) = V := ⟨_, rfl⟩
  rw [hV2] at kz bz
  obtain ⟨V, hV⟩ : ∃ V, (((V2.setCell ⟨p, 0, none⟩ (.int .i64 0)).setCell ⟨p, 1, none⟩ (.string ⟨#[]⟩)).setCell ⟨p, 2, none⟩ (.string ⟨#[]⟩)).setCell ⟨p, 3, none⟩ (.bool false) = V := ⟨_, rfl⟩
  have bs : Below V1.heap.size V1 V := by rw [← hV]; exact bel_four19 bz (by rw [hp]; exact Nat.le_refl _) _ _ _ _
  have BV := aside (bthen bv1 bs)
  have KC := aside (blk_on kc bs)
  have KR := aside (blk_on kr bs)
  have KZ := aside (show V.heap[p]? = some (.cells #[.int .i64 0, .string ⟨#[]⟩, .string ⟨#[]⟩, .bool false] 46 (0, 0)) from by rw [← hV]; exact set_four19 kz _ _ _ _)
  have HQ1 := aside (show w.heap.size ≤ q + 1 from by omega)
  have HZV := aside kz
  clear kc kr kz bz bs bv1
  have HA := aside (hA.keep BV.out)
  have HBB := aside (hB.keep BV.out)
  have HX := aside (hX.keep BV.out)
  have HY := aside (hY.keep BV.out)
  obtain ⟨q1, hq1⟩ : ∃ z, chkH A la = z := ⟨_, rfl⟩
  obtain ⟨q2, hq2⟩ : ∃ z, chkH B lb = z := ⟨_, rfl⟩
  obtain ⟨q3, hq3⟩ : ∃ z, chkH X lx = z := ⟨_, rfl⟩
  obtain ⟨q4, hq4⟩ : ∃ z, chkH Y ly = z := ⟨_, rfl⟩
  have C1 := aside (fun (W : World) (bb : Below V.heap.size V W) => held19_any a la ca A W (HA.out.keep bb))
  have C2 := aside (fun (W : World) (bb : Below V.heap.size V W) => held19_any b lb cb B W (HBB.out.keep bb))
  have C3 := aside (fun (W : World) (bb : Below V.heap.size V W) => held19_any x lx cx X W (HX.out.keep bb))
  have C4 := aside (fun (W : World) (bb : Below V.heap.size V W) => held19_any y ly cy Y W (HY.out.keep bb))
  have HQS := aside (show chkH A la = q1 ∧ chkH B lb = q2 ∧ chkH X lx = q3 ∧ chkH Y ly = q4 from ⟨hq1, hq2, hq3, hq4⟩)
  rw [hq1] at C1 ⊢
  rw [hq2] at C2 ⊢
  rw [hq3] at C3 ⊢
  rw [hq4] at C4 ⊢
  clear hA hB hX hY e0 e1 hq1 hq2 hq3 hq4
  go_enter Tryd.func15, Tryd.ntmps15
  go_upto_region 1 with fail
  try rw [hV1]
  try rw [hq]
  obtain ⟨y0, y1, y2, y3⟩ := four19 HZV.out
  have f0 := frozen_of_row V2 p 0 _ _ HZV.out
  have f1 := frozen_of_row V2 p 1 _ _ HZV.out
  have f2 := frozen_of_row V2 p 2 _ _ HZV.out
  have f3 := frozen_of_row V2 p 3 _ _ HZV.out
  go_upto_region 2 with fail
  try rw [hV]
  clear hV hq hV1 hV2 hp y0 y1 y2 y3 f0 f1 f2 f3 HZV
  go_wp2_with fail
  refine (C1.out _ (Below.refl _ V)).mono ?_
  rintro e w1 ⟨rfl, b1⟩
  have B1 := aside (show Below V.heap.size V w1 from b1)
  clear b1 C1
  by_cases hz1 : q1 = 0
  case neg =>
    have hzz : (q1 == 0) = false := by simpa using hz1
    have HZ := aside hz1
    have KR1 := aside (blk_on KR.out B1.out)
    have KZ1 := aside (blk_on KZ.out B1.out)
    obtain ⟨y0, y1, y2, y3⟩ := four19 KZ1.out
    have BF := aside (bel_four19 (bthen BV.out B1.out) HQ1.out (.int .i64 0) (.string ⟨#[]⟩) (.string ⟨#[]⟩) (.bool false))
    obtain ⟨z0, z1, z2, z3⟩ := four19 KR1.out
    have f0 := frozen_of_row w1 (q + 1) 0 _ _ KR1.out
    have f1 := frozen_of_row w1 (q + 1) 1 _ _ KR1.out
    have f2 := frozen_of_row w1 (q + 1) 2 _ _ KR1.out
    have f3 := frozen_of_row w1 (q + 1) 3 _ _ KR1.out
    obtain ⟨r0, r1, r2, r3⟩ := four19 (set_four19 KR1.out (.int .i64 0) (.string ⟨#[]⟩) (.string ⟨#[]⟩) (.bool false))
    go_wp2
    try simp only [Exit.inBlock, Exit.then]
    exact bodyPost_ret (v := .tuple #[.agg #[.int .i64 0, .string ⟨#[]⟩, .string ⟨#[]⟩, .bool false], .int .i64 q1]) (by simp [results, Tryd.results15, go_sem, r0, r1, r2, r3]) rfl ⟨by rw [jErr1 HZ.out, jVal_bad HZ.out], BF.out⟩
  subst hz1
  go_wp2_with fail
  refine (C2.out _ B1.out).mono ?_
  rintro e w2 ⟨rfl, b2⟩
  have B2 := aside (show Below V.heap.size V w2 from bthen B1.out b2)
  clear b2 C2
  by_cases hz2 : q2 = 0
  case neg =>
    have hzz : (q2 == 0) = false := by simpa using hz2
    have HZ := aside hz2
    have KR1 := aside (blk_on KR.out B2.out)
    have KZ1 := aside (blk_on KZ.out B2.out)
    obtain ⟨y0, y1, y2, y3⟩ := four19 KZ1.out
    have BF := aside (bel_four19 (bthen BV.out B2.out) HQ1.out (.int .i64 0) (.string ⟨#[]⟩) (.string ⟨#[]⟩) (.bool false))
    obtain ⟨z0, z1, z2, z3⟩ := four19 KR1.out
    have f0 := frozen_of_row w2 (q + 1) 0 _ _ KR1.out
    have f1 := frozen_of_row w2 (q + 1) 1 _ _ KR1.out
    have f2 := frozen_of_row w2 (q + 1) 2 _ _ KR1.out
    have f3 := frozen_of_row w2 (q + 1) 3 _ _ KR1.out
    obtain ⟨r0, r1, r2, r3⟩ := four19 (set_four19 KR1.out (.int .i64 0) (.string ⟨#[]⟩) (.string ⟨#[]⟩) (.bool false))
    go_wp2
    try simp only [Exit.inBlock, Exit.then]
    exact bodyPost_ret (v := .tuple #[.agg #[.int .i64 0, .string ⟨#[]⟩, .string ⟨#[]⟩, .bool false], .int .i64 q2]) (by simp [results, Tryd.results15, go_sem, r0, r1, r2, r3]) rfl ⟨by rw [jErr2 HZ.out, jVal_bad HZ.out], BF.out⟩
  subst hz2
  go_wp2_with fail
  refine (C3.out _ B2.out).mono ?_
  rintro e w3 ⟨rfl, b3⟩
  have B3 := aside (show Below V.heap.size V w3 from bthen B2.out b3)
  clear b3 C3
  by_cases hz3 : q3 = 0
  case neg =>
    have hzz : (q3 == 0) = false := by simpa using hz3
    have HZ := aside hz3
    have KR1 := aside (blk_on KR.out B3.out)
    have KZ1 := aside (blk_on KZ.out B3.out)
    obtain ⟨y0, y1, y2, y3⟩ := four19 KZ1.out
    have BF := aside (bel_four19 (bthen BV.out B3.out) HQ1.out (.int .i64 0) (.string ⟨#[]⟩) (.string ⟨#[]⟩) (.bool false))
    obtain ⟨z0, z1, z2, z3⟩ := four19 KR1.out
    have f0 := frozen_of_row w3 (q + 1) 0 _ _ KR1.out
    have f1 := frozen_of_row w3 (q + 1) 1 _ _ KR1.out
    have f2 := frozen_of_row w3 (q + 1) 2 _ _ KR1.out
    have f3 := frozen_of_row w3 (q + 1) 3 _ _ KR1.out
    obtain ⟨r0, r1, r2, r3⟩ := four19 (set_four19 KR1.out (.int .i64 0) (.string ⟨#[]⟩) (.string ⟨#[]⟩) (.bool false))
    go_wp2
    try simp only [Exit.inBlock, Exit.then]
    exact bodyPost_ret (v := .tuple #[.agg #[.int .i64 0, .string ⟨#[]⟩, .string ⟨#[]⟩, .bool false], .int .i64 q3]) (by simp [results, Tryd.results15, go_sem, r0, r1, r2, r3]) rfl ⟨by rw [jErr3 HZ.out, jVal_bad HZ.out], BF.out⟩
  subst hz3
  go_wp2_with fail
  refine (C4.out _ B3.out).mono ?_
  rintro e w4 ⟨rfl, b4⟩
  have B4 := aside (show Below V.heap.size V w4 from bthen B3.out b4)
  clear b4 C4
  by_cases hz4 : q4 = 0
  case neg =>
    have hzz : (q4 == 0) = false := by simpa using hz4
    have HZ := aside hz4
    have KR1 := aside (blk_on KR.out B4.out)
    have KZ1 := aside (blk_on KZ.out B4.out)
    obtain ⟨y0, y1, y2, y3⟩ := four19 KZ1.out
    have BF := aside (bel_four19 (bthen BV.out B4.out) HQ1.out (.int .i64 0) (.string ⟨#[]⟩) (.string ⟨#[]⟩) (.bool false))
    obtain ⟨z0, z1, z2, z3⟩ := four19 KR1.out
    have f0 := frozen_of_row w4 (q + 1) 0 _ _ KR1.out
    have f1 := frozen_of_row w4 (q + 1) 1 _ _ KR1.out
    have f2 := frozen_of_row w4 (q + 1) 2 _ _ KR1.out
    have f3 := frozen_of_row w4 (q + 1) 3 _ _ KR1.out
    obtain ⟨r0, r1, r2, r3⟩ := four19 (set_four19 KR1.out (.int .i64 0) (.string ⟨#[]⟩) (.string ⟨#[]⟩) (.bool false))
    go_wp2
    try simp only [Exit.inBlock, Exit.then]
    exact bodyPost_ret (v := .tuple #[.agg #[.int .i64 0, .string ⟨#[]⟩, .string ⟨#[]⟩, .bool false], .int .i64 q4]) (by simp [results, Tryd.results15, go_sem, r0, r1, r2, r3]) rfl ⟨by rw [jErr4 HZ.out, jVal_bad HZ.out], BF.out⟩
  subst hz4
  have hcells := blk_on KC.out B4.out
  obtain ⟨c0, c1, c2, c3⟩ := four19 hcells
  clear hcells
  go_wp2_with fail
  refine (right19_any br lf _).mono ?_
  rintro e w5 ⟨rfl, rfl⟩
  clear c0 c1 c2 c3
  by_cases hok : okC br lf
  case neg =>
    have hd : decide (okC br lf) = false := decide_eq_false hok
    have HZ := aside (show ¬ (okC br lf ∧ 0 ≤ rf) from fun h => hok h.1)
    have KR1 := aside (blk_on KR.out B4.out)
    have KZ1 := aside (blk_on KZ.out B4.out)
    obtain ⟨y0, y1, y2, y3⟩ := four19 KZ1.out
    have BF := aside (bel_four19 (bthen BV.out B4.out) HQ1.out (.int .i64 0) (.string ⟨#[]⟩) (.string ⟨#[]⟩) (.bool false))
    obtain ⟨z0, z1, z2, z3⟩ := four19 KR1.out
    have f0 := frozen_of_row w5 (q + 1) 0 _ _ KR1.out
    have f1 := frozen_of_row w5 (q + 1) 1 _ _ KR1.out
    have f2 := frozen_of_row w5 (q + 1) 2 _ _ KR1.out
    have f3 := frozen_of_row w5 (q + 1) 3 _ _ KR1.out
    obtain ⟨r0, r1, r2, r3⟩ := four19 (set_four19 KR1.out (.int .i64 0) (.string ⟨#[]⟩) (.string ⟨#[]⟩) (.bool false))
    go_wp2
    try simp only [Exit.inBlock, Exit.then]
    exact bodyPost_ret (v := .tuple #[.agg #[.int .i64 0, .string ⟨#[]⟩, .string ⟨#[]⟩, .bool false], .int .i64 1]) (by simp [results, Tryd.results15, go_sem, r0, r1, r2, r3]) rfl ⟨by rw [jErr5 HZ.out, jVal_bad (by decide)], BF.out⟩
  have hd : decide (okC br lf) = true := decide_eq_true hok
  have HOK := aside hok
  clear hok
  by_cases hrf : rf < 0
  case pos =>
    have HZ := aside (show ¬ (okC br lf ∧ 0 ≤ rf) from fun h => by have := h.2; omega)
    have KR1 := aside (blk_on KR.out B4.out)
    have KZ1 := aside (blk_on KZ.out B4.out)
    obtain ⟨y0, y1, y2, y3⟩ := four19 KZ1.out
    have BF := aside (bel_four19 (bthen BV.out B4.out) HQ1.out (.int .i64 0) (.string ⟨#[]⟩) (.string ⟨#[]⟩) (.bool false))
    obtain ⟨z0, z1, z2, z3⟩ := four19 KR1.out
    have f0 := frozen_of_row w5 (q + 1) 0 _ _ KR1.out
    have f1 := frozen_of_row w5 (q + 1) 1 _ _ KR1.out
    have f2 := frozen_of_row w5 (q + 1) 2 _ _ KR1.out
    have f3 := frozen_of_row w5 (q + 1) 3 _ _ KR1.out
    obtain ⟨r0, r1, r2, r3⟩ := four19 (set_four19 KR1.out (.int .i64 0) (.string ⟨#[]⟩) (.string ⟨#[]⟩) (.bool false))
    go_wp2
    try simp only [Exit.inBlock, Exit.then]
    exact bodyPost_ret (v := .tuple #[.agg #[.int .i64 0, .string ⟨#[]⟩, .string ⟨#[]⟩, .bool false], .int .i64 1]) (by simp [results, Tryd.results15, go_sem, r0, r1, r2, r3]) rfl ⟨by rw [jErr5 HZ.out, jVal_bad (by decide)], BF.out⟩
  have HER := aside (jErr0 (br := br) (lf := lf) (rf := rf) ⟨HOK.out, by omega⟩)
  have cA := chkH_ok HQS.out.1
  have cB := chkH_ok HQS.out.2.1
  have cX := chkH_ok HQS.out.2.2.1
  have cY := chkH_ok HQS.out.2.2.2
  have MA := aside ((ck_map la).1 cA.1)
  have MB := aside ((ck_map lb).1 cB.1)
  have MX := aside ((ck_map lx).1 cX.1)
  have MY := aside ((ck_map ly).1 cY.1)
  have LS := aside (show la ≤ 256 ∧ lb ≤ 256 ∧ lx ≤ 256 ∧ ly ≤ 256 from ⟨cA.2, cB.2, cX.2, cY.2⟩)
  have CM := aside (rmax_any a la ca A b lb cb B w5 (HA.out.keep B4.out) (HBB.out.keep B4.out) (by omega))
  rw [ck2_ok.2 ⟨MA.out, MB.out⟩, outL_ok _ rfl, mxP_prs] at CM
  have MM := aside (mx_map MA.out MB.out)
  have HLN := aside (show (mxL (firstE A la) (firstE B lb)).length ≤ 512 from by
    have h1 := mxP_len (prs (firstE A la) (firstE B lb)); have h2 := prs_len (firstE A la) (firstE B lb); rw [firstE_len, firstE_len] at h2; rw [mxP_prs] at h1; omega)
  clear cA cB cX cY
  go_wp2_with fail
  refine CM.out.mono ?_
  rintro e w6 ⟨v, rfl, ho, b6⟩
  obtain ⟨am, cm, M, rfl, hM, hMe⟩ := ents_of_says ho (map_keys MM.out)
  have B6 := aside (bthen B4.out b6)
  obtain ⟨N, hN⟩ : ∃ N, mxL (firstE A la) (firstE B lb) = N := ⟨_, rfl⟩
  have HN := aside hN
  rw [hN] at hM hMe MM HLN ⊢
  obtain ⟨lm, hlm⟩ : ∃ n, N.length = n := ⟨_, rfl⟩
  rw [hlm] at hM hMe ⊢
  have HMM := aside (show LsIn w6 am lm cm N from ⟨M, hM, hMe⟩)
  have HLM := aside (show lm ≤ 512 from by rw [← hlm]; exact HLN.out)
  obtain ⟨nx, hnx⟩ : ∃ n, (dfP (prs (firstE X lx) N)).length = n := ⟨_, rfl⟩
  obtain ⟨ny, hny⟩ : ∃ n, (dfP (prs (firstE Y ly) N)).length = n := ⟨_, rfl⟩
  have HNX := aside hnx
  have HNY := aside hny
  have CA := aside (alike_ls (⟨X, HX.out.keep B6.out, rfl⟩ : LsIn w6 x lx cx (firstE X lx)) HMM.out MX.out MM.out (by have h1 := LS.out; have h2 := HLM.out; omega))
  rw [hnx] at CA
  clear ho b6 hM hMe hlm hN hnx hny CM
  go_upto_region 17 with fail
  go_cut [70] (fun s wx => s = .bool (decide (nx = 0 ∧ ny = 0)) ∧ Hid (Below V.heap.size V wx))
  case first =>
    as_aux_lemma =>
      go_wp2_with fail
      refine CA.out.mono ?_
      rintro e w7 ⟨rfl, b7⟩
      have B7 := aside (bthen B6.out b7)
      have CB := aside (alike_ls (⟨Y, HY.out.keep B7.out, rfl⟩ : LsIn w7 y ly cy (firstE Y ly)) (HMM.out.on b7) MY.out MM.out (by have h1 := LS.out; have h2 := HLM.out; omega))
      rw [HNY.out] at CB
      clear b7 CA
      by_cases hx0 : nx = 0
      · have hb1 : ((nx : Int) == 0) = true := by simp [hx0]
        rw [hb1]
        go_wp2_with fail
        refine CB.out.mono ?_
        rintro e w8 ⟨rfl, b8⟩
        have B8 := aside (bthen B7.out b8)
        clear b8 CB
        by_cases hy0 : ny = 0
        · have hb2 : ((ny : Int) == 0) = true := by simp [hy0]
          rw [hb2]
          have hd9 : decide (nx = 0 ∧ ny = 0) = true := decide_eq_true ⟨hx0, hy0⟩
          have HD9 := aside hd9
          clear hx0 hy0 hb1 hb2 hd9
          go_wp2
          go_meet
          exact ⟨by rw [HD9.out], B8⟩
        · have hb2 : ((ny : Int) == 0) = false := by simp [hy0]
          rw [hb2]
          have hd9 : decide (nx = 0 ∧ ny = 0) = false := decide_eq_false (fun h => hy0 h.2)
          have HD9 := aside hd9
          clear hx0 hy0 hb1 hb2 hd9
          go_wp2
          go_meet
          exact ⟨by rw [HD9.out], B8⟩
      · have hb1 : ((nx : Int) == 0) = false := by simp [hx0]
        rw [hb1]
        have hd9 : decide (nx = 0 ∧ ny = 0) = false := decide_eq_false (fun h => hx0 h.1)
        have HD9 := aside hd9
        clear hx0 hb1 hd9
        go_wp2
        go_meet
        exact ⟨by rw [HD9.out], B7⟩
  case rest =>
    obtain ⟨rfl, B8⟩ := hcut
    obtain ⟨w8, rfl⟩ : ∃ x, x = wc := ⟨_, rfl⟩
    clear CA B6 HMM HLM MX MY MM HLN HX HY
    by_cases hm : nx = 0 ∧ ny = 0
    · as_aux_lemma =>
        have hd9 : decide (nx = 0 ∧ ny = 0) = true := decide_eq_true hm
        try rw [hd9]
        have HXY := aside hm
        clear hm hd9
        have KR1 := aside (blk_on KR.out B8.out)
        have KZ1 := aside (blk_on KZ.out B8.out)
        obtain ⟨y0, y1, y2, y3⟩ := four19 KZ1.out
        have BF := aside (bel_four19 (bthen BV.out B8.out) HQ1.out (.int .i64 1) (.string ⟨#[]⟩) (.string ⟨#[]⟩) (.bool false))
        obtain ⟨z0, z1, z2, z3⟩ := four19 KR1.out
        have f0 := frozen_of_row w8 (q + 1) 0 _ _ KR1.out
        have f1 := frozen_of_row w8 (q + 1) 1 _ _ KR1.out
        have f2 := frozen_of_row w8 (q + 1) 2 _ _ KR1.out
        have f3 := frozen_of_row w8 (q + 1) 3 _ _ KR1.out
        obtain ⟨r0, r1, r2, r3⟩ := four19 (set_four19 KR1.out (.int .i64 1) (.string ⟨#[]⟩) (.string ⟨#[]⟩) (.bool false))
        go_wp2
        try simp only [Exit.inBlock, Exit.then]
        exact bodyPost_ret (v := .tuple #[.agg #[.int .i64 1, .string ⟨#[]⟩, .string ⟨#[]⟩, .bool false], .int .i64 0]) (by simp [results, Tryd.results15, go_sem, r0, r1, r2, r3]) rfl ⟨by rw [HER.out, HN.out, HNX.out, HNY.out, jVal_met HXY.out], BF.out⟩
    · have hd9 : decide (nx = 0 ∧ ny = 0) = false := decide_eq_false hm
      try rw [hd9]
      have HXY := aside hm
      clear hm hd9
      obtain ⟨O, hO⟩ : ∃ O, twAns (firstE A la) (firstE B lb) br lf = O := ⟨_, rfl⟩
      have HO := aside hO
      obtain ⟨x0, x1, x2, hx⟩ := rgV_form O
      have HXR := aside hx
      have CT := aside (twins19_any a la ca A b lb cb B br lf w8 (HA.out.keep B8.out) (HBB.out.keep B8.out))
      rw [HQS.out.1, HQS.out.2.1, (tw_err0 HOK.out).1, (tw_err0 (a := firstE A la) (b := firstE B lb) HOK.out).2, hO, hx] at CT
      obtain ⟨c0, c1, c2, c3⟩ := four19 (blk_on KC.out B8.out)
      clear hO hx
      go_wp2_with fail
      refine CT.out.mono ?_
      rintro e w9 ⟨rfl, b9⟩
      have NX := bnew w9 (.cells #[.string x0, .string x1, .bool x2] 26)
      have B9 := aside (bthen (bthen B8.out b9) NX)
      obtain ⟨v0, v1, v2⟩ := box3r (heap_alloc_new w9 (.cells #[.string x0, .string x1, .bool x2] 26))
      clear b9 NX CT c0 c1 c2 c3
      cases O with
      | some r =>
        as_aux_lemma =>
        have hx := HXR.out
        unfold rgV at hx
        simp at hx
        obtain ⟨rfl, rfl, rfl⟩ := hx
        have KR1 := aside (blk_on KR.out B9.out)
        have KZ1 := aside (blk_on KZ.out B9.out)
        obtain ⟨y0, y1, y2, y3⟩ := four19 KZ1.out
        have BF := aside (bel_four19 (bthen BV.out B9.out) HQ1.out (.int .i64 2) (.string r.lo) (.string r.hi) (.bool r.op))
        obtain ⟨z0, z1, z2, z3⟩ := four19 KR1.out
        have f0 := frozen_of_row (w9.alloc (.cells #[.string r.lo, .string r.hi, .bool r.op] 26)) (q + 1) 0 _ _ KR1.out
        have f1 := frozen_of_row (w9.alloc (.cells #[.string r.lo, .string r.hi, .bool r.op] 26)) (q + 1) 1 _ _ KR1.out
        have f2 := frozen_of_row (w9.alloc (.cells #[.string r.lo, .string r.hi, .bool r.op] 26)) (q + 1) 2 _ _ KR1.out
        have f3 := frozen_of_row (w9.alloc (.cells #[.string r.lo, .string r.hi, .bool r.op] 26)) (q + 1) 3 _ _ KR1.out
        obtain ⟨r0, r1, r2, r3⟩ := four19 (set_four19 KR1.out (.int .i64 2) (.string r.lo) (.string r.hi) (.bool r.op))
        go_wp2
        try simp only [Exit.inBlock, Exit.then]
        exact bodyPost_ret (v := .tuple #[.agg #[.int .i64 2, .string r.lo, .string r.hi, .bool r.op], .int .i64 0]) (by simp [results, Tryd.results15, go_sem, r0, r1, r2, r3]) rfl ⟨by rw [HER.out, HN.out, HNX.out, HNY.out, HO.out, jVal_tw HXY.out], BF.out⟩
      | none =>
        by_cases hr0 : 0 < rf
        · as_aux_lemma =>
          have HR0 := aside hr0
          have KR1 := aside (blk_on KR.out B9.out)
          have KZ1 := aside (blk_on KZ.out B9.out)
          obtain ⟨y0, y1, y2, y3⟩ := four19 KZ1.out
          have BF := aside (bel_four19 (bthen BV.out B9.out) HQ1.out (.int .i64 3) (.string ⟨#[]⟩) (.string ⟨#[]⟩) (.bool false))
          obtain ⟨z0, z1, z2, z3⟩ := four19 KR1.out
          have f0 := frozen_of_row (w9.alloc (.cells #[.string x0, .string x1, .bool x2] 26)) (q + 1) 0 _ _ KR1.out
          have f1 := frozen_of_row (w9.alloc (.cells #[.string x0, .string x1, .bool x2] 26)) (q + 1) 1 _ _ KR1.out
          have f2 := frozen_of_row (w9.alloc (.cells #[.string x0, .string x1, .bool x2] 26)) (q + 1) 2 _ _ KR1.out
          have f3 := frozen_of_row (w9.alloc (.cells #[.string x0, .string x1, .bool x2] 26)) (q + 1) 3 _ _ KR1.out
          obtain ⟨r0, r1, r2, r3⟩ := four19 (set_four19 KR1.out (.int .i64 3) (.string ⟨#[]⟩) (.string ⟨#[]⟩) (.bool false))
          go_wp2
          try simp only [Exit.inBlock, Exit.then]
          exact bodyPost_ret (v := .tuple #[.agg #[.int .i64 3, .string ⟨#[]⟩, .string ⟨#[]⟩, .bool false], .int .i64 0]) (by simp [results, Tryd.results15, go_sem, r0, r1, r2, r3]) rfl ⟨by rw [HER.out, HN.out, HNX.out, HNY.out, HO.out, jVal_full HXY.out HR0.out], BF.out⟩
        · as_aux_lemma =>
          have HR0 := aside hr0
          have KR1 := aside (blk_on KR.out B9.out)
          have KZ1 := aside (blk_on KZ.out B9.out)
          obtain ⟨y0, y1, y2, y3⟩ := four19 KZ1.out
          have BF := aside (bel_four19 (bthen BV.out B9.out) HQ1.out (.int .i64 0) (.string ⟨#[]⟩) (.string ⟨#[]⟩) (.bool false))
          obtain ⟨z0, z1, z2, z3⟩ := four19 KR1.out
          have f0 := frozen_of_row (w9.alloc (.cells #[.string x0, .string x1, .bool x2] 26)) (q + 1) 0 _ _ KR1.out
          have f1 := frozen_of_row (w9.alloc (.cells #[.string x0, .string x1, .bool x2] 26)) (q + 1) 1 _ _ KR1.out
          have f2 := frozen_of_row (w9.alloc (.cells #[.string x0, .string x1, .bool x2] 26)) (q + 1) 2 _ _ KR1.out
          have f3 := frozen_of_row (w9.alloc (.cells #[.string x0, .string x1, .bool x2] 26)) (q + 1) 3 _ _ KR1.out
          obtain ⟨r0, r1, r2, r3⟩ := four19 (set_four19 KR1.out (.int .i64 0) (.string ⟨#[]⟩) (.string ⟨#[]⟩) (.bool false))
          go_wp2
          try simp only [Exit.inBlock, Exit.then]
          exact bodyPost_ret (v := .tuple #[.agg #[.int .i64 0, .string ⟨#[]⟩, .string ⟨#[]⟩, .bool false], .int .i64 0]) (by simp [results, Tryd.results15, go_sem, r0, r1, r2, r3]) rfl ⟨by rw [HER.out, HN.out, HNX.out, HNY.out, HO.out, jVal_none HXY.out (show ¬ 0 < rf by have := HR0.out; omega)], BF.out⟩
end Go.Proofs.YtfkdhambbpkmpaaDoor
