/-
  GhostJudges, walked.
-/
import Derived.Test.YtfkdhambbpkmpaaDoorBv28
namespace Go.Proofs.YtfkdhambbpkmpaaDoor
open Go.RowKit
set_option linter.unusedVariables false
theorem jVal_form (er : Int) (nx ny : Nat) (ans : Option Rg) (rf : Int) : ∃ k s t b, jVal er nx ny ans rf = .agg #[.int .i64 k, .string s, .string t, .bool b] := by
  unfold jVal
  split
  · exact ⟨_, _, _, _, rfl⟩
  · split
    · exact ⟨_, _, _, _, rfl⟩
    · cases ans with
      | some r => exact ⟨_, _, _, _, rfl⟩
      | none =>
        by_cases h : 0 < rf
        · exact ⟨_, _, _, _, by simp [h]; exact ⟨rfl, rfl, rfl, rfl⟩⟩
        · exact ⟨_, _, _, _, by simp [h]; exact ⟨rfl, rfl, rfl, rfl⟩⟩
set_option maxHeartbeats 1600000 in
theorem vd_same (k : Int) (s t : ByteArray) (b : Bool) (w : World) : (binOp .eql 46 (.agg #[.int .i64 k, .string s, .string t, .bool b]) (.agg #[.int .i64 k, .string s, .string t, .bool b])).run Tryd.prog w = .ok (.bool true) w := by
  rw [run_eql_struct, show (10000 : Nat) = 9999 + 1 from rfl]
  go_simp
  try simp
set_option maxHeartbeats 16000000 in
set_option maxRecDepth 100000 in
theorem gjudges_walk (a : Option Addr) (la ca : Nat) (A : Nat → En) (b : Option Addr) (lb cb : Nat) (B : Nat → En) (x : Option Addr) (lx cx : Nat) (X : Nat → En) (y : Option Addr) (ly cy : Nat) (Y : Nat → En) (br lf wt tr rf : Int) (w : World) (hA : EntsIn w a la ca A) (hB : EntsIn w b lb cb B) (hX : EntsIn w x lx cx X) (hY : EntsIn w y ly cy Y) (L : Lanes w) :
    Calls Tryd.prog 4 #[.slice a la ca, .slice b lb cb, .slice x lx cx, .slice y ly cy, .agg #[.int .i64 br, .int .i64 lf, .int .i64 wt, .int .i64 tr], .int .i64 rf] w fun e w' => e = .returned (.bool true) ∧ Below w.heap.size w w' := by
  obtain ⟨q, hq⟩ : ∃ q, w.heap.size = q := ⟨_, rfl⟩
  obtain ⟨V, hV⟩ : ∃ V, w.alloc (.cells #[.int .i64 br, .int .i64 lf, .int .i64 wt, .int .i64 tr] 44) = V := ⟨_, rfl⟩
  have kc := heap_alloc_new w (.cells #[.int .i64 br, .int .i64 lf, .int .i64 wt, .int .i64 tr] 44)
  have bv := bnew w (.cells #[.int .i64 br, .int .i64 lf, .int .i64 wt, .int .i64 tr] 44)
  rw [hV] at kc bv
  rw [hq] at kc
  have KC := aside kc
  have BV := aside bv
  have HA := aside (hA.keep bv)
  have HB := aside (hB.keep bv)
  have HX := aside (hX.keep bv)
  have HY := aside (hY.keep bv)
  have LL := aside (L.keep bv)
  obtain ⟨J, hJ⟩ : ∃ J, jVal (jErr (chkH A la) (chkH B lb) (chkH X lx) (chkH Y ly) br lf rf) (dfP (prs (firstE X lx) (mxL (firstE A la) (firstE B lb)))).length (dfP (prs (firstE Y ly) (mxL (firstE A la) (firstE B lb)))).length (twAns (firstE A la) (firstE B lb) br lf) rf = J := ⟨_, rfl⟩
  obtain ⟨k0, k1, k2, k3, hk⟩ := jVal_form (jErr (chkH A la) (chkH B lb) (chkH X lx) (chkH Y ly) br lf rf) (dfP (prs (firstE X lx) (mxL (firstE A la) (firstE B lb)))).length (dfP (prs (firstE Y ly) (mxL (firstE A la) (firstE B lb)))).length (twAns (firstE A la) (firstE B lb) br lf) rf
  obtain ⟨er, her⟩ : ∃ er, jErr (chkH A la) (chkH B lb) (chkH X lx) (chkH Y ly) br lf rf = er := ⟨_, rfl⟩
  have CG := aside (fun (W : World) (bb : Below V.heap.size V W) => gjudge_all a la ca A b lb cb B x lx cx X y ly cy Y br lf wt tr rf W (HA.out.keep bb) (HB.out.keep bb) (HX.out.keep bb) (HY.out.keep bb) (LL.out.keep bb))
  have CR := aside (fun (W : World) (bb : Below V.heap.size V W) => rjudge_all a la ca A b lb cb B x lx cx X y ly cy Y br lf wt tr rf W (HA.out.keep bb) (HB.out.keep bb) (HX.out.keep bb) (HY.out.keep bb))
  rw [hk, her] at CG CR
  clear hA hB hX hY L kc bv hJ hk her
  go_enter Tryd.func4, Tryd.ntmps4
  go_upto_region 1 with fail
  try rw [hV]
  try rw [hq]
  clear hV hq
  go_wp2_with fail
  refine (weigh19_any a la ca A _ (HA.out)).mono ?_
  rintro e w1 ⟨n1, rfl, -, hn1, b1⟩
  have B1 := aside (b1)
  clear b1
  obtain ⟨zz1, hz1⟩ : ∃ z : Int, (n1 : Int) = z := ⟨_, rfl⟩
  rw [hz1]
  by_cases hw1 : (268435456 : Int) ≤ zz1
  · go_wp2
    go_ret
    exact ⟨rfl, bthen BV.out B1.out⟩
  clear hn1 hz1
  go_wp2_with fail
  refine (weigh19_any b lb cb B _ (HB.out.keep B1.out)).mono ?_
  rintro e w2 ⟨n2, rfl, -, hn2, b2⟩
  have B2 := aside (bthen B1.out b2)
  clear b2
  obtain ⟨zz2, hz2⟩ : ∃ z : Int, (n2 : Int) = z := ⟨_, rfl⟩
  rw [hz2]
  by_cases hw2 : (268435456 : Int) ≤ zz2
  · go_wp2
    go_ret
    exact ⟨rfl, bthen BV.out B2.out⟩
  clear hn2 hz2
  go_wp2_with fail
  refine (weigh19_any x lx cx X _ (HX.out.keep B2.out)).mono ?_
  rintro e w3 ⟨n3, rfl, -, hn3, b3⟩
  have B3 := aside (bthen B2.out b3)
  clear b3
  obtain ⟨zz3, hz3⟩ : ∃ z : Int, (n3 : Int) = z := ⟨_, rfl⟩
  rw [hz3]
  by_cases hw3 : (268435456 : Int) ≤ zz3
  · go_wp2
    go_ret
    exact ⟨rfl, bthen BV.out B3.out⟩
  clear hn3 hz3
  go_wp2_with fail
  refine (weigh19_any y ly cy Y _ (HY.out.keep B3.out)).mono ?_
  rintro e w4 ⟨n4, rfl, -, hn4, b4⟩
  have B4 := aside (bthen B3.out b4)
  clear b4
  obtain ⟨zz4, hz4⟩ : ∃ z : Int, (n4 : Int) = z := ⟨_, rfl⟩
  rw [hz4]
  by_cases hw4 : (268435456 : Int) ≤ zz4
  · go_wp2
    go_ret
    exact ⟨rfl, bthen BV.out B4.out⟩
  clear hn4 hz4
  obtain ⟨c0, c1, c2, c3⟩ := four19 (blk_on KC.out B4.out)
  clear B1 B2 B3
  go_wp2_with fail
  refine (CG.out _ B4.out).mono ?_
  rintro e w5 ⟨rfl, b5⟩
  have N5 := bnew w5 (.cells #[.int .i64 k0, .string k1, .string k2, .bool k3] 46)
  have B5 := aside (bthen (bthen B4.out b5) N5)
  have K5 := aside (heap_alloc_new w5 (.cells #[.int .i64 k0, .string k1, .string k2, .bool k3] 46))
  clear c0 c1 c2 c3 CG b5 N5 B4
  obtain ⟨c0, c1, c2, c3⟩ := four19 (blk_on KC.out B5.out)
  go_wp2_with fail
  refine (CR.out _ B5.out).mono ?_
  rintro e w6 ⟨rfl, b6⟩
  have N6 := bnew w6 (.cells #[.int .i64 k0, .string k1, .string k2, .bool k3] 46)
  have B6 := aside (bthen (bthen B5.out b6) N6)
  obtain ⟨v0, v1, v2, v3⟩ := four19 (blk_on (blk_on K5.out b6) N6)
  obtain ⟨u0, u1, u2, u3⟩ := four19 (heap_alloc_new w6 (.cells #[.int .i64 k0, .string k1, .string k2, .bool k3] 46))
  have hEQ := vd_same k0 k1 k2 k3
  have BF := aside (bthen BV.out B6.out)
  clear c0 c1 c2 c3 CR b6 N6 B5 K5
  go_wp2
  go_ret
  exact ⟨rfl, BF.out⟩
end Go.Proofs.YtfkdhambbpkmpaaDoor
