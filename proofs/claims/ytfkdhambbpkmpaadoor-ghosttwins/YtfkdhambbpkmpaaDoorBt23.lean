/-
  Twins of the code.
-/
import Derived.Test.YtfkdhambbpkmpaaDoorBt22
namespace Go.Proofs.YtfkdhambbpkmpaaDoor
open Go.RowKit
set_option linter.unusedVariables false
theorem rgV_form (o : Option Rg) : ∃ lo hi op, rgV o = .agg #[.string lo, .string hi, .bool op] := by
  cases o with
  | none => exact ⟨_, _, _, rfl⟩
  | some r => exact ⟨_, _, _, rfl⟩
/-- What two checks come to. -/
def two2 (q1 q2 : Int) : Int := if q1 ≠ 0 then q1 else q2
theorem cmN_two (f : Nat → Int) : cmN f 2 = two2 (f 0) (f 1) := by
  show (if (if (0 : Int) = 0 then f 0 else 0) = 0 then f 1 else (if (0 : Int) = 0 then f 0 else 0)) = _
  rw [if_pos rfl]
  unfold two2
  by_cases h : f 0 = 0
  · rw [if_pos h, if_neg (by simp [h])]
  · rw [if_neg h, if_pos h]
theorem tw_two {q1 q2 br lf : Int} {a b : List En} (h : ¬ two2 q1 q2 = 0) : twOpt q1 q2 a b br lf = none ∧ twErr q1 q2 br lf = two2 q1 q2 := by
  unfold two2 at h ⊢
  by_cases h1 : q1 = 0
  · subst h1
    rw [if_neg (by simp)] at h ⊢
    exact tw_err2 h
  · rw [if_pos h1]
    exact tw_err1 h1
theorem two_zero {q1 q2 : Int} (h : two2 q1 q2 = 0) : q1 = 0 ∧ q2 = 0 := by
  unfold two2 at h
  by_cases h1 : q1 = 0
  · rw [if_neg (by simp [h1])] at h
    exact ⟨h1, h⟩
  · rw [if_pos h1] at h
    exact absurd h h1
set_option maxHeartbeats 16000000 in
set_option maxRecDepth 100000 in
theorem gtwins_any (a : Option Addr) (la ca : Nat) (A : Nat → En) (b : Option Addr) (lb cb : Nat) (B : Nat → En) (br lf : Int) (w : World) (hA : EntsIn w a la ca A) (hB : EntsIn w b lb cb B) (L : Lanes w) :
    Calls Tryd.prog 8 #[.slice a la ca, .slice b lb cb, .int .i64 br, .int .i64 lf] w fun e w' => e = .returned (.tuple #[rgV (twOpt (chkH A la) (chkH B lb) (firstE A la) (firstE B lb) br lf), .bool (twOpt (chkH A la) (chkH B lb) (firstE A la) (firstE B lb) br lf).isSome, .int .i64 (twErr (chkH A la) (chkH B lb) br lf)]) ∧ Below w.heap.size w w' := by
  have N1 := bnew w (.cells #[.string ⟨#[]⟩, .string ⟨#[]⟩, .bool false] 26)
  have KR0 := heap_alloc_new w (.cells #[.string ⟨#[]⟩, .string ⟨#[]⟩, .bool false] 26)
  obtain ⟨V, hV⟩ : ∃ V, w.alloc (.cells #[.string ⟨#[]⟩, .string ⟨#[]⟩, .bool false] 26) = V := ⟨_, rfl⟩
  rw [hV] at N1 KR0
  have HV := aside hV
  have bn := bnew V (.cells #[.slice a la ca, .slice b lb cb] 22)
  have kn := heap_alloc_new V (.cells #[.slice a la ca, .slice b lb cb] 22)
  have HA := aside ((hA.keep N1).keep bn)
  have HB := aside ((hB.keep N1).keep bn)
  have CK := aside (cmaps_any V.heap.size 2 2 (fun k => match k with | 0 => a | _ => b) (fun k => match k with | 0 => la | _ => lb) (fun k => match k with | 0 => ca | _ => cb) (fun k => match k with | 0 => A | _ => B) (V.alloc (.cells #[.slice a la ca, .slice b lb cb] 22)) (by omega) (fun k hk => by
    match k, hk with
    | 0, _ => exact ⟨by rw [cell_of_row _ _ 0 _ _ _ kn]; rfl, HA.out⟩
    | 1, _ => exact ⟨by rw [cell_of_row _ _ 1 _ _ _ kn]; rfl, HB.out⟩))
  rw [cmN_two] at CK
  obtain ⟨qq, hqq⟩ : ∃ q, two2 (chkH A la) (chkH B lb) = q := ⟨_, rfl⟩
  have HQQ := aside hqq
  rw [show two2 ((fun k => chkH (match k with | 0 => A | _ => B) (match k with | 0 => la | _ => lb)) 0) ((fun k => chkH (match k with | 0 => A | _ => B) (match k with | 0 => la | _ => lb)) 1) = qq from hqq] at CK
  have KR1 := aside (blk_on KR0 bn)
  have BW1 := aside (bthen N1 bn)
  have LL := aside (L.keep (bthen N1 bn))
  obtain ⟨q1, hq1⟩ : ∃ q, chkH A la = q := ⟨_, rfl⟩
  obtain ⟨q2, hq2⟩ : ∃ q, chkH B lb = q := ⟨_, rfl⟩
  have HQ1 := aside hq1
  have HQ2 := aside hq2
  rw [hq1, hq2]
  rw [hq1, hq2] at HQQ
  clear hA hB L N1 KR0 bn kn hq1 hq2 hqq
  go_enter Tryd.func8, Tryd.ntmps8
  go_upto_region 1 with fail
  try rw [HV.out]
  clear hV
  go_wp2_with fail
  refine CK.out.mono ?_
  rintro e w1 ⟨rfl, b1⟩
  have KR := aside (blk_on KR1.out b1)
  have BW := aside (bthen BW1.out b1)
  replace HA := aside (HA.out.keep b1)
  replace HB := aside (HB.out.keep b1)
  replace LL := aside (LL.out.keep b1)
  clear b1 CK KR1 BW1
  by_cases h1 : qq = 0
  case neg =>
    have h1b : (qq != 0) = true := by simpa using h1
    have hE := aside (by have h := tw_two (br := br) (lf := lf) (a := firstE A la) (b := firstE B lb) (by rw [HQQ.out]; exact h1); rw [HQQ.out] at h; exact h)
    obtain ⟨z0, z1, z2⟩ := box3r KR.out
    have f0 := frozen_of_row w1 w.heap.size 0 _ _ KR.out
    have f1 := frozen_of_row w1 w.heap.size 1 _ _ KR.out
    have f2 := frozen_of_row w1 w.heap.size 2 _ _ KR.out
    obtain ⟨r0, r1, r2⟩ := box3r (set_three KR.out (.string ⟨#[]⟩) (.string ⟨#[]⟩) (.bool false))
    have BF := aside (bel_three BW.out (Nat.le_refl _) (.string ⟨#[]⟩) (.string ⟨#[]⟩) (.bool false))
    go_wp2
    try simp only [Exit.inBlock, Exit.then]
    exact bodyPost_ret (v := .tuple #[.agg #[.string ⟨#[]⟩, .string ⟨#[]⟩, .bool false], .bool false, .int .i64 qq]) (by simp [results, Tryd.results8, go_sem, r0, r1, r2]) rfl ⟨by rw [hE.out.1, hE.out.2]; rfl, BF.out⟩
  subst h1
  obtain ⟨e1, e2⟩ := two_zero HQQ.out
  subst e1
  subst e2
  clear HQQ
  obtain ⟨k, hk⟩ : ∃ k, decide (okC br lf) = k := ⟨_, rfl⟩
  have CR := aside (inbounds_any br lf w1)
  rw [hk] at CR
  go_wp2_with fail
  refine CR.out.mono ?_
  rintro e w3 ⟨rfl, rfl⟩
  clear CR
  cases k
  case false =>
    have hE := aside (tw_err3 (a := firstE A la) (b := firstE B lb) (of_decide_eq_false hk))
    obtain ⟨z0, z1, z2⟩ := box3r KR.out
    have f0 := frozen_of_row w3 w.heap.size 0 _ _ KR.out
    have f1 := frozen_of_row w3 w.heap.size 1 _ _ KR.out
    have f2 := frozen_of_row w3 w.heap.size 2 _ _ KR.out
    obtain ⟨r0, r1, r2⟩ := box3r (set_three KR.out (.string ⟨#[]⟩) (.string ⟨#[]⟩) (.bool false))
    have BF := aside (bel_three BW.out (Nat.le_refl _) (.string ⟨#[]⟩) (.string ⟨#[]⟩) (.bool false))
    go_wp2
    try simp only [Exit.inBlock, Exit.then]
    exact bodyPost_ret (v := .tuple #[.agg #[.string ⟨#[]⟩, .string ⟨#[]⟩, .bool false], .bool false, .int .i64 1]) (by simp [results, Tryd.results8, go_sem, r0, r1, r2]) rfl ⟨by rw [hE.out.1, hE.out.2]; rfl, BF.out⟩
  have hok := of_decide_eq_true hk
  obtain ⟨bn, rfl⟩ : ∃ n : Nat, br = (n : Int) := ⟨br.toNat, by have := hok.1; omega⟩
  obtain ⟨fn, rfl⟩ : ∃ n : Nat, lf = (n : Int) := ⟨lf.toNat, by have := hok.2.2.1; omega⟩
  have hok2 : (2 ≤ bn ∧ bn ≤ 16) ∧ (1 ≤ fn ∧ fn ≤ 32) := by obtain ⟨h1, h2, h3, h4⟩ := hok; omega
  have cA := chkH_ok HQ1.out
  have cB := chkH_ok HQ2.out
  have CF := aside (first_any a la ca (firstE A la) b lb cb (firstE B lb) bn fn w3 ⟨A, HA.out, rfl⟩ ⟨B, HB.out, rfl⟩ ((ck_map la).1 cA.1) ((ck_map lb).1 cB.1) cA.2 cB.2 hok2 LL.out)
  obtain ⟨ans, hans⟩ : ∃ x, twGo bn fn ((firstE A la).length + (firstE B lb).length + 1) (firstE B lb) (firstE A la) [wholeR] = x := ⟨_, rfl⟩
  have hE := aside (show twOpt 0 0 (firstE A la) (firstE B lb) (bn : Int) (fn : Int) = ans ∧ twErr 0 0 (bn : Int) (fn : Int) = 0 from ⟨(tw_err0 hok).1.trans hans, (tw_err0 (a := firstE A la) (b := firstE B lb) hok).2⟩)
  rw [hans] at CF
  obtain ⟨x0, x1, x2, hx⟩ := rgV_form ans
  have HX := aside hx
  rw [hx] at CF
  clear hok hok2 cA cB hk hans hx
  go_wp2_with fail
  refine CF.out.mono ?_
  rintro e w9 ⟨rfl, b9⟩
  have NW := bnew w9 (.cells #[.string x0, .string x1, .bool x2] 26)
  have KX := blk_on (blk_on KR.out b9) NW
  have KN := heap_alloc_new w9 (.cells #[.string x0, .string x1, .bool x2] 26)
  have BD := aside (bthen (bthen BW.out b9) NW)
  obtain ⟨y0, y1, y2⟩ := box3r KN
  have BX := aside (bel_three BD.out (Nat.le_refl _) (.string x0) (.string x1) (.bool x2))
  obtain ⟨z0, z1, z2⟩ := box3r KX
  have f0 := frozen_of_row (w9.alloc (.cells #[.string x0, .string x1, .bool x2] 26)) w.heap.size 0 _ _ KX
  have f1 := frozen_of_row (w9.alloc (.cells #[.string x0, .string x1, .bool x2] 26)) w.heap.size 1 _ _ KX
  have f2 := frozen_of_row (w9.alloc (.cells #[.string x0, .string x1, .bool x2] 26)) w.heap.size 2 _ _ KX
  obtain ⟨r0, r1, r2⟩ := box3r (set_three KX (.string x0) (.string x1) (.bool x2))
  clear KN KX b9 KR BW CF NW
  go_wp2
  try simp only [Exit.inBlock, Exit.then]
  exact bodyPost_ret (v := .tuple #[.agg #[.string x0, .string x1, .bool x2], .bool ans.isSome, .int .i64 0]) (by simp [results, Tryd.results8, go_sem, r0, r1, r2]) rfl ⟨by rw [hE.out.1, hE.out.2, HX.out], BX.out⟩
end Go.Proofs.YtfkdhambbpkmpaaDoor
