/-
  Lacks, the code's.
-/
import Derived.Test.YtpbkjffiohfkcaaGreatDoorBs21
import Derived.Test.YtpbkjffiohfkcaaGreatDoorBs26
import Derived.Test.YtpbkjffiohfkcaaGreatDoorBs1
namespace Go.Proofs.YtpbkjffiohfkcaaGreatDoor
open Go.RowKit Go.Shelf
set_option linter.unusedVariables false
attribute [local go_sem] Oper.semAt_some
def lkP (l : List (En × En)) : List En := (l.filter (fun p => En.newer p.1 p.2)).map (fun p => p.1)
theorem lkP_snoc (l : List (En × En)) (p : En × En) : lkP (l ++ [p]) = lkP l ++ (if En.newer p.1 p.2 then [p.1] else []) := by
 unfold lkP
 rw [List.filter_append, List.map_append]
 congr 1
 cases h : En.newer p.1 p.2 <;> simp [h]
theorem lkP_len (l : List (En × En)) : (lkP l).length ≤ l.length := by unfold lkP; rw [List.length_map]; exact List.length_filter_le _ _
theorem lkP_prs (a b : List En) : lkP (prs a b) = lkL a b := rfl
set_option maxHeartbeats 8000000 in
set_option maxRecDepth 100000 in
theorem mlack_any (a : Option Addr) (la ca : Nat) (A : Nat → En) (b : Option Addr) (lb cb : Nat) (B : Nat → En) (w : World) (hA : EntsIn w a la ca A) (hB : EntsIn w b lb cb B) (hl : la + lb ≤ 2147483648) :
    Calls Tryz.prog 95 #[.slice a la ca, .slice b lb cb] w fun r w' => Says w (ck2 A la B lb) (outL (ck2 A la B lb) (lkP (prs (firstE A la) (firstE B lb)))) r w' := by
 obtain ⟨q, hq⟩ : ∃ q, ck2 A la B lb = q := ⟨_, rfl⟩
 have CK := aside (mchk2_any a la ca A b lb cb B w hA hB)
 rw [hq] at CK ⊢
 have HA := aside hA
 have HBB := aside hB
 have HL := aside hl
 clear hA hB hl hq
 by_cases h0 : q = 0
 ·subst h0
  rw [outL_ok _ rfl]
  refine (callsIn_wide (n := 5)).1 ?_
  refine callsIn_of_wp_marks Tryz.func95 rfl trivial ?_ rfl
  simp only [Tryz.ntmps95, List.size_toArray, List.length_cons, List.length_nil, Nat.reduceAdd, Nat.reduceSub, Array.replicate_succ, Array.replicate_zero, List.push_toArray, List.append_toArray, List.nil_append, List.cons_append]
  gi_wp2_with fail
  refine ⟨trivial, ?_⟩
  refine (callsIn_wide.2 CK.out).mono ?_
  rintro e w1 ⟨rfl, b1⟩
  have B1 := aside b1
  clear b1 CK
  gi_wp2_with fail
  refine ⟨trivial, ?_⟩
  refine (callsIn_wide.2 (side_any _ _ _ _ _ _ _)).mono ?_
  rintro e w2 ⟨rfl, rfl⟩
  gi_wp2_with fail
  have B2 := aside (bthen B1.out (bnew w1 (.cells #[.slice none 0 0] 22)))
  have KV := aside (heap_alloc_new w1 (.cells #[.slice none 0 0] 22))
  have SD2 := aside (side_sd (HA.out.keep B2.out) (HBB.out.keep B2.out))
  have B3 := aside (bthen B2.out (bthen (bnew (w1.alloc (.cells #[.slice none 0 0] 22)) (.cells #[.slice a la ca] 22)) (bnew _ (.cells #[.slice b lb cb] 22))))
  have KV3 := aside (blk_on KV.out (bthen (bnew (w1.alloc (.cells #[.slice none 0 0] 22)) (.cells #[.slice a la ca] 22)) (bnew _ (.cells #[.slice b lb cb] 22))))
  obtain ⟨vb, hvb⟩ : ∃ vb, w1.heap.size = vb := ⟨_, rfl⟩
  obtain ⟨ba, hba⟩ : ∃ ba, (w1.alloc (.cells #[.slice none 0 0] 22)).heap.size = ba := ⟨_, rfl⟩
  have hbv : ba = vb + 1 := by rw [← hba, ← hvb]; simp
  have HVB := aside (show w.heap.size ≤ vb from by rw [← hvb]; exact B1.out.size)
  rw [World.size_alloc] at hba
  rw [World.size_alloc, hba] at SD2
  rw [hba]
  rw [hvb] at KV3 ⊢
  clear KV hvb hba B1
  generalize ((w1.alloc (.cells #[.slice none 0 0] 22)).alloc (.cells #[.slice a la ca] 22)).alloc (.cells #[.slice b lb cb] 22) = V at *
  have I0 := aside (show LpC w vb 22 77 5 (lkP (([] : List (En × En)))).length (entCells (lkP (([] : List (En × En))))) ba (ba + 1) a la ca A b lb cb B V from ⟨⟨.slice none 0 0, KV3.out, ⟨rfl, .inl ⟨rfl, rfl⟩⟩⟩, B3.out, SD2.out⟩)
  have HVV := aside (show w.heap.size ≤ V.heap.size from B3.out.size)
  have HNE := aside (show ba ≠ vb ∧ ba + 1 ≠ vb from by omega)
  clear KV3 B3 B2 hbv
  have ownI : OwnFrom V.heap.size (fun (pre : List (En × En)) X => LpC w vb 22 77 5 (lkP (pre)).length (entCells (lkP (pre))) ba (ba + 1) a la ca A b lb cb B X) := fun s A Y row hs hg hr => hs.own HVV.out hg hr
  refine rangeO rfl (enters_of Tryz.func141 (by kernel_rfl) rfl) (side_seq SD2.out) KpS.t (fun W l o o' _ h ho => KpS.b W l o o' h ho) (Below.refl _ _) (fun _ => rfl)
   (fun (pre : List (En × En)) X => LpC w vb 22 77 5 (lkP (pre)).length (entCells (lkP (pre))) ba (ba + 1) a la ca A b lb cb B X) (fun _ _ _ => False) ownI (fun _ _ _ _ _ h => h.elim) I0.out
   (fun x a' X => ∃ eb : Nat, a' = ⟨#[.slice a la ca, .slice b lb cb, undef, undef, .slice none 0 0, .int .i64 0, .int .i64 0, .pointer (some ⟨vb, 0, none⟩), .pointer (some ⟨eb, 0, none⟩), .pointer (some ⟨eb + 1, 0, none⟩), .slice a la ca, .slice b lb cb, .int .i64 0, .int .i64 0, .bool false, undef, .slice a la ca, .slice b lb cb, .func (.func 141) #[] #[.pointer (some ⟨ba, 0, none⟩), .pointer (some ⟨ba + 1, 0, none⟩)], .agg #[.string x.1.k, .int .i64 x.1.c, .int .i64 x.1.n, .string x.1.v, .bool x.1.d], .agg #[.string x.2.k, .int .i64 x.2.c, .int .i64 x.2.n, .string x.2.v, .bool x.2.d], undef, undef, undef, undef, undef, undef, undef, undef], []⟩ ∧ X.heap[eb]? = some (.cells #[.string x.1.k, .int .i64 x.1.c, .int .i64 x.1.n, .string x.1.v, .bool x.1.d] 77 (0, 0)) ∧ X.heap[eb + 1]? = some (.cells #[.string x.2.k, .int .i64 x.2.c, .int .i64 x.2.n, .string x.2.v, .bool x.2.d] 77 (0, 0)))
   (fun x a' _ A Y row hs hg hr => by
    obtain ⟨eb, h1, h2, h3⟩ := hs
    exact ⟨eb, h1, cells_ownM h2 hg (fun r e => (hr r e).2), cells_ownM h3 hg (fun r e => (hr r e).2)⟩) ?assign ?body ?done ?stop
  case assign =>
   intro l' pre x X K hi hK
   dsimp only [encP]
   gi_wp2
   have bb := bthen (bnew X (.cells #[.string x.1.k, .int .i64 x.1.c, .int .i64 x.1.n, .string x.1.v, .bool x.1.d] 77)) (bnew _ (.cells #[.string x.2.k, .int .i64 x.2.c, .int .i64 x.2.n, .string x.2.v, .bool x.2.d] 77))
   have k2 := heap_alloc_new (X.alloc (.cells #[.string x.1.k, .int .i64 x.1.c, .int .i64 x.1.n, .string x.1.v, .bool x.1.d] 77)) (.cells #[.string x.2.k, .int .i64 x.2.c, .int .i64 x.2.n, .string x.2.v, .bool x.2.d] 77)
   rw [World.size_alloc] at k2
   exact hK _ _ (kf_below bb) (fun s => s.keep bb) (hi.keep bb) ⟨X.heap.size, rfl, blk_on (heap_alloc_new X _) (bnew _ _), k2⟩
  case body =>
   rintro l' pre ⟨x, y⟩ a' X hlp ⟨eb, rfl, he, hf⟩ hlen
   dsimp only at he hf ⊢
   have HLP := aside hlp
   have HE := aside he
   have HF := aside hf
   have HLN := aside (show (lkP (pre)).length ≤ 2147483648 from by have h1 := prs_len (firstE A la) (firstE B lb); rw [firstE_len, firstE_len] at h1; have h2 := HL.out; have h3 : (lkP (pre)).length ≤ pre.length := lkP_len pre; omega)
   clear hlp he hf hlen
   obtain ⟨⟨e0, e1, e2, e3, e4⟩, -⟩ := box5 HE.out
   obtain ⟨⟨f0, f1, f2, f3, f4⟩, -⟩ := box5 HF.out
   cases hq : En.newer x y
   ·have CN := aside (fun W => newer_en x y W hq)
    have HSN := aside (show lkP (pre ++ [(x, y)]) = lkP pre from by rw [lkP_snoc]; simp [hq])
    clear hq
    gi_wp2_with fail
    refine ⟨trivial, ?_⟩
    refine (CallsIn.inRound l' (callsIn_wide.2 (CN.out _))).mono ?_
    rintro e X1 ⟨rfl, b1⟩
    have BX := aside b1
    clear b1 e0 e1 e2 e3 e4 f0 f1 f2 f3 f4
    gi_wp2
    exact ⟨kf_below BX.out, fun s => s.keep BX.out, by dsimp only; rw [HSN.out]; exact HLP.out.keep BX.out⟩
   ·have CN := aside (fun W => newer_en x y W hq)
    have HSN := aside (show lkP (pre ++ [(x, y)]) = lkP pre ++ [x] from by rw [lkP_snoc]; simp [hq])
    clear hq
    gi_wp2_with fail
    refine ⟨trivial, ?_⟩
    refine (CallsIn.inRound l' (callsIn_wide.2 (CN.out _))).mono ?_
    rintro e X1 ⟨rfl, b1⟩
    have BX := aside b1
    replace HLP := aside (HLP.out.keep b1)
    replace HE := aside (blk_on HE.out b1)
    clear b1 e0 e1 e2 e3 e4 f0 f1 f2 f3 f4 HF CN
    obtain ⟨⟨e0, e1, e2, e3, e4⟩, -⟩ := box5 HE.out
    obtain ⟨v, hv, ho⟩ := HLP.out.lst.ex
    obtain ⟨i0, hi0, hz0, hz1, hz2⟩ := info_parts infoEnt
    have v0 := cell_one hv
    have HV := aside hv
    have HO := aside ho
    have HI := aside hi0
    have HBX := aside HLP.out.below
    clear hv ho hi0
    gi_wp2_with (gi_at_builtin; go_loud (refine wpListIn_append_own _ rfl _ _ _ rfl w.heap.size 77 i0 (.agg #[.string ⟨#[]⟩, .int .i64 0, .int .i64 0, .string ⟨#[]⟩, .bool false]) 5 56 Tryz.underlying22 HI.out hz0 hz1 hz2 rfl (by decide) v (lkP pre).length (entCells (lkP pre)) (by rfl) (HO.out.alloc _) ⟨X1.heap.size, 0, none⟩ 1 1 (entVals x) (by rfl) (by rfl) (World.news_of_block (cs := #[.string x.k, .int .i64 x.c, .int .i64 x.n, .string x.v, .bool x.d]) (t := 77) (fr := (0, 0)) (heap_alloc_new X1 _)) (by intro u hu; exact entCells_one [x] u (by simpa [entCells] using hu)) (by have := HLN.out; unfold maxLen; omega) (by have := HLN.out; omega) (by have := HBX.out.size; simp; omega) ?_); intro v' X2 hown1 hgrow hiff; refine Hid.out ?_)
    refine aside ?_
    obtain ⟨g', cap', rfl⟩ : ∃ g' cap', v' = .slice (some ⟨g', 0, none⟩) ((lkP pre).length + 1) cap' := by
     rcases hown1.2 with ⟨_, h⟩ | ⟨g', cap', cur, e, _⟩
     ·omega
     ·exact ⟨g', cap', e⟩
    have ST := aside (LpC.add (C := V.heap.size) HA.out HBB.out (by decide) (by decide) HVB.out HNE.out.1 HNE.out.2 HBX.out HLP.out.sd HV.out HO.out hown1 hgrow)
    have v1 := cell_one ST.out.1
    have z1 := frozen_one ST.out.1
    clear hown1 hgrow hiff v0 e0 e1 e2 e3 e4
    gi_wp2
    exact ⟨(kf_below BX.out).trans ST.out.2.2, fun _ => ST.out.2.1.sd, by dsimp only; rw [HSN.out, List.length_append, entCells_append, show entCells [x] = entVals x from by simp [entCells]]; exact ST.out.2.1⟩
  case done =>
   rintro D xs X hD rfl hlp hK
   obtain ⟨v, hv, ho⟩ := hlp.lst.ex
   have v0 := cell_one hv
   have FO := aside (ownsRow_ownM ho (grownBy_putObj' X D (.deferred none)) (fun r e => by cases e; exact ⟨_, hK, rfl⟩))
   have FB := aside (ownFrom_below (β := Unit) (Nat.le_refl w.heap.size) HVV.out () X _ (some D) hlp.below (grownBy_putObj' X D (.deferred none)) (fun r e => by cases e; exact ⟨hD, _, hK, rfl⟩))
   clear hlp hv ho
   gi_wp2
   refine ⟨by simp, .inl ⟨_, _, rfl, run_takeDeferred hK, ?_⟩⟩
   exact ⟨.tuple #[v, .int .i64 0], by simp [results, Tryz.f95, go_sem], ⟨v, rfl, FO.out, FB.out⟩⟩
  case stop =>
   rintro D c pre X hD _ h
   exact h.elim
 ·rw [outL_bad _ h0]
  have hqb : (q == 0) = false := by simpa using h0
  have H0 := aside h0
  clear h0
  refine (callsIn_wide (n := 5)).1 ?_
  refine callsIn_of_wp_marks Tryz.func95 rfl trivial ?_ rfl
  simp only [Tryz.ntmps95, List.size_toArray, List.length_cons, List.length_nil, Nat.reduceAdd, Nat.reduceSub, Array.replicate_succ, Array.replicate_zero, List.push_toArray, List.append_toArray, List.nil_append, List.cons_append]
  gi_wp2_with fail
  refine ⟨trivial, ?_⟩
  refine (callsIn_wide.2 CK.out).mono ?_
  rintro e w1 ⟨rfl, b1⟩
  have B1 := aside b1
  clear b1 CK
  gi_wp2
  exact ⟨.tuple #[.slice none 0 0, .int .i64 q], by simp [results, Tryz.f95, go_sem], ⟨_, rfl, ⟨rfl, .inl ⟨rfl, rfl⟩⟩, B1.out⟩⟩
end Go.Proofs.YtpbkjffiohfkcaaGreatDoor
namespace Go.Proofs.YtpbkjffiohfkcaaGreatDoor
open Go.RowKit
set_option linter.unusedVariables false
theorem part_of (p : Pm) (lo1 hi1 : ByteArray) (op1 : Bool) (w : World) (h : p.In w) {q : Int} (hq : p.chk hi1 op1 = q) : Calls Tryz.prog 43 #[.agg #[.int .i64 p.kind, .string p.lo, .string p.hi, .bool p.op, .int .i64 p.cnt, .int .u64 p.s0, .int .u64 p.s1, .slice p.ea p.el p.ec], .agg #[.string lo1, .string hi1, .bool op1]] w fun e w' => e = .returned (.int .i64 q) ∧ Below w.heap.size w w' := by
 subst hq
 exact part_any p lo1 hi1 op1 w h
theorem count_of {a : Option Addr} {len cap : Nat} {P : Nat → Pm} {w : World} (h : PartsIn w a len cap P) (hT : totE P len ≤ 4611686018427387904) {q : Nat} (hq : totE P len = q) :
    Calls Tryz.prog 42 #[.slice a len cap] w fun e w' => e = .returned (.int .i64 (q : Int)) ∧ Below w.heap.size w w' := by
 subst hq
 exact count_any a len cap P w h hT
set_option maxHeartbeats 6400000 in
set_option maxRecDepth 100000 in
theorem parts_any (a : Option Addr) (len cap : Nat) (P : Nat → Pm) (w : World) (h : PartsIn w a len cap P) (hT : totE P len ≤ 4611686018427387904) :
    Calls Tryz.prog 22 #[.slice a len cap] w fun e w' => e = .returned (.int .i64 (psChk P len)) ∧ Below w.heap.size w w' := by
 have HE := aside h
 obtain ⟨q, hq⟩ : ∃ q, totE P len = q := ⟨_, rfl⟩
 have CN := aside (count_of h hT hq)
 have HQ := aside hq
 obtain ⟨hlc, hcm, -⟩ := h
 have hmx : (len : Int) ≤ 9223372036854775807 := by unfold maxLen at hcm; omega
 clear hlc hcm hT hq
 by_cases h1 : (768 : Int) < (len : Int)
 ·go_enter Tryz.func22, Tryz.ntmps22
  go_wp2
  go_ret
  exact ⟨ret_i64 (by unfold psChk; rw [if_pos (.inl (by omega))]), Below.refl _ _⟩
 ·by_cases h2 : (256 : Int) < (q : Int)
  ·go_enter Tryz.func22, Tryz.ntmps22
   go_wp2_with fail
   refine CN.out.mono ?_
   rintro e w1 ⟨rfl, b1⟩
   have B1 := aside b1
   clear b1
   go_wp2
   go_ret
   exact ⟨ret_i64 (by unfold psChk; rw [if_pos (.inr (by rw [HQ.out]; omega))]), B1.out⟩
  ·go_enter Tryz.func22, Tryz.ntmps22
   go_wp2_with fail
   refine CN.out.mono ?_
   rintro e w1 ⟨rfl, b1⟩
   have HPS := aside (show psChk P len = ptN P len from by unfold psChk; rw [if_neg (by rw [HQ.out]; omega)])
   have B1 := aside (bthen b1 (bnew w1 (.cells #[.string ⟨#[]⟩, .string ⟨#[]⟩, .bool false] 40)))
   have KR := aside (heap_alloc_new w1 (.cells #[.string ⟨#[]⟩, .string ⟨#[]⟩, .bool false] 40))
   have HAB := aside b1.size
   clear b1 CN
   go_wp2
   obtain ⟨ab, hab⟩ : ∃ ab, w1.heap.size = ab := ⟨_, rfl⟩
   rw [hab] at KR HAB ⊢
   clear hab
   generalize w1.alloc (.cells #[.string ⟨#[]⟩, .string ⟨#[]⟩, .bool false] 40) = X0 at B1 KR ⊢
   go_loopw [17] (fun i wr => ∃ j : Nat, i = .int .i64 (j : Int) ∧ j ≤ len ∧ Hid (ptN P j = 0) ∧ Below w.heap.size w wr ∧ Hid (wr.heap[ab]? = some (.cells #[.string (ahLo P j), .string (ahHi P j), .bool (ahOp P j)] 40 (0, 0)))) (fun i _ => len - (intOf i).toNat)
   case atStart => exact ⟨0, rfl, Nat.zero_le _, rfl, B1.out, KR.out⟩
   case round =>
    obtain ⟨j, rfl, hj, HC, hB, HR⟩ := hrel
    have HB := aside hB
    clear hB
    by_cases hlt : (j : Int) < (len : Int)
    ·have hE := HE.out.keep HB.out
     rcases hE.2.2 with h0 | ⟨b, off, rfl, hb, hc⟩
     ·omega
     obtain ⟨hat, hin⟩ := hc j (by omega)
     obtain ⟨p, hp⟩ : ∃ p, P j = p := ⟨_, rfl⟩
     have HP := aside hp
     rw [hp] at hat hin
     clear hp hc
     obtain ⟨kind, lo, hi, op, cnt, s0, s1, ea, el, ec, T⟩ := p
     obtain ⟨c0, c1, c2, c3, c4, c5, c6, c7⟩ := hat
     dsimp only at c0 c1 c2 c3 c4 c5 c6 c7
     have hj0 : (0 : Int) ≤ (j : Int) := by omega
     obtain ⟨q2, hq2⟩ : ∃ q2, ptAt P j = q2 := ⟨_, rfl⟩
     have HQ2 := aside hq2
     obtain ⟨rl, hrl⟩ : ∃ rl, ahLo P j = rl := ⟨_, rfl⟩
     obtain ⟨rh, hrh⟩ : ∃ rh, ahHi P j = rh := ⟨_, rfl⟩
     obtain ⟨ro, hro⟩ : ∃ ro, ahOp P j = ro := ⟨_, rfl⟩
     unfold ptAt at hq2
     rw [HP.out, hrh, hro] at hq2
     rw [hrl, hrh, hro] at HR
     have CQ := aside (fun W (bb : Below wr.heap.size wr W) => part_of ⟨kind, lo, hi, op, cnt, s0, s1, ea, el, ec, T⟩ rl rh ro W (hin.keep bb) hq2)
     clear hq2 hrl hrh hro hin
     obtain ⟨r0, r1, r2, -⟩ := tri (blk_on HR.out (bnew wr (.cells #[.int .i64 kind, .string lo, .string hi, .bool op, .int .i64 cnt, .int .u64 s0, .int .u64 s1, .slice ea el ec] 47)))
     by_cases hq0 : q2 = 0
     ·subst hq0
      go_wp2_with fail
      refine (CQ.out _ (bnew wr _)).mono ?_
      rintro e w2 ⟨rfl, b2⟩
      have B2 := aside (HB.out.trans ((bthen (bnew wr (.cells #[.int .i64 kind, .string lo, .string hi, .bool op, .int .i64 cnt, .int .u64 s0, .int .u64 s1, .slice ea el ec] 47)) b2).mono HB.out.size))
      have HR2 := aside (blk_on HR.out (bthen (bnew wr (.cells #[.int .i64 kind, .string lo, .string hi, .bool op, .int .i64 cnt, .int .u64 s0, .int .u64 s1, .slice ea el ec] 47)) b2))
      obtain ⟨-, p1, p2, p3, -⟩ := oct8 (blk_on (heap_alloc_new wr (.cells #[.int .i64 kind, .string lo, .string hi, .bool op, .int .i64 cnt, .int .u64 s0, .int .u64 s1, .slice ea el ec] 47)) b2)
      clear r0 r1 r2
      obtain ⟨r0, r1, r2, z0, z1, z2⟩ := tri HR2.out
      clear b2 CQ c0 c1 c2 c3 c4 c5 c6 c7
      go_wp2
      go_roundw
      case rel => exact ⟨j + 1, by go_num, by omega, (ptN_step HC.out).trans HQ2.out, ((B2.out.setCell (by simpa using HAB.out) _).setCell (by simpa using HAB.out) _).setCell (by simpa using HAB.out) _, by
          have h9 := set_tri HR2.out (.string lo) (.string hi) (.bool op)
          simp only [ahLo, ahHi, ahOp, HP.out]
          exact h9⟩
      case measure => simp [intOf]; omega
     ·have HQ0 := aside hq0
      go_wp2_with fail
      refine (CQ.out _ (bnew wr _)).mono ?_
      rintro e w2 ⟨rfl, b2⟩
      have B2 := aside (HB.out.trans ((bthen (bnew wr (.cells #[.int .i64 kind, .string lo, .string hi, .bool op, .int .i64 cnt, .int .u64 s0, .int .u64 s1, .slice ea el ec] 47)) b2).mono HB.out.size))
      clear b2 CQ c0 c1 c2 c3 c4 c5 c6 c7 r0 r1 r2
      have hqb : (q2 == 0) = false := by simpa using hq0
      go_wp2
      go_ret
      exact ⟨ret_i64 (by rw [HPS.out, ptN_bad HC.out (by omega) (by rw [HQ2.out]; exact HQ0.out)]; exact HQ2.out.symm), B2.out⟩
    ·have hjl : j = len := by omega
     subst hjl
     go_wp2
     go_ret
     exact ⟨ret_i64 (by rw [HPS.out]; exact HC.out.symm), HB.out⟩
theorem entchkR_of (t : En) (w : World) {q : Int} (h : t.chk = q) : Calls Tryz.prog 54 #[.agg #[.string t.k, .int .i64 t.c, .int .i64 t.n, .string t.v, .bool t.d]] w fun e w' => e = .returned (.int .i64 q) ∧ Below w.heap.size w w' := by
 subst h
 exact ichkRef_any t.k t.c t.n t.v t.d w
theorem holdsR_of (lo hi : ByteArray) (op : Bool) (k : ByteArray) (w : World) {q : Bool} (h : Rg.has ⟨lo, hi, op⟩ k = q) : Calls Tryz.prog 66 #[.agg #[.string lo, .string hi, .bool op], .string k] w fun e w' => e = .returned (.bool q) ∧ Below w.heap.size w w' := by
 subst h
 exact holdsRef_any lo hi op k w
set_option maxHeartbeats 6400000 in
set_option maxRecDepth 100000 in
theorem itsR_any (p : Pm) (w : World) (h : p.In w) : Calls Tryz.prog 97 #[.agg #[.int .i64 p.kind, .string p.lo, .string p.hi, .bool p.op, .int .i64 p.cnt, .int .u64 p.s0, .int .u64 p.s1, .slice p.ea p.el p.ec]] w fun e w' => e = .returned (.int .i64 p.its) ∧ Below w.heap.size w w' := by
 obtain ⟨kind, lo, hi, op, cnt, s0, s1, ea, el, ec, T⟩ := p
 unfold Pm.In at h
 dsimp only at h ⊢
 have HE := aside h
 obtain ⟨hlc, hcm, -⟩ := h
 have hmx : (el : Int) ≤ 9223372036854775807 := by unfold maxLen at hcm; omega
 clear hlc hcm
 go_enter Tryz.func97, Tryz.ntmps97
 go_wp2
 have BX := aside (bnew w (.cells #[.int .i64 kind, .string lo, .string hi, .bool op, .int .i64 cnt, .int .u64 s0, .int .u64 s1, .slice ea el ec] 47))
 have KX := aside (heap_alloc_new w (.cells #[.int .i64 kind, .string lo, .string hi, .bool op, .int .i64 cnt, .int .u64 s0, .int .u64 s1, .slice ea el ec] 47))
 generalize w.alloc (.cells #[.int .i64 kind, .string lo, .string hi, .bool op, .int .i64 cnt, .int .u64 s0, .int .u64 s1, .slice ea el ec] 47) = X0 at BX KX ⊢
 go_loopw [3] (fun i wr => ∃ j : Nat, i = .int .i64 (j : Int) ∧ j ≤ el ∧ Hid (itN ⟨lo, hi, op⟩ T j = 0) ∧ Below X0.heap.size X0 wr) (fun i _ => el - (intOf i).toNat)
 case atStart => exact ⟨0, rfl, Nat.zero_le _, rfl, Below.refl _ _⟩
 case round =>
  obtain ⟨j, rfl, hj, HC, hB⟩ := hrel
  have HB := aside hB
  clear hB
  by_cases hlt : (j : Int) < (el : Int)
  ·skip
   have hE := HE.out.keep (bthen BX.out HB.out)
   rcases hE.2.2 with h0 | ⟨b, off, rfl, hb, hc⟩
   ·omega
   obtain ⟨⟨c0, c1, c2, c3, c4⟩, -⟩ := hc j (by omega)
   obtain ⟨q, hq⟩ : ∃ q, (T j).chk = q := ⟨_, rfl⟩
   have HQ := aside hq
   have hj0 : (0 : Int) ≤ (j : Int) := by omega
   have HCC := aside hc
   clear hc hE
   obtain ⟨t, ht⟩ : ∃ t, T j = t := ⟨_, rfl⟩
   have HT := aside ht
   rw [ht] at c0 c1 c2 c3 c4 hq
   have CQ := aside (fun W => entchkR_of t W hq)
   clear ht hq
   obtain ⟨-, p1, p2, p3, -, -, -, p7⟩ := oct8 (blk_on KX.out HB.out)
   by_cases hq0 : q = 0
   ·subst hq0
    go_wp2_with fail
    refine (CQ.out _).mono ?_
    rintro e w1 ⟨rfl, b1⟩
    have B2 := aside (HB.out.trans (b1.mono HB.out.size))
    have e0 := cell_in c0 b1
    clear p1 p2 p3 p7
    obtain ⟨-, p1, p2, p3, -, -, -, p7⟩ := oct8 (blk_on KX.out B2.out)
    have HC2 := aside (fun (i : Nat) (hi : i < el) => cell_in (HCC.out i hi).1.1 b1)
    clear b1 c0 c1 c2 c3 c4 CQ HCC
    obtain ⟨hs, hhs⟩ : ∃ hs, Rg.has ⟨lo, hi, op⟩ t.k = hs := ⟨_, rfl⟩
    have CH := aside (fun W => holdsR_of lo hi op t.k W hhs)
    have HH := aside (show Rg.has ⟨lo, hi, op⟩ (T j).k = hs from by rw [HT.out]; exact hhs)
    clear hhs
    cases hs
    ·skip
     have SX := aside (fun W (bb : Below w1.heap.size w1 W) => (show Below X0.heap.size X0 W ∧ W.cell? ⟨w.heap.size, 1, none⟩ = some (.string lo) ∧ W.cell? ⟨w.heap.size, 2, none⟩ = some (.string hi) ∧ W.cell? ⟨w.heap.size, 3, none⟩ = some (.bool op) ∧ W.cell? ⟨w.heap.size, 7, none⟩ = some (.slice (some ⟨b, off, none⟩) el ec) ∧ W.cell? ⟨b, off + j * 5, none⟩ = some (.string t.k) from ⟨B2.out.trans (bb.mono B2.out.size), cell_in p1 bb, cell_in p2 bb, cell_in p3 bb, cell_in p7 bb, cell_in e0 bb⟩))
     go_wp2_with fail
     clear p1 p2 p3 p7 e0
     refine wp_region_held_drew (S := fun W => (Below X0.heap.size X0 W ∧ W.cell? ⟨w.heap.size, 1, none⟩ = some (.string lo) ∧ W.cell? ⟨w.heap.size, 2, none⟩ = some (.string hi) ∧ W.cell? ⟨w.heap.size, 3, none⟩ = some (.bool op) ∧ W.cell? ⟨w.heap.size, 7, none⟩ = some (.slice (some ⟨b, off, none⟩) el ec) ∧ W.cell? ⟨b, off + j * 5, none⟩ = some (.string t.k)) ∧ Below w1.heap.size w1 W) (by kernel_rfl) ⟨SX.out _ (Below.refl _ w1).drew, (Below.refl _ w1).drew⟩ (fun hHeld => ?_)
     refine tk 0 rfl _ ?_; refine tk 1 rfl _ ?_; refine tk 2 rfl _ ?_; refine tk 3 rfl _ ?_; refine tk 4 rfl _ ?_; refine tk 5 rfl _ ?_; refine tk 6 rfl _ ?_; refine tk 7 rfl _ ?_
     refine rd 8 rfl fun K hK => ?_
     go_simp
     refine (CH.out _).mono ?_
     rintro e w9 ⟨rfl, bb⟩
     refine hK.out _ _ (⟨SX.out _ (hHeld.2.trans (bb.mono hHeld.2.size)), hHeld.2.trans (bb.mono hHeld.2.size)⟩) (fun hHeld => ?_)
     clear hK K bb
     refine tk 9 rfl _ ?_; refine tk 10 rfl _ ?_; refine tn 11 rfl ?_; refine tn 12 rfl ?_; refine tn 13 rfl ?_; refine tn 14 rfl ?_; refine tn 15 rfl ?_; refine tn 16 rfl ?_; refine tn 17 rfl ?_; refine tn 18 rfl ?_; refine tn 19 rfl ?_; refine tn 20 rfl ?_; refine tn 21 rfl ?_; refine tn 22 rfl ?_; refine tn 23 rfl ?_; refine tn 24 rfl ?_; refine tn 25 rfl ?_; refine tn 26 rfl ?_; refine tn 27 rfl ?_; refine tn 28 rfl ?_; refine tk 29 rfl _ ?_
     refine wpAnyH_done (by kernel_rfl) ?_ _
     have B3 := aside hHeld.1.1
     clear hHeld SX CH
     go_wp2
     go_ret
     exact ⟨ret_i64 (((its_bad (p := ⟨kind, lo, hi, op, cnt, s0, s1, some ⟨b, off, none⟩, el, ec, T⟩) HC.out (by dsimp only; omega) (by show itAt ⟨lo, hi, op⟩ T _ ≠ 0; rw [itAt_out HQ.out HH.out]; decide)).trans (itAt_out HQ.out HH.out)).symm), bthen BX.out B3.out⟩
    ·by_cases hj1 : j = 0
     ·have hjz : ¬ (0 : Int) < (j : Int) := by omega
      have HJ1 := aside hj1
      clear hj1
      have SX := aside (fun W (bb : Below w1.heap.size w1 W) => (show Below X0.heap.size X0 W ∧ W.cell? ⟨w.heap.size, 1, none⟩ = some (.string lo) ∧ W.cell? ⟨w.heap.size, 2, none⟩ = some (.string hi) ∧ W.cell? ⟨w.heap.size, 3, none⟩ = some (.bool op) ∧ W.cell? ⟨w.heap.size, 7, none⟩ = some (.slice (some ⟨b, off, none⟩) el ec) ∧ W.cell? ⟨b, off + j * 5, none⟩ = some (.string t.k) from ⟨B2.out.trans (bb.mono B2.out.size), cell_in p1 bb, cell_in p2 bb, cell_in p3 bb, cell_in p7 bb, cell_in e0 bb⟩))
      go_wp2_with fail
      clear p1 p2 p3 p7 e0
      refine wp_region_held_drew (S := fun W => (Below X0.heap.size X0 W ∧ W.cell? ⟨w.heap.size, 1, none⟩ = some (.string lo) ∧ W.cell? ⟨w.heap.size, 2, none⟩ = some (.string hi) ∧ W.cell? ⟨w.heap.size, 3, none⟩ = some (.bool op) ∧ W.cell? ⟨w.heap.size, 7, none⟩ = some (.slice (some ⟨b, off, none⟩) el ec) ∧ W.cell? ⟨b, off + j * 5, none⟩ = some (.string t.k)) ∧ Below w1.heap.size w1 W) (by kernel_rfl) ⟨SX.out _ (Below.refl _ w1).drew, (Below.refl _ w1).drew⟩ (fun hHeld => ?_)
      refine tk 0 rfl _ ?_; refine tk 1 rfl _ ?_; refine tk 2 rfl _ ?_; refine tk 3 rfl _ ?_; refine tk 4 rfl _ ?_; refine tk 5 rfl _ ?_; refine tk 6 rfl _ ?_; refine tk 7 rfl _ ?_
      refine rd 8 rfl fun K hK => ?_
      go_simp
      refine (CH.out _).mono ?_
      rintro e w9 ⟨rfl, bb⟩
      refine hK.out _ _ (⟨SX.out _ (hHeld.2.trans (bb.mono hHeld.2.size)), hHeld.2.trans (bb.mono hHeld.2.size)⟩) (fun hHeld => ?_)
      clear hK K bb
      refine tk 9 rfl _ ?_; refine tk 10 rfl _ ?_; refine tk 11 rfl _ ?_; refine tk 12 rfl (.bool false) ?_ (by intro w hSw; go_simp; try omega); refine tk 13 rfl _ ?_; refine tn 14 rfl ?_; refine tn 15 rfl ?_; refine tn 16 rfl ?_; refine tn 17 rfl ?_; refine tn 18 rfl ?_; refine tn 19 rfl ?_; refine tn 20 rfl ?_; refine tn 21 rfl ?_; refine tn 22 rfl ?_; refine tn 23 rfl ?_; refine tn 24 rfl ?_; refine tn 25 rfl ?_; refine tn 26 rfl ?_; refine tn 27 rfl ?_; refine tk 28 rfl _ ?_; refine tk 29 rfl _ ?_
      refine wpAnyH_done (by kernel_rfl) ?_ _
      have B3 := aside hHeld.1.1
      clear hHeld SX CH
      go_wp2
      go_roundw
      case rel => exact ⟨j + 1, by go_num, by omega, (itN_step HC.out).trans (itAt_ok HQ.out HH.out (fun g => absurd g.1 (by have := HJ1.out; omega))), B3.out⟩
      case measure => simp [intOf]; omega
     ·obtain ⟨k, rfl⟩ : ∃ k, j = k + 1 := ⟨j - 1, by omega⟩
      clear hj1
      have d0 := HC2.out k (by omega)
      obtain ⟨u, hu⟩ : ∃ u, T k = u := ⟨_, rfl⟩
      have HU := aside hu
      rw [hu] at d0
      clear hu
      have hk0 : (0 : Int) ≤ (k : Int) := by omega
      have hk1 : (k : Int) < (el : Int) := by omega
      have hk2 : (0 : Int) ≤ (k : Int) + 1 := by omega
      have hk3 : (0 : Int) < (k : Int) + 1 := by omega
      have hk4 : (k : Int) + 1 < (el : Int) := by omega
      have hw2 : IntKind.i64.wrap (k : Int) = (k : Int) := by simp only [IntKind.wrap_i64]; omega
      have SX := aside (fun W (bb : Below w1.heap.size w1 W) => (show Below X0.heap.size X0 W ∧ W.cell? ⟨w.heap.size, 1, none⟩ = some (.string lo) ∧ W.cell? ⟨w.heap.size, 2, none⟩ = some (.string hi) ∧ W.cell? ⟨w.heap.size, 3, none⟩ = some (.bool op) ∧ W.cell? ⟨w.heap.size, 7, none⟩ = some (.slice (some ⟨b, off, none⟩) el ec) ∧ W.cell? ⟨b, off + (k + 1) * 5, none⟩ = some (.string t.k) ∧ W.cell? ⟨b, off + k * 5, none⟩ = some (.string u.k) from ⟨B2.out.trans (bb.mono B2.out.size), cell_in p1 bb, cell_in p2 bb, cell_in p3 bb, cell_in p7 bb, cell_in e0 bb, cell_in d0 bb⟩))
      go_wp2_with fail
      clear p1 p2 p3 p7 e0 d0
      refine wp_region_held_drew (S := fun W => (Below X0.heap.size X0 W ∧ W.cell? ⟨w.heap.size, 1, none⟩ = some (.string lo) ∧ W.cell? ⟨w.heap.size, 2, none⟩ = some (.string hi) ∧ W.cell? ⟨w.heap.size, 3, none⟩ = some (.bool op) ∧ W.cell? ⟨w.heap.size, 7, none⟩ = some (.slice (some ⟨b, off, none⟩) el ec) ∧ W.cell? ⟨b, off + (k + 1) * 5, none⟩ = some (.string t.k) ∧ W.cell? ⟨b, off + k * 5, none⟩ = some (.string u.k)) ∧ Below w1.heap.size w1 W) (by kernel_rfl) ⟨SX.out _ (Below.refl _ w1).drew, (Below.refl _ w1).drew⟩ (fun hHeld => ?_)
      refine tk 0 rfl _ ?_; refine tk 1 rfl _ ?_; refine tk 2 rfl _ ?_; refine tk 3 rfl _ ?_; refine tk 4 rfl _ ?_; refine tk 5 rfl _ ?_; refine tk 6 rfl _ ?_; refine tk 7 rfl _ ?_
      refine rd 8 rfl fun K hK => ?_
      go_simp
      refine (CH.out _).mono ?_
      rintro e w9 ⟨rfl, bb⟩
      refine hK.out _ _ (⟨SX.out _ (hHeld.2.trans (bb.mono hHeld.2.size)), hHeld.2.trans (bb.mono hHeld.2.size)⟩) (fun hHeld => ?_)
      clear hK K bb
      refine tk 9 rfl _ ?_; refine tk 10 rfl _ ?_; refine tk 11 rfl _ ?_; refine tk 12 rfl (.bool true) ?_ (by intro w hSw; go_simp; try omega); refine tk 13 rfl _ ?_; refine tk 14 rfl _ ?_; refine tk 15 rfl _ ?_; refine tk 16 rfl _ ?_; refine tk 17 rfl _ ?_; refine tk 18 rfl _ ?_; refine tk 19 rfl _ ?_; refine tk 20 rfl _ ?_; refine tk 21 rfl _ ?_; refine tk 22 rfl _ ?_; refine tk 23 rfl _ ?_; refine tk 24 rfl _ ?_; refine tk 25 rfl _ ?_; refine tk 26 rfl _ ?_; refine tk 27 rfl (.bool (!kLt u.k t.k)) ?_ (by intro w hSw; go_simp; exact leqF _ _); refine tk 28 rfl _ ?_; refine tk 29 rfl _ ?_
      refine wpAnyH_done (by kernel_rfl) ?_ _
      have B3 := aside hHeld.1.1
      clear hHeld SX CH
      have hkk0 : kLt u.k t.k = kLt (T (k + 1 - 1)).k (T (k + 1)).k := by rw [show k + 1 - 1 = k from rfl, HU.out, HT.out]
      have KQ := aside hkk0
      clear hkk0 hw2
      cases hkk : kLt u.k t.k
      ·rw [hkk] at KQ
       go_wp2
       go_ret
       exact ⟨ret_i64 (((its_bad (p := ⟨kind, lo, hi, op, cnt, s0, s1, some ⟨b, off, none⟩, el, ec, T⟩) HC.out (by dsimp only; omega) (by show itAt ⟨lo, hi, op⟩ T _ ≠ 0; rw [itAt_ord HQ.out ⟨by omega, KQ.out.symm⟩]; decide)).trans (itAt_ord HQ.out ⟨by omega, KQ.out.symm⟩)).symm), bthen BX.out B3.out⟩
      ·rw [hkk] at KQ
       go_wp2
       go_roundw
       case rel => exact ⟨k + 1 + 1, by go_num, by omega, (itN_step HC.out).trans (itAt_ok HQ.out HH.out (fun g => by rw [← KQ.out] at g; exact absurd g.2 (by decide))), B3.out⟩
       case measure => simp [intOf]; omega
   ·have HQ0 := aside hq0
    go_wp2_with fail
    refine (CQ.out _).mono ?_
    rintro e w1 ⟨rfl, b1⟩
    have B3 := aside (HB.out.trans (b1.mono HB.out.size))
    clear b1 CQ c0 c1 c2 c3 c4 p1 p2 p3 p7
    have hqb : (q == 0) = false := by simpa using hq0
    have hne : (T j).chk ≠ 0 := by rw [HQ.out]; exact HQ0.out
    have HNE := aside hne
    clear hne
    go_wp2
    go_ret
    exact ⟨ret_i64 (HQ.out.symm.trans ((its_bad (p := ⟨kind, lo, hi, op, cnt, s0, s1, some ⟨b, off, none⟩, el, ec, T⟩) HC.out (by dsimp only; omega) (by show itAt ⟨lo, hi, op⟩ T _ ≠ 0; rw [itAt_ent HNE.out]; exact HNE.out)).trans (itAt_ent HNE.out)).symm), bthen BX.out B3.out⟩
  ·skip
   have hjl : j = el := by omega
   subst hjl
   obtain ⟨p0, -, -, -, -, -, -, p7⟩ := oct8 (blk_on KX.out HB.out)
   have B3 := HB
   have ED := aside (its_end (p := ⟨kind, lo, hi, op, cnt, s0, s1, ea, j, ec, T⟩) HC.out)
   by_cases h3 : kind = 3
   ·subst h3
    by_cases h0 : j = 0
    ·subst h0
     go_wp2
     go_ret
     exact ⟨ret_i64 ((ED.out.trans (if_pos (by simp))).symm), bthen BX.out B3.out⟩
    ·have h0' : ((j : Int) == 0) = false := by simp; omega
     have H0 := aside h0
     go_wp2
     go_ret
     exact ⟨ret_i64 ((ED.out.trans (if_neg (fun g => H0.out g.2))).symm), bthen BX.out B3.out⟩
   ·have h3' : (kind == 3) = false := by simpa using h3
    have H3 := aside h3
    go_wp2
    go_ret
    exact ⟨ret_i64 ((ED.out.trans (if_neg (fun g => H3.out g.1))).symm), bthen BX.out B3.out⟩
end Go.Proofs.YtpbkjffiohfkcaaGreatDoor
