/-
  Lacks, the code's.
-/
import Derived.Test.YtfkdhambbpkmpaaMgList
namespace Go.Proofs.Ytfkdhambbpkmpaa
open Go.RowKit Go.Shelf
set_option linter.unusedVariables false
attribute [local go_sem] Oper.semAt_some
/-- What the second lacks of the first, of the pairs so far. -/
def lkP (l : List (En × En)) : List En := (l.filter (fun p => En.newer p.1 p.2)).map (fun p => p.1)
theorem lkP_snoc (l : List (En × En)) (p : En × En) : lkP (l ++ [p]) = lkP l ++ (if En.newer p.1 p.2 then [p.1] else []) := by
  unfold lkP
  rw [List.filter_append, List.map_append]
  congr 1
  cases h : En.newer p.1 p.2 <;> simp [h]
theorem lkP_len (l : List (En × En)) : (lkP l).length ≤ l.length := by unfold lkP; rw [List.length_map]; exact List.length_filter_le _ _
theorem lkP_prs (a b : List En) : lkP (prs a b) = lkL a b := rfl
set_option maxHeartbeats 8000000 in
set_option maxRecDepth 100000 in
theorem mlack_any (a : Option Addr) (la ca : Nat) (A : Nat → En) (b : Option Addr) (lb cb : Nat) (B : Nat → En) (w : World) (hA : EntsIn w a la ca A) (hB : EntsIn w b lb cb B) (hl : la + lb ≤ 2147483648) :
    Calls Try.prog 27 #[.slice a la ca, .slice b lb cb] w fun r w' => Says w (ck2 A la B lb) (outL (ck2 A la B lb) (lkP (prs (firstE A la) (firstE B lb)))) r w' := by
  obtain ⟨q, hq⟩ : ∃ q, ck2 A la B lb = q := ⟨_, rfl⟩
  have CK := aside (mchk2_any a la ca A b lb cb B w hA hB)
  rw [hq] at CK ⊢
  have HA := aside hA
  have HBB := aside hB
  have HL := aside hl
  clear hA hB hl hq
  by_cases h0 : q = 0
  · subst h0
    rw [outL_ok _ rfl]
    refine (callsIn_wide (n := 5)).1 ?_
    refine callsIn_of_wp_marks Try.func27 rfl trivial ?_ rfl
    simp only [Try.ntmps27, List.size_toArray, List.length_cons, List.length_nil, Nat.reduceAdd, Nat.reduceSub, Array.replicate_succ, Array.replicate_zero, List.push_toArray, List.append_toArray, List.nil_append, List.cons_append]
    gi_wp2_with fail
    refine ⟨trivial, ?_⟩
    refine (callsIn_wide.2 CK.out).mono ?_
    rintro e w1 ⟨rfl, b1⟩
    have B1 := aside b1
    clear b1 CK
    gi_wp2_with fail
    refine ⟨trivial, ?_⟩
    refine (callsIn_wide.2 (side_any _ _ _ _ _ _ _)).mono ?_
    rintro e w2 ⟨rfl, rfl⟩
    gi_wp2_with fail
    have B2 := aside (bthen B1.out (bnew w1 (.cells #[.slice none 0 0] 32)))
    have KV := aside (heap_alloc_new w1 (.cells #[.slice none 0 0] 32))
    have SD2 := aside (side_sd (HA.out.keep B2.out) (HBB.out.keep B2.out))
    have B3 := aside (bthen B2.out (bthen (bnew (w1.alloc (.cells #[.slice none 0 0] 32)) (.cells #[.slice a la ca] 32)) (bnew _ (.cells #[.slice b lb cb] 32))))
    have KV3 := aside (blk_on KV.out (bthen (bnew (w1.alloc (.cells #[.slice none 0 0] 32)) (.cells #[.slice a la ca] 32)) (bnew _ (.cells #[.slice b lb cb] 32))))
    obtain ⟨vb, hvb⟩ : ∃ vb, w1.heap.size = vb := ⟨_, rfl⟩
    obtain ⟨ba, hba⟩ : ∃ ba, (w1.alloc (.cells #[.slice none 0 0] 32)).heap.size = ba := ⟨_, rfl⟩
    have hbv : ba = vb + 1 := by rw [← hba, ← hvb]; simp
    have HVB := aside (show w.heap.size ≤ vb from by rw [← hvb]; exact B1.out.size)
    rw [World.size_alloc] at hba
    rw [World.size_alloc, hba] at SD2
    rw [hba]
    rw [hvb] at KV3 ⊢
    clear KV hvb hba B1
    generalize ((w1.alloc (.cells #[.slice none 0 0] 32)).alloc (.cells #[.slice a la ca] 32)).alloc (.cells #[.slice b lb cb] 32) = V at *
    have I0 := aside (show LpC w vb 32 31 5 (lkP (([] : List (En × En)))).length (entCells (lkP (([] : List (En × En))))) ba (ba + 1) a la ca A b lb cb B V from ⟨⟨.slice none 0 0, KV3.out, ⟨rfl, .inl ⟨rfl, rfl⟩⟩⟩, B3.out, SD2.out⟩)
    have HVV := aside (show w.heap.size ≤ V.heap.size from B3.out.size)
    have HNE := aside (show ba ≠ vb ∧ ba + 1 ≠ vb from by omega)
    clear KV3 B3 B2 hbv
    have ownI : OwnFrom V.heap.size (fun (pre : List (En × En)) X => LpC w vb 32 31 5 (lkP (pre)).length (entCells (lkP (pre))) ba (ba + 1) a la ca A b lb cb B X) := fun s A Y row hs hg hr => hs.own HVV.out hg hr
    refine rangeO rfl (enters_of Try.func37 (by kernel_rfl) rfl) (side_seq SD2.out) KpS.t (fun W l o o' _ h ho => KpS.b W l o o' h ho) (Below.refl _ _) (fun _ => rfl)
      (fun (pre : List (En × En)) X => LpC w vb 32 31 5 (lkP (pre)).length (entCells (lkP (pre))) ba (ba + 1) a la ca A b lb cb B X) (fun _ _ _ => False) ownI (fun _ _ _ _ _ h => h.elim) I0.out
      (fun x a' X => ∃ eb : Nat, a' = ⟨#[.slice a la ca, .slice b lb cb, undef, undef, .slice none 0 0, .int .i64 0, .int .i64 0, .pointer (some ⟨vb, 0, none⟩), .pointer (some ⟨eb, 0, none⟩), .pointer (some ⟨eb + 1, 0, none⟩), .slice a la ca, .slice b lb cb, .int .i64 0, .int .i64 0, .bool false, undef, .slice a la ca, .slice b lb cb, .func (.func 37) #[] #[.pointer (some ⟨ba, 0, none⟩), .pointer (some ⟨ba + 1, 0, none⟩)], .agg #[.string x.1.k, .int .i64 x.1.c, .int .i64 x.1.n, .string x.1.v, .bool x.1.d], .agg #[.string x.2.k, .int .i64 x.2.c, .int .i64 x.2.n, .string x.2.v, .bool x.2.d], undef, undef, undef, undef, undef, undef, undef, undef], []⟩ ∧ X.heap[eb]? = some (.cells #[.string x.1.k, .int .i64 x.1.c, .int .i64 x.1.n, .string x.1.v, .bool x.1.d] 31 (0, 0)) ∧ X.heap[eb + 1]? = some (.cells #[.string x.2.k, .int .i64 x.2.c, .int .i64 x.2.n, .string x.2.v, .bool x.2.d] 31 (0, 0)))
      (fun x a' _ A Y row hs hg hr => by
        obtain ⟨eb, h1, h2, h3⟩ := hs
        exact ⟨eb, h1, cells_ownM h2 hg (fun r e => (hr r e).2), cells_ownM h3 hg (fun r e => (hr r e).2)⟩) ?assign ?body ?done ?stop
    case assign =>
      intro l' pre x X K hi hK
      dsimp only [encP]
      gi_wp2
      have bb := bthen (bnew X (.cells #[.string x.1.k, .int .i64 x.1.c, .int .i64 x.1.n, .string x.1.v, .bool x.1.d] 31)) (bnew _ (.cells #[.string x.2.k, .int .i64 x.2.c, .int .i64 x.2.n, .string x.2.v, .bool x.2.d] 31))
      have k2 := heap_alloc_new (X.alloc (.cells #[.string x.1.k, .int .i64 x.1.c, .int .i64 x.1.n, .string x.1.v, .bool x.1.d] 31)) (.cells #[.string x.2.k, .int .i64 x.2.c, .int .i64 x.2.n, .string x.2.v, .bool x.2.d] 31)
      rw [World.size_alloc] at k2
      exact hK _ _ (kf_below bb) (fun s => s.keep bb) (hi.keep bb) ⟨X.heap.size, rfl, blk_on (heap_alloc_new X _) (bnew _ _), k2⟩
    case body =>
      rintro l' pre ⟨x, y⟩ a' X hlp ⟨eb, rfl, he, hf⟩ hlen
      dsimp only at he hf ⊢
      have HLP := aside hlp
      have HE := aside he
      have HF := aside hf
      have HLN := aside (show (lkP (pre)).length ≤ 2147483648 from by have h1 := prs_len (firstE A la) (firstE B lb); rw [firstE_len, firstE_len] at h1; have h2 := HL.out; have h3 : (lkP (pre)).length ≤ pre.length := lkP_len pre; omega)
      clear hlp he hf hlen
      obtain ⟨⟨e0, e1, e2, e3, e4⟩, -⟩ := box5 HE.out
      obtain ⟨⟨f0, f1, f2, f3, f4⟩, -⟩ := box5 HF.out
      cases hq : En.newer x y
      · have CN := aside (fun W => newer_en x y W hq)
        have HSN := aside (show lkP (pre ++ [(x, y)]) = lkP pre from by rw [lkP_snoc]; simp [hq])
        clear hq
        gi_wp2_with fail
        refine ⟨trivial, ?_⟩
        refine (CallsIn.inRound l' (callsIn_wide.2 (CN.out _))).mono ?_
        rintro e X1 ⟨rfl, b1⟩
        have BX := aside b1
        clear b1 e0 e1 e2 e3 e4 f0 f1 f2 f3 f4
        gi_wp2
        exact ⟨kf_below BX.out, fun s => s.keep BX.out, by dsimp only; rw [HSN.out]; exact HLP.out.keep BX.out⟩
      · have CN := aside (fun W => newer_en x y W hq)
        have HSN := aside (show lkP (pre ++ [(x, y)]) = lkP pre ++ [x] from by rw [lkP_snoc]; simp [hq])
        clear hq
        gi_wp2_with fail
        refine ⟨trivial, ?_⟩
        refine (CallsIn.inRound l' (callsIn_wide.2 (CN.out _))).mono ?_
        rintro e X1 ⟨rfl, b1⟩
        have BX := aside b1
        replace HLP := aside (HLP.out.keep b1)
        replace HE := aside (blk_on HE.out b1)
        clear b1 e0 e1 e2 e3 e4 f0 f1 f2 f3 f4 HF CN
        obtain ⟨⟨e0, e1, e2, e3, e4⟩, -⟩ := box5 HE.out
        obtain ⟨v, hv, ho⟩ := HLP.out.lst.ex
        obtain ⟨i0, hi0, hz0, hz1, hz2⟩ := info_parts infoEnt
        have v0 := cell_one hv
        have HV := aside hv
        have HO := aside ho
        have HI := aside hi0
        have HBX := aside HLP.out.below
        clear hv ho hi0
        gi_wp2_with (gi_at_builtin; go_loud (refine wpListIn_append_own _ rfl _ _ _ rfl w.heap.size 31 i0 (.agg #[.string ⟨#[]⟩, .int .i64 0, .int .i64 0, .string ⟨#[]⟩, .bool false]) 5 56 Try.underlying32 HI.out hz0 hz1 hz2 rfl (by decide) v (lkP pre).length (entCells (lkP pre)) (by rfl) (HO.out.alloc _) ⟨X1.heap.size, 0, none⟩ 1 1 (entVals x) (by rfl) (by rfl) (World.news_of_block (cs := #[.string x.k, .int .i64 x.c, .int .i64 x.n, .string x.v, .bool x.d]) (t := 31) (fr := (0, 0)) (heap_alloc_new X1 _)) (by intro u hu; exact entCells_one [x] u (by simpa [entCells] using hu)) (by have := HLN.out; unfold maxLen; omega) (by have := HLN.out; omega) (by have := HBX.out.size; simp; omega) ?_); intro v' X2 hown1 hgrow hiff; refine Hid.out ?_)
        refine aside ?_
        obtain ⟨g', cap', rfl⟩ : ∃ g' cap', v' = .slice (some ⟨g', 0, none⟩) ((lkP pre).length + 1) cap' := by
          rcases hown1.2 with ⟨_, h⟩ | ⟨g', cap', cur, e, _⟩
          · omega
          · exact ⟨g', cap', e⟩
        have ST := aside (LpC.add (C := V.heap.size) HA.out HBB.out (by decide) (by decide) HVB.out HNE.out.1 HNE.out.2 HBX.out HLP.out.sd HV.out HO.out hown1 hgrow)
        have v1 := cell_one ST.out.1
        have z1 := frozen_one ST.out.1
        clear hown1 hgrow hiff v0 e0 e1 e2 e3 e4
        gi_wp2
        exact ⟨(kf_below BX.out).trans ST.out.2.2, fun _ => ST.out.2.1.sd, by dsimp only; rw [HSN.out, List.length_append, entCells_append, show entCells [x] = entVals x from by simp [entCells]]; exact ST.out.2.1⟩
    case done =>
      rintro D xs X hD rfl hlp hK
      obtain ⟨v, hv, ho⟩ := hlp.lst.ex
      have v0 := cell_one hv
      have FO := aside (ownsRow_ownM ho (grownBy_putObj' X D (.deferred none)) (fun r e => by cases e; exact ⟨_, hK, rfl⟩))
      have FB := aside (ownFrom_below (β := Unit) (Nat.le_refl w.heap.size) HVV.out () X _ (some D) hlp.below (grownBy_putObj' X D (.deferred none)) (fun r e => by cases e; exact ⟨hD, _, hK, rfl⟩))
      clear hlp hv ho
      gi_wp2
      refine ⟨by simp, .inl ⟨_, _, rfl, run_takeDeferred hK, ?_⟩⟩
      exact ⟨.tuple #[v, .int .i64 0], by simp [results, Try.f27, go_sem], ⟨v, rfl, FO.out, FB.out⟩⟩
    case stop =>
      rintro D c pre X hD _ h
      exact h.elim
  · rw [outL_bad _ h0]
    have hqb : (q == 0) = false := by simpa using h0
    have H0 := aside h0
    clear h0
    refine (callsIn_wide (n := 5)).1 ?_
    refine callsIn_of_wp_marks Try.func27 rfl trivial ?_ rfl
    simp only [Try.ntmps27, List.size_toArray, List.length_cons, List.length_nil, Nat.reduceAdd, Nat.reduceSub, Array.replicate_succ, Array.replicate_zero, List.push_toArray, List.append_toArray, List.nil_append, List.cons_append]
    gi_wp2_with fail
    refine ⟨trivial, ?_⟩
    refine (callsIn_wide.2 CK.out).mono ?_
    rintro e w1 ⟨rfl, b1⟩
    have B1 := aside b1
    clear b1 CK
    gi_wp2
    exact ⟨.tuple #[.slice none 0 0, .int .i64 q], by simp [results, Try.f27, go_sem], ⟨_, rfl, ⟨rfl, .inl ⟨rfl, rfl⟩⟩, B1.out⟩⟩
end Go.Proofs.Ytfkdhambbpkmpaa
