/-
  Sees of the code's ghost, of a map.
-/
import Derived.Test.YtfkdhambbpkmpaaGuE
import Derived.Test.YtfkdhambbpkmpaaGuB
namespace Go.Proofs.Ytfkdhambbpkmpaa
open Go.RowKit Go.Shelf
set_option linter.unusedVariables false

attribute [local go_sem] Oper.semAt_some
/-- What Sees does with a map. -/
def SeSay (w : World) (B p m N : Nat) (L : List En) (H : Nat → Hd) (i n : Nat) (l : List En) (e : Ending) (w' : World) : Prop :=
  (∃ k c, scanP L (prs (lkL (H i).l l) l) = some (k, c) ∧ SeNo w B p m N L H k c e w') ∨
  (scanP L (prs (lkL (H i).l l) l) = none ∧ e = .returned (.tuple #[.string ⟨#[]⟩, .int .i64 0]) ∧ Keeps (fun x => x = p) w w' ∧ ∃ hd : Hd, hd.l = l ∧ hd.n = n ∧ (∀ j, hd.v.ownBlock = some j → w.heap.size ≤ j) ∧ Gh w' B p m N L (updH H i hd))
set_option maxHeartbeats 16000000 in
set_option maxRecDepth 100000 in
theorem gsees_any {w : World} {B p m N : Nat} {L : List En} {H : Nat → Hd} (h : Gh w B p m N L H) (i : Nat) (hi : i < 8) (b : Option Addr) (lb cb : Nat) (T : Nat → En) (hT : EntsIn w b lb cb T) (hf : (b = none ∧ lb = 0 ∧ cb = 0) ∨ ∃ y, b = some y) (hl : lb ≤ 1073741824) (mT : MapL (firstE T lb)) (hB : B ≤ w.heap.size) : Calls Try.prog 14 #[.pointer (some ⟨p, 0, none⟩), .int .i64 (i : Int), .slice b lb cb] w fun e w' => SeSay w B p m N L H i lb (firstE T lb) e w' := by
  obtain ⟨q, hq⟩ : ∃ q, w.heap.size = q := ⟨_, rfl⟩
  obtain ⟨V, hV⟩ : ∃ V, ((w.alloc (.cells #[.pointer (some ⟨p, 0, none⟩)] 24)).alloc (.cells #[.string ⟨#[]⟩] 9)).alloc (.cells #[.int .i64 0] 40) = V := ⟨_, rfl⟩
  have BV := aside (show Below w.heap.size w V from by rw [← hV]; exact bthen (bthen (bnew w _) (bnew _ _)) (bnew _ _))
  have e0 := heap_alloc_new w (.cells #[.pointer (some ⟨p, 0, none⟩)] 24)
  have e1 := heap_alloc_new (w.alloc (.cells #[.pointer (some ⟨p, 0, none⟩)] 24)) (.cells #[.string ⟨#[]⟩] 9)
  have e2 := heap_alloc_new ((w.alloc (.cells #[.pointer (some ⟨p, 0, none⟩)] 24)).alloc (.cells #[.string ⟨#[]⟩] 9)) (.cells #[.int .i64 0] 40)
  simp only [World.size_alloc] at e1 e2
  rw [hq] at e0 e1 e2
  have S0 := aside (show SeC w q B p m N L H V from ⟨by rw [← hV]; exact blk_on (blk_on e0 (bnew _ _)) (bnew _ _), by rw [← hV]; exact blk_on e1 (bnew _ _), by rw [← hV]; exact e2, h.on BV.out, BV.out⟩)
  have HQ1 := aside hq
  clear e0 e1 e2
  have ND := aside (gisnode_any (i : Int) V)
  rw [decide_eq_true (show 0 ≤ (i : Int) ∧ (i : Int) < 8 from by omega)] at ND
  have hi0 : (0 : Int) ≤ (i : Int) := by omega
  have hi8 : (i : Int) < 8 := by omega
  obtain ⟨A, hA, hAl, hAf⟩ := entsG_of (show V.ownsRow B 31 5 (.slice (H i).a (H i).n (H i).c) (H i).n (entCells (H i).l) from S0.out.gh.held i hi) (mapKeys (h.maps i hi))
  have HA := aside hA
  have HT := aside (hT.keep BV.out)
  have HF := aside hf
  have HL := aside hl
  have HSZ := aside (h.sz i hi)
  have cH := S0.out.gh.cellH i hi
  unfold Hd.v at cH
  have LA := aside (mlack_any (H i).a (H i).n (H i).c A b lb cb T V HA.out HT.out (by have := HSZ.out; omega))
  rw [hAl] at LA
  have hck : ck2 A (H i).n T lb = 0 := ck2_ok.2 ⟨by rw [hAl]; exact h.maps i hi, mT⟩
  rw [hck, outL_ok _ rfl] at LA
  have MG := aside (show MapL (lkP (prs (H i).l (firstE T lb))) from lk_map (h.maps i hi) mT)
  have MT := aside mT
  have HLG := aside (show (lkP (prs (H i).l (firstE T lb))).length ≤ 2147483648 from by
    have h1 := lkP_len (prs (H i).l (firstE T lb)); have h2 := prs_len (H i).l (firstE T lb); rw [← hAl, firstE_len, firstE_len] at h2; rw [← hAl] at h1 ⊢; have := HSZ.out; omega)
  have HGH := aside h
  have HI := aside hi
  have HBB := aside hB
  have HCL := aside (fun (W : World) (bb : Below w.heap.size w W) => gclone_any b lb cb T W (hT.keep bb) hf (by omega))
  clear h hT hl hA hAl hAf hck mT hi hB hf
  refine (callsIn_wide (n := 6)).1 ?_
  refine callsIn_of_wp_marks Try.func14 rfl trivial ?_ rfl
  simp only [Try.ntmps14, List.size_toArray, List.length_cons, List.length_nil, Nat.reduceAdd, Nat.reduceSub, Array.replicate_succ, Array.replicate_zero, List.push_toArray, List.append_toArray, List.nil_append, List.cons_append]
  gi_wp2_with fail
  try rw [hV]
  try rw [hq]
  clear hV hq
  refine ⟨trivial, ?_⟩
  refine (callsIn_wide.2 ND.out).mono ?_
  rintro e w1 ⟨rfl, rfl⟩
  have c0 := cell_one S0.out.k0
  gi_wp2_with fail
  refine ⟨trivial, ?_⟩
  refine (callsIn_wide.2 LA.out).mono ?_
  rintro e w2 ⟨v, rfl, ho, bb⟩
  obtain ⟨ag, cg, rfl, -⟩ := own_slice ho
  obtain ⟨Ag, hAg, hAgl, hAgf⟩ := entsG_of ho (mapKeys MG.out)
  have S2 := aside (S0.out.keep bb)
  have B2 := aside bb
  have BO := aside (gboth_any ag _ cg Ag b lb cb T w2 hAg (HT.out.keep bb) hAgf HF.out HLG.out (by have := HL.out; omega) (ck2_ok.2 ⟨by rw [hAgl]; exact MG.out, MT.out⟩))
  rw [hAgl] at BO
  clear ho bb hAg hAgl hAgf c0 cH LA ND S0
  obtain ⟨ng, hng⟩ : ∃ n, (lkP (prs (H i).l (firstE T lb))).length = n := ⟨_, rfl⟩
  rw [hng] at BO ⊢
  clear hng
  gi_wp2_with fail
  refine ⟨trivial, ?_⟩
  refine (callsIn_wide.2 BO.out).mono ?_
  rintro e w3 ⟨Ba, a3, la3, ca3, A3, b3, lb3, cb3, B3, rfl, SD3, hP, bb3⟩
  have S3 := aside (S2.out.keep bb3)
  have B23 := aside (bthen B2.out bb3)
  have HP := aside hP
  have HSD := aside SD3
  clear bb3 S2 BO hP SD3 B2
  gi_wp2_with fail
  have HMB := aside (show m < w3.heap.size from by
    obtain ⟨D, ⟨es, clock, h4, -⟩, -⟩ := S3.out.gh.mp
    exact lt_of_blk h4)
  have HVV := aside (show w.heap.size ≤ w3.heap.size from S3.out.bel.size)
  have HOK := aside (show ∀ pre x r, (pre ++ [x]) ++ r = (prs (firstE A3 la3) (firstE B3 lb3)) → wfW (wrOf x.2) from fun pre x r hr => by
    have hm : x ∈ prs (lkP (prs (H i).l (firstE T lb))) (firstE T lb) := by rw [← HP.out, ← hr]; simp
    rcases (mem_prs _ _ MG.out.rises MT.out.rises x).1 hm with ⟨-, h2, -⟩ | ⟨-, h2, -⟩ | ⟨-, h2, -⟩
    · exact wf_chk (MT.out.chk _ h2)
    · rw [h2]; unfold wfW wrOf i64G maxLen eZ; exact ⟨Nat.zero_le _, by dsimp only; omega, by dsimp only; omega⟩
    · exact wf_chk (MT.out.chk _ h2))
  have ownI : OwnFrom w3.heap.size (fun (pre : List (En × En)) X => scanP L pre = none ∧ SeC w q B p m N L H X) := fun s A Y row hs hg hr => ⟨hs.1, hs.2.own HVV.out HMB.out hg hr⟩
  refine rangeY rfl (enters_of Try.func37 (by kernel_rfl) rfl) (side_seqY HSD.out) KpS.t (fun W l o o' _ h ho => KpS.b W l o o' h ho) (Below.refl _ _) (fun _ => rfl)
    (fun (pre : List (En × En)) X => scanP L pre = none ∧ SeC w q B p m N L H X) (fun cd (pre : List (En × En)) X => cd = .ret ∧ ∃ k cc, scanP L pre = some (k, cc) ∧ X.heap[q + 1]? = some (.cells #[.string k] 9 (0, 0)) ∧ X.heap[q + 1 + 1]? = some (.cells #[.int .i64 cc] 40 (0, 0)) ∧ Gh X B p m N L H ∧ Below w.heap.size w X) ownI (fun cd s A Y row hs hg hr => by
      obtain ⟨h1, k, cc, h2, h3, h4, h5, h6⟩ := hs
      exact ⟨h1, k, cc, h2, cells_ownM h3 hg (fun r e => (hr r e).2), cells_ownM h4 hg (fun r e => (hr r e).2), h5.own HMB.out hg hr, h6.grown hg h6.size (fun k e => by have h7 := (hr k e).1; have h8 := HVV.out; omega)⟩) ⟨rfl, S3.out⟩
    (fun pre x a' X => ∃ eb : Nat, a' = ⟨#[.pointer (some ⟨p, 0, none⟩), .int .i64 (i : Int), .slice b lb cb, .pointer (some ⟨q, 0, none⟩), undef, undef, .pointer (some ⟨q + 1, 0, none⟩), .pointer (some ⟨q + 1 + 1, 0, none⟩), .slice ag ng cg, .int .i64 0, .pointer (some ⟨eb, 0, none⟩), .pointer (some ⟨eb + 1, 0, none⟩), .int .i64 (i : Int), .bool true, .bool false, .tuple #[.slice ag ng cg, .int .i64 0], .pointer (some ⟨p, 0, none⟩), .int .i64 (i : Int), .pointer (some ⟨p, 0, none⟩), .pointer (some ⟨p, 1, none⟩), .pointer (some ⟨p, 1 + i, none⟩), .slice (H i).a (H i).n (H i).c, .slice b lb cb, .tuple #[.slice ag ng cg, .int .i64 0], .slice ag ng cg, .int .i64 0, .int .i64 0, .bool false, undef, .slice ag ng cg, .slice b lb cb, .func (.func 37) #[] #[.pointer (some ⟨Ba, 0, none⟩), .pointer (some ⟨Ba + 1, 0, none⟩)], .agg #[.string x.1.k, .int .i64 x.1.c, .int .i64 x.1.n, .string x.1.v, .bool x.1.d], .agg #[.string x.2.k, .int .i64 x.2.c, .int .i64 x.2.n, .string x.2.v, .bool x.2.d], undef, undef, undef, undef, undef, undef, undef, undef, undef, undef, undef, undef, undef, undef, undef, undef, undef, undef, undef, undef], []⟩ ∧ X.heap[eb]? = some (.cells #[.string x.1.k, .int .i64 x.1.c, .int .i64 x.1.n, .string x.1.v, .bool x.1.d] 31 (0, 0)) ∧ X.heap[eb + 1]? = some (.cells #[.string x.2.k, .int .i64 x.2.c, .int .i64 x.2.n, .string x.2.v, .bool x.2.d] 31 (0, 0)) ∧ ∃ r, (pre ++ [x]) ++ r = (prs (firstE A3 la3) (firstE B3 lb3)))
    ?hAx ?assign ?body ?done ?stop
  case hAx =>
    rintro pre x a' _ A Y row ⟨eb, h1, h2, h3, h4⟩ hg hr
    exact ⟨eb, h1, cells_ownM h2 hg (fun r e => (hr r e).2), cells_ownM h3 hg (fun r e => (hr r e).2), h4⟩
  case assign =>
    rintro l' pre x X K hok ⟨hp, hi⟩ hK
    dsimp only [encP]
    gi_wp2
    have bb := bthen (bnew X (.cells #[.string x.1.k, .int .i64 x.1.c, .int .i64 x.1.n, .string x.1.v, .bool x.1.d] 31)) (bnew _ (.cells #[.string x.2.k, .int .i64 x.2.c, .int .i64 x.2.n, .string x.2.v, .bool x.2.d] 31))
    have k2 := heap_alloc_new (X.alloc (.cells #[.string x.1.k, .int .i64 x.1.c, .int .i64 x.1.n, .string x.1.v, .bool x.1.d] 31)) (.cells #[.string x.2.k, .int .i64 x.2.c, .int .i64 x.2.n, .string x.2.v, .bool x.2.d] 31)
    rw [World.size_alloc] at k2
    exact hK _ _ (kf_below bb) (fun s => s.keep bb) ⟨hp, hi.keep bb⟩ ⟨X.heap.size, rfl, blk_on (heap_alloc_new X _) (bnew _ _), k2, hok⟩
  case body =>
    rintro l' pre ⟨x, y⟩ a' X ⟨hp, hi⟩ ⟨eb, rfl, he, hf, r, hr⟩ hlen
    dsimp only at he hf ⊢
    have HLP := aside hi
    have HWF := aside (HOK.out _ _ _ hr)
    have SN := aside (scanP_snoc (x := (x, y)) hp)
    obtain ⟨⟨e0, e1, e2, e3, e4⟩, -⟩ := box5 he
    obtain ⟨⟨f0, f1, f2, f3, f4⟩, -⟩ := box5 hf
    have c0 := cell_one hi.k0
    obtain ⟨z, hz⟩ : ∃ z, enEqB x eZ = z := ⟨_, rfl⟩
    have hEQ : ∀ W, (binOp .neq 31 (.agg #[.string x.k, .int .i64 x.c, .int .i64 x.n, .string x.v, .bool x.d]) (.agg #[.string ⟨#[]⟩, .int .i64 0, .int .i64 0, .string ⟨#[]⟩, .bool false])).run Try.prog W = .ok (.bool !z) W := fun W => by rw [← hz]; exact ent_ne x eZ W
    have HZ := aside hz
    clear hp hi he hf hlen hr hz
    cases z
    · have HSN := aside (show scanP L (pre ++ [(x, y)]) = some (x.k, 191) from by rw [SN.out]; unfold scan1; rw [if_pos HZ.out])
      have c1 := cell_one HLP.out.k1
      have c2 := cell_one HLP.out.k2
      have z1 := frozen_one HLP.out.k1
      have z2 := frozen_one HLP.out.k2
      have TS := aside (two_setG HLP.out.k1 HLP.out.k2 (.string x.k) (.int .i64 191))
      have KK := aside (((Keeps.refl (fun x => x = q + 1 ∨ x = q + 1 + 1) X).setCell (p := ⟨q + 1, 0, none⟩) (fun _ => .inl rfl) (.string x.k)).setCell (p := ⟨q + 1 + 1, 0, none⟩) (fun _ => .inr rfl) (.int .i64 191))
      have FG := aside (HLP.out.turn KK.out)
      have FB := aside ((HLP.out.bel.setCell (p := ⟨q + 1, 0, none⟩) (by show w.heap.size ≤ q + 1; rw [HQ1.out]; omega) (.string x.k)).setCell (p := ⟨q + 1 + 1, 0, none⟩) (by show w.heap.size ≤ q + 1 + 1; rw [HQ1.out]; omega) (.int .i64 191))
      gi_wp2
      exact ⟨((KeepsOthers.setCell _ _ _).from _).trans ((KeepsOthers.setCell _ _ _).from _), rfl, _, _, HSN.out, TS.out.1, TS.out.2, FG.out, FB.out⟩
    · obtain ⟨u, hu⟩ : ∃ u, wrB L y = u := ⟨_, rfl⟩
      have CW := aside (gwritten_any HLP.out.gh y HWF.out)
      have HSN := aside (show scanP L (pre ++ [(x, y)]) = (if u = false then some (y.k, 192) else none) from by rw [SN.out]; unfold scan1; rw [if_neg (by rw [HZ.out]; simp), ← hu])
      rw [hu] at CW
      clear hu
      gi_wp2_with fail
      refine ⟨trivial, ?_⟩
      refine (CallsIn.inRound l' (callsIn_wide.2 CW.out)).mono ?_
      rintro e X1 ⟨rfl, b1⟩
      have BX := aside b1
      replace HLP := aside (HLP.out.keep b1)
      replace f0 := cell_in f0 b1
      clear b1 e0 e1 e2 e3 e4 f1 f2 f3 f4 c0 CW hEQ
      cases u
      · replace HSN := aside (show scanP L (pre ++ [(x, y)]) = some (y.k, 192) from by rw [HSN.out, if_pos rfl])
        have c1 := cell_one HLP.out.k1
        have c2 := cell_one HLP.out.k2
        have z1 := frozen_one HLP.out.k1
        have z2 := frozen_one HLP.out.k2
        have TS := aside (two_setG HLP.out.k1 HLP.out.k2 (.string y.k) (.int .i64 192))
        have KK := aside (((Keeps.refl (fun x => x = q + 1 ∨ x = q + 1 + 1) X1).setCell (p := ⟨q + 1, 0, none⟩) (fun _ => .inl rfl) (.string y.k)).setCell (p := ⟨q + 1 + 1, 0, none⟩) (fun _ => .inr rfl) (.int .i64 192))
        have FG := aside (HLP.out.turn KK.out)
        have FB := aside ((HLP.out.bel.setCell (p := ⟨q + 1, 0, none⟩) (by show w.heap.size ≤ q + 1; rw [HQ1.out]; omega) (.string y.k)).setCell (p := ⟨q + 1 + 1, 0, none⟩) (by show w.heap.size ≤ q + 1 + 1; rw [HQ1.out]; omega) (.int .i64 192))
        gi_wp2
        exact ⟨(kf_below BX.out).trans (((KeepsOthers.setCell _ _ _).from _).trans ((KeepsOthers.setCell _ _ _).from _)), rfl, _, _, HSN.out, TS.out.1, TS.out.2, FG.out, FB.out⟩
      · replace HSN := aside (show scanP L (pre ++ [(x, y)]) = none from by rw [HSN.out, if_neg (by simp)])
        gi_wp2
        exact ⟨kf_below BX.out, fun s => s.keep BX.out, HSN.out, HLP.out⟩
  case done =>
    rintro D xs X hD rfl ⟨hp, hi⟩ hK
    have HI2 := aside hi
    have HPP := aside hp
    have HKD := aside hK
    have c0 := cell_one hi.k0
    have SX := aside (fun (W : World) (kk : Keeps (fun x => x = p) X W) => (show W.cell? ⟨q, 0, none⟩ = some (.pointer (some ⟨p, 0, none⟩)) from cell_one (blk_keep HI2.out.k0 kk (fun e => by
      have h3 := HI2.out.gh.bx
      rw [← e, HI2.out.k0] at h3
      injection h3 with h3
      injection h3 with _ h3
      exact absurd h3 (by decide)))))
    clear hi hp hK c0
    have hb0 : Below X.heap.size X X.drew := (Below.refl _ X).drew
    gi_wp2_with fail
    rename_i K13 hK13
    refine wpIn_wide.2 (wp_mono (Q := Exit.then K13 (fun _ _ _ => False)) ?_ (fun e a w h => by cases e <;> first | exact h | exact False.elim h))
    refine wp_region_held_drew (S := fun W => W.cell? ⟨q, 0, none⟩ = some (.pointer (some ⟨p, 0, none⟩))) (by kernel_rfl) (SX.out _ (Keeps.of_below hb0 _)) (fun hHeld => ?_)
    refine wpAnyH_take (i := 0) (v := ?_) rfl (by kernel_rfl) (by kernel_rfl) (by kernel_rfl) (fun _ _ _ h => h) (Or.inl ⟨by rfl, ?_⟩) (by assumption) ?_
    rotate_left
    · intro w hSw
      go_simp
      try with_reducible rfl
    simp only [Act.put, List.getElem_toArray, List.getElem_cons_zero, List.setIfInBounds_toArray, List.set_cons_zero, List.set_cons_succ]
    refine wpAnyH_take (i := 1) (v := ?_) rfl (by kernel_rfl) (by kernel_rfl) (by kernel_rfl) (fun _ _ _ h => h) (Or.inl ⟨by rfl, ?_⟩) (by assumption) ?_
    rotate_left
    · intro w hSw
      go_simp
      try with_reducible rfl
    simp only [Act.put, List.getElem_toArray, List.getElem_cons_zero, List.getElem_cons_succ, List.setIfInBounds_toArray, List.set_cons_zero, List.set_cons_succ]
    refine wpAnyH_take (i := 2) (v := ?_) rfl (by kernel_rfl) (by kernel_rfl) (by kernel_rfl) (fun _ _ _ h => h) (Or.inl ⟨by rfl, ?_⟩) (by assumption) ?_
    rotate_left
    · intro w hSw
      go_simp
      try with_reducible rfl
    simp only [Act.put, List.getElem_toArray, List.getElem_cons_zero, List.getElem_cons_succ, List.setIfInBounds_toArray, List.set_cons_zero, List.set_cons_succ]
    refine wpAnyH_take (i := 4) (v := ?_) rfl (by kernel_rfl) (by kernel_rfl) (by kernel_rfl) (fun _ _ _ h => h) (Or.inl ⟨by rfl, ?_⟩) (by assumption) ?_
    rotate_left
    · intro w hSw
      go_simp
      try with_reducible rfl
    simp only [Act.put, List.getElem_toArray, List.getElem_cons_zero, List.getElem_cons_succ, List.setIfInBounds_toArray, List.set_cons_zero, List.set_cons_succ]
    refine wpAnyH_take (i := 5) (v := ?_) rfl (by kernel_rfl) (by kernel_rfl) (by kernel_rfl) (fun _ _ _ h => h) (Or.inl ⟨by rfl, ?_⟩) (by assumption) ?_
    rotate_left
    · intro w hSw
      go_simp
      try with_reducible rfl
    simp only [Act.put, List.getElem_toArray, List.getElem_cons_zero, List.getElem_cons_succ, List.setIfInBounds_toArray, List.set_cons_zero, List.set_cons_succ]
    refine wpAnyH_ready (rs := [3]) (by kernel_rfl) (by simp) ?_
    refine AllReadyH.cons rfl (fun K hK => ?_) AllReadyH.nil
    go_simp
    refine (HCL.out _ (HI2.out.bel.drew)).mono ?_
    rintro e w8 ⟨a8, c8, rfl, o8, b8⟩
    have hb8 := bthen hb0 b8
    refine hK.out _ _ (SX.out _ (Keeps.of_below hb8 _)) (fun hHeld => ?_)
    clear hK K
    have G8 := aside (HI2.out.gh.on hb8)
    have g0 := G8.out.cellH i HI.out
    have g1 := frozen_of_row w8 p (1 + i) _ _ G8.out.bx
    have O8 := aside (own_low o8 (show B ≤ X.drew.heap.size from Nat.le_trans (Nat.le_trans HBB.out HI2.out.bel.size) (Nat.le_refl _)))
    have FR8 := aside (show ∀ j, (Hd.v ⟨a8, lb, c8, firstE T lb⟩).ownBlock = some j → w.heap.size ≤ j from fun j hj => by
      have h7 := (row_blkM o8 hj).1
      have h8 := HI2.out.bel.size
      exact Nat.le_trans h8 h7)
    have KP := aside ((Keeps.of_below hb8 (fun x => x = p)).setCell (p := ⟨p, 1 + i, none⟩) (fun _ => rfl) (.slice a8 lb c8))
    refine wpAnyH_take (i := 6) (v := ?_) rfl (by kernel_rfl) (by kernel_rfl) (by kernel_rfl) (fun _ _ _ h => h) (Or.inl ⟨by rfl, ?_⟩) (by assumption) ?_
    rotate_left
    · intro w hSw
      go_simp
      try with_reducible rfl
    simp only [Act.put, List.getElem_toArray, List.getElem_cons_zero, List.getElem_cons_succ, List.setIfInBounds_toArray, List.set_cons_zero, List.set_cons_succ]
    refine wpAnyH_ready (rs := [7]) (by kernel_rfl) (by simp) ?_
    refine AllReadyH.cons rfl (fun K hK => ?_) AllReadyH.nil
    go_simp
    refine hK.out _ _ (SX.out _ KP.out) (fun hHeld => ?_)
    clear hK K g0 g1
    refine wpAnyH_done (by kernel_rfl) ?_ _
    have NG := aside (G8.out.see HI.out ⟨a8, lb, c8, firstE T lb⟩ O8.out MT.out HL.out)
    have K1 := aside (blk_keep HI2.out.k1 KP.out (fun e => by
      have h3 := HI2.out.gh.bx
      rw [← e, HI2.out.k1] at h3
      injection h3 with h3
      injection h3 with _ h3
      exact absurd h3 (by decide)))
    have K2 := aside (blk_keep HI2.out.k2 KP.out (fun e => by
      have h3 := HI2.out.gh.bx
      rw [← e, HI2.out.k2] at h3
      injection h3 with h3
      injection h3 with _ h3
      exact absurd h3 (by decide)))
    have HKD2 := aside ((KeepsOthers.setCell w8 ⟨p, 1 + i, none⟩ (.slice a8 lb c8)).same D _ (blk_on HKD.out hb8) rfl)
    have BP := aside ((Keeps.of_below HI2.out.bel (fun x => x = p)).trans KP.out)
    clear hHeld SX hb0 b8 o8 hb8 G8 O8 HKD KP
    obtain ⟨W9, hW9⟩ : ∃ W, w8.setCell ⟨p, 1 + i, none⟩ (.slice a8 lb c8) = W := ⟨_, rfl⟩
    rw [hW9] at K1 K2 HKD2 BP ⊢
    replace NG := aside (show Gh W9 B p m N L (updH H i ⟨a8, lb, c8, firstE T lb⟩) from by rw [← hW9]; exact NG.out)
    clear hW9
    refine hK13 _ _ ?_
    clear hK13
    have c1 := cell_one K1.out
    have c2 := cell_one K2.out
    have z1 := frozen_one K1.out
    have z2 := frozen_one K2.out
    have TS := aside (two_setG K1.out K2.out (.string ⟨#[]⟩) (.int .i64 0))
    have KK := aside (((Keeps.refl (fun x => x = q + 1 ∨ x = q + 1 + 1) W9).setCell (p := ⟨q + 1, 0, none⟩) (fun _ => .inl rfl) (.string ⟨#[]⟩)).setCell (p := ⟨q + 1 + 1, 0, none⟩) (fun _ => .inr rfl) (.int .i64 0))
    have FG := aside (turnG K1.out K2.out NG.out KK.out)
    have FB := aside ((BP.out.setCell (p := ⟨q + 1, 0, none⟩) (fun hlt => absurd hlt (by show ¬ q + 1 < w.heap.size; rw [HQ1.out]; omega)) (.string ⟨#[]⟩)).setCell (p := ⟨q + 1 + 1, 0, none⟩) (fun hlt => absurd hlt (by show ¬ q + 1 + 1 < w.heap.size; rw [HQ1.out]; omega)) (.int .i64 0))
    gi_wp2
    have hK1 := (KeepsOthers.setCell W9 ⟨q + 1, 0, none⟩ (.string ⟨#[]⟩)).same D _ HKD2.out rfl
    have hK2 := (KeepsOthers.setCell (W9.setCell ⟨q + 1, 0, none⟩ (.string ⟨#[]⟩)) ⟨q + 1 + 1, 0, none⟩ (.int .i64 0)).same D _ hK1 rfl
    refine ⟨by simp, .inl ⟨_, _, rfl, run_takeDeferred hK2, ?_⟩⟩
    have d0 := cell_kept (cell_one TS.out.1) (grownBy_putObj' _ D (.deferred none)) (fun r e => by cases e; exact ⟨_, hK2, rfl⟩)
    have d1 := cell_kept (cell_one TS.out.2) (grownBy_putObj' _ D (.deferred none)) (fun r e => by cases e; exact ⟨_, hK2, rfl⟩)
    have gp := grownBy_putObj' ((W9.setCell ⟨q + 1, 0, none⟩ (.string ⟨#[]⟩)).setCell ⟨q + 1 + 1, 0, none⟩ (.int .i64 0)) D (.deferred none)
    have hr2 : ∀ r, some D = some r → w3.heap.size ≤ r ∧ ∃ o : Obj, ((W9.setCell ⟨q + 1, 0, none⟩ (.string ⟨#[]⟩)).setCell ⟨q + 1 + 1, 0, none⟩ (.int .i64 0)).heap[r]? = some o ∧ o.isCells = false := fun r e => by cases e; exact ⟨hD, _, hK2, rfl⟩
    refine ⟨.tuple #[.string ⟨#[]⟩, .int .i64 0], by simp [results, Try.results14, go_sem, d0, d1], .inr ⟨by have h9 := HPP.out; rw [HP.out] at h9; exact h9, rfl, FB.out.grown gp (fun k e hlt => absurd hlt (by have h7 := (hr2 k e).1; have h8 := HVV.out; omega)), _, rfl, rfl, FR8.out, FG.out.own HMB.out gp hr2⟩⟩
  case stop =>
    rintro D cd pre X hD ⟨r, hr⟩ ⟨rfl, k, cc, h1, h2, h3, h4, h5⟩ hK
    gi_wp2
    refine ⟨by simp, .inl ⟨_, _, rfl, run_takeDeferred hK, ?_⟩⟩
    have d0 := cell_kept (cell_one h2) (grownBy_putObj' _ D (.deferred none)) (fun r e => by cases e; exact ⟨_, hK, rfl⟩)
    have d1 := cell_kept (cell_one h3) (grownBy_putObj' _ D (.deferred none)) (fun r e => by cases e; exact ⟨_, hK, rfl⟩)
    have hr2 : ∀ r, some D = some r → w3.heap.size ≤ r ∧ ∃ o : Obj, X.heap[r]? = some o ∧ o.isCells = false := fun r e => by cases e; exact ⟨hD, _, hK, rfl⟩
    have gp := grownBy_putObj' X D (.deferred none)
    refine ⟨.tuple #[.string k, .int .i64 cc], by simp [results, Try.results14, go_sem, d0, d1], .inl ⟨k, cc, ?_, rfl, h4.own HMB.out gp hr2, h5.grown gp h5.size (fun k e => by have h7 := (hr2 k e).1; have h8 := HVV.out; omega)⟩⟩
    have h9 := scanP_part (r := r) h1
    rw [hr, HP.out] at h9
    exact h9

end Go.Proofs.Ytfkdhambbpkmpaa
