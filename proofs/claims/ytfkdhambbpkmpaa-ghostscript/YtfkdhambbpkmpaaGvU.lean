/-
  Sees of the document's ghost.
-/
import Derived.Test.YtfkdhambbpkmpaaGvT
namespace Go.Proofs.Ytfkdhambbpkmpaa
open Go.RowKit
set_option linter.unusedVariables false

theorem cell_3 {w : World} {i : Nat} {a b c d e : Value} {T : TypeId} (h : w.heap[i]? = some (.cells #[a, b, c, d, e] T (0, 0))) : w.cell? ⟨i, 3, none⟩ = some d := (box5 h).1.2.2.2.1
theorem Rh.see {w : World} {B q : Nat} {va : Value} {L : List En} {H : Nat → Hd} (h : Rh w B q va L H) {i : Nat} (hi : i < 8) (hd : Hd) (ho : w.ownsRow B 31 5 hd.v hd.n (entCells hd.l)) (hm : MapL hd.l) (hs : hd.n ≤ 1073741824) (hap : ∀ j, hd.v.ownBlock = some j → ¬ va.ownBlock = some j) : Rh (w.setCell ⟨q, 1 + i, none⟩ hd.v) B q va L (updH H i hd) := by
  have kk := (Keeps.refl (fun x => x = q) w).setCell (p := ⟨q, 1 + i, none⟩) (fun _ => rfl) hd.v
  have ne : ∀ {n : Nat} {v : Value} {xs : List Value}, w.ownsRow B 31 5 v n xs → ∀ r, v.ownBlock = some r → ¬ r = q := fun hr r hr2 e => by
    obtain ⟨-, cs, h3⟩ := row_blkM hr hr2
    rw [e, h.bx] at h3
    injection h3 with h3
    injection h3 with _ h3
    exact absurd h3 (by decide)
  refine ⟨?_, h.qB, ownsRow_keep h.all kk (ne h.all), h.chk, fun j hj => ?_, fun j hj => ?_, fun j hj => ?_, fun j hj r hr => ?_⟩
  · have h1 := set_oneG (k := 1 + i) h.bx hd.v
    match i, hi with
    | 0, _ => simpa [updH] using h1
    | 1, _ => simpa [updH] using h1
    | 2, _ => simpa [updH] using h1
    | 3, _ => simpa [updH] using h1
    | 4, _ => simpa [updH] using h1
    | 5, _ => simpa [updH] using h1
    | 6, _ => simpa [updH] using h1
    | 7, _ => simpa [updH] using h1
  · unfold updH
    split
    · exact ownsRow_keep ho kk (ne ho)
    · exact ownsRow_keep (h.held j hj) kk (ne (h.held j hj))
  · unfold updH; split
    · exact hm
    · exact h.maps j hj
  · unfold updH; split
    · exact hs
    · exact h.sz j hj
  · unfold updH at hr
    split at hr
    · exact hap r hr
    · exact h.ap j hj r hr
set_option maxHeartbeats 3200000 in
theorem rhsees_node (w : World) (q : Nat) (node : Int) (hn : ¬ (0 ≤ node ∧ node < 8)) (b : Option Addr) (lb cb : Nat) : Calls Try.prog 20 #[.pointer (some ⟨q, 0, none⟩), .int .i64 node, .slice b lb cb] w fun e w' => e = .returned (.tuple #[.string ⟨#[]⟩, .int .i64 1]) ∧ Below w.heap.size w w' := by
  have FB := aside (Below.refl w.heap.size w)
  by_cases h1 : node < 0
  · clear hn
    go_enter Try.func20, Try.ntmps20
    go_wp2
    go_ret2
    exact ⟨rfl, FB.out⟩
  · have h2 : (8 : Int) ≤ node := by omega
    clear hn
    go_enter Try.func20, Try.ntmps20
    go_wp2
    go_ret2
    exact ⟨rfl, FB.out⟩
set_option maxHeartbeats 3200000 in
theorem rhsees_bad (w : World) (q : Nat) (i : Nat) (hi : i < 8) (b : Option Addr) (lb cb : Nat) (T : Nat → En) (hT : EntsIn w b lb cb T) {c : Int} (hc : ckN T lb = c) (h0 : ¬ c = 0) : Calls Try.prog 20 #[.pointer (some ⟨q, 0, none⟩), .int .i64 (i : Int), .slice b lb cb] w fun e w' => e = .returned (.tuple #[.string ⟨#[]⟩, .int .i64 c]) ∧ Below w.heap.size w w' := by
  have CK := aside (rchk_any b lb cb T w hT)
  rw [hc] at CK
  have hi0 : ¬ (i : Int) < 0 := by omega
  have hi8 : ¬ (8 : Int) ≤ (i : Int) := by omega
  have hcz : (c == 0) = false := by simpa using h0
  clear hT hc h0 hi
  go_enter Try.func20, Try.ntmps20
  go_wp2_with fail
  refine CK.out.mono ?_
  rintro r w1 ⟨rfl, b1⟩
  have B1 := aside b1
  clear b1 CK
  go_wp2
  go_ret2
  exact ⟨rfl, B1.out⟩
/-- What the document's Sees does with a map. -/
def RSay (w : World) (B q : Nat) (va : Value) (L : List En) (H : Nat → Hd) (i n : Nat) (l : List En) (e : Ending) (w' : World) : Prop :=
  (∃ k c, scanR L (prs (H i).l l) = some (k, c) ∧ e = .returned (.tuple #[.string k, .int .i64 c]) ∧ Below w.heap.size w w') ∨
  (scanR L (prs (H i).l l) = none ∧ e = .returned (.tuple #[.string ⟨#[]⟩, .int .i64 0]) ∧ Keeps (fun x => x = q) w w' ∧ ∃ hd : Hd, hd.l = l ∧ hd.n = n ∧ (∀ j, hd.v.ownBlock = some j → w.heap.size ≤ j) ∧ Rh w' B q va L (updH H i hd))
set_option maxHeartbeats 16000000 in
set_option maxRecDepth 100000 in
theorem rhsees_any {w : World} {B q : Nat} {va : Value} {L : List En} {H : Nat → Hd} (h : Rh w B q va L H) (i : Nat) (hi : i < 8) (b : Option Addr) (lb cb : Nat) (T : Nat → En) (hT : EntsIn w b lb cb T) (hf : (b = none ∧ lb = 0 ∧ cb = 0) ∨ ∃ y, b = some y) (hl : lb ≤ 1073741824) (mT : MapL (firstE T lb)) (h1 : OneW L) : Calls Try.prog 20 #[.pointer (some ⟨q, 0, none⟩), .int .i64 (i : Int), .slice b lb cb] w fun e w' => RSay w B q va L H i lb (firstE T lb) e w' := by
  have CK := aside (rchk_any b lb cb T w hT)
  rw [(ck_map lb).2 mT] at CK
  have hi0 : ¬ (i : Int) < 0 := by omega
  have hi8 : ¬ (8 : Int) ≤ (i : Int) := by omega
  have hi1 : (0 : Int) ≤ (i : Int) := by omega
  have hi2 : (i : Int) < 8 := by omega
  obtain ⟨A, hA, hAl, hAf⟩ := entsG_of (show w.ownsRow B 31 5 (.slice (H i).a (H i).n (H i).c) (H i).n (entCells (H i).l) from h.held i hi) (mapKeys (h.maps i hi))
  have HA := aside hA
  have HT := aside hT
  have HF := aside hf
  have HL := aside hl
  have HM := aside mT
  have HR := aside h
  have HW := aside h1
  have HI := aside hi
  have HSZ := aside (h.sz i hi)
  have cH := h.cellH i hi
  unfold Hd.v at cH
  have PA := aside (fun (W : World) (bb : Below w.heap.size w W) => pairs_ok (H i).a (H i).n (H i).c A b lb cb T W (hA.keep bb) (hT.keep bb) (ck2_ok.2 ⟨by rw [hAl]; exact h.maps i hi, mT⟩) (by have := HSZ.out; omega))
  rw [hAl] at PA
  obtain ⟨P, hP⟩ : ∃ P, prs (H i).l (firstE T lb) = P := ⟨_, rfl⟩
  rw [hP] at PA
  have HP := aside hP
  obtain ⟨nP, hnP⟩ : ∃ n, P.length = n := ⟨_, rfl⟩
  have HNP := aside hnP
  rw [hnP] at PA
  have hmx : (nP : Int) ≤ 9223372036854775807 := by
    have h2 := prs_len (H i).l (firstE T lb)
    rw [hP, hnP, ← hAl, firstE_len, firstE_len] at h2
    have := HSZ.out
    omega
  clear h hT hf hl mT h1 hA hAl hAf hP hnP hi
  go_enter Try.func20, Try.ntmps20
  go_wp2_with fail
  refine CK.out.mono ?_
  rintro r w1 ⟨rfl, b1⟩
  have B1 := aside b1
  replace cH := cell_in cH b1
  clear b1 CK
  go_wp2_with fail
  refine (PA.out _ B1.out).mono ?_
  rintro r w2 ⟨g, cp, rfl, own2, b2⟩
  have B2 := aside (bthen B1.out b2)
  have O2 := aside own2
  clear own2 b2 PA cH B1
  go_wp2_with fail
  go_loopw [10] (fun i wr => ∃ j : Nat, i = .int .i64 (j : Int) ∧ j ≤ nP ∧ Hid (scanR L (P.take j) = none) ∧ Below w2.heap.size w2 wr) (fun i _ => nP - (intOf i).toNat)
  case atStart => exact ⟨0, rfl, Nat.zero_le _, rfl, Below.refl _ _⟩
  case round =>
    obtain ⟨j, rfl, hj, HS, hB⟩ := hrel
    have HB := aside hB
    clear hB
    by_cases hlt : (j : Int) < (nP : Int)
    · have hj0 : (0 : Int) ≤ (j : Int) := by omega
      obtain ⟨⟨x, y⟩, hp⟩ : ∃ p, P[j]? = some p := ⟨_, List.getElem?_eq_getElem (by rw [HNP.out]; omega)⟩
      have HPJ := aside hp
      have hTk : P.take (j + 1) = P.take j ++ [(x, y)] := by rw [List.take_add_one, hp]; rfl
      have HSN := aside (show scanR L (P.take (j + 1)) = scanR1 L (x, y) from by rw [hTk]; exact scanR_snoc HS.out)
      obtain ⟨⟨x0, x1, x2, x3, x4⟩, -⟩ := pr_cells (own_on O2.out HB.out) hp
      obtain ⟨-, y0, y1, y2, y3, y4⟩ := pr_cells (own_on O2.out (bthen HB.out (bnew wr (.cells #[.string x.k, .int .i64 x.c, .int .i64 x.n, .string x.v, .bool x.d] 31)))) hp
      replace y1 : (wr.alloc (.cells #[.string x.k, .int .i64 x.c, .int .i64 x.n, .string x.v, .bool x.d] 31)).cell? ⟨g, j * 10 + 5 + 1, none⟩ = some (.int .i64 y.c) := y1
      replace y2 : (wr.alloc (.cells #[.string x.k, .int .i64 x.c, .int .i64 x.n, .string x.v, .bool x.d] 31)).cell? ⟨g, j * 10 + 5 + 2, none⟩ = some (.int .i64 y.n) := y2
      replace y3 : (wr.alloc (.cells #[.string x.k, .int .i64 x.c, .int .i64 x.n, .string x.v, .bool x.d] 31)).cell? ⟨g, j * 10 + 5 + 3, none⟩ = some (.string y.v) := y3
      replace y4 : (wr.alloc (.cells #[.string x.k, .int .i64 x.c, .int .i64 x.n, .string x.v, .bool x.d] 31)).cell? ⟨g, j * 10 + 5 + 4, none⟩ = some (.bool y.d) := y4
      clear hp hTk
      have k2 := heap_alloc_new (wr.alloc (.cells #[.string x.k, .int .i64 x.c, .int .i64 x.n, .string x.v, .bool x.d] 31)) (.cells #[.string y.k, .int .i64 y.c, .int .i64 y.n, .string y.v, .bool y.d] 31)
      rw [World.size_alloc] at k2
      obtain ⟨⟨a0, a1, a2, a3, a4⟩, -⟩ := box5 (blk_on (heap_alloc_new wr (.cells #[.string x.k, .int .i64 x.c, .int .i64 x.n, .string x.v, .bool x.d] 31)) (bnew (wr.alloc (.cells #[.string x.k, .int .i64 x.c, .int .i64 x.n, .string x.v, .bool x.d] 31)) (.cells #[.string y.k, .int .i64 y.c, .int .i64 y.n, .string y.v, .bool y.d] 31)))
      obtain ⟨⟨b0, b1, b2, b3, b4⟩, -⟩ := box5 k2
      go_wp2_with fail
      obtain ⟨z, hz⟩ : ∃ z, En.newer x y = z := ⟨_, rfl⟩
      have HZ := aside hz
      refine (newerRef_any x.k x.c x.n x.v x.d y.k y.c y.n y.v y.d z _ hz).mono ?_
      rintro r w3 ⟨rfl, b3⟩
      have BY := aside (bthen (bthen (bnew wr (.cells #[.string x.k, .int .i64 x.c, .int .i64 x.n, .string x.v, .bool x.d] 31)) (bnew (wr.alloc (.cells #[.string x.k, .int .i64 x.c, .int .i64 x.n, .string x.v, .bool x.d] 31)) (.cells #[.string y.k, .int .i64 y.c, .int .i64 y.n, .string y.v, .bool y.d] 31))) b3)
      have BW := aside (bthen (bthen B2.out HB.out) BY.out)
      replace a0 := cell_in a0 b3
      replace b0 := cell_in b0 b3
      replace b1 := cell_in b1 b3
      replace b2 := cell_in b2 b3
      replace b4 := cell_in b4 b3
      have b5 := cell_in (show ((wr.alloc (.cells #[.string x.k, .int .i64 x.c, .int .i64 x.n, .string x.v, .bool x.d] 31)).alloc (.cells #[.string y.k, .int .i64 y.c, .int .i64 y.n, .string y.v, .bool y.d] 31)).cell? ⟨wr.heap.size + 1, 3, none⟩ = some (.string y.v) from cell_3 k2) b3
      clear x0 x1 x2 x3 x4 y0 y1 y2 y3 y4 a1 a2 a3 a4 b3 hz k2
      cases z
      case true =>
        have FS := aside (show scanR L (prs (H i).l (firstE T lb)) = some (x.k, 191) from by
          rw [HP.out, ← List.take_append_drop (j + 1) P]
          refine scanR_part ?_
          rw [HSN.out]
          unfold scanR1
          rw [if_pos HZ.out])
        go_wp2
        go_ret2
        exact .inl ⟨_, _, FS.out, rfl, BW.out⟩
      case false =>
        obtain ⟨u, hu⟩ : ∃ u, wrB L y = u := ⟨_, rfl⟩
        have HU := aside hu
        have CW := aside (rhwritten_any (HR.out.on BW.out) HW.out y)
        rw [hu] at CW
        clear hu
        go_wp2_with fail
        refine CW.out.mono ?_
        rintro r w4 ⟨rfl, b4'⟩
        have BZ := aside (bthen HB.out (bthen BY.out b4'))
        have BV := aside (bthen BW.out b4')
        replace b0 := cell_in b0 b4'
        clear b4' CW a0 b1 b2 b4 b5 BY BW
        cases u
        · have FS := aside (show scanR L (prs (H i).l (firstE T lb)) = some (y.k, 192) from by
            rw [HP.out, ← List.take_append_drop (j + 1) P]
            refine scanR_part ?_
            rw [HSN.out]
            unfold scanR1
            rw [if_neg (by rw [HZ.out]; simp), if_pos HU.out])
          go_wp2
          go_ret2
          exact .inl ⟨_, _, FS.out, rfl, BV.out⟩
        · have FN := aside (show scanR L (P.take (j + 1)) = none from by
            rw [HSN.out]
            unfold scanR1
            rw [if_neg (by rw [HZ.out]; simp), if_neg (by rw [HU.out]; simp)])
          clear b0
          go_wp2
          go_roundw
          case rel => exact ⟨j + 1, by first | rfl | go_num, by omega, FN.out, BZ.out⟩
          case measure => simp [intOf] <;> omega
    · have FN := aside (show scanR L (prs (H i).l (firstE T lb)) = none from by
        have h8 := HS.out
        rw [List.take_of_length_le (by have := HNP.out; omega)] at h8
        rw [HP.out]
        exact h8)
      have HXX := aside (bthen B2.out HB.out)
      have OE0 := aside (own_emptyE wr wr.heap.size (Nat.le_refl _))
      have BE0 := aside (bnew wr (.cells #[] 31))
      go_wp2_with fail
      refine wp_region_held_drew (S := fun _ => True) (by kernel_rfl) trivial (fun hHeld => ?_)
      refine wpAnyH_take (i := 0) (v := ?_) rfl (by kernel_rfl) (by kernel_rfl) (by kernel_rfl) (fun _ _ _ h => h) (Or.inl ⟨by rfl, ?_⟩) (by assumption) ?_
      rotate_left
      · intro w hSw
        go_simp
        try with_reducible rfl
      simp only [Act.put, List.getElem_toArray, List.getElem_cons_zero, List.setIfInBounds_toArray, List.set_cons_zero, List.set_cons_succ]
      refine wpAnyH_take (i := 1) (v := ?_) rfl (by kernel_rfl) (by kernel_rfl) (by kernel_rfl) (fun _ _ _ h => h) (Or.inl ⟨by rfl, ?_⟩) (by assumption) ?_
      rotate_left
      · intro w hSw
        go_simp
        try with_reducible rfl
      simp only [Act.put, List.getElem_toArray, List.getElem_cons_zero, List.getElem_cons_succ, List.setIfInBounds_toArray, List.set_cons_zero, List.set_cons_succ]
      refine wpAnyH_take (i := 2) (v := ?_) rfl (by kernel_rfl) (by kernel_rfl) (by kernel_rfl) (fun _ _ _ h => h) (Or.inl ⟨by rfl, ?_⟩) (by assumption) ?_
      rotate_left
      · intro w hSw
        go_simp
        try with_reducible rfl
      simp only [Act.put, List.getElem_toArray, List.getElem_cons_zero, List.getElem_cons_succ, List.setIfInBounds_toArray, List.set_cons_zero, List.set_cons_succ]
      refine wpAnyH_take (i := 3) (v := ?_) rfl (by kernel_rfl) (by kernel_rfl) (by kernel_rfl) (fun _ _ _ h => h) (Or.inl ⟨by rfl, ?_⟩) (by assumption) ?_
      rotate_left
      · intro w hSw
        go_simp
        try with_reducible rfl
      simp only [Act.put, List.getElem_toArray, List.getElem_cons_zero, List.getElem_cons_succ, List.setIfInBounds_toArray, List.set_cons_zero, List.set_cons_succ]
      refine wpAnyH_take (i := 5) (v := ?_) rfl (by kernel_rfl) (by kernel_rfl) (by kernel_rfl) (fun _ _ _ h => h) (Or.inl ⟨by rfl, ?_⟩) (by assumption) ?_
      rotate_left
      · intro w hSw
        go_simp
        try with_reducible rfl
      simp only [Act.put, List.getElem_toArray, List.getElem_cons_zero, List.getElem_cons_succ, List.setIfInBounds_toArray, List.set_cons_zero, List.set_cons_succ]
      refine wpAnyH_take (i := 6) (v := ?_) rfl (by kernel_rfl) (by kernel_rfl) (by kernel_rfl) (fun _ _ _ h => h) (Or.inl ⟨by rfl, ?_⟩) (by assumption) ?_
      rotate_left
      · intro w hSw
        go_simp
        try with_reducible rfl
      simp only [Act.put, List.getElem_toArray, List.getElem_cons_zero, List.getElem_cons_succ, List.setIfInBounds_toArray, List.set_cons_zero, List.set_cons_succ]
      have OE := aside (own_on OE0.out ((Below.refl (wr.alloc (.cells #[] 31)).heap.size (wr.alloc (.cells #[] 31))).drew))
      have BE := aside (BE0.out.drew)
      obtain ⟨X, hX⟩ : ∃ X, (wr.alloc (.cells #[] 31)).drew = X := ⟨_, rfl⟩
      rw [hX] at OE BE ⊢
      clear hX OE0 BE0
      refine wpAnyH_ready (rs := [4]) (by kernel_rfl) (by simp) ?_
      refine AllReadyH.cons rfl (fun K hK => ?_) AllReadyH.nil
      rw [if_pos (by rfl)]
      refine op_append_entsG _ _ rfl wr.heap.size 0 _ [] (by rfl) OE.out b lb cb lb T (by rfl) (HT.out.keep (bthen HXX.out BE.out)) HF.out (by omega) (by have := HL.out; omega) (BE.out.size) ?_
      intro a3 c3 Z own3 gr3
      have BZ := aside (BE.out.grown gr3 BE.out.size (fun k e => (OE.out.lt k e).1))
      have O3 := aside (show Z.ownsRow wr.heap.size 31 5 (.slice a3 lb c3) lb (entCells (firstE T lb)) from own3)
      refine hK.out _ _ trivial (fun hHeld => ?_)
      clear hK K own3 gr3
      simp only [Act.put, List.getElem_toArray, List.getElem_cons_zero, List.getElem_cons_succ, List.setIfInBounds_toArray, List.set_cons_zero, List.set_cons_succ]
      refine wpAnyH_take (i := 7) (v := ?_) rfl (by kernel_rfl) (by kernel_rfl) (by kernel_rfl) (fun _ _ _ h => h) (Or.inl ⟨by rfl, ?_⟩) (by assumption) ?_
      rotate_left
      · intro w hSw
        go_simp
        try with_reducible rfl
      simp only [Act.put, List.getElem_toArray, List.getElem_cons_zero, List.getElem_cons_succ, List.setIfInBounds_toArray, List.set_cons_zero, List.set_cons_succ]
      have RZ := aside (HR.out.on (bthen HXX.out BZ.out))
      have g0 := RZ.out.cellH i HI.out
      have g1 := frozen_of_row Z q (1 + i) _ _ RZ.out.bx
      have KP := aside ((Keeps.of_below (bthen HXX.out BZ.out) (fun x => x = q)).setCell (p := ⟨q, 1 + i, none⟩) (fun _ => rfl) (.slice a3 lb c3))
      have FR8 := aside (show ∀ j, (Hd.v ⟨a3, lb, c3, firstE T lb⟩).ownBlock = some j → w.heap.size ≤ j from fun j hj => by
        have h7 := (row_blkM O3.out hj).1
        exact Nat.le_trans HXX.out.size h7)
      have NG := aside (RZ.out.see HI.out ⟨a3, lb, c3, firstE T lb⟩ (own_low O3.out (Nat.le_trans (Nat.le_trans HR.out.qB (Nat.le_of_lt (lt_of_blk HR.out.bx))) HXX.out.size)) HM.out HL.out (fun j hj h9 => by
        have h7 := FR8.out j hj
        obtain ⟨-, cs, h8⟩ := row_blkM HR.out.all h9
        have := lt_of_blk h8
        omega))
      refine wpAnyH_ready (rs := [8]) (by kernel_rfl) (by simp) ?_
      refine AllReadyH.cons rfl (fun K hK => ?_) AllReadyH.nil
      go_simp
      refine hK.out _ _ trivial (fun hHeld => ?_)
      clear hK K g0 g1 hHeld
      refine wpAnyH_done (by kernel_rfl) ?_ _
      go_wp2
      go_ret2
      exact .inr ⟨FN.out, rfl, KP.out, _, rfl, rfl, FR8.out, NG.out⟩
end Go.Proofs.Ytfkdhambbpkmpaa
