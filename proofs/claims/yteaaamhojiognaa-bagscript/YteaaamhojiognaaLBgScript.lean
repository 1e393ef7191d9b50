/-
  The law BagScript, walked.
-/
import Derived.Test.YteaaamhojiognaaBgV
namespace Go.Proofs.Yteaaamhojiognaa
open Go.RowKit
set_option linter.unusedVariables false

set_option maxHeartbeats 64000000 in
set_option maxRecDepth 100000 in
theorem bscript_walk (z : Int) (a0 : Option Addr) (len cap : Nat) (R : Nat → Bo) (w : World) (g0 : Bos w a0 len cap R) :
    Calls Try.prog 3 #[.int .i64 z, .slice a0 len cap] w fun e w' => e = .returned (.bool true) ∧ Below w.heap.size w w' := by
  have G0 := aside g0
  have hmx : (len : Int) ≤ 9223372036854775807 := by have h1 := g0.1; have h2 := g0.2.1; unfold maxLen at h2; omega
  have HLN := aside (show len * 56 ≤ 140737488351232 from g0.2.2.1)
  clear g0
  go_enter Try.func3, Try.ntmps3
  go_wp2_with fail
  refine (shown18 _).mono ?_
  rintro e w1 ⟨rfl, b1⟩
  have B1 := aside b1
  clear b1
  by_cases hr : z < 1 ∨ 512 < z
  · have HR := aside hr
    clear hr
    go_wp2_with fail
    refine (bnew_bad z HR.out _).mono ?_
    rintro e w2 ⟨rfl, b2⟩
    have B2 := aside (bthen B1.out b2)
    clear b2
    go_wp2_with fail
    refine (rnew_bad z HR.out _).mono ?_
    rintro e w3 ⟨rfl, b3⟩
    have B3 := aside (bthen B2.out b3)
    clear b3
    go_wp2
    go_ret
    exact ⟨rfl, B3.out⟩
  obtain ⟨rm, rfl⟩ : ∃ r : Nat, z = (r : Int) := ⟨z.toNat, by omega⟩
  have HR1 := aside (show 1 ≤ rm ∧ rm ≤ 512 from by omega)
  clear hr
  go_wp2_with fail
  refine (bnew_ok rm HR1.out.1 HR1.out.2 _).mono ?_
  rintro e w2 ⟨b, rfl, hb, b2⟩
  have HBG := aside hb
  have B2 := aside b2
  clear hb b2
  go_wp2_with fail
  refine (rnew_ok rm HR1.out.1 HR1.out.2 _).mono ?_
  rintro e w3 ⟨bR, rfl, hb, b3⟩
  have D0 := aside (show SB (fun _ => False) w w3 b bR rm ⟨0, 0, []⟩ ⟨0, 0, []⟩ (.slice none 0 0) [] from
    ⟨.slice none 0 0, [], .slice none 0 0, [],
      ⟨(show BagAt w2 w.heap.size b (.slice none 0 0) rm 0 0 [] from ⟨HBG.out.bx, Nat.le_trans B1.out.size HBG.out.ge, own_low HBG.out.row B1.out.size, fun p hp => (by cases hp), HBG.out.le, HBG.out.r1, HBG.out.r2⟩).on b3,
       ⟨hb.bx, Nat.le_trans (Nat.le_trans B1.out.size B2.out.size) hb.ge, own_low hb.row (Nat.le_trans B1.out.size B2.out.size), fun p hp => (by cases hp), hb.le, hb.r1, hb.r2⟩,
       fun j h => (by cases h), bthen (bthen B1.out B2.out) b3, ⟨rfl, .inl ⟨rfl, rfl⟩⟩, fun k hk => (by cases hk), fun p hp => (by cases hp), fun p hp => (by cases hp)⟩, rfl, rfl⟩)
  clear hb b3 B1 B2 HBG
  go_wp2
  go_loopw [9, 57] (fun vw i wr => ∃ (k : Nat) (s : PSt) (K : List Wk) (ai : Option Addr) (n ci : Nat), i = .int .i64 (k : Int) ∧ k ≤ len ∧ vw = .slice ai n ci ∧ Hid (SB (fun _ => False) w wr b bR rm s s (.slice ai n ci) K) ∧ Hid (s.le k ∧ K.length ≤ k) ∧ Hid (K.length = n)) (fun _ i _ => len - (intOf i).toNat)
  case atStart => exact ⟨0, _, [], none, 0, 0, rfl, Nat.zero_le _, rfl, D0.out, ⟨⟨Nat.le_refl _, Nat.le_refl _⟩, Nat.le_refl _⟩, rfl⟩
  case round =>
    clear D0
    obtain ⟨k, s, K, ai, n, ci, rfl, hk, rfl, DI, HLE, HN⟩ := hrel
    by_cases hlk : (k : Int) < (len : Int)
    · have hk0 : (0 : Int) ≤ (k : Int) := by omega
      have HKL := aside (show k < len ∧ k ≤ 2513169434917 from by have := HLN.out; omega)
      have HKB := aside (show k ≤ 4611686018427387904 from by have := HKL.out.2; omega)
      have HB := aside DI.out.bel
      obtain ⟨x, off, ha, hx, hc⟩ : ∃ b off, a0 = some ⟨b, off, none⟩ ∧ b < w.heap.size ∧ ∀ i, i < len → BoAt w b (off + i * 5) (R i) ∧ (R i).In w := by
        rcases G0.out.2.2.2 with h0 | h0
        · omega
        · exact h0
      subst ha
      obtain ⟨kd, hkd⟩ : ∃ y, (R k).kind = y := ⟨_, rfl⟩
      obtain ⟨fr, hfr⟩ : ∃ y, (R k).frm = y := ⟨_, rfl⟩
      obtain ⟨ds, hds⟩ : ∃ y, (R k).dst = y := ⟨_, rfl⟩
      obtain ⟨ix, hix⟩ : ∃ y, (R k).i = y := ⟨_, rfl⟩
      obtain ⟨da, hda⟩ : ∃ y, (R k).da = y := ⟨_, rfl⟩
      obtain ⟨dl, hdl⟩ : ∃ y, (R k).dl = y := ⟨_, rfl⟩
      obtain ⟨dc, hdc⟩ : ∃ y, (R k).dc = y := ⟨_, rfl⟩
      obtain ⟨LL, hLL⟩ : ∃ y, (R k).L = y := ⟨_, rfl⟩
      obtain ⟨m0, m1, m2, m3, m4⟩ := (hc k (by omega)).1.keep HB.out
      have hin := (hc k (by omega)).2
      rw [hkd] at m0
      rw [hfr] at m1
      rw [hds] at m2
      rw [hix] at m3
      rw [hda, hdl, hdc] at m4
      unfold Bo.In at hin
      rw [hda, hdl, hdc, hLL] at hin
      have HIN := aside hin
      clear hx hc hin hkd hfr hds hix hda hdl hdc hLL
      obtain ⟨X1, hX1⟩ : ∃ X, wr.alloc (.cells #[.int .i64 kd, .int .i64 fr, .int .i64 ds, .int .i64 ix, .slice da dl dc] 34) = X := ⟨_, rfl⟩
      obtain ⟨q1, hq1⟩ : ∃ q, wr.heap.size = q := ⟨_, rfl⟩
      have b1 := bnew wr (.cells #[.int .i64 kd, .int .i64 fr, .int .i64 ds, .int .i64 ix, .slice da dl dc] 34)
      have k1 := heap_alloc_new wr (.cells #[.int .i64 kd, .int .i64 fr, .int .i64 ds, .int .i64 ix, .slice da dl dc] 34)
      rw [hX1] at b1 k1
      rw [hq1] at k1
      have K1 := aside k1
      have D1 := aside (DI.out.on b1)
      obtain ⟨c0, c1, c2, c3, c4⟩ := five k1
      obtain ⟨k7, hk7, hk8⟩ := amg_lt kd (m := 7) (by omega)
      have CK := aside (amg7 kd)
      rw [show (7 : Int) = ((7 : Nat) : Int) from rfl, hk7] at CK
      replace CK := aside (fun W => CK.out W)
      clear b1 k1 hk7 DI HB
      go_upto_region 13 with fail
      try rw [hX1]
      try rw [hq1]
      clear hX1 hq1 m0 m1 m2 m3 m4
      go_wp2_with fail
      refine (CK.out _).mono ?_
      rintro e X1' ⟨rfl, rfl⟩
      match k7, hk8 with
      | 0, _ =>
        as_aux_lemma =>
          have hdl := HIN.out.2.1
          have B1 := aside D1.out.bel
          have HIA := aside (HIN.out.1.on B1.out)
          go_wp2_with (at_builtin; refine wpList_plain rfl fun K9 hK => ?_; refine op_append_by2 _ _ rfl X1'.heap.size (.slice none 0 0) [] (by rfl) (World.ownsRow_nil _ _ _ _) da dl dc LL (by rfl) HIA.out ?_ (Nat.le_refl _) ?_; exact (by simp only [List.length_nil]; omega); intro v2 w2 own2 gr2; refine hK _ _ ?_; refine Hid.out ?_)
          refine aside ?_
          rw [List.nil_append, List.length_nil, Nat.zero_add] at own2
          have hLd : LL.length = dl := HIN.out.1.1
          have O2 := aside own2
          have B2 := aside ((Below.refl X1'.heap.size X1').grown gr2 (Nat.le_refl _) (fun j e => by cases e))
          clear own2 gr2
          have KZ := aside (heap_alloc_new w2 (.cells #[.int .u8 115] 5))
          have NB := bnew w2 (.cells #[.int .u8 115] 5)
          have O2' := aside (own_on O2.out NB)
          have B3 := aside (bthen B2.out NB)
          have ZA := aside (show ByIn (w2.alloc (.cells #[.int .u8 115] 5)) (some ⟨w2.heap.size, 0, none⟩) 1 1 [115] from ⟨rfl, Nat.le_refl _, by unfold maxLen; omega, .inr ⟨_, rfl, World.news_of_block (cs := #[.int .u8 115]) (t := 5) (fr := (0, 0)) KZ.out⟩⟩)
          clear NB KZ B2 O2
          obtain ⟨c0, c1, c2, c3, c4⟩ := five (blk_on K1.out B3.out)
          go_wp2_with (at_builtin; refine wpList_plain rfl fun K9 hK => ?_; refine op_append_by2 _ _ rfl X1'.heap.size v2 LL (by rfl) (by rw [HIN.out.1.1]; exact O2'.out) (some ⟨w2.heap.size, 0, none⟩) 1 1 [115] (by rfl) ZA.out ?_ B3.out.size ?_; exact (by omega); intro v3 w3 own3 gr3; refine hK _ _ ?_; refine Hid.out ?_)
          refine aside ?_
          have B4 := aside (B3.out.grown gr3 B3.out.size (fun j e => (O2'.out.lt j e).1))
          rw [hLd] at own3
          obtain ⟨a3, c, rfl, hc1, hc2, ⟨-, hc3, -⟩ | ⟨g, rfl, hg1, hg2⟩⟩ := own_slice own3
          · omega
          have O3 := aside own3
          have K3 := aside (blk_on K1.out B4.out)
          have D3 := aside ((D1.out.excl (E := fun j => (Value.slice (some ⟨g, 0, none⟩) (dl + 1) c).ownBlock = some j) (fun j hj => (O3.out.lt j hj).1)).on B4.out)
          have HG2 := aside hg2
          have HE3 := aside (show ∀ j, (Value.slice (some ⟨g, 0, none⟩) (dl + 1) c).ownBlock = some j → j < w3.heap.size from fun j hj => (O3.out.lt j hj).2)
          obtain ⟨⟨n9, e9, s9⟩, hs9⟩ : ∃ y, sndP rm s fr ds dl LL = y := ⟨_, rfl⟩
          have LE9 := aside (show s9.le (k + 1) from by have h1 := snd_le (room := rm) HLE.out.1 fr ds dl LL; rw [hs9] at h1; exact h1)
          have CS := aside (fun (W : World) (bb : Below w3.heap.size w3 W) => c_send (D3.out.on bb) (fun j hj => Nat.lt_of_lt_of_le (HE3.out j hj) bb.size) fr ds (some ⟨g, 0, none⟩) dl c LL (byIn_pre (own_on O3.out bb) HIN.out.1.1) (fun x hx => by
            injection hx with hx
            subst hx
            exact own_u8 (own_on O3.out bb) g rfl) HLE.out.1 HKB.out)
          have CR := aside (fun (W : World) (D : SB (fun j => (Value.slice (some ⟨g, 0, none⟩) (dl + 1) c).ownBlock = some j) w W b bR rm s9 s (.slice ai n ci) K) (hh : w3.heap.size ≤ W.heap.size) => r_send D (fun j hj => Nat.lt_of_lt_of_le (HE3.out j hj) hh) fr ds da dl dc LL (HIN.out.1.on D.bel) HLE.out.1 HKB.out)
          rw [hs9] at CS CR
          dsimp only at CS CR
          have SX := aside (fun (Y : World) (ko : KO w3 Y) => (show (fun W => W.cell? ⟨q1, 1, none⟩ = some (.int .i64 fr) ∧ W.cell? ⟨q1, 2, none⟩ = some (.int .i64 ds) ∧ W.cell? ⟨q1, 4, none⟩ = some (.slice da dl dc)) Y from by
            obtain ⟨y0, y1, y2, y3, y4⟩ := five (ko.2 _ (by decide) (by decide) (by decide) _ _ K3.out)
            exact ⟨y1, y2, y4⟩))
          have hb0 : Below w3.heap.size w3 w3.drew := (Below.refl _ w3).drew
          have hcc : (dl : Int) ≤ (c : Int) := by omega
          have hcc2 : (c : Int) ≤ 9223372036854775807 := by unfold maxLen at hc2; omega
          have hdl2 : (dl : Int) ≤ 140737488351232 := by omega
          have hdl0 : (0 : Int) ≤ (dl : Int) := by omega
          clear own3 gr3 B3 B4 ZA O2' hc1 hc2 hg1 hg2 hs9 c0 c1 c2 c3 c4 D1
          go_upto_region 21 with fail
          refine wp_region_held_drew (S := fun W => W.cell? ⟨q1, 1, none⟩ = some (.int .i64 fr) ∧ W.cell? ⟨q1, 2, none⟩ = some (.int .i64 ds) ∧ W.cell? ⟨q1, 4, none⟩ = some (.slice da dl dc)) (by kernel_rfl) (SX.out _ (KO.of_below hb0)) (fun hHeld => ?_)
          refine wpAnyH_take (i := 0) (v := ?_) rfl (by kernel_rfl) (by kernel_rfl) (by kernel_rfl) (fun _ _ _ h => h) (Or.inl ⟨by rfl, ?_⟩) (by assumption) ?_
          rotate_left
          · intro w hSw
            go_simp
            try with_reducible rfl
          simp only [Act.put, List.getElem_toArray, List.getElem_cons_zero, List.setIfInBounds_toArray, List.set_cons_zero, List.set_cons_succ]
          refine wpAnyH_take (i := 1) (v := ?_) rfl (by kernel_rfl) (by kernel_rfl) (by kernel_rfl) (fun _ _ _ h => h) (Or.inl ⟨by rfl, ?_⟩) (by assumption) ?_
          rotate_left
          · intro w hSw
            go_simp
            try with_reducible rfl
          simp only [Act.put, List.getElem_toArray, List.getElem_cons_zero, List.getElem_cons_succ, List.setIfInBounds_toArray, List.set_cons_zero, List.set_cons_succ]
          refine wpAnyH_take (i := 2) (v := ?_) rfl (by kernel_rfl) (by kernel_rfl) (by kernel_rfl) (fun _ _ _ h => h) (Or.inl ⟨by rfl, ?_⟩) (by assumption) ?_
          rotate_left
          · intro w hSw
            go_simp
            try with_reducible rfl
          simp only [Act.put, List.getElem_toArray, List.getElem_cons_zero, List.getElem_cons_succ, List.setIfInBounds_toArray, List.set_cons_zero, List.set_cons_succ]
          refine wpAnyH_take (i := 3) (v := ?_) rfl (by kernel_rfl) (by kernel_rfl) (by kernel_rfl) (fun _ _ _ h => h) (Or.inl ⟨by rfl, ?_⟩) (by assumption) ?_
          rotate_left
          · intro w hSw
            go_simp
            try with_reducible rfl
          simp only [Act.put, List.getElem_toArray, List.getElem_cons_zero, List.getElem_cons_succ, List.setIfInBounds_toArray, List.set_cons_zero, List.set_cons_succ]
          refine wpAnyH_take (i := 4) (v := ?_) rfl (by kernel_rfl) (by kernel_rfl) (by kernel_rfl) (fun _ _ _ h => h) (Or.inl ⟨by rfl, ?_⟩) (by assumption) ?_
          rotate_left
          · intro w hSw
            go_simp
            try with_reducible rfl
          simp only [Act.put, List.getElem_toArray, List.getElem_cons_zero, List.getElem_cons_succ, List.setIfInBounds_toArray, List.set_cons_zero, List.set_cons_succ]
          refine wpAnyH_take (i := 5) (v := ?_) rfl (by kernel_rfl) (by kernel_rfl) (by kernel_rfl) (fun _ _ _ h => h) (Or.inl ⟨by rfl, ?_⟩) (by assumption) ?_
          rotate_left
          · intro w hSw
            go_simp
            try with_reducible rfl
          simp only [Act.put, List.getElem_toArray, List.getElem_cons_zero, List.getElem_cons_succ, List.setIfInBounds_toArray, List.set_cons_zero, List.set_cons_succ]
          refine wpAnyH_take (i := 6) (v := ?_) rfl (by kernel_rfl) (by kernel_rfl) (by kernel_rfl) (fun _ _ _ h => h) (Or.inl ⟨by rfl, ?_⟩) (by assumption) ?_
          rotate_left
          · intro w hSw
            go_simp
            try with_reducible rfl
          simp only [Act.put, List.getElem_toArray, List.getElem_cons_zero, List.getElem_cons_succ, List.setIfInBounds_toArray, List.set_cons_zero, List.set_cons_succ]
          refine wpAnyH_take (i := 7) (v := ?_) rfl (by kernel_rfl) (by kernel_rfl) (by kernel_rfl) (fun _ _ _ h => h) (Or.inl ⟨by rfl, ?_⟩) (by assumption) ?_
          rotate_left
          · intro w hSw
            go_simp
            try with_reducible rfl
          simp only [Act.put, List.getElem_toArray, List.getElem_cons_zero, List.getElem_cons_succ, List.setIfInBounds_toArray, List.set_cons_zero, List.set_cons_succ]
          refine wpAnyH_take (i := 8) (v := ?_) rfl (by kernel_rfl) (by kernel_rfl) (by kernel_rfl) (fun _ _ _ h => h) (Or.inl ⟨by rfl, ?_⟩) (by assumption) ?_
          rotate_left
          · intro w hSw
            go_simp
            try with_reducible rfl
          simp only [Act.put, List.getElem_toArray, List.getElem_cons_zero, List.getElem_cons_succ, List.setIfInBounds_toArray, List.set_cons_zero, List.set_cons_succ]
          refine wpAnyH_take (i := 9) (v := ?_) rfl (by kernel_rfl) (by kernel_rfl) (by kernel_rfl) (fun _ _ _ h => h) (Or.inl ⟨by rfl, ?_⟩) (by assumption) ?_
          rotate_left
          · intro w hSw
            go_simp
            try with_reducible rfl
          simp only [Act.put, List.getElem_toArray, List.getElem_cons_zero, List.getElem_cons_succ, List.setIfInBounds_toArray, List.set_cons_zero, List.set_cons_succ]
          refine wpAnyH_ready (rs := [10]) (by kernel_rfl) (by simp) ?_
          refine AllReadyH.cons rfl (fun K hK => ?_) AllReadyH.nil
          go_simp
          refine (CS.out _ hb0).mono ?_
          rintro e w9 ⟨rfl, sb9, ko9⟩
          refine hK.out _ _ (SX.out _ ((KO.of_below hb0).t ko9)) (fun hHeld => ?_)
          clear hK K 
          refine wpAnyH_take (i := 11) (v := ?_) rfl (by kernel_rfl) (by kernel_rfl) (by kernel_rfl) (fun _ _ _ h => h) (Or.inl ⟨by rfl, ?_⟩) (by assumption) ?_
          rotate_left
          · intro w hSw
            go_simp
            try with_reducible rfl
          simp only [Act.put, List.getElem_toArray, List.getElem_cons_zero, List.getElem_cons_succ, List.setIfInBounds_toArray, List.set_cons_zero, List.set_cons_succ]
          refine wpAnyH_take (i := 12) (v := ?_) rfl (by kernel_rfl) (by kernel_rfl) (by kernel_rfl) (fun _ _ _ h => h) (Or.inl ⟨by rfl, ?_⟩) (by assumption) ?_
          rotate_left
          · intro w hSw
            go_simp
            try with_reducible rfl
          simp only [Act.put, List.getElem_toArray, List.getElem_cons_zero, List.getElem_cons_succ, List.setIfInBounds_toArray, List.set_cons_zero, List.set_cons_succ]
          refine wpAnyH_take (i := 13) (v := ?_) rfl (by kernel_rfl) (by kernel_rfl) (by kernel_rfl) (fun _ _ _ h => h) (Or.inl ⟨by rfl, ?_⟩) (by assumption) ?_
          rotate_left
          · intro w hSw
            go_simp
            try with_reducible rfl
          simp only [Act.put, List.getElem_toArray, List.getElem_cons_zero, List.getElem_cons_succ, List.setIfInBounds_toArray, List.set_cons_zero, List.set_cons_succ]
          refine wpAnyH_take (i := 14) (v := ?_) rfl (by kernel_rfl) (by kernel_rfl) (by kernel_rfl) (fun _ _ _ h => h) (Or.inl ⟨by rfl, ?_⟩) (by assumption) ?_
          rotate_left
          · intro w hSw
            go_simp
            try with_reducible rfl
          simp only [Act.put, List.getElem_toArray, List.getElem_cons_zero, List.getElem_cons_succ, List.setIfInBounds_toArray, List.set_cons_zero, List.set_cons_succ]
          refine wpAnyH_take (i := 15) (v := ?_) rfl (by kernel_rfl) (by kernel_rfl) (by kernel_rfl) (fun _ _ _ h => h) (Or.inl ⟨by rfl, ?_⟩) (by assumption) ?_
          rotate_left
          · intro w hSw
            go_simp
            try with_reducible rfl
          simp only [Act.put, List.getElem_toArray, List.getElem_cons_zero, List.getElem_cons_succ, List.setIfInBounds_toArray, List.set_cons_zero, List.set_cons_succ]
          refine wpAnyH_done (by kernel_rfl) ?_ _
          have K9 := aside (ko9.2 _ (by decide) (by decide) (by decide) _ _ K3.out)
          have O9 := aside (own_ko ko9 (own_on O3.out hb0) (by decide) (by decide) (by decide))
          have HS9 := aside (show w3.heap.size ≤ w9.heap.size from ko9.1)
          replace CR := aside (CR.out w9 sb9 HS9.out)
          clear hHeld sb9 ko9 SX hb0 O3 D3 K3 CS
          obtain ⟨c0, c1, c2, c3, c4⟩ := five K9.out
          go_wp2_with fail
          refine CR.out.mono ?_
          rintro e w10 ⟨rfl, sb10, ko10⟩
          have D10 := aside sb10
          have O10 := aside (own_ko ko10 O9.out (by decide) (by decide) (by decide))
          clear c0 c1 c2 c3 c4
          have K10 := aside (ko10.2 _ (by decide) (by decide) (by decide) _ _ K9.out)
          obtain ⟨c0, c1, c2, c3, c4⟩ := five K10.out
          have q1' := byIn_conv (byIn_own O10.out)
          have q2' := byIn_conv (HIN.out.1.on D10.out.bel)
          have hcat := cat_byteB LL
          have W0 := aside (Wrote.own O10.out)
          clear sb10 ko10 CR O9 K9
          go_upto_region 24 with fail
          clear q1' q2' hcat c0 c1 c2 c3 c4
          go_wp2_with fail
          go_loopw [140] (fun i Y => ∃ j : Nat, i = .int .i64 (j : Int) ∧ j ≤ dl + 1 ∧ Hid (Wrote w10 Y (some ⟨g, 0, none⟩) (dl + 1) c)) (fun i _ => dl + 1 - (intOf i).toNat)
          case atStart => exact ⟨0, rfl, Nat.zero_le _, W0.out⟩
          case round =>
            clear W0
            obtain ⟨j, rfl, hj, WR⟩ := hrel
            have hj0 : (0 : Int) ≤ (j : Int) := by omega
            have hjn : (j : Int) ≤ 140737488351232 + 1 := by omega
            by_cases hlt : (j : Int) < (dl : Int) + 1
            · obtain ⟨g5, cur, e5, hg5, hsz⟩ := WR.out.c (by omega)
              injection e5 with e5
              injection e5 with e5
              subst e5
              obtain ⟨z9, z0⟩ : ∃ z9, wr.cell? ⟨g, j, none⟩ = some z9 := by
                rw [cell_of_row _ _ _ _ _ _ hg5]
                exact ⟨_, Array.getElem?_eq_getElem (by omega)⟩
              have f0 := frozen_of_row wr g j _ _ hg5
              have W2 := aside (WR.out.set (j := j) (by omega) (.int .u8 120))
              clear hg5
              go_wp2
              go_roundw
              case rel => exact ⟨j + 1, by first | rfl | go_num, by omega, W2.out⟩
              case measure => simp [intOf] <;> omega
            · have DT := aside (D10.out.byte WR.out.k (own_u8 O10.out) (fun j hj => Nat.le_trans B1.out.size (O10.out.lt j hj).1))
              clear hj hjn
              as_aux_lemma =>
                have TL := aside (c_len DT.out)
                have TR := aside (r_len DT.out)
                have TO := aside (c_lost DT.out)
                have TP := aside (r_lost DT.out)
                have SLE := aside (show s9.le (k + 1) ∧ K.length ≤ k + 1 from ⟨LE9.out, Nat.le_succ_of_le HLE.out.2⟩)
                go_wp2_with fail
                refine (TL.out).mono ?_
                rintro e W9 ⟨rfl, rfl⟩
                go_wp2_with fail
                refine (TR.out).mono ?_
                rintro e W9 ⟨rfl, rfl⟩
                go_wp2_with fail
                refine (TO.out).mono ?_
                rintro e W9 ⟨rfl, rfl⟩
                go_wp2_with fail
                refine (TP.out).mono ?_
                rintro e W9 ⟨rfl, rfl⟩
                go_wp2
                go_roundw
                case rel => exact ⟨k + 1, s9, K, _, _, _, by first | rfl | go_num, by have := HKL.out.1; omega, rfl, DT.out, SLE.out, HN.out⟩
                case measure => have := HKL.out.1; simp [intOf] <;> omega
      | 1, _ =>
        as_aux_lemma =>
          have hdl := HIN.out.2.1
          have B1 := aside D1.out.bel
          have HIA := aside (HIN.out.1.on B1.out)
          go_wp2_with (at_builtin; refine wpList_plain rfl fun K9 hK => ?_; refine op_append_by2 _ _ rfl X1'.heap.size (.slice none 0 0) [] (by rfl) (World.ownsRow_nil _ _ _ _) da dl dc LL (by rfl) HIA.out ?_ (Nat.le_refl _) ?_; exact (by simp only [List.length_nil]; omega); intro v2 w2 own2 gr2; refine hK _ _ ?_; refine Hid.out ?_)
          refine aside ?_
          rw [List.nil_append, List.length_nil, Nat.zero_add] at own2
          have hLd : LL.length = dl := HIN.out.1.1
          have O2 := aside own2
          have B2 := aside ((Below.refl X1'.heap.size X1').grown gr2 (Nat.le_refl _) (fun j e => by cases e))
          clear own2 gr2
          have KZ := aside (heap_alloc_new w2 (.cells #[.int .u8 115] 5))
          have NB := bnew w2 (.cells #[.int .u8 115] 5)
          have O2' := aside (own_on O2.out NB)
          have B3 := aside (bthen B2.out NB)
          have ZA := aside (show ByIn (w2.alloc (.cells #[.int .u8 115] 5)) (some ⟨w2.heap.size, 0, none⟩) 1 1 [115] from ⟨rfl, Nat.le_refl _, by unfold maxLen; omega, .inr ⟨_, rfl, World.news_of_block (cs := #[.int .u8 115]) (t := 5) (fr := (0, 0)) KZ.out⟩⟩)
          clear NB KZ B2 O2
          obtain ⟨c0, c1, c2, c3, c4⟩ := five (blk_on K1.out B3.out)
          go_wp2_with (at_builtin; refine wpList_plain rfl fun K9 hK => ?_; refine op_append_by2 _ _ rfl X1'.heap.size v2 LL (by rfl) (by rw [HIN.out.1.1]; exact O2'.out) (some ⟨w2.heap.size, 0, none⟩) 1 1 [115] (by rfl) ZA.out ?_ B3.out.size ?_; exact (by omega); intro v3 w3 own3 gr3; refine hK _ _ ?_; refine Hid.out ?_)
          refine aside ?_
          have B4 := aside (B3.out.grown gr3 B3.out.size (fun j e => (O2'.out.lt j e).1))
          rw [hLd] at own3
          obtain ⟨a3, c, rfl, hc1, hc2, ⟨-, hc3, -⟩ | ⟨g, rfl, hg1, hg2⟩⟩ := own_slice own3
          · omega
          have O3 := aside own3
          have K3 := aside (blk_on K1.out B4.out)
          have D3 := aside ((D1.out.excl (E := fun j => (Value.slice (some ⟨g, 0, none⟩) (dl + 1) c).ownBlock = some j) (fun j hj => (O3.out.lt j hj).1)).on B4.out)
          have HG2 := aside hg2
          have HE3 := aside (show ∀ j, (Value.slice (some ⟨g, 0, none⟩) (dl + 1) c).ownBlock = some j → j < w3.heap.size from fun j hj => (O3.out.lt j hj).2)
          obtain ⟨⟨n9, e9, s9⟩, hs9⟩ : ∃ y, sndP rm s fr ds dl LL = y := ⟨_, rfl⟩
          have LE9 := aside (show s9.le (k + 1) from by have h1 := snd_le (room := rm) HLE.out.1 fr ds dl LL; rw [hs9] at h1; exact h1)
          have CS := aside (fun (W : World) (bb : Below w3.heap.size w3 W) => c_send (D3.out.on bb) (fun j hj => Nat.lt_of_lt_of_le (HE3.out j hj) bb.size) fr ds (some ⟨g, 0, none⟩) dl c LL (byIn_pre (own_on O3.out bb) HIN.out.1.1) (fun x hx => by
            injection hx with hx
            subst hx
            exact own_u8 (own_on O3.out bb) g rfl) HLE.out.1 HKB.out)
          have CR := aside (fun (W : World) (D : SB (fun j => (Value.slice (some ⟨g, 0, none⟩) (dl + 1) c).ownBlock = some j) w W b bR rm s9 s (.slice ai n ci) K) (hh : w3.heap.size ≤ W.heap.size) => r_send D (fun j hj => Nat.lt_of_lt_of_le (HE3.out j hj) hh) fr ds da dl dc LL (HIN.out.1.on D.bel) HLE.out.1 HKB.out)
          rw [hs9] at CS CR
          dsimp only at CS CR
          have SX := aside (fun (Y : World) (ko : KO w3 Y) => (show (fun W => W.cell? ⟨q1, 1, none⟩ = some (.int .i64 fr) ∧ W.cell? ⟨q1, 2, none⟩ = some (.int .i64 ds) ∧ W.cell? ⟨q1, 4, none⟩ = some (.slice da dl dc)) Y from by
            obtain ⟨y0, y1, y2, y3, y4⟩ := five (ko.2 _ (by decide) (by decide) (by decide) _ _ K3.out)
            exact ⟨y1, y2, y4⟩))
          have hb0 : Below w3.heap.size w3 w3.drew := (Below.refl _ w3).drew
          have hcc : (dl : Int) ≤ (c : Int) := by omega
          have hcc2 : (c : Int) ≤ 9223372036854775807 := by unfold maxLen at hc2; omega
          have hdl2 : (dl : Int) ≤ 140737488351232 := by omega
          have hdl0 : (0 : Int) ≤ (dl : Int) := by omega
          clear own3 gr3 B3 B4 ZA O2' hc1 hc2 hg1 hg2 hs9 c0 c1 c2 c3 c4 D1
          go_upto_region 21 with fail
          refine wp_region_held_drew (S := fun W => W.cell? ⟨q1, 1, none⟩ = some (.int .i64 fr) ∧ W.cell? ⟨q1, 2, none⟩ = some (.int .i64 ds) ∧ W.cell? ⟨q1, 4, none⟩ = some (.slice da dl dc)) (by kernel_rfl) (SX.out _ (KO.of_below hb0)) (fun hHeld => ?_)
          refine wpAnyH_take (i := 0) (v := ?_) rfl (by kernel_rfl) (by kernel_rfl) (by kernel_rfl) (fun _ _ _ h => h) (Or.inl ⟨by rfl, ?_⟩) (by assumption) ?_
          rotate_left
          · intro w hSw
            go_simp
            try with_reducible rfl
          simp only [Act.put, List.getElem_toArray, List.getElem_cons_zero, List.setIfInBounds_toArray, List.set_cons_zero, List.set_cons_succ]
          refine wpAnyH_take (i := 1) (v := ?_) rfl (by kernel_rfl) (by kernel_rfl) (by kernel_rfl) (fun _ _ _ h => h) (Or.inl ⟨by rfl, ?_⟩) (by assumption) ?_
          rotate_left
          · intro w hSw
            go_simp
            try with_reducible rfl
          simp only [Act.put, List.getElem_toArray, List.getElem_cons_zero, List.getElem_cons_succ, List.setIfInBounds_toArray, List.set_cons_zero, List.set_cons_succ]
          refine wpAnyH_take (i := 2) (v := ?_) rfl (by kernel_rfl) (by kernel_rfl) (by kernel_rfl) (fun _ _ _ h => h) (Or.inl ⟨by rfl, ?_⟩) (by assumption) ?_
          rotate_left
          · intro w hSw
            go_simp
            try with_reducible rfl
          simp only [Act.put, List.getElem_toArray, List.getElem_cons_zero, List.getElem_cons_succ, List.setIfInBounds_toArray, List.set_cons_zero, List.set_cons_succ]
          refine wpAnyH_take (i := 3) (v := ?_) rfl (by kernel_rfl) (by kernel_rfl) (by kernel_rfl) (fun _ _ _ h => h) (Or.inl ⟨by rfl, ?_⟩) (by assumption) ?_
          rotate_left
          · intro w hSw
            go_simp
            try with_reducible rfl
          simp only [Act.put, List.getElem_toArray, List.getElem_cons_zero, List.getElem_cons_succ, List.setIfInBounds_toArray, List.set_cons_zero, List.set_cons_succ]
          refine wpAnyH_take (i := 4) (v := ?_) rfl (by kernel_rfl) (by kernel_rfl) (by kernel_rfl) (fun _ _ _ h => h) (Or.inl ⟨by rfl, ?_⟩) (by assumption) ?_
          rotate_left
          · intro w hSw
            go_simp
            try with_reducible rfl
          simp only [Act.put, List.getElem_toArray, List.getElem_cons_zero, List.getElem_cons_succ, List.setIfInBounds_toArray, List.set_cons_zero, List.set_cons_succ]
          refine wpAnyH_take (i := 5) (v := ?_) rfl (by kernel_rfl) (by kernel_rfl) (by kernel_rfl) (fun _ _ _ h => h) (Or.inl ⟨by rfl, ?_⟩) (by assumption) ?_
          rotate_left
          · intro w hSw
            go_simp
            try with_reducible rfl
          simp only [Act.put, List.getElem_toArray, List.getElem_cons_zero, List.getElem_cons_succ, List.setIfInBounds_toArray, List.set_cons_zero, List.set_cons_succ]
          refine wpAnyH_take (i := 6) (v := ?_) rfl (by kernel_rfl) (by kernel_rfl) (by kernel_rfl) (fun _ _ _ h => h) (Or.inl ⟨by rfl, ?_⟩) (by assumption) ?_
          rotate_left
          · intro w hSw
            go_simp
            try with_reducible rfl
          simp only [Act.put, List.getElem_toArray, List.getElem_cons_zero, List.getElem_cons_succ, List.setIfInBounds_toArray, List.set_cons_zero, List.set_cons_succ]
          refine wpAnyH_take (i := 7) (v := ?_) rfl (by kernel_rfl) (by kernel_rfl) (by kernel_rfl) (fun _ _ _ h => h) (Or.inl ⟨by rfl, ?_⟩) (by assumption) ?_
          rotate_left
          · intro w hSw
            go_simp
            try with_reducible rfl
          simp only [Act.put, List.getElem_toArray, List.getElem_cons_zero, List.getElem_cons_succ, List.setIfInBounds_toArray, List.set_cons_zero, List.set_cons_succ]
          refine wpAnyH_take (i := 8) (v := ?_) rfl (by kernel_rfl) (by kernel_rfl) (by kernel_rfl) (fun _ _ _ h => h) (Or.inl ⟨by rfl, ?_⟩) (by assumption) ?_
          rotate_left
          · intro w hSw
            go_simp
            try with_reducible rfl
          simp only [Act.put, List.getElem_toArray, List.getElem_cons_zero, List.getElem_cons_succ, List.setIfInBounds_toArray, List.set_cons_zero, List.set_cons_succ]
          refine wpAnyH_take (i := 9) (v := ?_) rfl (by kernel_rfl) (by kernel_rfl) (by kernel_rfl) (fun _ _ _ h => h) (Or.inl ⟨by rfl, ?_⟩) (by assumption) ?_
          rotate_left
          · intro w hSw
            go_simp
            try with_reducible rfl
          simp only [Act.put, List.getElem_toArray, List.getElem_cons_zero, List.getElem_cons_succ, List.setIfInBounds_toArray, List.set_cons_zero, List.set_cons_succ]
          refine wpAnyH_ready (rs := [10]) (by kernel_rfl) (by simp) ?_
          refine AllReadyH.cons rfl (fun K hK => ?_) AllReadyH.nil
          go_simp
          refine (CS.out _ hb0).mono ?_
          rintro e w9 ⟨rfl, sb9, ko9⟩
          refine hK.out _ _ (SX.out _ ((KO.of_below hb0).t ko9)) (fun hHeld => ?_)
          clear hK K 
          refine wpAnyH_take (i := 11) (v := ?_) rfl (by kernel_rfl) (by kernel_rfl) (by kernel_rfl) (fun _ _ _ h => h) (Or.inl ⟨by rfl, ?_⟩) (by assumption) ?_
          rotate_left
          · intro w hSw
            go_simp
            try with_reducible rfl
          simp only [Act.put, List.getElem_toArray, List.getElem_cons_zero, List.getElem_cons_succ, List.setIfInBounds_toArray, List.set_cons_zero, List.set_cons_succ]
          refine wpAnyH_take (i := 12) (v := ?_) rfl (by kernel_rfl) (by kernel_rfl) (by kernel_rfl) (fun _ _ _ h => h) (Or.inl ⟨by rfl, ?_⟩) (by assumption) ?_
          rotate_left
          · intro w hSw
            go_simp
            try with_reducible rfl
          simp only [Act.put, List.getElem_toArray, List.getElem_cons_zero, List.getElem_cons_succ, List.setIfInBounds_toArray, List.set_cons_zero, List.set_cons_succ]
          refine wpAnyH_take (i := 13) (v := ?_) rfl (by kernel_rfl) (by kernel_rfl) (by kernel_rfl) (fun _ _ _ h => h) (Or.inl ⟨by rfl, ?_⟩) (by assumption) ?_
          rotate_left
          · intro w hSw
            go_simp
            try with_reducible rfl
          simp only [Act.put, List.getElem_toArray, List.getElem_cons_zero, List.getElem_cons_succ, List.setIfInBounds_toArray, List.set_cons_zero, List.set_cons_succ]
          refine wpAnyH_take (i := 14) (v := ?_) rfl (by kernel_rfl) (by kernel_rfl) (by kernel_rfl) (fun _ _ _ h => h) (Or.inl ⟨by rfl, ?_⟩) (by assumption) ?_
          rotate_left
          · intro w hSw
            go_simp
            try with_reducible rfl
          simp only [Act.put, List.getElem_toArray, List.getElem_cons_zero, List.getElem_cons_succ, List.setIfInBounds_toArray, List.set_cons_zero, List.set_cons_succ]
          refine wpAnyH_take (i := 15) (v := ?_) rfl (by kernel_rfl) (by kernel_rfl) (by kernel_rfl) (fun _ _ _ h => h) (Or.inl ⟨by rfl, ?_⟩) (by assumption) ?_
          rotate_left
          · intro w hSw
            go_simp
            try with_reducible rfl
          simp only [Act.put, List.getElem_toArray, List.getElem_cons_zero, List.getElem_cons_succ, List.setIfInBounds_toArray, List.set_cons_zero, List.set_cons_succ]
          refine wpAnyH_done (by kernel_rfl) ?_ _
          have K9 := aside (ko9.2 _ (by decide) (by decide) (by decide) _ _ K3.out)
          have O9 := aside (own_ko ko9 (own_on O3.out hb0) (by decide) (by decide) (by decide))
          have HS9 := aside (show w3.heap.size ≤ w9.heap.size from ko9.1)
          replace CR := aside (CR.out w9 sb9 HS9.out)
          clear hHeld sb9 ko9 SX hb0 O3 D3 K3 CS
          obtain ⟨c0, c1, c2, c3, c4⟩ := five K9.out
          go_wp2_with fail
          refine CR.out.mono ?_
          rintro e w10 ⟨rfl, sb10, ko10⟩
          have D10 := aside sb10
          have O10 := aside (own_ko ko10 O9.out (by decide) (by decide) (by decide))
          clear c0 c1 c2 c3 c4
          have K10 := aside (ko10.2 _ (by decide) (by decide) (by decide) _ _ K9.out)
          obtain ⟨c0, c1, c2, c3, c4⟩ := five K10.out
          have q1' := byIn_conv (byIn_own O10.out)
          have q2' := byIn_conv (HIN.out.1.on D10.out.bel)
          have hcat := cat_byteB LL
          have W0 := aside (Wrote.own O10.out)
          clear sb10 ko10 CR O9 K9
          go_upto_region 24 with fail
          clear q1' q2' hcat c0 c1 c2 c3 c4
          go_wp2_with fail
          go_loopw [140] (fun i Y => ∃ j : Nat, i = .int .i64 (j : Int) ∧ j ≤ dl + 1 ∧ Hid (Wrote w10 Y (some ⟨g, 0, none⟩) (dl + 1) c)) (fun i _ => dl + 1 - (intOf i).toNat)
          case atStart => exact ⟨0, rfl, Nat.zero_le _, W0.out⟩
          case round =>
            clear W0
            obtain ⟨j, rfl, hj, WR⟩ := hrel
            have hj0 : (0 : Int) ≤ (j : Int) := by omega
            have hjn : (j : Int) ≤ 140737488351232 + 1 := by omega
            by_cases hlt : (j : Int) < (dl : Int) + 1
            · obtain ⟨g5, cur, e5, hg5, hsz⟩ := WR.out.c (by omega)
              injection e5 with e5
              injection e5 with e5
              subst e5
              obtain ⟨z9, z0⟩ : ∃ z9, wr.cell? ⟨g, j, none⟩ = some z9 := by
                rw [cell_of_row _ _ _ _ _ _ hg5]
                exact ⟨_, Array.getElem?_eq_getElem (by omega)⟩
              have f0 := frozen_of_row wr g j _ _ hg5
              have W2 := aside (WR.out.set (j := j) (by omega) (.int .u8 120))
              clear hg5
              go_wp2
              go_roundw
              case rel => exact ⟨j + 1, by first | rfl | go_num, by omega, W2.out⟩
              case measure => simp [intOf] <;> omega
            · have DT := aside (D10.out.byte WR.out.k (own_u8 O10.out) (fun j hj => Nat.le_trans B1.out.size (O10.out.lt j hj).1))
              clear hj hjn
              as_aux_lemma =>
                have TL := aside (c_len DT.out)
                have TR := aside (r_len DT.out)
                have TO := aside (c_lost DT.out)
                have TP := aside (r_lost DT.out)
                have SLE := aside (show s9.le (k + 1) ∧ K.length ≤ k + 1 from ⟨LE9.out, Nat.le_succ_of_le HLE.out.2⟩)
                go_wp2_with fail
                refine (TL.out).mono ?_
                rintro e W9 ⟨rfl, rfl⟩
                go_wp2_with fail
                refine (TR.out).mono ?_
                rintro e W9 ⟨rfl, rfl⟩
                go_wp2_with fail
                refine (TO.out).mono ?_
                rintro e W9 ⟨rfl, rfl⟩
                go_wp2_with fail
                refine (TP.out).mono ?_
                rintro e W9 ⟨rfl, rfl⟩
                go_wp2
                go_roundw
                case rel => exact ⟨k + 1, s9, K, _, _, _, by first | rfl | go_num, by have := HKL.out.1; omega, rfl, DT.out, SLE.out, HN.out⟩
                case measure => have := HKL.out.1; simp [intOf] <;> omega
      | 2, _ =>
        as_aux_lemma =>
          obtain ⟨⟨P9, e9, s9⟩, hs9⟩ : ∃ y, tkP s ix = y := ⟨_, rfl⟩
          have LE9 := aside (show s9.le (k + 1) from by have h1 := tk_le HLE.out.1 ix; rw [hs9] at h1; exact h1)
          have CS := aside (c_take D1.out ix)
          have CR := aside (fun (W1 W : World) (E : Nat → Prop) (D : SB E w W1 b bR rm s9 s (.slice ai n ci) K) (bb : Below W1.heap.size W1 W) => r_take D bb ix)
          rw [hs9] at CS CR
          dsimp only at CS CR
          have B1 := aside D1.out.bel
          clear hs9
          go_wp2_with fail
          refine CS.out.mono ?_
          rintro e w9 ⟨⟨num, frm, dst, pa, pn, pc, PL⟩, rfl, hp9, hd9, sb9, ko9⟩
          unfold Pk.v
          dsimp only at hd9 sb9 ⊢
          have HP9 := aside hp9
          obtain ⟨V9, hV9⟩ : ∃ X, w9.alloc (.cells #[.int .i64 num, .int .i64 frm, .int .i64 dst, .slice pa pn pc] 39) = X := ⟨_, rfl⟩
          obtain ⟨q2, hq2⟩ : ∃ q, w9.heap.size = q := ⟨_, rfl⟩
          have b2 := bnew w9 (.cells #[.int .i64 num, .int .i64 frm, .int .i64 dst, .slice pa pn pc] 39)
          have k2 := heap_alloc_new w9 (.cells #[.int .i64 num, .int .i64 frm, .int .i64 dst, .slice pa pn pc] 39)
          rw [hV9] at b2 k2
          rw [hq2] at k2
          have D9 := aside (sb9.on b2)
          have H9 := aside (hd9.on b2)
          have N9 := aside (show w.heap.size ≤ X1'.heap.size from B1.out.size)
          have K9 := aside (blk_on (ko9.2 _ (by decide) (by decide) (by decide) _ _ K1.out) b2)
          have KQ := aside k2
          replace CR := aside (CR.out w9 V9 _ sb9 b2)
          have HQ9 := aside (show w9.heap.size ≤ q2 ∧ q2 < V9.heap.size from ⟨by rw [hq2]; exact Nat.le_refl _, lt_of_blk k2⟩)
          clear hp9 hd9 sb9 ko9 CS b2 k2 c0 c1 c2 c3 c4 D1
          go_upto_region 31 with fail
          try rw [hV9]
          try rw [hq2]
          clear hV9 hq2
          obtain ⟨c0, c1, c2, c3, c4⟩ := five K9.out
          go_wp2_with fail
          refine CR.out.mono ?_
          rintro e w10 ⟨⟨num2, frm2, dst2, pa2, pn2, pc2, PL2⟩, rfl, hp10, hy10, sb10, ko10, st10⟩
          unfold Pk.v
          dsimp only at hy10 ⊢
          obtain ⟨V10, hV10⟩ : ∃ X, w10.alloc (.cells #[.int .i64 num2, .int .i64 frm2, .int .i64 dst2, .slice pa2 pn2 pc2] 39) = X := ⟨_, rfl⟩
          obtain ⟨q3, hq3⟩ : ∃ q, w10.heap.size = q := ⟨_, rfl⟩
          have b3 := bnew w10 (.cells #[.int .i64 num2, .int .i64 frm2, .int .i64 dst2, .slice pa2 pn2 pc2] 39)
          have k3 := heap_alloc_new w10 (.cells #[.int .i64 num2, .int .i64 frm2, .int .i64 dst2, .slice pa2 pn2 pc2] 39)
          rw [hV10] at b3 k3
          rw [hq3] at k3
          have D10 := aside (sb10.on b3)
          have H10 := aside (own_on (own_ko ko10 H9.out.1 (by decide) (by decide) (by decide)) b3)
          have K10 := aside (blk_on (ko10.2 _ (by decide) (by decide) (by decide) _ _ K9.out) b3)
          have KQ10 := aside (blk_on ((st10 q2 HQ9.out.1 HQ9.out.2).trans KQ.out) b3)
          have K3 := aside k3
          have RS := aside (rsame_yes ⟨num, frm, dst, pa, pn, pc, PL⟩ ⟨num2, frm2, dst2, pa2, pn2, pc2, PL2⟩ V10 (HP9.out.trans hp10.symm) (byIn_own H10.out) (hy10.on b3))
          unfold Pk.v at RS
          dsimp only at RS
          have hpn : (pn : Int) ≤ 65536 := by have := H9.out.2; dsimp only at this; omega
          clear hp10 hy10 sb10 ko10 st10 b3 k3 c0 c1 c2 c3 c4 CR D9 H9 K9 KQ HQ9
          go_upto_region 32 with fail
          try rw [hV10]
          try rw [hq3]
          clear hV10 hq3
          obtain ⟨e0, e1, e2, e3⟩ := fourB KQ10.out
          obtain ⟨f0, f1, f2, f3⟩ := fourB K3.out
          go_wp2_with fail
          refine RS.out.mono ?_
          rintro e w11 ⟨rfl, b11⟩
          have D11 := aside (D10.out.on b11)
          have H11 := aside (own_on H10.out b11)
          have KQ11 := aside (blk_on KQ10.out b11)
          have hpn0 : (pn : Int) ≤ 9223372036854775807 := by omega
          have W0 := aside (Wrote.own H11.out)
          clear e0 e1 e2 e3 f0 f1 f2 f3 RS b11 D10 H10 KQ10 K3
          go_upto_region 33 with fail
          obtain ⟨e0, e1, e2, e3⟩ := fourB KQ11.out
          go_wp2_with fail
          clear e0 e1 e2 e3
          go_loopw [174] (fun i Y => ∃ j : Nat, i = .int .i64 (j : Int) ∧ j ≤ pn ∧ Hid (Wrote w11 Y pa pn pc)) (fun i _ => pn - (intOf i).toNat)
          case atStart => exact ⟨0, rfl, Nat.zero_le _, W0.out⟩
          case round =>
            clear W0
            obtain ⟨j, rfl, hj, WR⟩ := hrel
            have hj0 : (0 : Int) ≤ (j : Int) := by omega
            have hjn : (j : Int) ≤ 65536 := by omega
            by_cases hlt : (j : Int) < (pn : Int)
            · obtain ⟨g5, cur, rfl, hg5, hsz⟩ := WR.out.c (by omega)
              have HE2 := aside (blk_keep KQ11.out WR.out.k (fun hs => own_typed H11.out KQ11.out (by decide) hs))
              obtain ⟨e0, e1, e2, e3⟩ := fourB HE2.out
              obtain ⟨z9, z0⟩ : ∃ z9, wr.cell? ⟨g5, j, none⟩ = some z9 := by
                rw [cell_of_row _ _ _ _ _ _ hg5]
                exact ⟨_, Array.getElem?_eq_getElem (by omega)⟩
              have f0 := frozen_of_row wr g5 j _ _ hg5
              have W2 := aside (WR.out.set (j := j) (by omega) (.int .u8 121))
              clear hg5 e0 e1 e2
              go_wp2
              go_roundw
              case rel => exact ⟨j + 1, by first | rfl | go_num, by omega, W2.out⟩
              case measure => simp [intOf] <;> omega
            · have DT := aside (D11.out.byte WR.out.k (own_u8 H11.out) (fun j hj => Nat.le_trans N9.out (H11.out.lt j hj).1))
              clear hj hjn
              as_aux_lemma =>
                have TL := aside (c_len DT.out)
                have TR := aside (r_len DT.out)
                have TO := aside (c_lost DT.out)
                have TP := aside (r_lost DT.out)
                have SLE := aside (show s9.le (k + 1) ∧ K.length ≤ k + 1 from ⟨LE9.out, Nat.le_succ_of_le HLE.out.2⟩)
                go_wp2_with fail
                refine (TL.out).mono ?_
                rintro e W9 ⟨rfl, rfl⟩
                go_wp2_with fail
                refine (TR.out).mono ?_
                rintro e W9 ⟨rfl, rfl⟩
                go_wp2_with fail
                refine (TO.out).mono ?_
                rintro e W9 ⟨rfl, rfl⟩
                go_wp2_with fail
                refine (TP.out).mono ?_
                rintro e W9 ⟨rfl, rfl⟩
                go_wp2
                go_roundw
                case rel => exact ⟨k + 1, s9, K, _, _, _, by first | rfl | go_num, by have := HKL.out.1; omega, rfl, DT.out, SLE.out, HN.out⟩
                case measure => have := HKL.out.1; simp [intOf] <;> omega
      | 3, _ =>
        as_aux_lemma =>
          obtain ⟨⟨e9, s9⟩, hs9⟩ : ∃ y, drP s ix = y := ⟨_, rfl⟩
          have LE9 := aside (show s9.le (k + 1) from by have h1 := dr_le HLE.out.1 ix; rw [hs9] at h1; exact h1)
          have CS := aside (fun (W : World) (bb : Below X1'.heap.size X1' W) => c_drop (D1.out.on bb) ix HLE.out.1 HKB.out)
          have CR := aside (fun (W : World) (D : SB (fun _ => False) w W b bR rm s9 s (.slice ai n ci) K) => r_drop D ix HLE.out.1 HKB.out)
          rw [hs9] at CS CR
          dsimp only at CS CR
          have SX := aside (fun (Y : World) (ko : KO X1' Y) => (show Y.cell? ⟨q1, 3, none⟩ = some (.int .i64 ix) from by
            obtain ⟨y0, y1, y2, y3, y4⟩ := five (ko.2 _ (by decide) (by decide) (by decide) _ _ K1.out)
            exact y3))
          have hb0 : Below X1'.heap.size X1' X1'.drew := (Below.refl _ X1').drew
          clear hs9 c0 c1 c2 c3 c4
          go_upto_region 39 with fail
          refine wp_region_held_drew (S := fun W => W.cell? ⟨q1, 3, none⟩ = some (.int .i64 ix)) (by kernel_rfl) (SX.out _ (KO.of_below hb0)) (fun hHeld => ?_)
          refine wpAnyH_take (i := 0) (v := ?_) rfl (by kernel_rfl) (by kernel_rfl) (by kernel_rfl) (fun _ _ _ h => h) (Or.inl ⟨by rfl, ?_⟩) (by assumption) ?_
          rotate_left
          · intro w hSw
            go_simp
            try with_reducible rfl
          simp only [Act.put, List.getElem_toArray, List.getElem_cons_zero, List.setIfInBounds_toArray, List.set_cons_zero, List.set_cons_succ]
          refine wpAnyH_take (i := 1) (v := ?_) rfl (by kernel_rfl) (by kernel_rfl) (by kernel_rfl) (fun _ _ _ h => h) (Or.inl ⟨by rfl, ?_⟩) (by assumption) ?_
          rotate_left
          · intro w hSw
            go_simp
            try with_reducible rfl
          simp only [Act.put, List.getElem_toArray, List.getElem_cons_zero, List.getElem_cons_succ, List.setIfInBounds_toArray, List.set_cons_zero, List.set_cons_succ]
          refine wpAnyH_take (i := 2) (v := ?_) rfl (by kernel_rfl) (by kernel_rfl) (by kernel_rfl) (fun _ _ _ h => h) (Or.inl ⟨by rfl, ?_⟩) (by assumption) ?_
          rotate_left
          · intro w hSw
            go_simp
            try with_reducible rfl
          simp only [Act.put, List.getElem_toArray, List.getElem_cons_zero, List.getElem_cons_succ, List.setIfInBounds_toArray, List.set_cons_zero, List.set_cons_succ]
          refine wpAnyH_take (i := 4) (v := ?_) rfl (by kernel_rfl) (by kernel_rfl) (by kernel_rfl) (fun _ _ _ h => h) (Or.inl ⟨by rfl, ?_⟩) (by assumption) ?_
          rotate_left
          · intro w hSw
            go_simp
            try with_reducible rfl
          simp only [Act.put, List.getElem_toArray, List.getElem_cons_zero, List.getElem_cons_succ, List.setIfInBounds_toArray, List.set_cons_zero, List.set_cons_succ]
          refine wpAnyH_take (i := 5) (v := ?_) rfl (by kernel_rfl) (by kernel_rfl) (by kernel_rfl) (fun _ _ _ h => h) (Or.inl ⟨by rfl, ?_⟩) (by assumption) ?_
          rotate_left
          · intro w hSw
            go_simp
            try with_reducible rfl
          simp only [Act.put, List.getElem_toArray, List.getElem_cons_zero, List.getElem_cons_succ, List.setIfInBounds_toArray, List.set_cons_zero, List.set_cons_succ]
          refine wpAnyH_take (i := 6) (v := ?_) rfl (by kernel_rfl) (by kernel_rfl) (by kernel_rfl) (fun _ _ _ h => h) (Or.inl ⟨by rfl, ?_⟩) (by assumption) ?_
          rotate_left
          · intro w hSw
            go_simp
            try with_reducible rfl
          simp only [Act.put, List.getElem_toArray, List.getElem_cons_zero, List.getElem_cons_succ, List.setIfInBounds_toArray, List.set_cons_zero, List.set_cons_succ]
          refine wpAnyH_ready (rs := [3]) (by kernel_rfl) (by simp) ?_
          refine AllReadyH.cons rfl (fun K hK => ?_) AllReadyH.nil
          go_simp
          refine (CS.out _ hb0).mono ?_
          rintro e w9 ⟨rfl, sb9, ko9⟩
          refine hK.out _ _ (SX.out _ ((KO.of_below hb0).t ko9)) (fun hHeld => ?_)
          clear hK K 
          refine wpAnyH_ready (rs := [7]) (by kernel_rfl) (by simp) ?_
          refine AllReadyH.cons rfl (fun K hK => ?_) AllReadyH.nil
          go_simp
          refine (CR.out _ sb9).mono ?_
          rintro e w10 ⟨rfl, sb10, ko10⟩
          refine hK.out _ _ (SX.out _ (((KO.of_below hb0).t ko9).t ko10)) (fun hHeld => ?_)
          clear hK K 
          refine wpAnyH_take (i := 8) (v := ?_) rfl (by kernel_rfl) (by kernel_rfl) (by kernel_rfl) (fun _ _ _ h => h) (Or.inl ⟨by rfl, ?_⟩) (by assumption) ?_
          rotate_left
          · intro w hSw
            go_simp
            try with_reducible rfl
          simp only [Act.put, List.getElem_toArray, List.getElem_cons_zero, List.getElem_cons_succ, List.setIfInBounds_toArray, List.set_cons_zero, List.set_cons_succ]
          refine wpAnyH_take (i := 9) (v := ?_) rfl (by kernel_rfl) (by kernel_rfl) (by kernel_rfl) (fun _ _ _ h => h) (Or.inl ⟨by rfl, ?_⟩) (by assumption) ?_
          rotate_left
          · intro w hSw
            go_simp
            try with_reducible rfl
          simp only [Act.put, List.getElem_toArray, List.getElem_cons_zero, List.getElem_cons_succ, List.setIfInBounds_toArray, List.set_cons_zero, List.set_cons_succ]
          refine wpAnyH_done (by kernel_rfl) ?_ _
          have DT := aside sb10
          clear hHeld sb10 sb9 ko9 ko10 SX hb0 CS CR D1
          as_aux_lemma =>
            have TL := aside (c_len DT.out)
            have TR := aside (r_len DT.out)
            have TO := aside (c_lost DT.out)
            have TP := aside (r_lost DT.out)
            have SLE := aside (show s9.le (k + 1) ∧ K.length ≤ k + 1 from ⟨LE9.out, Nat.le_succ_of_le HLE.out.2⟩)
            go_wp2_with fail
            refine (TL.out).mono ?_
            rintro e W9 ⟨rfl, rfl⟩
            go_wp2_with fail
            refine (TR.out).mono ?_
            rintro e W9 ⟨rfl, rfl⟩
            go_wp2_with fail
            refine (TO.out).mono ?_
            rintro e W9 ⟨rfl, rfl⟩
            go_wp2_with fail
            refine (TP.out).mono ?_
            rintro e W9 ⟨rfl, rfl⟩
            go_wp2
            go_roundw
            case rel => exact ⟨k + 1, s9, K, _, _, _, by first | rfl | go_num, by have := HKL.out.1; omega, rfl, DT.out, SLE.out, HN.out⟩
            case measure => have := HKL.out.1; simp [intOf] <;> omega
      | 4, _ =>
        as_aux_lemma =>
          obtain ⟨⟨n9, e9, s9⟩, hs9⟩ : ∃ y, dbP rm s ix = y := ⟨_, rfl⟩
          have LE9 := aside (show s9.le (k + 1) from by have h1 := db_le (room := rm) HLE.out.1 ix; rw [hs9] at h1; exact h1)
          have CS := aside (c_double D1.out (fun j hj => (nomatch hj)) ix HLE.out.1 HKB.out)
          have CR := aside (fun (W : World) (D : SB (fun _ => False) w W b bR rm s9 s (.slice ai n ci) K) => r_double D (fun j hj => (nomatch hj)) ix HLE.out.1 HKB.out)
          rw [hs9] at CS CR
          dsimp only at CS CR
          clear hs9
          go_wp2_with fail
          refine CS.out.mono ?_
          rintro e w9 ⟨rfl, sb9, ko9⟩
          have K9 := aside (ko9.2 _ (by decide) (by decide) (by decide) _ _ K1.out)
          replace CR := aside (CR.out w9 sb9)
          clear c0 c1 c2 c3 c4 CS sb9 ko9 D1
          obtain ⟨c0, c1, c2, c3, c4⟩ := five K9.out
          go_wp2_with fail
          refine CR.out.mono ?_
          rintro e w10 ⟨rfl, sb10, ko10⟩
          have DT := aside sb10
          clear c0 c1 c2 c3 c4 CR sb10 ko10
          go_upto_region 47 with fail
          as_aux_lemma =>
            have TL := aside (c_len DT.out)
            have TR := aside (r_len DT.out)
            have TO := aside (c_lost DT.out)
            have TP := aside (r_lost DT.out)
            have SLE := aside (show s9.le (k + 1) ∧ K.length ≤ k + 1 from ⟨LE9.out, Nat.le_succ_of_le HLE.out.2⟩)
            go_wp2_with fail
            refine (TL.out).mono ?_
            rintro e W9 ⟨rfl, rfl⟩
            go_wp2_with fail
            refine (TR.out).mono ?_
            rintro e W9 ⟨rfl, rfl⟩
            go_wp2_with fail
            refine (TO.out).mono ?_
            rintro e W9 ⟨rfl, rfl⟩
            go_wp2_with fail
            refine (TP.out).mono ?_
            rintro e W9 ⟨rfl, rfl⟩
            go_wp2
            go_roundw
            case rel => exact ⟨k + 1, s9, K, _, _, _, by first | rfl | go_num, by have := HKL.out.1; omega, rfl, DT.out, SLE.out, HN.out⟩
            case measure => have := HKL.out.1; simp [intOf] <;> omega
      | 5, _ =>
        as_aux_lemma =>
          have HKB2 := aside (show k ≤ 2513169434917 from HKL.out.2)
          have CA := aside (c_all D1.out)
          have HNB := aside (show n ≤ 2513169434917 from by rw [← HN.out]; exact Nat.le_trans HLE.out.2 HKB2.out)
          go_wp2_with fail
          refine CA.out.mono ?_
          rintro e w8 ⟨b8, u, rfl, hu, v, l, vR, lR, a, c, rfl, h1, h2, h3, hbox⟩
          have H1 := aside h1
          have H2 := aside h2
          have H3 := aside h3
          have B8 := aside b8
          have HBOX := aside hbox
          have RA := aside (rall_any (h1.rb.on b8))
          clear h1 h2 h3 b8 hu hbox CA
          go_wp2_with fail
          refine RA.out.mono ?_
          rintro e w9 ⟨a2, c2, l2, rfl, hst⟩
          have WKK := aside (H1.out.walk B8.out HBOX.out (H3.out.trans H2.out.symm) hst)
          have B9 := aside (bthen B8.out hst.bel)
          have HLL := aside (show lR.length = l.length from by simpa using congrArg List.length (H3.out.trans H2.out.symm))
          rw [HLL.out]
          clear hst RA HBOX B8
          obtain ⟨kk, hkk⟩ : ∃ y, (⟨u, a, l.length, l, a2, c2, l2⟩ : Wk) = y := ⟨_, rfl⟩
          have bn := bnew w9 (.cells #[.func (.func 34) #[] #[.pointer (some ⟨u, 0, none⟩)], .slice a2 l.length c2] 51)
          have hn9 := heap_alloc_new w9 (.cells #[.func (.func 34) #[] #[.pointer (some ⟨u, 0, none⟩)], .slice a2 l.length c2] 51)
          have KN := aside (show RowIn wkV (w9.alloc (.cells #[.func (.func 34) #[] #[.pointer (some ⟨u, 0, none⟩)], .slice a2 l.length c2] 51)) (some ⟨w9.heap.size, 0, none⟩) 1 1 [kk] from by
            rw [← hkk]
            exact rowIn_new wkF ⟨u, a, l.length, l, a2, c2, l2⟩ hn9)
          have HKU := aside (show kk.u = u from by rw [← hkk])
          have BN := aside (bthen B9.out bn)
          have MO := aside (show ∃ v7 l7 vR7 lR7, SInv (fun _ => False) w (w9.alloc (.cells #[.func (.func 34) #[] #[.pointer (some ⟨u, 0, none⟩)], .slice a2 l.length c2] 51)) b v7 rm s.last s.lost l7 bR vR7 s.last s.lost lR7 (.slice ai n ci) K ∧ l7.map Pk.pl = s.pl ∧ lR7.map Pk.pl = s.pl ∧ WkOk w.heap.size (fun _ => False) (w9.alloc (.cells #[.func (.func 34) #[] #[.pointer (some ⟨u, 0, none⟩)], .slice a2 l.length c2] 51)) kk v7 l7 vR7 from
            ⟨_, l, vR, lR, H1.out.on BN.out, H2.out, H3.out, by rw [← hkk]; exact WKK.out.on bn⟩)
          have RN := aside (show (w9.alloc (.cells #[.func (.func 34) #[] #[.pointer (some ⟨u, 0, none⟩)], .slice a2 l.length c2] 51)).ownsRow w.heap.size 51 2 (.slice ai n ci) n (rowC wkV K) from by
            have h9 := (H1.out.on BN.out).row
            rw [HN.out] at h9
            exact h9)
          have HBS := aside (H1.out.on BN.out).bel.size
          clear bn hn9 WKK B9 HLL H1 H2 H3 hkk
          go_wp2_with (at_builtin; refine wpList_plain rfl fun K9 hK => op_append_rowC wkF Try.underlying31 infoWk rfl _ _ rfl w.heap.size n 1 (.slice ai n ci) K [kk] (by rfl) RN.out _ 1 (by rfl) KN.out (by have := HNB.out; omega) (by have := HNB.out; unfold maxLen; omega) HBS.out ?_; intro v5 w5 own5 g5 at5; refine hK _ _ ?_; refine Hid.out ?_)
          refine aside ?_
          have HLK := aside (show (K ++ [kk]).length = n + 1 from by rw [List.length_append, HN.out]; rfl)
          have D5 := aside (SB.more (s := s) (t := s) (E := (fun _ => False)) (b := b) (bR := bR) (room := rm) (K := K) (k := kk) (w0 := w) MO.out g5 (by rw [HLK.out]; exact own5))
          obtain ⟨a5, c5, rfl, hc51, hc52, -⟩ := own_slice own5
          have O5 := aside own5
          have hc53 : ((n : Int) + 1) ≤ (c5 : Int) := by omega
          have hc54 : (c5 : Int) ≤ 9223372036854775807 := by unfold maxLen at hc52; omega
          have hn0 : (n : Int) ≤ 2513169434917 := by have := HNB.out; omega
          clear own5 g5 at5 KN RN MO HBS BN hc51 hc52
          obtain ⟨g5, rfl, z0, z1⟩ := wk_at O5.out (i := n) (k := kk) (by rw [← HN.out, List.getElem?_append_right (Nat.le_refl _), Nat.sub_self]; rfl)
          rw [HKU.out] at z0
          have hfn : ∀ W, (binOp .neq 46 (.func (.func 34) #[] #[.pointer (some ⟨u, 0, none⟩)]) Value.nilFunc).run Try.prog W = .ok (.bool true) W := fun W => by kernel_rfl
          have hwn : IntKind.i64.wrap ((n : Int) + 1 - 1) = (n : Int) := by rw [IntKind.wrap_i64]; omega
          have hwn2 : (n : Int) + 1 - 1 = (n : Int) := by omega
          have hn00 : (0 : Int) ≤ (n : Int) := by omega
          have hn01 : (n : Int) < (n : Int) + 1 := by omega
          go_upto_region 47 with fail
          clear z0 z1 hfn hwn hwn2
          as_aux_lemma =>
            have TL := aside (c_len D5.out)
            have TR := aside (r_len D5.out)
            have TO := aside (c_lost D5.out)
            have TP := aside (r_lost D5.out)
            have SLE := aside (show s.le (k + 1) ∧ (K ++ [kk]).length ≤ k + 1 from ⟨HLE.out.1.up, by rw [HLK.out, ← HN.out]; exact Nat.succ_le_succ HLE.out.2⟩)
            go_wp2_with fail
            refine (TL.out).mono ?_
            rintro e W9 ⟨rfl, rfl⟩
            go_wp2_with fail
            refine (TR.out).mono ?_
            rintro e W9 ⟨rfl, rfl⟩
            go_wp2_with fail
            refine (TO.out).mono ?_
            rintro e W9 ⟨rfl, rfl⟩
            go_wp2_with fail
            refine (TP.out).mono ?_
            rintro e W9 ⟨rfl, rfl⟩
            go_wp2
            go_roundw
            case rel => exact ⟨k + 1, s, (K ++ [kk]), _, _, _, by first | rfl | go_num, by have := HKL.out.1; omega, rfl, D5.out, SLE.out, HLK.out⟩
            case measure => have := HKL.out.1; simp [intOf] <;> omega
      | 6, _ =>
        as_aux_lemma =>
          by_cases hn0 : n = 0
          · subst hn0
            go_upto_region 47 with fail
            clear c0 c1 c2 c3 c4
            as_aux_lemma =>
              have TL := aside (c_len D1.out)
              have TR := aside (r_len D1.out)
              have TO := aside (c_lost D1.out)
              have TP := aside (r_lost D1.out)
              have SLE := aside (show s.le (k + 1) ∧ K.length ≤ k + 1 from ⟨HLE.out.1.up, Nat.le_succ_of_le HLE.out.2⟩)
              go_wp2_with fail
              refine (TL.out).mono ?_
              rintro e W9 ⟨rfl, rfl⟩
              go_wp2_with fail
              refine (TR.out).mono ?_
              rintro e W9 ⟨rfl, rfl⟩
              go_wp2_with fail
              refine (TO.out).mono ?_
              rintro e W9 ⟨rfl, rfl⟩
              go_wp2_with fail
              refine (TP.out).mono ?_
              rintro e W9 ⟨rfl, rfl⟩
              go_wp2
              go_roundw
              case rel => exact ⟨k + 1, s, K, _, _, _, by first | rfl | go_num, by have := HKL.out.1; omega, rfl, D1.out, SLE.out, HN.out⟩
              case measure => have := HKL.out.1; simp [intOf] <;> omega
          · have hn1 : (0 : Int) < (n : Int) := by omega
            have HNB := aside (show n ≤ 2513169434917 from by rw [← HN.out]; exact Nat.le_trans HLE.out.2 HKL.out.2)
            have hnb : (n : Int) ≤ 2513169434917 := by have := HNB.out; omega
            obtain ⟨at_, hat, hat2⟩ := amg_lt ix (m := n) (by omega)
            have CA := fun W => amgs n (by omega) (by have := HNB.out; omega) ix W
            rw [hat] at CA
            replace CA := aside CA
            obtain ⟨kk, hkk⟩ : ∃ p, K[at_]? = some p := ⟨K[at_]'(by rw [HN.out]; exact hat2), List.getElem?_eq_getElem _⟩
            have HMEM := aside (List.mem_of_getElem? hkk)
            have HK5 := aside (D1.out.n5 (List.mem_of_getElem? hkk))
            have hrow := D1.out.row
            rw [HN.out] at hrow
            obtain ⟨g, rfl, z0, z1⟩ := wk_at hrow hkk
            have ha0 : (0 : Int) ≤ (at_ : Int) := by omega
            have ha1 : (at_ : Int) < (n : Int) := by omega
            clear hat hat2 hkk hrow
            obtain ⟨X2, hX2⟩ : ∃ X, X1'.alloc (.cells #[.func (.func 34) #[] #[.pointer (some ⟨kk.u, 0, none⟩)], .slice kk.a2 kk.n kk.c2] 51) = X := ⟨_, rfl⟩
            obtain ⟨q2, hq2⟩ : ∃ q, X1'.heap.size = q := ⟨_, rfl⟩
            have b2 := bnew X1' (.cells #[.func (.func 34) #[] #[.pointer (some ⟨kk.u, 0, none⟩)], .slice kk.a2 kk.n kk.c2] 51)
            have k2 := heap_alloc_new X1' (.cells #[.func (.func 34) #[] #[.pointer (some ⟨kk.u, 0, none⟩)], .slice kk.a2 kk.n kk.c2] 51)
            rw [hX2] at b2 k2
            rw [hq2] at k2
            have D2 := aside (D1.out.on b2)
            have K2 := aside k2
            have KO2 := aside (blk_on K1.out b2)
            have SX := aside (fun (Y : World) (bb : Below X2.heap.size X2 Y) => (show (fun W => W.cell? ⟨q1, 1, none⟩ = some (.int .i64 fr) ∧ W.cell? ⟨q1, 2, none⟩ = some (.int .i64 ds) ∧ W.cell? ⟨q2, 0, none⟩ = some (.func (.func 34) #[] #[.pointer (some ⟨kk.u, 0, none⟩)]) ∧ W.cell? ⟨q2, 1, none⟩ = some (.slice kk.a2 kk.n kk.c2)) Y from by
              obtain ⟨y0, y1, y2, y3, y4⟩ := five (blk_on KO2.out bb)
              obtain ⟨u0, u1⟩ := twoB (blk_on K2.out bb)
              exact ⟨y1, y2, u0, u1⟩))
            have hk5 : (kk.n : Int) ≤ 512 := by have := HK5.out; omega
            have CA2 := fun W => amgs (kk.n + 1) (by omega) (by omega) fr W
            have hwn : IntKind.i64.wrap ((kk.n : Int) + 1) = ((kk.n + 1 : Nat) : Int) := by simp only [IntKind.wrap_i64]; omega
            obtain ⟨n1, hn1'⟩ : ∃ y, kk.n + 1 = y := ⟨_, rfl⟩
            rw [hn1'] at CA2 hwn
            replace CA2 := aside CA2
            have hb0 : Below X2.heap.size X2 X2.drew := (Below.refl _ X2).drew
            clear b2 k2 hn1' D1
            go_wp2_with fail
            refine (CA.out _).mono ?_
            rintro e X1'' ⟨rfl, rfl⟩
            go_upto_region 17 with fail
            try rw [hX2]
            try rw [hq2]
            clear hX2 hq2 z0 z1 c0 c1 c2 c3 c4 CA
            refine wp_region_held_drew (S := fun W => W.cell? ⟨q1, 1, none⟩ = some (.int .i64 fr) ∧ W.cell? ⟨q1, 2, none⟩ = some (.int .i64 ds) ∧ W.cell? ⟨q2, 0, none⟩ = some (.func (.func 34) #[] #[.pointer (some ⟨kk.u, 0, none⟩)]) ∧ W.cell? ⟨q2, 1, none⟩ = some (.slice kk.a2 kk.n kk.c2)) (by kernel_rfl) (SX.out _ hb0) (fun hHeld => ?_)
            refine wpAnyH_take (i := 0) (v := ?_) rfl (by kernel_rfl) (by kernel_rfl) (by kernel_rfl) (fun _ _ _ h => h) (Or.inl ⟨by rfl, ?_⟩) (by assumption) ?_
            rotate_left
            · intro w hSw
              go_simp
              try with_reducible rfl
            simp only [Act.put, List.getElem_toArray, List.getElem_cons_zero, List.setIfInBounds_toArray, List.set_cons_zero, List.set_cons_succ]
            refine wpAnyH_take (i := 1) (v := ?_) rfl (by kernel_rfl) (by kernel_rfl) (by kernel_rfl) (fun _ _ _ h => h) (Or.inl ⟨by rfl, ?_⟩) (by assumption) ?_
            rotate_left
            · intro w hSw
              go_simp
              try with_reducible rfl
            simp only [Act.put, List.getElem_toArray, List.getElem_cons_zero, List.getElem_cons_succ, List.setIfInBounds_toArray, List.set_cons_zero, List.set_cons_succ]
            refine wpAnyH_take (i := 2) (v := ?_) rfl (by kernel_rfl) (by kernel_rfl) (by kernel_rfl) (fun _ _ _ h => h) (Or.inl ⟨by rfl, ?_⟩) (by assumption) ?_
            rotate_left
            · intro w hSw
              go_simp
              try with_reducible rfl
            simp only [Act.put, List.getElem_toArray, List.getElem_cons_zero, List.getElem_cons_succ, List.setIfInBounds_toArray, List.set_cons_zero, List.set_cons_succ]
            refine wpAnyH_take (i := 3) (v := ?_) rfl (by kernel_rfl) (by kernel_rfl) (by kernel_rfl) (fun _ _ _ h => h) (Or.inl ⟨by rfl, ?_⟩) (by assumption) ?_
            rotate_left
            · intro w hSw
              go_simp
              try with_reducible rfl
            simp only [Act.put, List.getElem_toArray, List.getElem_cons_zero, List.getElem_cons_succ, List.setIfInBounds_toArray, List.set_cons_zero, List.set_cons_succ]
            refine wpAnyH_take (i := 4) (v := ?_) rfl (by kernel_rfl) (by kernel_rfl) (by kernel_rfl) (fun _ _ _ h => h) (Or.inl ⟨by rfl, ?_⟩) (by assumption) ?_
            rotate_left
            · intro w hSw
              go_simp
              try with_reducible rfl
            simp only [Act.put, List.getElem_toArray, List.getElem_cons_zero, List.getElem_cons_succ, List.setIfInBounds_toArray, List.set_cons_zero, List.set_cons_succ]
            refine wpAnyH_take (i := 5) (v := ?_) rfl (by kernel_rfl) (by kernel_rfl) (by kernel_rfl) (fun _ _ _ h => h) (Or.inl ⟨by rfl, ?_⟩) (by assumption) ?_
            rotate_left
            · intro w hSw
              go_simp
              try with_reducible rfl
            simp only [Act.put, List.getElem_toArray, List.getElem_cons_zero, List.getElem_cons_succ, List.setIfInBounds_toArray, List.set_cons_zero, List.set_cons_succ]
            refine wpAnyH_take (i := 6) (v := ?_) rfl (by kernel_rfl) (by kernel_rfl) (by kernel_rfl) (fun _ _ _ h => h) (Or.inl ⟨by rfl, ?_⟩) (by assumption) ?_
            rotate_left
            · intro w hSw
              go_simp
              try with_reducible rfl
            simp only [Act.put, List.getElem_toArray, List.getElem_cons_zero, List.getElem_cons_succ, List.setIfInBounds_toArray, List.set_cons_zero, List.set_cons_succ]
            refine wpAnyH_take (i := 8) (v := ?_) rfl (by kernel_rfl) (by kernel_rfl) (by kernel_rfl) (fun _ _ _ h => h) (Or.inl ⟨by rfl, ?_⟩) (by assumption) ?_
            rotate_left
            · intro w hSw
              go_simp
              try with_reducible rfl
            simp only [Act.put, List.getElem_toArray, List.getElem_cons_zero, List.getElem_cons_succ, List.setIfInBounds_toArray, List.set_cons_zero, List.set_cons_succ]
            refine wpAnyH_take (i := 9) (v := ?_) rfl (by kernel_rfl) (by kernel_rfl) (by kernel_rfl) (fun _ _ _ h => h) (Or.inl ⟨by rfl, ?_⟩) (by assumption) ?_
            rotate_left
            · intro w hSw
              go_simp
              try with_reducible rfl
            simp only [Act.put, List.getElem_toArray, List.getElem_cons_zero, List.getElem_cons_succ, List.setIfInBounds_toArray, List.set_cons_zero, List.set_cons_succ]
            refine wpAnyH_take (i := 10) (v := ?_) rfl (by kernel_rfl) (by kernel_rfl) (by kernel_rfl) (fun _ _ _ h => h) (Or.inl ⟨by rfl, ?_⟩) (by assumption) ?_
            rotate_left
            · intro w hSw
              go_simp
              try with_reducible rfl
            simp only [Act.put, List.getElem_toArray, List.getElem_cons_zero, List.getElem_cons_succ, List.setIfInBounds_toArray, List.set_cons_zero, List.set_cons_succ]
            refine wpAnyH_take (i := 11) (v := ?_) rfl (by kernel_rfl) (by kernel_rfl) (by kernel_rfl) (fun _ _ _ h => h) (Or.inl ⟨by rfl, ?_⟩) (by assumption) ?_
            rotate_left
            · intro w hSw
              go_simp
              try with_reducible rfl
            simp only [Act.put, List.getElem_toArray, List.getElem_cons_zero, List.getElem_cons_succ, List.setIfInBounds_toArray, List.set_cons_zero, List.set_cons_succ]
            refine wpAnyH_ready (rs := [7]) (by kernel_rfl) (by simp) ?_
            refine AllReadyH.cons rfl (fun K hK => ?_) AllReadyH.nil
            go_simp
            refine (CA2.out _).mono ?_
            rintro e w9 ⟨rfl, rfl⟩
            refine hK.out _ _ (SX.out _ hb0) (fun hHeld => ?_)
            clear hK K 
            refine wpAnyH_ready (rs := [12]) (by kernel_rfl) (by simp) ?_
            refine AllReadyH.cons rfl (fun K hK => ?_) AllReadyH.nil
            go_simp
            refine ((D2.out.on hb0).goes HMEM.out _ _).mono ?_
            rintro e w9 ⟨rfl, b9⟩
            refine hK.out _ _ (SX.out _ (hb0.trans b9)) (fun hHeld => ?_)
            clear hK K 
            refine wpAnyH_take (i := 13) (v := ?_) rfl (by kernel_rfl) (by kernel_rfl) (by kernel_rfl) (fun _ _ _ h => h) (Or.inl ⟨by rfl, ?_⟩) (by assumption) ?_
            rotate_left
            · intro w hSw
              go_simp
              try with_reducible rfl
            simp only [Act.put, List.getElem_toArray, List.getElem_cons_zero, List.getElem_cons_succ, List.setIfInBounds_toArray, List.set_cons_zero, List.set_cons_succ]
            refine wpAnyH_done (by kernel_rfl) ?_ _
            have DT := aside (D2.out.on (hb0.trans b9))
            clear hHeld b9 hb0 SX CA2 hwn D2 K2 KO2
            go_upto_region 47 with fail
            as_aux_lemma =>
              have TL := aside (c_len DT.out)
              have TR := aside (r_len DT.out)
              have TO := aside (c_lost DT.out)
              have TP := aside (r_lost DT.out)
              have SLE := aside (show s.le (k + 1) ∧ K.length ≤ k + 1 from ⟨HLE.out.1.up, Nat.le_succ_of_le HLE.out.2⟩)
              go_wp2_with fail
              refine (TL.out).mono ?_
              rintro e W9 ⟨rfl, rfl⟩
              go_wp2_with fail
              refine (TR.out).mono ?_
              rintro e W9 ⟨rfl, rfl⟩
              go_wp2_with fail
              refine (TO.out).mono ?_
              rintro e W9 ⟨rfl, rfl⟩
              go_wp2_with fail
              refine (TP.out).mono ?_
              rintro e W9 ⟨rfl, rfl⟩
              go_wp2
              go_roundw
              case rel => exact ⟨k + 1, s, K, _, _, _, by first | rfl | go_num, by have := HKL.out.1; omega, rfl, DT.out, SLE.out, HN.out⟩
              case measure => have := HKL.out.1; simp [intOf] <;> omega
    · as_aux_lemma =>
      have HKB2 := aside (show k ≤ 2513169434917 from by have := HLN.out; omega)
      have CA := aside (c_all DI.out)
      have HNB := aside (show n ≤ 2513169434917 from by rw [← HN.out]; exact Nat.le_trans HLE.out.2 HKB2.out)
      go_wp2_with fail
      refine CA.out.mono ?_
      rintro e w8 ⟨b8, u, rfl, hu, v, l, vR, lR, a, c, rfl, h1, h2, h3, hbox⟩
      have H1 := aside h1
      have H2 := aside h2
      have H3 := aside h3
      have B8 := aside b8
      have HBOX := aside hbox
      have RA := aside (rall_any (h1.rb.on b8))
      clear h1 h2 h3 b8 hu hbox CA
      go_wp2_with fail
      refine RA.out.mono ?_
      rintro e w9 ⟨a2, c2, l2, rfl, hst⟩
      have WKK := aside (H1.out.walk B8.out HBOX.out (H3.out.trans H2.out.symm) hst)
      have B9 := aside (bthen B8.out hst.bel)
      have HLL := aside (show lR.length = l.length from by simpa using congrArg List.length (H3.out.trans H2.out.symm))
      rw [HLL.out]
      clear hst RA HBOX B8
      obtain ⟨kk, hkk⟩ : ∃ y, (⟨u, a, l.length, l, a2, c2, l2⟩ : Wk) = y := ⟨_, rfl⟩
      have bn := bnew w9 (.cells #[.func (.func 34) #[] #[.pointer (some ⟨u, 0, none⟩)], .slice a2 l.length c2] 51)
      have hn9 := heap_alloc_new w9 (.cells #[.func (.func 34) #[] #[.pointer (some ⟨u, 0, none⟩)], .slice a2 l.length c2] 51)
      have KN := aside (show RowIn wkV (w9.alloc (.cells #[.func (.func 34) #[] #[.pointer (some ⟨u, 0, none⟩)], .slice a2 l.length c2] 51)) (some ⟨w9.heap.size, 0, none⟩) 1 1 [kk] from by
        rw [← hkk]
        exact rowIn_new wkF ⟨u, a, l.length, l, a2, c2, l2⟩ hn9)
      have HKU := aside (show kk.u = u from by rw [← hkk])
      have BN := aside (bthen B9.out bn)
      have MO := aside (show ∃ v7 l7 vR7 lR7, SInv (fun _ => False) w (w9.alloc (.cells #[.func (.func 34) #[] #[.pointer (some ⟨u, 0, none⟩)], .slice a2 l.length c2] 51)) b v7 rm s.last s.lost l7 bR vR7 s.last s.lost lR7 (.slice ai n ci) K ∧ l7.map Pk.pl = s.pl ∧ lR7.map Pk.pl = s.pl ∧ WkOk w.heap.size (fun _ => False) (w9.alloc (.cells #[.func (.func 34) #[] #[.pointer (some ⟨u, 0, none⟩)], .slice a2 l.length c2] 51)) kk v7 l7 vR7 from
        ⟨_, l, vR, lR, H1.out.on BN.out, H2.out, H3.out, by rw [← hkk]; exact WKK.out.on bn⟩)
      have RN := aside (show (w9.alloc (.cells #[.func (.func 34) #[] #[.pointer (some ⟨u, 0, none⟩)], .slice a2 l.length c2] 51)).ownsRow w.heap.size 51 2 (.slice ai n ci) n (rowC wkV K) from by
        have h9 := (H1.out.on BN.out).row
        rw [HN.out] at h9
        exact h9)
      have HBS := aside (H1.out.on BN.out).bel.size
      clear bn hn9 WKK B9 HLL H1 H2 H3 hkk
      go_wp2_with (at_builtin; refine wpList_plain rfl fun K9 hK => op_append_rowC wkF Try.underlying31 infoWk rfl _ _ rfl w.heap.size n 1 (.slice ai n ci) K [kk] (by rfl) RN.out _ 1 (by rfl) KN.out (by have := HNB.out; omega) (by have := HNB.out; unfold maxLen; omega) HBS.out ?_; intro v5 w5 own5 g5 at5; refine hK _ _ ?_; refine Hid.out ?_)
      refine aside ?_
      have HLK := aside (show (K ++ [kk]).length = n + 1 from by rw [List.length_append, HN.out]; rfl)
      have D5 := aside (SB.more (s := s) (t := s) (E := (fun _ => False)) (b := b) (bR := bR) (room := rm) (K := K) (k := kk) (w0 := w) MO.out g5 (by rw [HLK.out]; exact own5))
      obtain ⟨a5, c5, rfl, hc51, hc52, -⟩ := own_slice own5
      have O5 := aside own5
      have hc53 : ((n : Int) + 1) ≤ (c5 : Int) := by omega
      have hc54 : (c5 : Int) ≤ 9223372036854775807 := by unfold maxLen at hc52; omega
      have hn0 : (n : Int) ≤ 2513169434917 := by have := HNB.out; omega
      clear own5 g5 at5 KN RN MO HBS BN hc51 hc52
      go_wp2_with fail
      go_loopw [262] (fun i Y => ∃ j : Nat, i = .int .i64 (j : Int) ∧ j ≤ n + 1 ∧ Hid (SB (fun _ => False) w Y b bR rm s s (.slice a5 (n + 1) c5) (K ++ [kk]))) (fun i _ => n + 1 - (intOf i).toNat)
      case atStart => exact ⟨0, rfl, Nat.zero_le _, D5.out⟩
      case round =>
        clear D5 DI
        obtain ⟨j, rfl, hj, DJ⟩ := hrel
        by_cases hlt : (j : Int) < (n : Int) + 1
        · have hj0 : (0 : Int) ≤ (j : Int) := by omega
          obtain ⟨kj, hkj⟩ : ∃ p, (K ++ [kk])[j]? = some p := ⟨(K ++ [kk])[j]'(by rw [HLK.out]; omega), List.getElem?_eq_getElem _⟩
          have HMEM := aside (List.mem_of_getElem? hkj)
          have hrow := DJ.out.row
          rw [HLK.out] at hrow
          obtain ⟨g, rfl, z0, z1⟩ := wk_at hrow hkj
          obtain ⟨X2, hX2⟩ : ∃ X, wr.alloc (.cells #[.func (.func 34) #[] #[.pointer (some ⟨kj.u, 0, none⟩)], .slice kj.a2 kj.n kj.c2] 51) = X := ⟨_, rfl⟩
          obtain ⟨q2, hq2⟩ : ∃ q, wr.heap.size = q := ⟨_, rfl⟩
          have b2 := bnew wr (.cells #[.func (.func 34) #[] #[.pointer (some ⟨kj.u, 0, none⟩)], .slice kj.a2 kj.n kj.c2] 51)
          have k2 := heap_alloc_new wr (.cells #[.func (.func 34) #[] #[.pointer (some ⟨kj.u, 0, none⟩)], .slice kj.a2 kj.n kj.c2] 51)
          rw [hX2] at b2 k2
          rw [hq2] at k2
          have D2 := aside (DJ.out.on b2)
          have K2 := aside k2
          clear b2 k2 hkj hrow DJ
          go_upto_region 54 with fail
          try rw [hX2]
          try rw [hq2]
          clear hX2 hq2 z0 z1
          obtain ⟨u0, u1⟩ := twoB K2.out
          go_wp2_with fail
          refine (D2.out.goes HMEM.out _ _).mono ?_
          rintro e w12 ⟨rfl, b12⟩
          have D3 := aside (D2.out.on b12)
          clear b12 D2 K2 u0 u1
          go_wp2
          go_roundw
          case rel => exact ⟨j + 1, by first | rfl | go_num, by omega, D3.out⟩
          case measure => simp [intOf] <;> omega
        · have BX := aside DJ.out.bel
          clear DJ hj
          go_wp2
          go_ret
          exact ⟨rfl, BX.out⟩
end Go.Proofs.Yteaaamhojiognaa
