/-
  Wrote of the code's ghost.
-/
import Derived.Test.YtfkdhambbpkmpaaGuC
namespace Go.Proofs.Ytfkdhambbpkmpaa
open Go.RowKit
set_option linter.unusedVariables false

def wroQ (L : List En) (e : En) : Int := if e.chk = 0 then (if ((lookW L (wrOf e)).isSome && !enEqB ((lookW L (wrOf e)).getD eZ) e) = true then 190 else 0) else e.chk
def wroL (L : List En) (e : En) : List En := if e.chk = 0 then (if (lookW L (wrOf e)).isSome = true then L else L ++ [e]) else L
theorem Gh.mono {w : World} {B p m N : Nat} {L : List En} {H : Nat → Hd} (h : Gh w B p m N L H) : Gh w B p m (N + 1) L H := by
  obtain ⟨D, ⟨es, clock, h1, h2, h3, h4⟩, hR⟩ := h.mp
  exact ⟨h.bx, h.pB, h.mB, ⟨D, ⟨es, clock, h1, h2, Nat.le_succ_of_le h3, h4⟩, hR⟩, h.chk, h.held, h.maps, h.sz⟩
theorem ck_one (e : En) : ckN (fun _ => e) 1 = e.chk := by
  rw [ckN_step rfl]
  unfold ckAt
  by_cases h : e.chk = 0
  · simp [h]
  · simp [h]
set_option maxHeartbeats 16000000 in
set_option maxRecDepth 100000 in
theorem gwrote_any {w : World} {B p m N : Nat} {L : List En} {H : Nat → Hd} (h : Gh w B p m N L H) (e : En) (hk : e.k.size ≤ 140737488351232) (hN : N < maxLen) : Calls Try.prog 13 #[.pointer (some ⟨p, 0, none⟩), .agg #[.string e.k, .int .i64 e.c, .int .i64 e.n, .string e.v, .bool e.d]] w fun r w' => r = .returned (.int .i64 (wroQ L e)) ∧ Gh w' B p m (N + 1) (wroL L e) H ∧ Keeps (fun x => x = m) w w' := by
  obtain ⟨q, hq⟩ : ∃ q, w.heap.size = q := ⟨_, rfl⟩
  obtain ⟨V0, hV⟩ : ∃ V, w.alloc (.cells #[.string e.k, .int .i64 e.c, .int .i64 e.n, .string e.v, .bool e.d] 31) = V := ⟨_, rfl⟩
  have kq := heap_alloc_new w (.cells #[.string e.k, .int .i64 e.c, .int .i64 e.n, .string e.v, .bool e.d] 31)
  have bq := bnew w (.cells #[.string e.k, .int .i64 e.c, .int .i64 e.n, .string e.v, .bool e.d] 31)
  rw [hV] at kq bq
  rw [hq] at kq
  have kr := heap_alloc_new V0 (.cells #[.string e.k, .int .i64 e.c, .int .i64 e.n, .string e.v, .bool e.d] 31)
  have br := bnew V0 (.cells #[.string e.k, .int .i64 e.c, .int .i64 e.n, .string e.v, .bool e.d] 31)
  have CK := aside (mchk_any (some ⟨V0.heap.size, 0, none⟩) 1 1 (fun _ => e) (V0.alloc (.cells #[.string e.k, .int .i64 e.c, .int .i64 e.n, .string e.v, .bool e.d] 31)) ⟨Nat.le_refl _, by unfold maxLen; omega, .inr ⟨V0.heap.size, 0, rfl, by simp, fun i hi => by
    obtain rfl : i = 0 := by omega
    obtain ⟨⟨y0, y1, y2, y3, y4⟩, -⟩ := box5 kr
    exact ⟨⟨by simp, by simp, by simp, by simp, by simp⟩, hk⟩⟩⟩)
  rw [ck_one] at CK
  have HG0 := aside h
  have KQ0 := aside (blk_on kq br)
  have BQ0 := aside (bthen bq br)
  have HN := aside hN
  obtain ⟨⟨c0, c1, c2, c3, c4⟩, -⟩ := box5 kq
  obtain ⟨x, hxx⟩ : ∃ x, (lookW L (wrOf e)).getD eZ = x := ⟨_, rfl⟩
  obtain ⟨y, hyy⟩ : ∃ y, (lookW L (wrOf e)).isSome = y := ⟨_, rfl⟩
  have HEQ := fun W => ent_ne x e W
  obtain ⟨z, hz⟩ : ∃ z, enEqB x e = z := ⟨_, rfl⟩
  rw [hz] at HEQ
  replace HEQ := aside HEQ
  obtain ⟨cq, hcq⟩ : ∃ c, e.chk = c := ⟨_, rfl⟩
  have HQ := aside (show wroQ L e = (if cq = 0 then (if (y && !z) = true then 190 else 0) else cq) from by unfold wroQ; rw [hxx, hyy, hz, hcq])
  have HLL := aside (show wroL L e = (if cq = 0 then (if y = true then L else L ++ [e]) else L) from by unfold wroL; rw [hyy, hcq])
  have HX := aside hxx
  have HY := aside hyy
  have HZ := aside hz
  have HCQ := aside hcq
  rw [hcq] at CK
  clear h hk hN kq bq kr br hxx hyy hz hcq
  go_enter Try.func13, Try.ntmps13
  go_upto_region 1 with fail
  try rw [hV]
  try rw [hq]
  clear hq
  go_wp2_with fail
  refine CK.out.mono ?_
  rintro r V ⟨rfl, b1⟩
  have BQ := aside (bthen BQ0.out b1)
  have KQ := aside (blk_on KQ0.out b1)
  have HG := aside (HG0.out.on BQ.out)
  clear b1 CK c0 c1 c2 c3 c4 hV KQ0 BQ0
  by_cases h0 : cq = 0
  case neg =>
    have hz : (cq == 0) = false := by simpa using h0
    have FG := aside HG.out.mono
    have HQ' := aside (show wroQ L e = cq from by rw [HQ.out, if_neg h0])
    have HL' := aside (show wroL L e = L from by rw [HLL.out, if_neg h0])
    go_wp2
    go_ret
    exact ⟨by rw [HQ'.out]; rfl, by rw [HL'.out]; exact FG.out, Keeps.of_below BQ.out _⟩
  subst h0
  replace HQ := aside (show wroQ L e = (if (y && !z) = true then 190 else 0) from by rw [HQ.out, if_pos rfl])
  replace HLL := aside (show wroL L e = (if y = true then L else L ++ [e]) from by rw [HLL.out, if_pos rfl])
  have HCK := aside HCQ.out
  have HWF := aside (wf_chk HCQ.out)
  obtain ⟨D, hD, hR⟩ := HG.out.mp
  have RP := aside hR
  have OW := aside (fun (W : World) (bb : Below V.heap.size V W) => (show W.ownsMap Try.prog 60 RE m N D from by obtain ⟨es, clock, h1, r⟩ := hD; exact ⟨es, clock, blk_on h1 bb, r⟩))
  have LK := fun (W : World) (bb : Below V.heap.size V W) => look_wr (OW.out W bb) hR HWF.out
  rw [HX.out, HY.out] at LK
  replace LK := aside LK
  have SX := aside (fun (W : World) (bb : Below V.heap.size V W) => (show W.cell? ⟨p, 0, none⟩ = some (.map (some m)) ∧ W.cell? ⟨q, 0, none⟩ = some (.string e.k) ∧ W.cell? ⟨q, 1, none⟩ = some (.int .i64 e.c) ∧ W.cell? ⟨q, 2, none⟩ = some (.int .i64 e.n) ∧ W.cell? ⟨q, 3, none⟩ = some (.string e.v) ∧ W.cell? ⟨q, 4, none⟩ = some (.bool e.d) from by
    obtain ⟨⟨y0, y1, y2, y3, y4⟩, -⟩ := box5 (blk_on KQ.out bb)
    exact ⟨by rw [cell_of_row _ _ 0 _ _ _ (blk_on HG.out.bx bb)]; rfl, y0, y1, y2, y3, y4⟩))
  have NE := aside (show ¬ p = m ∧ ¬ q = m from by
    obtain ⟨es, clock, h4, -⟩ := hD
    refine ⟨fun e2 => ?_, fun e2 => ?_⟩
    · have := HG.out.bx; rw [e2, h4] at this; cases this
    · have := KQ.out; rw [e2, h4] at this; cases this)
  have hb0 : Below V.heap.size V V.drew := (Below.refl _ V).drew
  clear hD hR
  go_upto_region 4 with fail
  refine wp_region_held_drew (S := fun W => (W.cell? ⟨p, 0, none⟩ = some (.map (some m)) ∧ W.cell? ⟨q, 0, none⟩ = some (.string e.k) ∧ W.cell? ⟨q, 1, none⟩ = some (.int .i64 e.c) ∧ W.cell? ⟨q, 2, none⟩ = some (.int .i64 e.n) ∧ W.cell? ⟨q, 3, none⟩ = some (.string e.v) ∧ W.cell? ⟨q, 4, none⟩ = some (.bool e.d)) ∧ Hid (Below V.heap.size V W)) (by kernel_rfl) ⟨SX.out _ hb0, aside hb0⟩ (fun hHeld => ?_)
  refine wpAnyH_take (i := 0) (v := ?_) rfl (by kernel_rfl) (by kernel_rfl) (by kernel_rfl) (fun _ _ _ h => h) (Or.inl ⟨by rfl, ?_⟩) (by assumption) ?_
  rotate_left
  · intro w hSw
    go_simp
    try with_reducible rfl
  simp only [Act.put, List.getElem_toArray, List.getElem_cons_zero, List.setIfInBounds_toArray, List.set_cons_zero, List.set_cons_succ]
  refine wpAnyH_take (i := 1) (v := ?_) rfl (by kernel_rfl) (by kernel_rfl) (by kernel_rfl) (fun _ _ _ h => h) (Or.inl ⟨by rfl, ?_⟩) (by assumption) ?_
  rotate_left
  · intro w hSw
    go_simp
    try with_reducible rfl
  simp only [Act.put, List.getElem_toArray, List.getElem_cons_zero, List.getElem_cons_succ, List.setIfInBounds_toArray, List.set_cons_zero, List.set_cons_succ]
  refine wpAnyH_take (i := 2) (v := ?_) rfl (by kernel_rfl) (by kernel_rfl) (by kernel_rfl) (fun _ _ _ h => h) (Or.inl ⟨by rfl, ?_⟩) (by assumption) ?_
  rotate_left
  · intro w hSw
    go_simp
    try with_reducible rfl
  simp only [Act.put, List.getElem_toArray, List.getElem_cons_zero, List.getElem_cons_succ, List.setIfInBounds_toArray, List.set_cons_zero, List.set_cons_succ]
  refine wpAnyH_take (i := 3) (v := ?_) rfl (by kernel_rfl) (by kernel_rfl) (by kernel_rfl) (fun _ _ _ h => h) (Or.inl ⟨by rfl, ?_⟩) (by assumption) ?_
  rotate_left
  · intro w hSw
    go_simp
    try with_reducible rfl
  simp only [Act.put, List.getElem_toArray, List.getElem_cons_zero, List.getElem_cons_succ, List.setIfInBounds_toArray, List.set_cons_zero, List.set_cons_succ]
  refine wpAnyH_take (i := 4) (v := ?_) rfl (by kernel_rfl) (by kernel_rfl) (by kernel_rfl) (fun _ _ _ h => h) (Or.inl ⟨by rfl, ?_⟩) (by assumption) ?_
  rotate_left
  · intro w hSw
    go_simp
    try with_reducible rfl
  simp only [Act.put, List.getElem_toArray, List.getElem_cons_zero, List.getElem_cons_succ, List.setIfInBounds_toArray, List.set_cons_zero, List.set_cons_succ]
  refine wpAnyH_ready (rs := [5, 10]) (by kernel_rfl) (by simp) ?_
  refine AllReadyH.cons rfl (fun K hK => ?_) (AllReadyH.cons rfl (fun K hK => ?_) AllReadyH.nil)
  ·
    go_simp
    refine (writeof_any e _).mono ?_
    rintro r w8 ⟨rfl, bb⟩
    have hb8 := bthen hHeld.2.out bb
    refine hK.out _ _ ⟨SX.out _ hb8, aside hb8⟩ (fun hHeld => ?_)
    clear hK K bb
    refine wpAnyH_take (i := 6) (v := .tuple #[.agg #[.string x.k, .int .i64 x.c, .int .i64 x.n, .string x.v, .bool x.d], .bool y]) rfl (by kernel_rfl) (by kernel_rfl) (by kernel_rfl) (fun _ _ _ h => h) (Or.inl ⟨by rfl, ?_⟩) (by assumption) ?_
    · intro w hSw
      go_simp
      have h9 := LK.out _ hSw.2.out
      simp only [wrV, wrOf] at h9
      rw [h9]
      rfl
    simp only [Act.put, List.getElem_toArray, List.getElem_cons_zero, List.getElem_cons_succ, List.setIfInBounds_toArray, List.set_cons_zero, List.set_cons_succ]
    refine wpAnyH_take (i := 7) (v := ?_) rfl (by kernel_rfl) (by kernel_rfl) (by kernel_rfl) (fun _ _ _ h => h) (Or.inl ⟨by rfl, ?_⟩) (by assumption) ?_
    rotate_left
    · intro w hSw
      go_simp
      try with_reducible rfl
    simp only [Act.put, List.getElem_toArray, List.getElem_cons_zero, List.getElem_cons_succ, List.setIfInBounds_toArray, List.set_cons_zero, List.set_cons_succ]
    refine wpAnyH_take (i := 8) (v := ?_) rfl (by kernel_rfl) (by kernel_rfl) (by kernel_rfl) (fun _ _ _ h => h) (Or.inl ⟨by rfl, ?_⟩) (by assumption) ?_
    rotate_left
    · intro w hSw
      go_simp
      try with_reducible rfl
    simp only [Act.put, List.getElem_toArray, List.getElem_cons_zero, List.getElem_cons_succ, List.setIfInBounds_toArray, List.set_cons_zero, List.set_cons_succ]
    refine wpAnyH_take (i := 9) (v := ?_) rfl (by kernel_rfl) (by kernel_rfl) (by kernel_rfl) (fun _ _ _ h => h) (Or.inl ⟨by rfl, ?_⟩) (by assumption) ?_
    rotate_left
    · intro w hSw
      go_simp
      try with_reducible rfl
    simp only [Act.put, List.getElem_toArray, List.getElem_cons_zero, List.getElem_cons_succ, List.setIfInBounds_toArray, List.set_cons_zero, List.set_cons_succ]
    refine wpAnyH_ready (rs := [10]) (by kernel_rfl) (by simp) ?_
    refine AllReadyH.cons rfl (fun K hK => ?_) AllReadyH.nil
    go_simp
    have hba := bthen hHeld.2.out (bnew w8 (.cells #[.string ⟨#[]⟩, .int .i64 0, .int .i64 0, .string ⟨#[]⟩, .bool false] 31))
    have kX := heap_alloc_new w8 (.cells #[.string ⟨#[]⟩, .int .i64 0, .int .i64 0, .string ⟨#[]⟩, .bool false] 31)
    have hpb : V.heap.size ≤ w8.heap.size := hHeld.2.out.size
    refine hK.out _ _ ⟨SX.out _ hba, aside hba⟩ (fun hHeld => ?_)
    clear hK K hba
    obtain ⟨pb, hpe⟩ : ∃ i, w8.heap.size = i := ⟨_, rfl⟩
    rw [hpe] at kX hpb
    rw [hpe]
    clear hpe
    generalize w8.alloc (.cells #[.string ⟨#[]⟩, .int .i64 0, .int .i64 0, .string ⟨#[]⟩, .bool false] 31) = WA at kX hHeld ⊢
    obtain ⟨⟨s0, s1, s2, s3, s4⟩, f0, f1, f2, f3, f4⟩ := box5 kX
    have kF := set_fiveG kX (.string x.k) (.int .i64 x.c) (.int .i64 x.n) (.string x.v) (.bool x.d)
    have bF := bel_fiveG hHeld.2.out hpb (.string x.k) (.int .i64 x.c) (.int .i64 x.n) (.string x.v) (.bool x.d)
    refine wpAnyH_ready (rs := [11]) (by kernel_rfl) (by simp) ?_
    refine AllReadyH.cons rfl (fun K hK => ?_) AllReadyH.nil
    go_simp
    refine hK.out _ _ ⟨SX.out _ bF, aside bF⟩ (fun hHeld => ?_)
    clear hK K s0 s1 s2 s3 s4 f0 f1 f2 f3 f4 kX
    refine wpAnyH_take (i := 12) (v := ?_) rfl (by kernel_rfl) (by kernel_rfl) (by kernel_rfl) (fun _ _ _ h => h) (Or.inl ⟨by rfl, ?_⟩) (by assumption) ?_
    rotate_left
    · intro w hSw
      go_simp
      try with_reducible rfl
    simp only [Act.put, List.getElem_toArray, List.getElem_cons_zero, List.getElem_cons_succ, List.setIfInBounds_toArray, List.set_cons_zero, List.set_cons_succ]
    refine wpAnyH_done (by kernel_rfl) ?_ _
    have K9 := aside kF
    have B9 := aside bF
    clear kF bF hHeld hpb
    generalize (((((WA.setCell ⟨pb, 0, none⟩ (.string x.k)).setCell ⟨pb, 1, none⟩ (.int .i64 x.c)).setCell ⟨pb, 2, none⟩ (.int .i64 x.n)).setCell ⟨pb, 3, none⟩ (.string x.v)).setCell ⟨pb, 4, none⟩ (.bool x.d)) = W9 at K9 B9 ⊢
    clear LK SX
    obtain ⟨⟨s0, s1, s2, s3, s4⟩, -⟩ := box5 K9.out
    obtain ⟨⟨c0, c1, c2, c3, c4⟩, -⟩ := box5 (blk_on KQ.out B9.out)
    have hEQ := HEQ.out
    clear K9
    cases y
    · have HNO := aside (show lookW L (wrOf e) = none from by have := HY.out; cases hl : lookW L (wrOf e) with
        | none => rfl
        | some t => rw [hl] at this; cases this)
      have SX7 := aside (fun (W : World) (kk : Keeps (fun x => x = m) W9 W) => (show W.cell? ⟨p, 0, none⟩ = some (.map (some m)) ∧ W.cell? ⟨q, 0, none⟩ = some (.string e.k) ∧ W.cell? ⟨q, 1, none⟩ = some (.int .i64 e.c) ∧ W.cell? ⟨q, 2, none⟩ = some (.int .i64 e.n) ∧ W.cell? ⟨q, 3, none⟩ = some (.string e.v) ∧ W.cell? ⟨q, 4, none⟩ = some (.bool e.d) from by
        obtain ⟨⟨y0, y1, y2, y3, y4⟩, -⟩ := box5 (blk_keep (blk_on KQ.out B9.out) kk NE.out.2)
        exact ⟨by rw [cell_of_row _ _ 0 _ _ _ (blk_keep (HG.out.on B9.out).bx kk NE.out.1)]; rfl, y0, y1, y2, y3, y4⟩))
      have hb9 : Below W9.heap.size W9 W9.drew := (Below.refl _ W9).drew
      go_upto_region 7 with fail
      clear c0 c1 c2 c3 c4 s0 s1 s2 s3 s4
      refine wp_region_held_drew (S := fun W => (W.cell? ⟨p, 0, none⟩ = some (.map (some m)) ∧ W.cell? ⟨q, 0, none⟩ = some (.string e.k) ∧ W.cell? ⟨q, 1, none⟩ = some (.int .i64 e.c) ∧ W.cell? ⟨q, 2, none⟩ = some (.int .i64 e.n) ∧ W.cell? ⟨q, 3, none⟩ = some (.string e.v) ∧ W.cell? ⟨q, 4, none⟩ = some (.bool e.d)) ∧ Hid (Keeps (fun x => x = m) W9 W)) (by kernel_rfl) ⟨SX7.out _ (Keeps.of_below hb9 _), aside (Keeps.of_below hb9 _)⟩ (fun hHeld => ?_)
      refine wpAnyH_take (i := 0) (v := ?_) rfl (by kernel_rfl) (by kernel_rfl) (by kernel_rfl) (fun _ _ _ h => h) (Or.inl ⟨by rfl, ?_⟩) (by assumption) ?_
      rotate_left
      · intro w hSw
        go_simp
        try with_reducible rfl
      simp only [Act.put, List.getElem_toArray, List.getElem_cons_zero, List.setIfInBounds_toArray, List.set_cons_zero, List.set_cons_succ]
      refine wpAnyH_take (i := 1) (v := ?_) rfl (by kernel_rfl) (by kernel_rfl) (by kernel_rfl) (fun _ _ _ h => h) (Or.inl ⟨by rfl, ?_⟩) (by assumption) ?_
      rotate_left
      · intro w hSw
        go_simp
        try with_reducible rfl
      simp only [Act.put, List.getElem_toArray, List.getElem_cons_zero, List.getElem_cons_succ, List.setIfInBounds_toArray, List.set_cons_zero, List.set_cons_succ]
      refine wpAnyH_take (i := 2) (v := ?_) rfl (by kernel_rfl) (by kernel_rfl) (by kernel_rfl) (fun _ _ _ h => h) (Or.inl ⟨by rfl, ?_⟩) (by assumption) ?_
      rotate_left
      · intro w hSw
        go_simp
        try with_reducible rfl
      simp only [Act.put, List.getElem_toArray, List.getElem_cons_zero, List.getElem_cons_succ, List.setIfInBounds_toArray, List.set_cons_zero, List.set_cons_succ]
      refine wpAnyH_take (i := 3) (v := ?_) rfl (by kernel_rfl) (by kernel_rfl) (by kernel_rfl) (fun _ _ _ h => h) (Or.inl ⟨by rfl, ?_⟩) (by assumption) ?_
      rotate_left
      · intro w hSw
        go_simp
        try with_reducible rfl
      simp only [Act.put, List.getElem_toArray, List.getElem_cons_zero, List.getElem_cons_succ, List.setIfInBounds_toArray, List.set_cons_zero, List.set_cons_succ]
      refine wpAnyH_take (i := 4) (v := ?_) rfl (by kernel_rfl) (by kernel_rfl) (by kernel_rfl) (fun _ _ _ h => h) (Or.inl ⟨by rfl, ?_⟩) (by assumption) ?_
      rotate_left
      · intro w hSw
        go_simp
        try with_reducible rfl
      simp only [Act.put, List.getElem_toArray, List.getElem_cons_zero, List.getElem_cons_succ, List.setIfInBounds_toArray, List.set_cons_zero, List.set_cons_succ]
      refine wpAnyH_take (i := 6) (v := ?_) rfl (by kernel_rfl) (by kernel_rfl) (by kernel_rfl) (fun _ _ _ h => h) (Or.inl ⟨by rfl, ?_⟩) (by assumption) ?_
      rotate_left
      · intro w hSw
        go_simp
        try with_reducible rfl
      simp only [Act.put, List.getElem_toArray, List.getElem_cons_zero, List.getElem_cons_succ, List.setIfInBounds_toArray, List.set_cons_zero, List.set_cons_succ]
      refine wpAnyH_ready (rs := [5]) (by kernel_rfl) (by simp) ?_
      refine AllReadyH.cons rfl (fun K hK => ?_) AllReadyH.nil
      go_simp
      refine (writeof_any e _).mono ?_
      rintro r w8 ⟨rfl, bb⟩
      have hb8 := bthen hb9 bb
      refine hK.out _ _ ⟨SX7.out _ (Keeps.of_below hb8 _), aside (Keeps.of_below hb8 _)⟩ (fun hHeld => ?_)
      clear hK K bb
      refine wpAnyH_ready (rs := [7]) (by kernel_rfl) (by simp) ?_
      refine AllReadyH.cons rfl (fun K hK => ?_) AllReadyH.nil
      go_simp
      obtain ⟨w10, hrun, hown, hturn⟩ := (OW.out w8 (bthen B9.out hb8)).store lawWr Try.underlying48 HN.out (keyOf_wr HWF.out) (RE_ent e)
      simp only [wrV, wrOf] at hrun
      rw [hrun]
      show K _ _
      have hkk := (Keeps.of_below hb8 (fun x => x = m)).trans (keeps_turnedG hturn)
      refine hK.out _ _ ⟨SX7.out _ hkk, aside hkk⟩ (fun hHeld => ?_)
      clear hK K hrun
      simp only [Act.put]
      refine wpAnyH_done (by kernel_rfl) ?_ _
      have FG := aside (((HG.out.on B9.out).on hb8).upd (keeps_turnedG hturn) ⟨_, hown, RP.out.put ((OW.out w8 (bthen B9.out hb8)).tidy lawWr) HWF.out HNO.out⟩ (fun e2 h2 => (List.mem_append.1 h2).elim (HG.out.chk e2) (fun h3 => by rw [List.mem_singleton.1 h3]; exact HCK.out)))
      have FK := aside (((Keeps.of_below (bthen BQ.out B9.out) (fun x => x = m)).trans hkk))
      clear hHeld SX7 hb9 hb8 hkk hown hturn
      go_wp2
      go_ret
      exact ⟨by rw [HQ.out]; rfl, by rw [HLL.out]; exact FG.out, FK.out⟩
    · cases z
      · have FG := aside ((HG.out.on B9.out).mono)
        have FK := aside (Keeps.of_below (bthen BQ.out B9.out) (fun x => x = m))
        go_wp2
        go_ret
        exact ⟨by rw [HQ.out]; rfl, by rw [HLL.out]; exact FG.out, FK.out⟩
      · have HIN := aside (show e ∈ L from by
          have h1 := HY.out
          have h2 := HX.out
          have h3 := (enEqB_iff x e).1 HZ.out
          cases hl : lookW L (wrOf e) with
          | none => rw [hl] at h1; cases h1
          | some t =>
            rw [hl] at h2
            rw [← h3, ← h2]
            exact (lookW_mem hl).1)
        have SX7 := aside (fun (W : World) (kk : Keeps (fun x => x = m) W9 W) => (show W.cell? ⟨p, 0, none⟩ = some (.map (some m)) ∧ W.cell? ⟨q, 0, none⟩ = some (.string e.k) ∧ W.cell? ⟨q, 1, none⟩ = some (.int .i64 e.c) ∧ W.cell? ⟨q, 2, none⟩ = some (.int .i64 e.n) ∧ W.cell? ⟨q, 3, none⟩ = some (.string e.v) ∧ W.cell? ⟨q, 4, none⟩ = some (.bool e.d) from by
          obtain ⟨⟨y0, y1, y2, y3, y4⟩, -⟩ := box5 (blk_keep (blk_on KQ.out B9.out) kk NE.out.2)
          exact ⟨by rw [cell_of_row _ _ 0 _ _ _ (blk_keep (HG.out.on B9.out).bx kk NE.out.1)]; rfl, y0, y1, y2, y3, y4⟩))
        have hb9 : Below W9.heap.size W9 W9.drew := (Below.refl _ W9).drew
        go_upto_region 7 with fail
        clear c0 c1 c2 c3 c4 s0 s1 s2 s3 s4
        refine wp_region_held_drew (S := fun W => (W.cell? ⟨p, 0, none⟩ = some (.map (some m)) ∧ W.cell? ⟨q, 0, none⟩ = some (.string e.k) ∧ W.cell? ⟨q, 1, none⟩ = some (.int .i64 e.c) ∧ W.cell? ⟨q, 2, none⟩ = some (.int .i64 e.n) ∧ W.cell? ⟨q, 3, none⟩ = some (.string e.v) ∧ W.cell? ⟨q, 4, none⟩ = some (.bool e.d)) ∧ Hid (Keeps (fun x => x = m) W9 W)) (by kernel_rfl) ⟨SX7.out _ (Keeps.of_below hb9 _), aside (Keeps.of_below hb9 _)⟩ (fun hHeld => ?_)
        refine wpAnyH_take (i := 0) (v := ?_) rfl (by kernel_rfl) (by kernel_rfl) (by kernel_rfl) (fun _ _ _ h => h) (Or.inl ⟨by rfl, ?_⟩) (by assumption) ?_
        rotate_left
        · intro w hSw
          go_simp
          try with_reducible rfl
        simp only [Act.put, List.getElem_toArray, List.getElem_cons_zero, List.setIfInBounds_toArray, List.set_cons_zero, List.set_cons_succ]
        refine wpAnyH_take (i := 1) (v := ?_) rfl (by kernel_rfl) (by kernel_rfl) (by kernel_rfl) (fun _ _ _ h => h) (Or.inl ⟨by rfl, ?_⟩) (by assumption) ?_
        rotate_left
        · intro w hSw
          go_simp
          try with_reducible rfl
        simp only [Act.put, List.getElem_toArray, List.getElem_cons_zero, List.getElem_cons_succ, List.setIfInBounds_toArray, List.set_cons_zero, List.set_cons_succ]
        refine wpAnyH_take (i := 2) (v := ?_) rfl (by kernel_rfl) (by kernel_rfl) (by kernel_rfl) (fun _ _ _ h => h) (Or.inl ⟨by rfl, ?_⟩) (by assumption) ?_
        rotate_left
        · intro w hSw
          go_simp
          try with_reducible rfl
        simp only [Act.put, List.getElem_toArray, List.getElem_cons_zero, List.getElem_cons_succ, List.setIfInBounds_toArray, List.set_cons_zero, List.set_cons_succ]
        refine wpAnyH_take (i := 3) (v := ?_) rfl (by kernel_rfl) (by kernel_rfl) (by kernel_rfl) (fun _ _ _ h => h) (Or.inl ⟨by rfl, ?_⟩) (by assumption) ?_
        rotate_left
        · intro w hSw
          go_simp
          try with_reducible rfl
        simp only [Act.put, List.getElem_toArray, List.getElem_cons_zero, List.getElem_cons_succ, List.setIfInBounds_toArray, List.set_cons_zero, List.set_cons_succ]
        refine wpAnyH_take (i := 4) (v := ?_) rfl (by kernel_rfl) (by kernel_rfl) (by kernel_rfl) (fun _ _ _ h => h) (Or.inl ⟨by rfl, ?_⟩) (by assumption) ?_
        rotate_left
        · intro w hSw
          go_simp
          try with_reducible rfl
        simp only [Act.put, List.getElem_toArray, List.getElem_cons_zero, List.getElem_cons_succ, List.setIfInBounds_toArray, List.set_cons_zero, List.set_cons_succ]
        refine wpAnyH_take (i := 6) (v := ?_) rfl (by kernel_rfl) (by kernel_rfl) (by kernel_rfl) (fun _ _ _ h => h) (Or.inl ⟨by rfl, ?_⟩) (by assumption) ?_
        rotate_left
        · intro w hSw
          go_simp
          try with_reducible rfl
        simp only [Act.put, List.getElem_toArray, List.getElem_cons_zero, List.getElem_cons_succ, List.setIfInBounds_toArray, List.set_cons_zero, List.set_cons_succ]
        refine wpAnyH_ready (rs := [5]) (by kernel_rfl) (by simp) ?_
        refine AllReadyH.cons rfl (fun K hK => ?_) AllReadyH.nil
        go_simp
        refine (writeof_any e _).mono ?_
        rintro r w8 ⟨rfl, bb⟩
        have hb8 := bthen hb9 bb
        refine hK.out _ _ ⟨SX7.out _ (Keeps.of_below hb8 _), aside (Keeps.of_below hb8 _)⟩ (fun hHeld => ?_)
        clear hK K bb
        refine wpAnyH_ready (rs := [7]) (by kernel_rfl) (by simp) ?_
        refine AllReadyH.cons rfl (fun K hK => ?_) AllReadyH.nil
        go_simp
        obtain ⟨w10, hrun, hown, hturn⟩ := (OW.out w8 (bthen B9.out hb8)).store lawWr Try.underlying48 HN.out (keyOf_wr HWF.out) (RE_ent e)
        simp only [wrV, wrOf] at hrun
        rw [hrun]
        show K _ _
        have hkk := (Keeps.of_below hb8 (fun x => x = m)).trans (keeps_turnedG hturn)
        refine hK.out _ _ ⟨SX7.out _ hkk, aside hkk⟩ (fun hHeld => ?_)
        clear hK K hrun
        simp only [Act.put]
        refine wpAnyH_done (by kernel_rfl) ?_ _
        have FG := aside (((HG.out.on B9.out).on hb8).upd (keeps_turnedG hturn) ⟨_, hown, RP.out.same ((OW.out w8 (bthen B9.out hb8)).tidy lawWr) HIN.out⟩ HG.out.chk)
        have FK := aside (((Keeps.of_below (bthen BQ.out B9.out) (fun x => x = m)).trans hkk))
        clear hHeld SX7 hb9 hb8 hkk hown hturn
        go_wp2
        go_ret
        exact ⟨by rw [HQ.out]; rfl, by rw [HLL.out]; exact FG.out, FK.out⟩
  ·
    go_simp
    have hba : Below V.heap.size V (V.alloc (.cells #[.string ⟨#[]⟩, .int .i64 0, .int .i64 0, .string ⟨#[]⟩, .bool false] 31)).drew := (bnew V (.cells #[.string ⟨#[]⟩, .int .i64 0, .int .i64 0, .string ⟨#[]⟩, .bool false] 31)).drew
    have kX : (V.alloc (.cells #[.string ⟨#[]⟩, .int .i64 0, .int .i64 0, .string ⟨#[]⟩, .bool false] 31)).drew.heap[V.heap.size]? = some (.cells #[.string ⟨#[]⟩, .int .i64 0, .int .i64 0, .string ⟨#[]⟩, .bool false] 31 (0, 0)) := heap_alloc_new V (.cells #[.string ⟨#[]⟩, .int .i64 0, .int .i64 0, .string ⟨#[]⟩, .bool false] 31)
    have hpb : V.heap.size ≤ V.heap.size := Nat.le_refl _
    refine hK.out _ _ ⟨SX.out _ hba, aside hba⟩ (fun hHeld => ?_)
    clear hK K hba
    generalize (V.alloc (.cells #[.string ⟨#[]⟩, .int .i64 0, .int .i64 0, .string ⟨#[]⟩, .bool false] 31)).drew = WA at kX hHeld ⊢
    refine wpAnyH_ready (rs := [5]) (by kernel_rfl) (by simp) ?_
    refine AllReadyH.cons rfl (fun K hK => ?_) AllReadyH.nil
    go_simp
    refine (writeof_any e _).mono ?_
    rintro r w8 ⟨rfl, bb⟩
    have hb8 := bthen hHeld.2.out bb
    refine hK.out _ _ ⟨SX.out _ hb8, aside hb8⟩ (fun hHeld => ?_)
    replace kX := blk_on kX bb
    clear hK K bb
    refine wpAnyH_take (i := 6) (v := .tuple #[.agg #[.string x.k, .int .i64 x.c, .int .i64 x.n, .string x.v, .bool x.d], .bool y]) rfl (by kernel_rfl) (by kernel_rfl) (by kernel_rfl) (fun _ _ _ h => h) (Or.inl ⟨by rfl, ?_⟩) (by assumption) ?_
    · intro w hSw
      go_simp
      have h9 := LK.out _ hSw.2.out
      simp only [wrV, wrOf] at h9
      rw [h9]
      rfl
    simp only [Act.put, List.getElem_toArray, List.getElem_cons_zero, List.getElem_cons_succ, List.setIfInBounds_toArray, List.set_cons_zero, List.set_cons_succ]
    refine wpAnyH_take (i := 7) (v := ?_) rfl (by kernel_rfl) (by kernel_rfl) (by kernel_rfl) (fun _ _ _ h => h) (Or.inl ⟨by rfl, ?_⟩) (by assumption) ?_
    rotate_left
    · intro w hSw
      go_simp
      try with_reducible rfl
    simp only [Act.put, List.getElem_toArray, List.getElem_cons_zero, List.getElem_cons_succ, List.setIfInBounds_toArray, List.set_cons_zero, List.set_cons_succ]
    refine wpAnyH_take (i := 8) (v := ?_) rfl (by kernel_rfl) (by kernel_rfl) (by kernel_rfl) (fun _ _ _ h => h) (Or.inl ⟨by rfl, ?_⟩) (by assumption) ?_
    rotate_left
    · intro w hSw
      go_simp
      try with_reducible rfl
    simp only [Act.put, List.getElem_toArray, List.getElem_cons_zero, List.getElem_cons_succ, List.setIfInBounds_toArray, List.set_cons_zero, List.set_cons_succ]
    refine wpAnyH_take (i := 9) (v := ?_) rfl (by kernel_rfl) (by kernel_rfl) (by kernel_rfl) (fun _ _ _ h => h) (Or.inl ⟨by rfl, ?_⟩) (by assumption) ?_
    rotate_left
    · intro w hSw
      go_simp
      try with_reducible rfl
    simp only [Act.put, List.getElem_toArray, List.getElem_cons_zero, List.getElem_cons_succ, List.setIfInBounds_toArray, List.set_cons_zero, List.set_cons_succ]
    obtain ⟨⟨s0, s1, s2, s3, s4⟩, f0, f1, f2, f3, f4⟩ := box5 kX
    have kF := set_fiveG kX (.string x.k) (.int .i64 x.c) (.int .i64 x.n) (.string x.v) (.bool x.d)
    have bF := bel_fiveG hHeld.2.out hpb (.string x.k) (.int .i64 x.c) (.int .i64 x.n) (.string x.v) (.bool x.d)
    refine wpAnyH_ready (rs := [11]) (by kernel_rfl) (by simp) ?_
    refine AllReadyH.cons rfl (fun K hK => ?_) AllReadyH.nil
    go_simp
    refine hK.out _ _ ⟨SX.out _ bF, aside bF⟩ (fun hHeld => ?_)
    clear hK K s0 s1 s2 s3 s4 f0 f1 f2 f3 f4 kX
    refine wpAnyH_take (i := 12) (v := ?_) rfl (by kernel_rfl) (by kernel_rfl) (by kernel_rfl) (fun _ _ _ h => h) (Or.inl ⟨by rfl, ?_⟩) (by assumption) ?_
    rotate_left
    · intro w hSw
      go_simp
      try with_reducible rfl
    simp only [Act.put, List.getElem_toArray, List.getElem_cons_zero, List.getElem_cons_succ, List.setIfInBounds_toArray, List.set_cons_zero, List.set_cons_succ]
    refine wpAnyH_done (by kernel_rfl) ?_ _
    have K9 := aside kF
    have B9 := aside bF
    clear kF bF hHeld hpb
    generalize (((((w8.setCell ⟨V.heap.size, 0, none⟩ (.string x.k)).setCell ⟨V.heap.size, 1, none⟩ (.int .i64 x.c)).setCell ⟨V.heap.size, 2, none⟩ (.int .i64 x.n)).setCell ⟨V.heap.size, 3, none⟩ (.string x.v)).setCell ⟨V.heap.size, 4, none⟩ (.bool x.d)) = W9 at K9 B9 ⊢
    clear LK SX
    obtain ⟨⟨s0, s1, s2, s3, s4⟩, -⟩ := box5 K9.out
    obtain ⟨⟨c0, c1, c2, c3, c4⟩, -⟩ := box5 (blk_on KQ.out B9.out)
    have hEQ := HEQ.out
    clear K9
    cases y
    · have HNO := aside (show lookW L (wrOf e) = none from by have := HY.out; cases hl : lookW L (wrOf e) with
        | none => rfl
        | some t => rw [hl] at this; cases this)
      have SX7 := aside (fun (W : World) (kk : Keeps (fun x => x = m) W9 W) => (show W.cell? ⟨p, 0, none⟩ = some (.map (some m)) ∧ W.cell? ⟨q, 0, none⟩ = some (.string e.k) ∧ W.cell? ⟨q, 1, none⟩ = some (.int .i64 e.c) ∧ W.cell? ⟨q, 2, none⟩ = some (.int .i64 e.n) ∧ W.cell? ⟨q, 3, none⟩ = some (.string e.v) ∧ W.cell? ⟨q, 4, none⟩ = some (.bool e.d) from by
        obtain ⟨⟨y0, y1, y2, y3, y4⟩, -⟩ := box5 (blk_keep (blk_on KQ.out B9.out) kk NE.out.2)
        exact ⟨by rw [cell_of_row _ _ 0 _ _ _ (blk_keep (HG.out.on B9.out).bx kk NE.out.1)]; rfl, y0, y1, y2, y3, y4⟩))
      have hb9 : Below W9.heap.size W9 W9.drew := (Below.refl _ W9).drew
      go_upto_region 7 with fail
      clear c0 c1 c2 c3 c4 s0 s1 s2 s3 s4
      refine wp_region_held_drew (S := fun W => (W.cell? ⟨p, 0, none⟩ = some (.map (some m)) ∧ W.cell? ⟨q, 0, none⟩ = some (.string e.k) ∧ W.cell? ⟨q, 1, none⟩ = some (.int .i64 e.c) ∧ W.cell? ⟨q, 2, none⟩ = some (.int .i64 e.n) ∧ W.cell? ⟨q, 3, none⟩ = some (.string e.v) ∧ W.cell? ⟨q, 4, none⟩ = some (.bool e.d)) ∧ Hid (Keeps (fun x => x = m) W9 W)) (by kernel_rfl) ⟨SX7.out _ (Keeps.of_below hb9 _), aside (Keeps.of_below hb9 _)⟩ (fun hHeld => ?_)
      refine wpAnyH_take (i := 0) (v := ?_) rfl (by kernel_rfl) (by kernel_rfl) (by kernel_rfl) (fun _ _ _ h => h) (Or.inl ⟨by rfl, ?_⟩) (by assumption) ?_
      rotate_left
      · intro w hSw
        go_simp
        try with_reducible rfl
      simp only [Act.put, List.getElem_toArray, List.getElem_cons_zero, List.setIfInBounds_toArray, List.set_cons_zero, List.set_cons_succ]
      refine wpAnyH_take (i := 1) (v := ?_) rfl (by kernel_rfl) (by kernel_rfl) (by kernel_rfl) (fun _ _ _ h => h) (Or.inl ⟨by rfl, ?_⟩) (by assumption) ?_
      rotate_left
      · intro w hSw
        go_simp
        try with_reducible rfl
      simp only [Act.put, List.getElem_toArray, List.getElem_cons_zero, List.getElem_cons_succ, List.setIfInBounds_toArray, List.set_cons_zero, List.set_cons_succ]
      refine wpAnyH_take (i := 2) (v := ?_) rfl (by kernel_rfl) (by kernel_rfl) (by kernel_rfl) (fun _ _ _ h => h) (Or.inl ⟨by rfl, ?_⟩) (by assumption) ?_
      rotate_left
      · intro w hSw
        go_simp
        try with_reducible rfl
      simp only [Act.put, List.getElem_toArray, List.getElem_cons_zero, List.getElem_cons_succ, List.setIfInBounds_toArray, List.set_cons_zero, List.set_cons_succ]
      refine wpAnyH_take (i := 3) (v := ?_) rfl (by kernel_rfl) (by kernel_rfl) (by kernel_rfl) (fun _ _ _ h => h) (Or.inl ⟨by rfl, ?_⟩) (by assumption) ?_
      rotate_left
      · intro w hSw
        go_simp
        try with_reducible rfl
      simp only [Act.put, List.getElem_toArray, List.getElem_cons_zero, List.getElem_cons_succ, List.setIfInBounds_toArray, List.set_cons_zero, List.set_cons_succ]
      refine wpAnyH_take (i := 4) (v := ?_) rfl (by kernel_rfl) (by kernel_rfl) (by kernel_rfl) (fun _ _ _ h => h) (Or.inl ⟨by rfl, ?_⟩) (by assumption) ?_
      rotate_left
      · intro w hSw
        go_simp
        try with_reducible rfl
      simp only [Act.put, List.getElem_toArray, List.getElem_cons_zero, List.getElem_cons_succ, List.setIfInBounds_toArray, List.set_cons_zero, List.set_cons_succ]
      refine wpAnyH_take (i := 6) (v := ?_) rfl (by kernel_rfl) (by kernel_rfl) (by kernel_rfl) (fun _ _ _ h => h) (Or.inl ⟨by rfl, ?_⟩) (by assumption) ?_
      rotate_left
      · intro w hSw
        go_simp
        try with_reducible rfl
      simp only [Act.put, List.getElem_toArray, List.getElem_cons_zero, List.getElem_cons_succ, List.setIfInBounds_toArray, List.set_cons_zero, List.set_cons_succ]
      refine wpAnyH_ready (rs := [5]) (by kernel_rfl) (by simp) ?_
      refine AllReadyH.cons rfl (fun K hK => ?_) AllReadyH.nil
      go_simp
      refine (writeof_any e _).mono ?_
      rintro r w8 ⟨rfl, bb⟩
      have hb8 := bthen hb9 bb
      refine hK.out _ _ ⟨SX7.out _ (Keeps.of_below hb8 _), aside (Keeps.of_below hb8 _)⟩ (fun hHeld => ?_)
      clear hK K bb
      refine wpAnyH_ready (rs := [7]) (by kernel_rfl) (by simp) ?_
      refine AllReadyH.cons rfl (fun K hK => ?_) AllReadyH.nil
      go_simp
      obtain ⟨w10, hrun, hown, hturn⟩ := (OW.out w8 (bthen B9.out hb8)).store lawWr Try.underlying48 HN.out (keyOf_wr HWF.out) (RE_ent e)
      simp only [wrV, wrOf] at hrun
      rw [hrun]
      show K _ _
      have hkk := (Keeps.of_below hb8 (fun x => x = m)).trans (keeps_turnedG hturn)
      refine hK.out _ _ ⟨SX7.out _ hkk, aside hkk⟩ (fun hHeld => ?_)
      clear hK K hrun
      simp only [Act.put]
      refine wpAnyH_done (by kernel_rfl) ?_ _
      have FG := aside (((HG.out.on B9.out).on hb8).upd (keeps_turnedG hturn) ⟨_, hown, RP.out.put ((OW.out w8 (bthen B9.out hb8)).tidy lawWr) HWF.out HNO.out⟩ (fun e2 h2 => (List.mem_append.1 h2).elim (HG.out.chk e2) (fun h3 => by rw [List.mem_singleton.1 h3]; exact HCK.out)))
      have FK := aside (((Keeps.of_below (bthen BQ.out B9.out) (fun x => x = m)).trans hkk))
      clear hHeld SX7 hb9 hb8 hkk hown hturn
      go_wp2
      go_ret
      exact ⟨by rw [HQ.out]; rfl, by rw [HLL.out]; exact FG.out, FK.out⟩
    · cases z
      · have FG := aside ((HG.out.on B9.out).mono)
        have FK := aside (Keeps.of_below (bthen BQ.out B9.out) (fun x => x = m))
        go_wp2
        go_ret
        exact ⟨by rw [HQ.out]; rfl, by rw [HLL.out]; exact FG.out, FK.out⟩
      · have HIN := aside (show e ∈ L from by
          have h1 := HY.out
          have h2 := HX.out
          have h3 := (enEqB_iff x e).1 HZ.out
          cases hl : lookW L (wrOf e) with
          | none => rw [hl] at h1; cases h1
          | some t =>
            rw [hl] at h2
            rw [← h3, ← h2]
            exact (lookW_mem hl).1)
        have SX7 := aside (fun (W : World) (kk : Keeps (fun x => x = m) W9 W) => (show W.cell? ⟨p, 0, none⟩ = some (.map (some m)) ∧ W.cell? ⟨q, 0, none⟩ = some (.string e.k) ∧ W.cell? ⟨q, 1, none⟩ = some (.int .i64 e.c) ∧ W.cell? ⟨q, 2, none⟩ = some (.int .i64 e.n) ∧ W.cell? ⟨q, 3, none⟩ = some (.string e.v) ∧ W.cell? ⟨q, 4, none⟩ = some (.bool e.d) from by
          obtain ⟨⟨y0, y1, y2, y3, y4⟩, -⟩ := box5 (blk_keep (blk_on KQ.out B9.out) kk NE.out.2)
          exact ⟨by rw [cell_of_row _ _ 0 _ _ _ (blk_keep (HG.out.on B9.out).bx kk NE.out.1)]; rfl, y0, y1, y2, y3, y4⟩))
        have hb9 : Below W9.heap.size W9 W9.drew := (Below.refl _ W9).drew
        go_upto_region 7 with fail
        clear c0 c1 c2 c3 c4 s0 s1 s2 s3 s4
        refine wp_region_held_drew (S := fun W => (W.cell? ⟨p, 0, none⟩ = some (.map (some m)) ∧ W.cell? ⟨q, 0, none⟩ = some (.string e.k) ∧ W.cell? ⟨q, 1, none⟩ = some (.int .i64 e.c) ∧ W.cell? ⟨q, 2, none⟩ = some (.int .i64 e.n) ∧ W.cell? ⟨q, 3, none⟩ = some (.string e.v) ∧ W.cell? ⟨q, 4, none⟩ = some (.bool e.d)) ∧ Hid (Keeps (fun x => x = m) W9 W)) (by kernel_rfl) ⟨SX7.out _ (Keeps.of_below hb9 _), aside (Keeps.of_below hb9 _)⟩ (fun hHeld => ?_)
        refine wpAnyH_take (i := 0) (v := ?_) rfl (by kernel_rfl) (by kernel_rfl) (by kernel_rfl) (fun _ _ _ h => h) (Or.inl ⟨by rfl, ?_⟩) (by assumption) ?_
        rotate_left
        · intro w hSw
          go_simp
          try with_reducible rfl
        simp only [Act.put, List.getElem_toArray, List.getElem_cons_zero, List.setIfInBounds_toArray, List.set_cons_zero, List.set_cons_succ]
        refine wpAnyH_take (i := 1) (v := ?_) rfl (by kernel_rfl) (by kernel_rfl) (by kernel_rfl) (fun _ _ _ h => h) (Or.inl ⟨by rfl, ?_⟩) (by assumption) ?_
        rotate_left
        · intro w hSw
          go_simp
          try with_reducible rfl
        simp only [Act.put, List.getElem_toArray, List.getElem_cons_zero, List.getElem_cons_succ, List.setIfInBounds_toArray, List.set_cons_zero, List.set_cons_succ]
        refine wpAnyH_take (i := 2) (v := ?_) rfl (by kernel_rfl) (by kernel_rfl) (by kernel_rfl) (fun _ _ _ h => h) (Or.inl ⟨by rfl, ?_⟩) (by assumption) ?_
        rotate_left
        · intro w hSw
          go_simp
          try with_reducible rfl
        simp only [Act.put, List.getElem_toArray, List.getElem_cons_zero, List.getElem_cons_succ, List.setIfInBounds_toArray, List.set_cons_zero, List.set_cons_succ]
        refine wpAnyH_take (i := 3) (v := ?_) rfl (by kernel_rfl) (by kernel_rfl) (by kernel_rfl) (fun _ _ _ h => h) (Or.inl ⟨by rfl, ?_⟩) (by assumption) ?_
        rotate_left
        · intro w hSw
          go_simp
          try with_reducible rfl
        simp only [Act.put, List.getElem_toArray, List.getElem_cons_zero, List.getElem_cons_succ, List.setIfInBounds_toArray, List.set_cons_zero, List.set_cons_succ]
        refine wpAnyH_take (i := 4) (v := ?_) rfl (by kernel_rfl) (by kernel_rfl) (by kernel_rfl) (fun _ _ _ h => h) (Or.inl ⟨by rfl, ?_⟩) (by assumption) ?_
        rotate_left
        · intro w hSw
          go_simp
          try with_reducible rfl
        simp only [Act.put, List.getElem_toArray, List.getElem_cons_zero, List.getElem_cons_succ, List.setIfInBounds_toArray, List.set_cons_zero, List.set_cons_succ]
        refine wpAnyH_take (i := 6) (v := ?_) rfl (by kernel_rfl) (by kernel_rfl) (by kernel_rfl) (fun _ _ _ h => h) (Or.inl ⟨by rfl, ?_⟩) (by assumption) ?_
        rotate_left
        · intro w hSw
          go_simp
          try with_reducible rfl
        simp only [Act.put, List.getElem_toArray, List.getElem_cons_zero, List.getElem_cons_succ, List.setIfInBounds_toArray, List.set_cons_zero, List.set_cons_succ]
        refine wpAnyH_ready (rs := [5]) (by kernel_rfl) (by simp) ?_
        refine AllReadyH.cons rfl (fun K hK => ?_) AllReadyH.nil
        go_simp
        refine (writeof_any e _).mono ?_
        rintro r w8 ⟨rfl, bb⟩
        have hb8 := bthen hb9 bb
        refine hK.out _ _ ⟨SX7.out _ (Keeps.of_below hb8 _), aside (Keeps.of_below hb8 _)⟩ (fun hHeld => ?_)
        clear hK K bb
        refine wpAnyH_ready (rs := [7]) (by kernel_rfl) (by simp) ?_
        refine AllReadyH.cons rfl (fun K hK => ?_) AllReadyH.nil
        go_simp
        obtain ⟨w10, hrun, hown, hturn⟩ := (OW.out w8 (bthen B9.out hb8)).store lawWr Try.underlying48 HN.out (keyOf_wr HWF.out) (RE_ent e)
        simp only [wrV, wrOf] at hrun
        rw [hrun]
        show K _ _
        have hkk := (Keeps.of_below hb8 (fun x => x = m)).trans (keeps_turnedG hturn)
        refine hK.out _ _ ⟨SX7.out _ hkk, aside hkk⟩ (fun hHeld => ?_)
        clear hK K hrun
        simp only [Act.put]
        refine wpAnyH_done (by kernel_rfl) ?_ _
        have FG := aside (((HG.out.on B9.out).on hb8).upd (keeps_turnedG hturn) ⟨_, hown, RP.out.same ((OW.out w8 (bthen B9.out hb8)).tidy lawWr) HIN.out⟩ HG.out.chk)
        have FK := aside (((Keeps.of_below (bthen BQ.out B9.out) (fun x => x = m)).trans hkk))
        clear hHeld SX7 hb9 hb8 hkk hown hturn
        go_wp2
        go_ret
        exact ⟨by rw [HQ.out]; rfl, by rw [HLL.out]; exact FG.out, FK.out⟩

end Go.Proofs.Ytfkdhambbpkmpaa
