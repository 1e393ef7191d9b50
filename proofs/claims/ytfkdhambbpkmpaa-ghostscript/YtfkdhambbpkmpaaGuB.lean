/-
  Written of the code's ghost.
-/
import Derived.Test.YtfkdhambbpkmpaaGuA
namespace Go.Proofs.Ytfkdhambbpkmpaa
open Go.RowKit
set_option linter.unusedVariables false

set_option maxHeartbeats 8000000 in
set_option maxRecDepth 100000 in
theorem gwritten_any {w : World} {B p m N : Nat} {L : List En} {H : Nat → Hd} (h : Gh w B p m N L H) (e : En) (hx : wfW (wrOf e)) : Calls Try.prog 16 #[.pointer (some ⟨p, 0, none⟩), .agg #[.string e.k, .int .i64 e.c, .int .i64 e.n, .string e.v, .bool e.d]] w fun r w' => r = .returned (.bool (wrB L e)) ∧ Below w.heap.size w w' := by
  obtain ⟨q, hq⟩ : ∃ q, w.heap.size = q := ⟨_, rfl⟩
  obtain ⟨V, hV⟩ : ∃ V, w.alloc (.cells #[.string e.k, .int .i64 e.c, .int .i64 e.n, .string e.v, .bool e.d] 31) = V := ⟨_, rfl⟩
  have kq := heap_alloc_new w (.cells #[.string e.k, .int .i64 e.c, .int .i64 e.n, .string e.v, .bool e.d] 31)
  have bq := bnew w (.cells #[.string e.k, .int .i64 e.c, .int .i64 e.n, .string e.v, .bool e.d] 31)
  rw [hV] at kq bq
  rw [hq] at kq
  obtain ⟨D, hD, hR⟩ := (h.on bq).mp
  have LK := aside (fun (W : World) (bb : Below V.heap.size V W) => look_wr (show W.ownsMap Try.prog 60 RE m N D from by obtain ⟨es, clock, h1, r⟩ := hD; exact ⟨es, clock, blk_on h1 bb, r⟩) hR hx)
  have hbx := (h.on bq).bx
  have SX := aside (fun (W : World) (bb : Below V.heap.size V W) => (show W.cell? ⟨p, 0, none⟩ = some (.map (some m)) ∧ W.cell? ⟨q, 0, none⟩ = some (.string e.k) ∧ W.cell? ⟨q, 1, none⟩ = some (.int .i64 e.c) ∧ W.cell? ⟨q, 2, none⟩ = some (.int .i64 e.n) ∧ W.cell? ⟨q, 3, none⟩ = some (.string e.v) ∧ W.cell? ⟨q, 4, none⟩ = some (.bool e.d) from by
    obtain ⟨⟨y0, y1, y2, y3, y4⟩, -⟩ := box5 (blk_on kq bb)
    exact ⟨by rw [cell_of_row _ _ 0 _ _ _ (blk_on hbx bb)]; rfl, y0, y1, y2, y3, y4⟩))
  have KQ := aside kq
  have BQ := aside bq
  unfold wrB
  obtain ⟨x, hxx⟩ : ∃ x, (lookW L (wrOf e)).getD eZ = x := ⟨_, rfl⟩
  obtain ⟨y, hyy⟩ : ∃ y, (lookW L (wrOf e)).isSome = y := ⟨_, rfl⟩
  rw [hxx, hyy] at LK ⊢
  have HEQ := fun W => ent_eq x e W
  obtain ⟨z, hz⟩ : ∃ z, enEqB x e = z := ⟨_, rfl⟩
  rw [hz] at HEQ ⊢
  replace HEQ := aside HEQ
  clear hz
  have hb0 : Below V.heap.size V V.drew := (Below.refl _ V).drew
  clear h hD hR hx kq bq hbx hxx hyy
  go_enter Try.func16, Try.ntmps16
  go_upto_region 1 with fail
  try rw [hV]
  try rw [hq]
  clear hV hq
  refine wp_region_held_drew (S := fun W => (W.cell? ⟨p, 0, none⟩ = some (.map (some m)) ∧ W.cell? ⟨q, 0, none⟩ = some (.string e.k) ∧ W.cell? ⟨q, 1, none⟩ = some (.int .i64 e.c) ∧ W.cell? ⟨q, 2, none⟩ = some (.int .i64 e.n) ∧ W.cell? ⟨q, 3, none⟩ = some (.string e.v) ∧ W.cell? ⟨q, 4, none⟩ = some (.bool e.d)) ∧ Hid (Below V.heap.size V W)) (by kernel_rfl) ⟨SX.out _ hb0, aside hb0⟩ (fun hHeld => ?_)
  refine wpAnyH_take (i := 0) (v := ?_) rfl (by kernel_rfl) (by kernel_rfl) (by kernel_rfl) (fun _ _ _ h => h) (Or.inl ⟨by rfl, ?_⟩) (by assumption) ?_
  rotate_left
  · intro w hSw
    go_simp
    try with_reducible rfl
  simp only [Act.put, List.getElem_toArray, List.getElem_cons_zero, List.setIfInBounds_toArray, List.set_cons_zero, List.set_cons_succ]
  refine wpAnyH_take (i := 1) (v := ?_) rfl (by kernel_rfl) (by kernel_rfl) (by kernel_rfl) (fun _ _ _ h => h) (Or.inl ⟨by rfl, ?_⟩) (by assumption) ?_
  rotate_left
  · intro w hSw
    go_simp
    try with_reducible rfl
  simp only [Act.put, List.getElem_toArray, List.getElem_cons_zero, List.getElem_cons_succ, List.setIfInBounds_toArray, List.set_cons_zero, List.set_cons_succ]
  refine wpAnyH_take (i := 2) (v := ?_) rfl (by kernel_rfl) (by kernel_rfl) (by kernel_rfl) (fun _ _ _ h => h) (Or.inl ⟨by rfl, ?_⟩) (by assumption) ?_
  rotate_left
  · intro w hSw
    go_simp
    try with_reducible rfl
  simp only [Act.put, List.getElem_toArray, List.getElem_cons_zero, List.getElem_cons_succ, List.setIfInBounds_toArray, List.set_cons_zero, List.set_cons_succ]
  refine wpAnyH_take (i := 3) (v := ?_) rfl (by kernel_rfl) (by kernel_rfl) (by kernel_rfl) (fun _ _ _ h => h) (Or.inl ⟨by rfl, ?_⟩) (by assumption) ?_
  rotate_left
  · intro w hSw
    go_simp
    try with_reducible rfl
  simp only [Act.put, List.getElem_toArray, List.getElem_cons_zero, List.getElem_cons_succ, List.setIfInBounds_toArray, List.set_cons_zero, List.set_cons_succ]
  refine wpAnyH_take (i := 4) (v := ?_) rfl (by kernel_rfl) (by kernel_rfl) (by kernel_rfl) (fun _ _ _ h => h) (Or.inl ⟨by rfl, ?_⟩) (by assumption) ?_
  rotate_left
  · intro w hSw
    go_simp
    try with_reducible rfl
  simp only [Act.put, List.getElem_toArray, List.getElem_cons_zero, List.getElem_cons_succ, List.setIfInBounds_toArray, List.set_cons_zero, List.set_cons_succ]
  refine wpAnyH_ready (rs := [5, 10]) (by kernel_rfl) (by simp) ?_
  refine AllReadyH.cons rfl (fun K hK => ?_) (AllReadyH.cons rfl (fun K hK => ?_) AllReadyH.nil)
  ·
    go_simp
    refine (writeof_any e _).mono ?_
    rintro r w8 ⟨rfl, bb⟩
    have hb8 := bthen hHeld.2.out bb
    refine hK.out _ _ ⟨SX.out _ hb8, aside hb8⟩ (fun hHeld => ?_)
    clear hK K bb
    refine wpAnyH_take (i := 6) (v := .tuple #[.agg #[.string x.k, .int .i64 x.c, .int .i64 x.n, .string x.v, .bool x.d], .bool y]) rfl (by kernel_rfl) (by kernel_rfl) (by kernel_rfl) (fun _ _ _ h => h) (Or.inl ⟨by rfl, ?_⟩) (by assumption) ?_
    · intro w hSw
      go_simp
      have h9 := LK.out _ hSw.2.out
      simp only [wrV, wrOf] at h9
      rw [h9]
      rfl
    simp only [Act.put, List.getElem_toArray, List.getElem_cons_zero, List.getElem_cons_succ, List.setIfInBounds_toArray, List.set_cons_zero, List.set_cons_succ]
    refine wpAnyH_take (i := 7) (v := ?_) rfl (by kernel_rfl) (by kernel_rfl) (by kernel_rfl) (fun _ _ _ h => h) (Or.inl ⟨by rfl, ?_⟩) (by assumption) ?_
    rotate_left
    · intro w hSw
      go_simp
      try with_reducible rfl
    simp only [Act.put, List.getElem_toArray, List.getElem_cons_zero, List.getElem_cons_succ, List.setIfInBounds_toArray, List.set_cons_zero, List.set_cons_succ]
    refine wpAnyH_take (i := 8) (v := ?_) rfl (by kernel_rfl) (by kernel_rfl) (by kernel_rfl) (fun _ _ _ h => h) (Or.inl ⟨by rfl, ?_⟩) (by assumption) ?_
    rotate_left
    · intro w hSw
      go_simp
      try with_reducible rfl
    simp only [Act.put, List.getElem_toArray, List.getElem_cons_zero, List.getElem_cons_succ, List.setIfInBounds_toArray, List.set_cons_zero, List.set_cons_succ]
    refine wpAnyH_take (i := 9) (v := ?_) rfl (by kernel_rfl) (by kernel_rfl) (by kernel_rfl) (fun _ _ _ h => h) (Or.inl ⟨by rfl, ?_⟩) (by assumption) ?_
    rotate_left
    · intro w hSw
      go_simp
      try with_reducible rfl
    simp only [Act.put, List.getElem_toArray, List.getElem_cons_zero, List.getElem_cons_succ, List.setIfInBounds_toArray, List.set_cons_zero, List.set_cons_succ]
    refine wpAnyH_ready (rs := [10]) (by kernel_rfl) (by simp) ?_
    refine AllReadyH.cons rfl (fun K hK => ?_) AllReadyH.nil
    go_simp
    have hba := bthen hHeld.2.out (bnew w8 (.cells #[.string ⟨#[]⟩, .int .i64 0, .int .i64 0, .string ⟨#[]⟩, .bool false] 31))
    have kX := heap_alloc_new w8 (.cells #[.string ⟨#[]⟩, .int .i64 0, .int .i64 0, .string ⟨#[]⟩, .bool false] 31)
    have hpb : V.heap.size ≤ w8.heap.size := hHeld.2.out.size
    refine hK.out _ _ ⟨SX.out _ hba, aside hba⟩ (fun hHeld => ?_)
    clear hK K hba
    obtain ⟨pb, hpe⟩ : ∃ i, w8.heap.size = i := ⟨_, rfl⟩
    rw [hpe] at kX hpb
    rw [hpe]
    clear hpe
    generalize w8.alloc (.cells #[.string ⟨#[]⟩, .int .i64 0, .int .i64 0, .string ⟨#[]⟩, .bool false] 31) = WA at kX hHeld ⊢
    obtain ⟨⟨s0, s1, s2, s3, s4⟩, f0, f1, f2, f3, f4⟩ := box5 kX
    have kF := set_fiveG kX (.string x.k) (.int .i64 x.c) (.int .i64 x.n) (.string x.v) (.bool x.d)
    have bF := bel_fiveG hHeld.2.out hpb (.string x.k) (.int .i64 x.c) (.int .i64 x.n) (.string x.v) (.bool x.d)
    refine wpAnyH_ready (rs := [11]) (by kernel_rfl) (by simp) ?_
    refine AllReadyH.cons rfl (fun K hK => ?_) AllReadyH.nil
    go_simp
    refine hK.out _ _ ⟨SX.out _ bF, aside bF⟩ (fun hHeld => ?_)
    clear hK K s0 s1 s2 s3 s4 f0 f1 f2 f3 f4 kX
    refine wpAnyH_take (i := 12) (v := ?_) rfl (by kernel_rfl) (by kernel_rfl) (by kernel_rfl) (fun _ _ _ h => h) (Or.inl ⟨by rfl, ?_⟩) (by assumption) ?_
    rotate_left
    · intro w hSw
      go_simp
      try with_reducible rfl
    simp only [Act.put, List.getElem_toArray, List.getElem_cons_zero, List.getElem_cons_succ, List.setIfInBounds_toArray, List.set_cons_zero, List.set_cons_succ]
    refine wpAnyH_done (by kernel_rfl) ?_ _
    have K9 := aside kF
    have B9 := aside bF
    clear kF bF hHeld hpb
    generalize (((((WA.setCell ⟨pb, 0, none⟩ (.string x.k)).setCell ⟨pb, 1, none⟩ (.int .i64 x.c)).setCell ⟨pb, 2, none⟩ (.int .i64 x.n)).setCell ⟨pb, 3, none⟩ (.string x.v)).setCell ⟨pb, 4, none⟩ (.bool x.d)) = W9 at K9 B9 ⊢
    clear LK SX
    obtain ⟨⟨s0, s1, s2, s3, s4⟩, -⟩ := box5 K9.out
    obtain ⟨⟨c0, c1, c2, c3, c4⟩, -⟩ := box5 (blk_on KQ.out B9.out)
    have hEQ := HEQ.out
    have HBB := aside (bthen BQ.out B9.out)
    clear K9 B9 KQ BQ
    go_wp2_with fail
    all_goals
      go_ret
      refine ⟨?_, HBB.out⟩
      simp_all
  ·
    go_simp
    have hba : Below V.heap.size V (V.alloc (.cells #[.string ⟨#[]⟩, .int .i64 0, .int .i64 0, .string ⟨#[]⟩, .bool false] 31)).drew := (bnew V (.cells #[.string ⟨#[]⟩, .int .i64 0, .int .i64 0, .string ⟨#[]⟩, .bool false] 31)).drew
    have kX : (V.alloc (.cells #[.string ⟨#[]⟩, .int .i64 0, .int .i64 0, .string ⟨#[]⟩, .bool false] 31)).drew.heap[V.heap.size]? = some (.cells #[.string ⟨#[]⟩, .int .i64 0, .int .i64 0, .string ⟨#[]⟩, .bool false] 31 (0, 0)) := heap_alloc_new V (.cells #[.string ⟨#[]⟩, .int .i64 0, .int .i64 0, .string ⟨#[]⟩, .bool false] 31)
    have hpb : V.heap.size ≤ V.heap.size := Nat.le_refl _
    refine hK.out _ _ ⟨SX.out _ hba, aside hba⟩ (fun hHeld => ?_)
    clear hK K hba
    generalize (V.alloc (.cells #[.string ⟨#[]⟩, .int .i64 0, .int .i64 0, .string ⟨#[]⟩, .bool false] 31)).drew = WA at kX hHeld ⊢
    refine wpAnyH_ready (rs := [5]) (by kernel_rfl) (by simp) ?_
    refine AllReadyH.cons rfl (fun K hK => ?_) AllReadyH.nil
    go_simp
    refine (writeof_any e _).mono ?_
    rintro r w8 ⟨rfl, bb⟩
    have hb8 := bthen hHeld.2.out bb
    refine hK.out _ _ ⟨SX.out _ hb8, aside hb8⟩ (fun hHeld => ?_)
    replace kX := blk_on kX bb
    clear hK K bb
    refine wpAnyH_take (i := 6) (v := .tuple #[.agg #[.string x.k, .int .i64 x.c, .int .i64 x.n, .string x.v, .bool x.d], .bool y]) rfl (by kernel_rfl) (by kernel_rfl) (by kernel_rfl) (fun _ _ _ h => h) (Or.inl ⟨by rfl, ?_⟩) (by assumption) ?_
    · intro w hSw
      go_simp
      have h9 := LK.out _ hSw.2.out
      simp only [wrV, wrOf] at h9
      rw [h9]
      rfl
    simp only [Act.put, List.getElem_toArray, List.getElem_cons_zero, List.getElem_cons_succ, List.setIfInBounds_toArray, List.set_cons_zero, List.set_cons_succ]
    refine wpAnyH_take (i := 7) (v := ?_) rfl (by kernel_rfl) (by kernel_rfl) (by kernel_rfl) (fun _ _ _ h => h) (Or.inl ⟨by rfl, ?_⟩) (by assumption) ?_
    rotate_left
    · intro w hSw
      go_simp
      try with_reducible rfl
    simp only [Act.put, List.getElem_toArray, List.getElem_cons_zero, List.getElem_cons_succ, List.setIfInBounds_toArray, List.set_cons_zero, List.set_cons_succ]
    refine wpAnyH_take (i := 8) (v := ?_) rfl (by kernel_rfl) (by kernel_rfl) (by kernel_rfl) (fun _ _ _ h => h) (Or.inl ⟨by rfl, ?_⟩) (by assumption) ?_
    rotate_left
    · intro w hSw
      go_simp
      try with_reducible rfl
    simp only [Act.put, List.getElem_toArray, List.getElem_cons_zero, List.getElem_cons_succ, List.setIfInBounds_toArray, List.set_cons_zero, List.set_cons_succ]
    refine wpAnyH_take (i := 9) (v := ?_) rfl (by kernel_rfl) (by kernel_rfl) (by kernel_rfl) (fun _ _ _ h => h) (Or.inl ⟨by rfl, ?_⟩) (by assumption) ?_
    rotate_left
    · intro w hSw
      go_simp
      try with_reducible rfl
    simp only [Act.put, List.getElem_toArray, List.getElem_cons_zero, List.getElem_cons_succ, List.setIfInBounds_toArray, List.set_cons_zero, List.set_cons_succ]
    obtain ⟨⟨s0, s1, s2, s3, s4⟩, f0, f1, f2, f3, f4⟩ := box5 kX
    have kF := set_fiveG kX (.string x.k) (.int .i64 x.c) (.int .i64 x.n) (.string x.v) (.bool x.d)
    have bF := bel_fiveG hHeld.2.out hpb (.string x.k) (.int .i64 x.c) (.int .i64 x.n) (.string x.v) (.bool x.d)
    refine wpAnyH_ready (rs := [11]) (by kernel_rfl) (by simp) ?_
    refine AllReadyH.cons rfl (fun K hK => ?_) AllReadyH.nil
    go_simp
    refine hK.out _ _ ⟨SX.out _ bF, aside bF⟩ (fun hHeld => ?_)
    clear hK K s0 s1 s2 s3 s4 f0 f1 f2 f3 f4 kX
    refine wpAnyH_take (i := 12) (v := ?_) rfl (by kernel_rfl) (by kernel_rfl) (by kernel_rfl) (fun _ _ _ h => h) (Or.inl ⟨by rfl, ?_⟩) (by assumption) ?_
    rotate_left
    · intro w hSw
      go_simp
      try with_reducible rfl
    simp only [Act.put, List.getElem_toArray, List.getElem_cons_zero, List.getElem_cons_succ, List.setIfInBounds_toArray, List.set_cons_zero, List.set_cons_succ]
    refine wpAnyH_done (by kernel_rfl) ?_ _
    have K9 := aside kF
    have B9 := aside bF
    clear kF bF hHeld hpb
    generalize (((((w8.setCell ⟨V.heap.size, 0, none⟩ (.string x.k)).setCell ⟨V.heap.size, 1, none⟩ (.int .i64 x.c)).setCell ⟨V.heap.size, 2, none⟩ (.int .i64 x.n)).setCell ⟨V.heap.size, 3, none⟩ (.string x.v)).setCell ⟨V.heap.size, 4, none⟩ (.bool x.d)) = W9 at K9 B9 ⊢
    clear LK SX
    obtain ⟨⟨s0, s1, s2, s3, s4⟩, -⟩ := box5 K9.out
    obtain ⟨⟨c0, c1, c2, c3, c4⟩, -⟩ := box5 (blk_on KQ.out B9.out)
    have hEQ := HEQ.out
    have HBB := aside (bthen BQ.out B9.out)
    clear K9 B9 KQ BQ
    go_wp2_with fail
    all_goals
      go_ret
      refine ⟨?_, HBB.out⟩
      simp_all

end Go.Proofs.Ytfkdhambbpkmpaa
