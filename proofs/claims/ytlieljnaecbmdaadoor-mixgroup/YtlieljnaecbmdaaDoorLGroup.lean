/-
  The law MixGroup, walked.
-/
import Derived.Test.YtlieljnaecbmdaaDoorMShown
import Derived.OrdersHeld
namespace Go.Proofs.YtlieljnaecbmdaaDoor
open Go.RowKit
set_option linter.unusedVariables false

theorem grp_keep {w W W' : World} {i j k l m : Nat} {a0 a1 b0 b1 c0 c1 s0 s1 : Int} (h : Below w.heap.size w W ∧ W.cell? ⟨i, 0, none⟩ = some (.int .u64 a0) ∧ W.cell? ⟨i, 1, none⟩ = some (.int .u64 a1) ∧ W.cell? ⟨j, 0, none⟩ = some (.int .u64 b0) ∧ W.cell? ⟨j, 1, none⟩ = some (.int .u64 b1) ∧ W.cell? ⟨k, 0, none⟩ = some (.int .u64 c0) ∧ W.cell? ⟨k, 1, none⟩ = some (.int .u64 c1) ∧ W.cell? ⟨l, 0, none⟩ = some (.int .u64 s0) ∧ W.cell? ⟨l, 1, none⟩ = some (.int .u64 s1) ∧ W.cell? ⟨m, 0, none⟩ = some (.int .u64 0) ∧ W.cell? ⟨m, 1, none⟩ = some (.int .u64 0)) (bb : Below W.heap.size W W') :
    Below w.heap.size w W' ∧ W'.cell? ⟨i, 0, none⟩ = some (.int .u64 a0) ∧ W'.cell? ⟨i, 1, none⟩ = some (.int .u64 a1) ∧ W'.cell? ⟨j, 0, none⟩ = some (.int .u64 b0) ∧ W'.cell? ⟨j, 1, none⟩ = some (.int .u64 b1) ∧ W'.cell? ⟨k, 0, none⟩ = some (.int .u64 c0) ∧ W'.cell? ⟨k, 1, none⟩ = some (.int .u64 c1) ∧ W'.cell? ⟨l, 0, none⟩ = some (.int .u64 s0) ∧ W'.cell? ⟨l, 1, none⟩ = some (.int .u64 s1) ∧ W'.cell? ⟨m, 0, none⟩ = some (.int .u64 0) ∧ W'.cell? ⟨m, 1, none⟩ = some (.int .u64 0) := by
  obtain ⟨h, h0, h1, h2, h3, h4, h5, h6, h7, h8, h9⟩ := h
  exact ⟨bthen h bb, cell_in h0 bb, cell_in h1 bb, cell_in h2 bb, cell_in h3 bb, cell_in h4 bb, cell_in h5 bb, cell_in h6 bb, cell_in h7 bb, cell_in h8 bb, cell_in h9 bb⟩

theorem add_at {a0 a1 b0 b1 s0 s1 : Int} (h0 : IntKind.u64.wrap (a0 + b0) = s0) (h1 : IntKind.u64.wrap (a1 + b1) = s1) (w : World) :
    Calls Tryd.prog 14 #[.agg #[.int .u64 a0, .int .u64 a1], .agg #[.int .u64 b0, .int .u64 b1]] w fun e w' => e = .returned (.agg #[.int .u64 s0, .int .u64 s1]) ∧ Below w.heap.size w w' := by
  subst h0 h1; exact add_any _ _ _ _ w

theorem addRef_at {a0 a1 b0 b1 s0 s1 : Int} (h0 : IntKind.u64.wrap (a0 + b0) = s0) (h1 : IntKind.u64.wrap (a1 + b1) = s1) (w : World) :
    Calls Tryd.prog 15 #[.agg #[.int .u64 a0, .int .u64 a1], .agg #[.int .u64 b0, .int .u64 b1]] w fun e w' => e = .returned (.agg #[.int .u64 s0, .int .u64 s1]) ∧ Below w.heap.size w w' := by
  subst h0 h1; exact addRef_any _ _ _ _ w

theorem less_at {a0 a1 b0 b1 s0 s1 : Int} (h0 : IntKind.u64.wrap (a0 - b0) = s0) (h1 : IntKind.u64.wrap (a1 - b1) = s1) (w : World) :
    Calls Tryd.prog 16 #[.agg #[.int .u64 a0, .int .u64 a1], .agg #[.int .u64 b0, .int .u64 b1]] w fun e w' => e = .returned (.agg #[.int .u64 s0, .int .u64 s1]) ∧ Below w.heap.size w w' := by
  subst h0 h1; exact less_any _ _ _ _ w

theorem lessRef_at {a0 a1 b0 b1 s0 s1 : Int} (h0 : IntKind.u64.wrap (a0 - b0) = s0) (h1 : IntKind.u64.wrap (a1 - b1) = s1) (w : World) :
    Calls Tryd.prog 17 #[.agg #[.int .u64 a0, .int .u64 a1], .agg #[.int .u64 b0, .int .u64 b1]] w fun e w' => e = .returned (.agg #[.int .u64 s0, .int .u64 s1]) ∧ Below w.heap.size w w' := by
  subst h0 h1; exact lessRef_any _ _ _ _ w

set_option maxRecDepth 100000 in
set_option maxHeartbeats 6400000 in
theorem lgroup_int (a0 a1 b0 b1 c0 c1 s0 s1 m0 m1 t0 t1 u0 u1 n0 n1 : Int) (w : World) (L : Lanes w)
    (es0 : IntKind.u64.wrap (a0 + b0) = s0) (es1 : IntKind.u64.wrap (a1 + b1) = s1) (em0 : IntKind.u64.wrap (a0 - b0) = m0) (em1 : IntKind.u64.wrap (a1 - b1) = m1) (ec0 : IntKind.u64.wrap (b0 + a0) = s0) (ec1 : IntKind.u64.wrap (b1 + a1) = s1) (et0 : IntKind.u64.wrap (s0 + c0) = t0) (et1 : IntKind.u64.wrap (s1 + c1) = t1) (eu0 : IntKind.u64.wrap (b0 + c0) = u0) (eu1 : IntKind.u64.wrap (b1 + c1) = u1) (ev0 : IntKind.u64.wrap (a0 + u0) = t0) (ev1 : IntKind.u64.wrap (a1 + u1) = t1) (ez0 : IntKind.u64.wrap (a0 + 0) = a0) (ez1 : IntKind.u64.wrap (a1 + 0) = a1) (ey0 : IntKind.u64.wrap (a0 - 0) = a0) (ey1 : IntKind.u64.wrap (a1 - 0) = a1) (ex0 : IntKind.u64.wrap (a0 - a0) = 0) (ex1 : IntKind.u64.wrap (a1 - a1) = 0) (ew0 : IntKind.u64.wrap (s0 - b0) = a0) (ew1 : IntKind.u64.wrap (s1 - b1) = a1) (eo0 : IntKind.u64.wrap (m0 + b0) = a0) (eo1 : IntKind.u64.wrap (m1 + b1) = a1) (en0 : IntKind.u64.wrap (b0 - a0) = n0) (en1 : IntKind.u64.wrap (b1 - a1) = n1) (ep0 : IntKind.u64.wrap (0 - m0) = n0) (ep1 : IntKind.u64.wrap (0 - m1) = n1) :
    Calls Tryd.prog 5 #[.agg #[.int .u64 a0, .int .u64 a1], .agg #[.int .u64 b0, .int .u64 b1], .agg #[.int .u64 c0, .int .u64 c1]] w fun e w' => e = .returned (.bool true) ∧ Below w.heap.size w w' := by
  have CA1 := aside (fun W => add_at es0 es1 W)
  have CR1 := aside (fun W => addRef_at es0 es1 W)
  have CL1 := aside (fun W => less_at em0 em1 W)
  have CRL := aside (fun W => lessRef_at em0 em1 W)
  have CA2 := aside (fun W => add_at ec0 ec1 W)
  have CA3 := aside (fun W => add_at et0 et1 W)
  have CA4 := aside (fun W => add_at eu0 eu1 W)
  have CA5 := aside (fun W => add_at ev0 ev1 W)
  have CA6 := aside (fun W => add_at ez0 ez1 W)
  have CL2 := aside (fun W => less_at ey0 ey1 W)
  have CL3 := aside (fun W => less_at ex0 ex1 W)
  have CL4 := aside (fun W => less_at ew0 ew1 W)
  have CA7 := aside (fun W => add_at eo0 eo1 W)
  have CL5 := aside (fun W => less_at ep0 ep1 W)
  have CL6 := aside (fun W => less_at en0 en1 W)
  clear es0 es1 em0 em1 ec0 ec1 et0 et1 eu0 eu1 ev0 ev1 ez0 ez1 ey0 ey1 ex0 ex1 ew0 ew1 eo0 eo1 ep0 ep1 en0 en1
  have qs := sum_same s0 s1
  have qm := sum_same m0 m1
  have qt := sum_same t0 t1
  have qa := sum_same a0 a1
  have qz := sum_same 0 0
  have qn := sum_same n0 n1
  have LL := aside L
  clear L
  have R1 := aside (heap_alloc_new w (.cells #[.int .u64 a0, .int .u64 a1] 27))
  have R2 := aside (heap_alloc_new (w.alloc (.cells #[.int .u64 a0, .int .u64 a1] 27)) (.cells #[.int .u64 b0, .int .u64 b1] 27))
  have R3 := aside (heap_alloc_new ((w.alloc (.cells #[.int .u64 a0, .int .u64 a1] 27)).alloc (.cells #[.int .u64 b0, .int .u64 b1] 27)) (.cells #[.int .u64 c0, .int .u64 c1] 27))
  have B0 := aside (bthen (bthen (bnew w (.cells #[.int .u64 a0, .int .u64 a1] 27)) (bnew _ (.cells #[.int .u64 b0, .int .u64 b1] 27))) (bnew _ (.cells #[.int .u64 c0, .int .u64 c1] 27)))
  have K1 := aside (blk_on (blk_on R1.out (bnew _ (.cells #[.int .u64 b0, .int .u64 b1] 27))) (bnew _ (.cells #[.int .u64 c0, .int .u64 c1] 27)))
  have K2 := aside (blk_on R2.out (bnew _ (.cells #[.int .u64 c0, .int .u64 c1] 27)))
  have hz1 : (w.alloc (.cells #[.int .u64 a0, .int .u64 a1] 27)).heap.size = w.heap.size + 1 := by simp
  have hz2 : ((w.alloc (.cells #[.int .u64 a0, .int .u64 a1] 27)).alloc (.cells #[.int .u64 b0, .int .u64 b1] 27)).heap.size = w.heap.size + 1 + 1 := by simp
  rw [hz1] at K2
  rw [hz2] at R3
  clear R1 R2 hz1 hz2
  go_enter Tryd.func5, Tryd.ntmps5
  go_wp2_with fail
  generalize ((w.alloc (.cells #[.int .u64 a0, .int .u64 a1] 27)).alloc (.cells #[.int .u64 b0, .int .u64 b1] 27)).alloc (.cells #[.int .u64 c0, .int .u64 c1] 27) = V0 at *
  refine (shown_any _ (LL.out.keep B0.out)).mono ?_
  rintro e w1 ⟨rfl, b1⟩
  have J1 := aside (blk_on K1.out b1)
  have J2 := aside (blk_on K2.out b1)
  have J3 := aside (blk_on R3.out b1)
  have B1 := aside (bthen B0.out b1)
  clear b1 B0 K1 K2 R3 LL
  obtain ⟨p0, p1, -, -⟩ := pair J1.out
  obtain ⟨p2, p3, -, -⟩ := pair J2.out
  go_wp2_with fail
  refine (CA1.out _).mono ?_
  rintro e w2 ⟨rfl, b2⟩
  have G1 := aside (blk_on (blk_on (blk_on J1.out b2) (bnew _ (.cells #[.int .u64 s0, .int .u64 s1] 27))) (bnew _ (.cells #[.int .u64 0, .int .u64 0] 27)))
  have G2 := aside (blk_on (blk_on (blk_on J2.out b2) (bnew _ (.cells #[.int .u64 s0, .int .u64 s1] 27))) (bnew _ (.cells #[.int .u64 0, .int .u64 0] 27)))
  have G3 := aside (blk_on (blk_on (blk_on J3.out b2) (bnew _ (.cells #[.int .u64 s0, .int .u64 s1] 27))) (bnew _ (.cells #[.int .u64 0, .int .u64 0] 27)))
  have G4 := aside (blk_on (heap_alloc_new w2 (.cells #[.int .u64 s0, .int .u64 s1] 27)) (bnew _ (.cells #[.int .u64 0, .int .u64 0] 27)))
  have G5 := aside (heap_alloc_new (w2.alloc (.cells #[.int .u64 s0, .int .u64 s1] 27)) (.cells #[.int .u64 0, .int .u64 0] 27))
  have hz3 : (w2.alloc (.cells #[.int .u64 s0, .int .u64 s1] 27)).heap.size = w2.heap.size + 1 := by simp
  rw [hz3] at G5
  have B2 := aside (bthen (bthen (bthen B1.out b2) (bnew _ (.cells #[.int .u64 s0, .int .u64 s1] 27))) (bnew _ (.cells #[.int .u64 0, .int .u64 0] 27)))
  clear b2 B1 J1 J2 J3 p0 p1 p2 p3 hz3 CA1
  go_wp2_with fail
  obtain ⟨i7, h7⟩ : ∃ i, i = w2.heap.size := ⟨_, rfl⟩
  obtain ⟨i8, h8⟩ : ∃ i, i = w2.heap.size + 1 := ⟨_, rfl⟩
  rw [← h8] at G5
  rw [← h7] at G4
  try rw [← h8]
  try rw [← h7]
  generalize ((w2.alloc (.cells #[.int .u64 s0, .int .u64 s1] 27)).alloc (.cells #[.int .u64 0, .int .u64 0] 27)) = V1 at *
  have S0 : Hid (Below w.heap.size w V1.drew ∧ V1.drew.cell? ⟨w.heap.size, 0, none⟩ = some (.int .u64 a0) ∧ V1.drew.cell? ⟨w.heap.size, 1, none⟩ = some (.int .u64 a1) ∧ V1.drew.cell? ⟨w.heap.size + 1, 0, none⟩ = some (.int .u64 b0) ∧ V1.drew.cell? ⟨w.heap.size + 1, 1, none⟩ = some (.int .u64 b1) ∧ V1.drew.cell? ⟨w.heap.size + 1 + 1, 0, none⟩ = some (.int .u64 c0) ∧ V1.drew.cell? ⟨w.heap.size + 1 + 1, 1, none⟩ = some (.int .u64 c1) ∧ V1.drew.cell? ⟨i7, 0, none⟩ = some (.int .u64 s0) ∧ V1.drew.cell? ⟨i7, 1, none⟩ = some (.int .u64 s1) ∧ V1.drew.cell? ⟨i8, 0, none⟩ = some (.int .u64 0) ∧ V1.drew.cell? ⟨i8, 1, none⟩ = some (.int .u64 0)) :=
    ⟨B2.out.drew, (pair G1.out).1, (pair G1.out).2.1, (pair G2.out).1, (pair G2.out).2.1, (pair G3.out).1, (pair G3.out).2.1, (pair G4.out).1, (pair G4.out).2.1, (pair G5.out).1, (pair G5.out).2.1⟩
  clear G1 G2 G3 G4 G5 B2 h7 h8
  simp only [List.append_eq, List.cons_append, List.nil_append]
  refine wp_region_held_drew (S := fun W => Below w.heap.size w W ∧ W.cell? ⟨w.heap.size, 0, none⟩ = some (.int .u64 a0) ∧ W.cell? ⟨w.heap.size, 1, none⟩ = some (.int .u64 a1) ∧ W.cell? ⟨w.heap.size + 1, 0, none⟩ = some (.int .u64 b0) ∧ W.cell? ⟨w.heap.size + 1, 1, none⟩ = some (.int .u64 b1) ∧ W.cell? ⟨w.heap.size + 1 + 1, 0, none⟩ = some (.int .u64 c0) ∧ W.cell? ⟨w.heap.size + 1 + 1, 1, none⟩ = some (.int .u64 c1) ∧ W.cell? ⟨i7, 0, none⟩ = some (.int .u64 s0) ∧ W.cell? ⟨i7, 1, none⟩ = some (.int .u64 s1) ∧ W.cell? ⟨i8, 0, none⟩ = some (.int .u64 0) ∧ W.cell? ⟨i8, 1, none⟩ = some (.int .u64 0)) (by kernel_rfl) S0.out (fun hHeld => ?_)
  clear S0
  refine wpAnyH_take (i := 0) (v := ?_) rfl (by kernel_rfl) (by kernel_rfl) (by kernel_rfl) (fun _ _ _ h => h) (Or.inl ⟨by rfl, ?_⟩) (by assumption) ?_
  rotate_left
  · intro w hSw
    go_simp
    try with_reducible rfl
  simp only [Act.put, List.getElem_toArray, List.getElem_cons_zero, List.setIfInBounds_toArray, List.set_cons_zero, List.set_cons_succ]
  refine wpAnyH_take (i := 1) (v := ?_) rfl (by kernel_rfl) (by kernel_rfl) (by kernel_rfl) (fun _ _ _ h => h) (Or.inl ⟨by rfl, ?_⟩) (by assumption) ?_
  rotate_left
  · intro w hSw
    go_simp
    try with_reducible rfl
  simp only [Act.put, List.getElem_toArray, List.getElem_cons_zero, List.getElem_cons_succ, List.setIfInBounds_toArray, List.set_cons_zero, List.set_cons_succ]
  refine wpAnyH_take (i := 2) (v := ?_) rfl (by kernel_rfl) (by kernel_rfl) (by kernel_rfl) (fun _ _ _ h => h) (Or.inl ⟨by rfl, ?_⟩) (by assumption) ?_
  rotate_left
  · intro w hSw
    go_simp
    try with_reducible rfl
  simp only [Act.put, List.getElem_toArray, List.getElem_cons_zero, List.getElem_cons_succ, List.setIfInBounds_toArray, List.set_cons_zero, List.set_cons_succ]
  refine wpAnyH_ready (rs := [3]) (by kernel_rfl) (by simp) ?_
  refine AllReadyH.cons rfl (fun K hK => ?_) AllReadyH.nil
  go_simp
  refine (CR1.out _).mono ?_
  rintro e w9 ⟨rfl, bb⟩
  refine hK.out _ _ (grp_keep hHeld bb) (fun hHeld => ?_)
  clear hK K 
  refine wpAnyH_take (i := 4) (v := ?_) rfl (by kernel_rfl) (by kernel_rfl) (by kernel_rfl) (fun _ _ _ h => h) (Or.inl ⟨by rfl, ?_⟩) (by assumption) ?_
  rotate_left
  · intro w hSw
    go_simp
    try with_reducible rfl
  simp only [Act.put, List.getElem_toArray, List.getElem_cons_zero, List.getElem_cons_succ, List.setIfInBounds_toArray, List.set_cons_zero, List.set_cons_succ]
  refine wpAnyH_take (i := 5) (v := ?_) rfl (by kernel_rfl) (by kernel_rfl) (by kernel_rfl) (fun _ _ _ h => h) (Or.inl ⟨by rfl, ?_⟩) (by assumption) ?_
  rotate_left
  · intro w hSw
    go_simp
    try with_reducible rfl
  simp only [Act.put, List.getElem_toArray, List.getElem_cons_zero, List.getElem_cons_succ, List.setIfInBounds_toArray, List.set_cons_zero, List.set_cons_succ]
  refine wpAnyH_take (i := 6) (v := ?_) rfl (by kernel_rfl) (by kernel_rfl) (by kernel_rfl) (fun _ _ _ h => h) (Or.inl ⟨by rfl, ?_⟩) (by assumption) ?_
  rotate_left
  · intro w hSw
    go_simp
    try with_reducible rfl
  simp only [Act.put, List.getElem_toArray, List.getElem_cons_zero, List.getElem_cons_succ, List.setIfInBounds_toArray, List.set_cons_zero, List.set_cons_succ]
  refine wpAnyH_take (i := 7) (v := ?_) rfl (by kernel_rfl) (by kernel_rfl) (by kernel_rfl) (fun _ _ _ h => h) (Or.inl ⟨by rfl, ?_⟩) (by assumption) ?_
  rotate_left
  · intro w hSw
    go_simp
    try with_reducible rfl
  simp only [Act.put, List.getElem_toArray, List.getElem_cons_zero, List.getElem_cons_succ, List.setIfInBounds_toArray, List.set_cons_zero, List.set_cons_succ]
  refine wpAnyH_take (i := 9) (v := ?_) rfl (by kernel_rfl) (by kernel_rfl) (by kernel_rfl) (fun _ _ _ h => h) (Or.inl ⟨by rfl, ?_⟩) (by assumption) ?_
  rotate_left
  · intro w hSw
    go_simp
    try with_reducible rfl
  simp only [Act.put, List.getElem_toArray, List.getElem_cons_zero, List.getElem_cons_succ, List.setIfInBounds_toArray, List.set_cons_zero, List.set_cons_succ]
  refine wpAnyH_take (i := 10) (v := ?_) rfl (by kernel_rfl) (by kernel_rfl) (by kernel_rfl) (fun _ _ _ h => h) (Or.inl ⟨by rfl, ?_⟩) (by assumption) ?_
  rotate_left
  · intro w hSw
    go_simp
    try with_reducible rfl
  simp only [Act.put, List.getElem_toArray, List.getElem_cons_zero, List.getElem_cons_succ, List.setIfInBounds_toArray, List.set_cons_zero, List.set_cons_succ]
  refine wpAnyH_ready (rs := [8]) (by kernel_rfl) (by simp) ?_
  refine AllReadyH.cons rfl (fun K hK => ?_) AllReadyH.nil
  go_simp
  refine (CL1.out _).mono ?_
  rintro e w9 ⟨rfl, bb⟩
  refine hK.out _ _ (grp_keep hHeld bb) (fun hHeld => ?_)
  clear hK K 
  refine wpAnyH_ready (rs := [11]) (by kernel_rfl) (by simp) ?_
  refine AllReadyH.cons rfl (fun K hK => ?_) AllReadyH.nil
  go_simp
  refine (CRL.out _).mono ?_
  rintro e w9 ⟨rfl, bb⟩
  refine hK.out _ _ (grp_keep hHeld bb) (fun hHeld => ?_)
  clear hK K 
  refine wpAnyH_take (i := 12) (v := ?_) rfl (by kernel_rfl) (by kernel_rfl) (by kernel_rfl) (fun _ _ _ h => h) (Or.inl ⟨by rfl, ?_⟩) (by assumption) ?_
  rotate_left
  · intro w hSw
    go_simp
    try with_reducible rfl
  simp only [Act.put, List.getElem_toArray, List.getElem_cons_zero, List.getElem_cons_succ, List.setIfInBounds_toArray, List.set_cons_zero, List.set_cons_succ]
  refine wpAnyH_take (i := 13) (v := ?_) rfl (by kernel_rfl) (by kernel_rfl) (by kernel_rfl) (fun _ _ _ h => h) (Or.inl ⟨by rfl, ?_⟩) (by assumption) ?_
  rotate_left
  · intro w hSw
    go_simp
    try with_reducible rfl
  simp only [Act.put, List.getElem_toArray, List.getElem_cons_zero, List.getElem_cons_succ, List.setIfInBounds_toArray, List.set_cons_zero, List.set_cons_succ]
  refine wpAnyH_take (i := 14) (v := ?_) rfl (by kernel_rfl) (by kernel_rfl) (by kernel_rfl) (fun _ _ _ h => h) (Or.inl ⟨by rfl, ?_⟩) (by assumption) ?_
  rotate_left
  · intro w hSw
    go_simp
    try with_reducible rfl
  simp only [Act.put, List.getElem_toArray, List.getElem_cons_zero, List.getElem_cons_succ, List.setIfInBounds_toArray, List.set_cons_zero, List.set_cons_succ]
  refine wpAnyH_take (i := 15) (v := ?_) rfl (by kernel_rfl) (by kernel_rfl) (by kernel_rfl) (fun _ _ _ h => h) (Or.inl ⟨by rfl, ?_⟩) (by assumption) ?_
  rotate_left
  · intro w hSw
    go_simp
    try with_reducible rfl
  simp only [Act.put, List.getElem_toArray, List.getElem_cons_zero, List.getElem_cons_succ, List.setIfInBounds_toArray, List.set_cons_zero, List.set_cons_succ]
  refine wpAnyH_take (i := 16) (v := ?_) rfl (by kernel_rfl) (by kernel_rfl) (by kernel_rfl) (fun _ _ _ h => h) (Or.inl ⟨by rfl, ?_⟩) (by assumption) ?_
  rotate_left
  · intro w hSw
    go_simp
    try with_reducible rfl
  simp only [Act.put, List.getElem_toArray, List.getElem_cons_zero, List.getElem_cons_succ, List.setIfInBounds_toArray, List.set_cons_zero, List.set_cons_succ]
  refine wpAnyH_take (i := 17) (v := ?_) rfl (by kernel_rfl) (by kernel_rfl) (by kernel_rfl) (fun _ _ _ h => h) (Or.inl ⟨by rfl, ?_⟩) (by assumption) ?_
  rotate_left
  · intro w hSw
    go_simp
    try with_reducible rfl
  simp only [Act.put, List.getElem_toArray, List.getElem_cons_zero, List.getElem_cons_succ, List.setIfInBounds_toArray, List.set_cons_zero, List.set_cons_succ]
  refine wpAnyH_ready (rs := [18]) (by kernel_rfl) (by simp) ?_
  refine AllReadyH.cons rfl (fun K hK => ?_) AllReadyH.nil
  go_simp
  refine (CA2.out _).mono ?_
  rintro e w9 ⟨rfl, bb⟩
  refine hK.out _ _ (grp_keep hHeld bb) (fun hHeld => ?_)
  clear hK K 
  refine wpAnyH_take (i := 19) (v := ?_) rfl (by kernel_rfl) (by kernel_rfl) (by kernel_rfl) (fun _ _ _ h => h) (Or.inl ⟨by rfl, ?_⟩) (by assumption) ?_
  rotate_left
  · intro w hSw
    go_simp
    try with_reducible rfl
  simp only [Act.put, List.getElem_toArray, List.getElem_cons_zero, List.getElem_cons_succ, List.setIfInBounds_toArray, List.set_cons_zero, List.set_cons_succ]
  refine wpAnyH_take (i := 20) (v := ?_) rfl (by kernel_rfl) (by kernel_rfl) (by kernel_rfl) (fun _ _ _ h => h) (Or.inl ⟨by rfl, ?_⟩) (by assumption) ?_
  rotate_left
  · intro w hSw
    go_simp
    try with_reducible rfl
  simp only [Act.put, List.getElem_toArray, List.getElem_cons_zero, List.getElem_cons_succ, List.setIfInBounds_toArray, List.set_cons_zero, List.set_cons_succ]
  refine wpAnyH_take (i := 21) (v := ?_) rfl (by kernel_rfl) (by kernel_rfl) (by kernel_rfl) (fun _ _ _ h => h) (Or.inl ⟨by rfl, ?_⟩) (by assumption) ?_
  rotate_left
  · intro w hSw
    go_simp
    try with_reducible rfl
  simp only [Act.put, List.getElem_toArray, List.getElem_cons_zero, List.getElem_cons_succ, List.setIfInBounds_toArray, List.set_cons_zero, List.set_cons_succ]
  refine wpAnyH_take (i := 22) (v := ?_) rfl (by kernel_rfl) (by kernel_rfl) (by kernel_rfl) (fun _ _ _ h => h) (Or.inl ⟨by rfl, ?_⟩) (by assumption) ?_
  rotate_left
  · intro w hSw
    go_simp
    try with_reducible rfl
  simp only [Act.put, List.getElem_toArray, List.getElem_cons_zero, List.getElem_cons_succ, List.setIfInBounds_toArray, List.set_cons_zero, List.set_cons_succ]
  refine wpAnyH_take (i := 23) (v := ?_) rfl (by kernel_rfl) (by kernel_rfl) (by kernel_rfl) (fun _ _ _ h => h) (Or.inl ⟨by rfl, ?_⟩) (by assumption) ?_
  rotate_left
  · intro w hSw
    go_simp
    try with_reducible rfl
  simp only [Act.put, List.getElem_toArray, List.getElem_cons_zero, List.getElem_cons_succ, List.setIfInBounds_toArray, List.set_cons_zero, List.set_cons_succ]
  refine wpAnyH_take (i := 25) (v := ?_) rfl (by kernel_rfl) (by kernel_rfl) (by kernel_rfl) (fun _ _ _ h => h) (Or.inl ⟨by rfl, ?_⟩) (by assumption) ?_
  rotate_left
  · intro w hSw
    go_simp
    try with_reducible rfl
  simp only [Act.put, List.getElem_toArray, List.getElem_cons_zero, List.getElem_cons_succ, List.setIfInBounds_toArray, List.set_cons_zero, List.set_cons_succ]
  refine wpAnyH_take (i := 26) (v := ?_) rfl (by kernel_rfl) (by kernel_rfl) (by kernel_rfl) (fun _ _ _ h => h) (Or.inl ⟨by rfl, ?_⟩) (by assumption) ?_
  rotate_left
  · intro w hSw
    go_simp
    try with_reducible rfl
  simp only [Act.put, List.getElem_toArray, List.getElem_cons_zero, List.getElem_cons_succ, List.setIfInBounds_toArray, List.set_cons_zero, List.set_cons_succ]
  refine wpAnyH_take (i := 27) (v := ?_) rfl (by kernel_rfl) (by kernel_rfl) (by kernel_rfl) (fun _ _ _ h => h) (Or.inl ⟨by rfl, ?_⟩) (by assumption) ?_
  rotate_left
  · intro w hSw
    go_simp
    try with_reducible rfl
  simp only [Act.put, List.getElem_toArray, List.getElem_cons_zero, List.getElem_cons_succ, List.setIfInBounds_toArray, List.set_cons_zero, List.set_cons_succ]
  refine wpAnyH_ready (rs := [24]) (by kernel_rfl) (by simp) ?_
  refine AllReadyH.cons rfl (fun K hK => ?_) AllReadyH.nil
  go_simp
  refine (CA3.out _).mono ?_
  rintro e w9 ⟨rfl, bb⟩
  refine hK.out _ _ (grp_keep hHeld bb) (fun hHeld => ?_)
  clear hK K 
  refine wpAnyH_ready (rs := [28]) (by kernel_rfl) (by simp) ?_
  refine AllReadyH.cons rfl (fun K hK => ?_) AllReadyH.nil
  go_simp
  refine (CA4.out _).mono ?_
  rintro e w9 ⟨rfl, bb⟩
  refine hK.out _ _ (grp_keep hHeld bb) (fun hHeld => ?_)
  clear hK K 
  refine wpAnyH_ready (rs := [29]) (by kernel_rfl) (by simp) ?_
  refine AllReadyH.cons rfl (fun K hK => ?_) AllReadyH.nil
  go_simp
  refine (CA5.out _).mono ?_
  rintro e w9 ⟨rfl, bb⟩
  refine hK.out _ _ (grp_keep hHeld bb) (fun hHeld => ?_)
  clear hK K 
  refine wpAnyH_take (i := 30) (v := ?_) rfl (by kernel_rfl) (by kernel_rfl) (by kernel_rfl) (fun _ _ _ h => h) (Or.inl ⟨by rfl, ?_⟩) (by assumption) ?_
  rotate_left
  · intro w hSw
    go_simp
    try with_reducible rfl
  simp only [Act.put, List.getElem_toArray, List.getElem_cons_zero, List.getElem_cons_succ, List.setIfInBounds_toArray, List.set_cons_zero, List.set_cons_succ]
  refine wpAnyH_take (i := 31) (v := ?_) rfl (by kernel_rfl) (by kernel_rfl) (by kernel_rfl) (fun _ _ _ h => h) (Or.inl ⟨by rfl, ?_⟩) (by assumption) ?_
  rotate_left
  · intro w hSw
    go_simp
    try with_reducible rfl
  simp only [Act.put, List.getElem_toArray, List.getElem_cons_zero, List.getElem_cons_succ, List.setIfInBounds_toArray, List.set_cons_zero, List.set_cons_succ]
  refine wpAnyH_take (i := 32) (v := ?_) rfl (by kernel_rfl) (by kernel_rfl) (by kernel_rfl) (fun _ _ _ h => h) (Or.inl ⟨by rfl, ?_⟩) (by assumption) ?_
  rotate_left
  · intro w hSw
    go_simp
    try with_reducible rfl
  simp only [Act.put, List.getElem_toArray, List.getElem_cons_zero, List.getElem_cons_succ, List.setIfInBounds_toArray, List.set_cons_zero, List.set_cons_succ]
  refine wpAnyH_take (i := 33) (v := ?_) rfl (by kernel_rfl) (by kernel_rfl) (by kernel_rfl) (fun _ _ _ h => h) (Or.inl ⟨by rfl, ?_⟩) (by assumption) ?_
  rotate_left
  · intro w hSw
    go_simp
    try with_reducible rfl
  simp only [Act.put, List.getElem_toArray, List.getElem_cons_zero, List.getElem_cons_succ, List.setIfInBounds_toArray, List.set_cons_zero, List.set_cons_succ]
  refine wpAnyH_take (i := 34) (v := ?_) rfl (by kernel_rfl) (by kernel_rfl) (by kernel_rfl) (fun _ _ _ h => h) (Or.inl ⟨by rfl, ?_⟩) (by assumption) ?_
  rotate_left
  · intro w hSw
    go_simp
    try with_reducible rfl
  simp only [Act.put, List.getElem_toArray, List.getElem_cons_zero, List.getElem_cons_succ, List.setIfInBounds_toArray, List.set_cons_zero, List.set_cons_succ]
  refine wpAnyH_take (i := 36) (v := ?_) rfl (by kernel_rfl) (by kernel_rfl) (by kernel_rfl) (fun _ _ _ h => h) (Or.inl ⟨by rfl, ?_⟩) (by assumption) ?_
  rotate_left
  · intro w hSw
    go_simp
    try with_reducible rfl
  simp only [Act.put, List.getElem_toArray, List.getElem_cons_zero, List.getElem_cons_succ, List.setIfInBounds_toArray, List.set_cons_zero, List.set_cons_succ]
  refine wpAnyH_ready (rs := [35]) (by kernel_rfl) (by simp) ?_
  refine AllReadyH.cons rfl (fun K hK => ?_) AllReadyH.nil
  go_simp
  refine (CA6.out _).mono ?_
  rintro e w9 ⟨rfl, bb⟩
  refine hK.out _ _ (grp_keep hHeld bb) (fun hHeld => ?_)
  clear hK K 
  refine wpAnyH_take (i := 37) (v := ?_) rfl (by kernel_rfl) (by kernel_rfl) (by kernel_rfl) (fun _ _ _ h => h) (Or.inl ⟨by rfl, ?_⟩) (by assumption) ?_
  rotate_left
  · intro w hSw
    go_simp
    try with_reducible rfl
  simp only [Act.put, List.getElem_toArray, List.getElem_cons_zero, List.getElem_cons_succ, List.setIfInBounds_toArray, List.set_cons_zero, List.set_cons_succ]
  refine wpAnyH_take (i := 38) (v := ?_) rfl (by kernel_rfl) (by kernel_rfl) (by kernel_rfl) (fun _ _ _ h => h) (Or.inl ⟨by rfl, ?_⟩) (by assumption) ?_
  rotate_left
  · intro w hSw
    go_simp
    try with_reducible rfl
  simp only [Act.put, List.getElem_toArray, List.getElem_cons_zero, List.getElem_cons_succ, List.setIfInBounds_toArray, List.set_cons_zero, List.set_cons_succ]
  refine wpAnyH_take (i := 39) (v := ?_) rfl (by kernel_rfl) (by kernel_rfl) (by kernel_rfl) (fun _ _ _ h => h) (Or.inl ⟨by rfl, ?_⟩) (by assumption) ?_
  rotate_left
  · intro w hSw
    go_simp
    try with_reducible rfl
  simp only [Act.put, List.getElem_toArray, List.getElem_cons_zero, List.getElem_cons_succ, List.setIfInBounds_toArray, List.set_cons_zero, List.set_cons_succ]
  refine wpAnyH_take (i := 40) (v := ?_) rfl (by kernel_rfl) (by kernel_rfl) (by kernel_rfl) (fun _ _ _ h => h) (Or.inl ⟨by rfl, ?_⟩) (by assumption) ?_
  rotate_left
  · intro w hSw
    go_simp
    try with_reducible rfl
  simp only [Act.put, List.getElem_toArray, List.getElem_cons_zero, List.getElem_cons_succ, List.setIfInBounds_toArray, List.set_cons_zero, List.set_cons_succ]
  refine wpAnyH_take (i := 41) (v := ?_) rfl (by kernel_rfl) (by kernel_rfl) (by kernel_rfl) (fun _ _ _ h => h) (Or.inl ⟨by rfl, ?_⟩) (by assumption) ?_
  rotate_left
  · intro w hSw
    go_simp
    try with_reducible rfl
  simp only [Act.put, List.getElem_toArray, List.getElem_cons_zero, List.getElem_cons_succ, List.setIfInBounds_toArray, List.set_cons_zero, List.set_cons_succ]
  refine wpAnyH_take (i := 43) (v := ?_) rfl (by kernel_rfl) (by kernel_rfl) (by kernel_rfl) (fun _ _ _ h => h) (Or.inl ⟨by rfl, ?_⟩) (by assumption) ?_
  rotate_left
  · intro w hSw
    go_simp
    try with_reducible rfl
  simp only [Act.put, List.getElem_toArray, List.getElem_cons_zero, List.getElem_cons_succ, List.setIfInBounds_toArray, List.set_cons_zero, List.set_cons_succ]
  refine wpAnyH_ready (rs := [42]) (by kernel_rfl) (by simp) ?_
  refine AllReadyH.cons rfl (fun K hK => ?_) AllReadyH.nil
  go_simp
  refine (CL2.out _).mono ?_
  rintro e w9 ⟨rfl, bb⟩
  refine hK.out _ _ (grp_keep hHeld bb) (fun hHeld => ?_)
  clear hK K 
  refine wpAnyH_take (i := 44) (v := ?_) rfl (by kernel_rfl) (by kernel_rfl) (by kernel_rfl) (fun _ _ _ h => h) (Or.inl ⟨by rfl, ?_⟩) (by assumption) ?_
  rotate_left
  · intro w hSw
    go_simp
    try with_reducible rfl
  simp only [Act.put, List.getElem_toArray, List.getElem_cons_zero, List.getElem_cons_succ, List.setIfInBounds_toArray, List.set_cons_zero, List.set_cons_succ]
  refine wpAnyH_take (i := 45) (v := ?_) rfl (by kernel_rfl) (by kernel_rfl) (by kernel_rfl) (fun _ _ _ h => h) (Or.inl ⟨by rfl, ?_⟩) (by assumption) ?_
  rotate_left
  · intro w hSw
    go_simp
    try with_reducible rfl
  simp only [Act.put, List.getElem_toArray, List.getElem_cons_zero, List.getElem_cons_succ, List.setIfInBounds_toArray, List.set_cons_zero, List.set_cons_succ]
  refine wpAnyH_take (i := 46) (v := ?_) rfl (by kernel_rfl) (by kernel_rfl) (by kernel_rfl) (fun _ _ _ h => h) (Or.inl ⟨by rfl, ?_⟩) (by assumption) ?_
  rotate_left
  · intro w hSw
    go_simp
    try with_reducible rfl
  simp only [Act.put, List.getElem_toArray, List.getElem_cons_zero, List.getElem_cons_succ, List.setIfInBounds_toArray, List.set_cons_zero, List.set_cons_succ]
  refine wpAnyH_take (i := 47) (v := ?_) rfl (by kernel_rfl) (by kernel_rfl) (by kernel_rfl) (fun _ _ _ h => h) (Or.inl ⟨by rfl, ?_⟩) (by assumption) ?_
  rotate_left
  · intro w hSw
    go_simp
    try with_reducible rfl
  simp only [Act.put, List.getElem_toArray, List.getElem_cons_zero, List.getElem_cons_succ, List.setIfInBounds_toArray, List.set_cons_zero, List.set_cons_succ]
  refine wpAnyH_take (i := 48) (v := ?_) rfl (by kernel_rfl) (by kernel_rfl) (by kernel_rfl) (fun _ _ _ h => h) (Or.inl ⟨by rfl, ?_⟩) (by assumption) ?_
  rotate_left
  · intro w hSw
    go_simp
    try with_reducible rfl
  simp only [Act.put, List.getElem_toArray, List.getElem_cons_zero, List.getElem_cons_succ, List.setIfInBounds_toArray, List.set_cons_zero, List.set_cons_succ]
  refine wpAnyH_take (i := 50) (v := ?_) rfl (by kernel_rfl) (by kernel_rfl) (by kernel_rfl) (fun _ _ _ h => h) (Or.inl ⟨by rfl, ?_⟩) (by assumption) ?_
  rotate_left
  · intro w hSw
    go_simp
    try with_reducible rfl
  simp only [Act.put, List.getElem_toArray, List.getElem_cons_zero, List.getElem_cons_succ, List.setIfInBounds_toArray, List.set_cons_zero, List.set_cons_succ]
  refine wpAnyH_ready (rs := [49]) (by kernel_rfl) (by simp) ?_
  refine AllReadyH.cons rfl (fun K hK => ?_) AllReadyH.nil
  go_simp
  refine (CL3.out _).mono ?_
  rintro e w9 ⟨rfl, bb⟩
  refine hK.out _ _ (grp_keep hHeld bb) (fun hHeld => ?_)
  clear hK K 
  refine wpAnyH_take (i := 51) (v := ?_) rfl (by kernel_rfl) (by kernel_rfl) (by kernel_rfl) (fun _ _ _ h => h) (Or.inl ⟨by rfl, ?_⟩) (by assumption) ?_
  rotate_left
  · intro w hSw
    go_simp
    try with_reducible rfl
  simp only [Act.put, List.getElem_toArray, List.getElem_cons_zero, List.getElem_cons_succ, List.setIfInBounds_toArray, List.set_cons_zero, List.set_cons_succ]
  refine wpAnyH_take (i := 52) (v := ?_) rfl (by kernel_rfl) (by kernel_rfl) (by kernel_rfl) (fun _ _ _ h => h) (Or.inl ⟨by rfl, ?_⟩) (by assumption) ?_
  rotate_left
  · intro w hSw
    go_simp
    try with_reducible rfl
  simp only [Act.put, List.getElem_toArray, List.getElem_cons_zero, List.getElem_cons_succ, List.setIfInBounds_toArray, List.set_cons_zero, List.set_cons_succ]
  refine wpAnyH_take (i := 53) (v := ?_) rfl (by kernel_rfl) (by kernel_rfl) (by kernel_rfl) (fun _ _ _ h => h) (Or.inl ⟨by rfl, ?_⟩) (by assumption) ?_
  rotate_left
  · intro w hSw
    go_simp
    try with_reducible rfl
  simp only [Act.put, List.getElem_toArray, List.getElem_cons_zero, List.getElem_cons_succ, List.setIfInBounds_toArray, List.set_cons_zero, List.set_cons_succ]
  refine wpAnyH_take (i := 54) (v := ?_) rfl (by kernel_rfl) (by kernel_rfl) (by kernel_rfl) (fun _ _ _ h => h) (Or.inl ⟨by rfl, ?_⟩) (by assumption) ?_
  rotate_left
  · intro w hSw
    go_simp
    try with_reducible rfl
  simp only [Act.put, List.getElem_toArray, List.getElem_cons_zero, List.getElem_cons_succ, List.setIfInBounds_toArray, List.set_cons_zero, List.set_cons_succ]
  refine wpAnyH_take (i := 55) (v := ?_) rfl (by kernel_rfl) (by kernel_rfl) (by kernel_rfl) (fun _ _ _ h => h) (Or.inl ⟨by rfl, ?_⟩) (by assumption) ?_
  rotate_left
  · intro w hSw
    go_simp
    try with_reducible rfl
  simp only [Act.put, List.getElem_toArray, List.getElem_cons_zero, List.getElem_cons_succ, List.setIfInBounds_toArray, List.set_cons_zero, List.set_cons_succ]
  refine wpAnyH_take (i := 57) (v := ?_) rfl (by kernel_rfl) (by kernel_rfl) (by kernel_rfl) (fun _ _ _ h => h) (Or.inl ⟨by rfl, ?_⟩) (by assumption) ?_
  rotate_left
  · intro w hSw
    go_simp
    try with_reducible rfl
  simp only [Act.put, List.getElem_toArray, List.getElem_cons_zero, List.getElem_cons_succ, List.setIfInBounds_toArray, List.set_cons_zero, List.set_cons_succ]
  refine wpAnyH_ready (rs := [56]) (by kernel_rfl) (by simp) ?_
  refine AllReadyH.cons rfl (fun K hK => ?_) AllReadyH.nil
  go_simp
  refine (CL4.out _).mono ?_
  rintro e w9 ⟨rfl, bb⟩
  refine hK.out _ _ (grp_keep hHeld bb) (fun hHeld => ?_)
  clear hK K 
  refine wpAnyH_take (i := 58) (v := ?_) rfl (by kernel_rfl) (by kernel_rfl) (by kernel_rfl) (fun _ _ _ h => h) (Or.inl ⟨by rfl, ?_⟩) (by assumption) ?_
  rotate_left
  · intro w hSw
    go_simp
    try with_reducible rfl
  simp only [Act.put, List.getElem_toArray, List.getElem_cons_zero, List.getElem_cons_succ, List.setIfInBounds_toArray, List.set_cons_zero, List.set_cons_succ]
  refine wpAnyH_take (i := 59) (v := ?_) rfl (by kernel_rfl) (by kernel_rfl) (by kernel_rfl) (fun _ _ _ h => h) (Or.inl ⟨by rfl, ?_⟩) (by assumption) ?_
  rotate_left
  · intro w hSw
    go_simp
    try with_reducible rfl
  simp only [Act.put, List.getElem_toArray, List.getElem_cons_zero, List.getElem_cons_succ, List.setIfInBounds_toArray, List.set_cons_zero, List.set_cons_succ]
  refine wpAnyH_take (i := 60) (v := ?_) rfl (by kernel_rfl) (by kernel_rfl) (by kernel_rfl) (fun _ _ _ h => h) (Or.inl ⟨by rfl, ?_⟩) (by assumption) ?_
  rotate_left
  · intro w hSw
    go_simp
    try with_reducible rfl
  simp only [Act.put, List.getElem_toArray, List.getElem_cons_zero, List.getElem_cons_succ, List.setIfInBounds_toArray, List.set_cons_zero, List.set_cons_succ]
  refine wpAnyH_take (i := 61) (v := ?_) rfl (by kernel_rfl) (by kernel_rfl) (by kernel_rfl) (fun _ _ _ h => h) (Or.inl ⟨by rfl, ?_⟩) (by assumption) ?_
  rotate_left
  · intro w hSw
    go_simp
    try with_reducible rfl
  simp only [Act.put, List.getElem_toArray, List.getElem_cons_zero, List.getElem_cons_succ, List.setIfInBounds_toArray, List.set_cons_zero, List.set_cons_succ]
  refine wpAnyH_take (i := 62) (v := ?_) rfl (by kernel_rfl) (by kernel_rfl) (by kernel_rfl) (fun _ _ _ h => h) (Or.inl ⟨by rfl, ?_⟩) (by assumption) ?_
  rotate_left
  · intro w hSw
    go_simp
    try with_reducible rfl
  simp only [Act.put, List.getElem_toArray, List.getElem_cons_zero, List.getElem_cons_succ, List.setIfInBounds_toArray, List.set_cons_zero, List.set_cons_succ]
  refine wpAnyH_take (i := 64) (v := ?_) rfl (by kernel_rfl) (by kernel_rfl) (by kernel_rfl) (fun _ _ _ h => h) (Or.inl ⟨by rfl, ?_⟩) (by assumption) ?_
  rotate_left
  · intro w hSw
    go_simp
    try with_reducible rfl
  simp only [Act.put, List.getElem_toArray, List.getElem_cons_zero, List.getElem_cons_succ, List.setIfInBounds_toArray, List.set_cons_zero, List.set_cons_succ]
  refine wpAnyH_take (i := 66) (v := ?_) rfl (by kernel_rfl) (by kernel_rfl) (by kernel_rfl) (fun _ _ _ h => h) (Or.inl ⟨by rfl, ?_⟩) (by assumption) ?_
  rotate_left
  · intro w hSw
    go_simp
    try with_reducible rfl
  simp only [Act.put, List.getElem_toArray, List.getElem_cons_zero, List.getElem_cons_succ, List.setIfInBounds_toArray, List.set_cons_zero, List.set_cons_succ]
  refine wpAnyH_ready (rs := [63]) (by kernel_rfl) (by simp) ?_
  refine AllReadyH.cons rfl (fun K hK => ?_) AllReadyH.nil
  go_simp
  refine (CL1.out _).mono ?_
  rintro e w9 ⟨rfl, bb⟩
  refine hK.out _ _ (grp_keep hHeld bb) (fun hHeld => ?_)
  clear hK K 
  refine wpAnyH_ready (rs := [65]) (by kernel_rfl) (by simp) ?_
  refine AllReadyH.cons rfl (fun K hK => ?_) AllReadyH.nil
  go_simp
  refine (CA7.out _).mono ?_
  rintro e w9 ⟨rfl, bb⟩
  refine hK.out _ _ (grp_keep hHeld bb) (fun hHeld => ?_)
  clear hK K 
  refine wpAnyH_take (i := 67) (v := ?_) rfl (by kernel_rfl) (by kernel_rfl) (by kernel_rfl) (fun _ _ _ h => h) (Or.inl ⟨by rfl, ?_⟩) (by assumption) ?_
  rotate_left
  · intro w hSw
    go_simp
    try with_reducible rfl
  simp only [Act.put, List.getElem_toArray, List.getElem_cons_zero, List.getElem_cons_succ, List.setIfInBounds_toArray, List.set_cons_zero, List.set_cons_succ]
  refine wpAnyH_take (i := 68) (v := ?_) rfl (by kernel_rfl) (by kernel_rfl) (by kernel_rfl) (fun _ _ _ h => h) (Or.inl ⟨by rfl, ?_⟩) (by assumption) ?_
  rotate_left
  · intro w hSw
    go_simp
    try with_reducible rfl
  simp only [Act.put, List.getElem_toArray, List.getElem_cons_zero, List.getElem_cons_succ, List.setIfInBounds_toArray, List.set_cons_zero, List.set_cons_succ]
  refine wpAnyH_take (i := 69) (v := ?_) rfl (by kernel_rfl) (by kernel_rfl) (by kernel_rfl) (fun _ _ _ h => h) (Or.inl ⟨by rfl, ?_⟩) (by assumption) ?_
  rotate_left
  · intro w hSw
    go_simp
    try with_reducible rfl
  simp only [Act.put, List.getElem_toArray, List.getElem_cons_zero, List.getElem_cons_succ, List.setIfInBounds_toArray, List.set_cons_zero, List.set_cons_succ]
  refine wpAnyH_take (i := 70) (v := ?_) rfl (by kernel_rfl) (by kernel_rfl) (by kernel_rfl) (fun _ _ _ h => h) (Or.inl ⟨by rfl, ?_⟩) (by assumption) ?_
  rotate_left
  · intro w hSw
    go_simp
    try with_reducible rfl
  simp only [Act.put, List.getElem_toArray, List.getElem_cons_zero, List.getElem_cons_succ, List.setIfInBounds_toArray, List.set_cons_zero, List.set_cons_succ]
  refine wpAnyH_take (i := 71) (v := ?_) rfl (by kernel_rfl) (by kernel_rfl) (by kernel_rfl) (fun _ _ _ h => h) (Or.inl ⟨by rfl, ?_⟩) (by assumption) ?_
  rotate_left
  · intro w hSw
    go_simp
    try with_reducible rfl
  simp only [Act.put, List.getElem_toArray, List.getElem_cons_zero, List.getElem_cons_succ, List.setIfInBounds_toArray, List.set_cons_zero, List.set_cons_succ]
  refine wpAnyH_take (i := 72) (v := ?_) rfl (by kernel_rfl) (by kernel_rfl) (by kernel_rfl) (fun _ _ _ h => h) (Or.inl ⟨by rfl, ?_⟩) (by assumption) ?_
  rotate_left
  · intro w hSw
    go_simp
    try with_reducible rfl
  simp only [Act.put, List.getElem_toArray, List.getElem_cons_zero, List.getElem_cons_succ, List.setIfInBounds_toArray, List.set_cons_zero, List.set_cons_succ]
  refine wpAnyH_take (i := 75) (v := ?_) rfl (by kernel_rfl) (by kernel_rfl) (by kernel_rfl) (fun _ _ _ h => h) (Or.inl ⟨by rfl, ?_⟩) (by assumption) ?_
  rotate_left
  · intro w hSw
    go_simp
    try with_reducible rfl
  simp only [Act.put, List.getElem_toArray, List.getElem_cons_zero, List.getElem_cons_succ, List.setIfInBounds_toArray, List.set_cons_zero, List.set_cons_succ]
  refine wpAnyH_take (i := 76) (v := ?_) rfl (by kernel_rfl) (by kernel_rfl) (by kernel_rfl) (fun _ _ _ h => h) (Or.inl ⟨by rfl, ?_⟩) (by assumption) ?_
  rotate_left
  · intro w hSw
    go_simp
    try with_reducible rfl
  simp only [Act.put, List.getElem_toArray, List.getElem_cons_zero, List.getElem_cons_succ, List.setIfInBounds_toArray, List.set_cons_zero, List.set_cons_succ]
  refine wpAnyH_ready (rs := [73]) (by kernel_rfl) (by simp) ?_
  refine AllReadyH.cons rfl (fun K hK => ?_) AllReadyH.nil
  go_simp
  refine (CL1.out _).mono ?_
  rintro e w9 ⟨rfl, bb⟩
  refine hK.out _ _ (grp_keep hHeld bb) (fun hHeld => ?_)
  clear hK K 
  refine wpAnyH_ready (rs := [74]) (by kernel_rfl) (by simp) ?_
  refine AllReadyH.cons rfl (fun K hK => ?_) AllReadyH.nil
  go_simp
  refine (CL5.out _).mono ?_
  rintro e w9 ⟨rfl, bb⟩
  refine hK.out _ _ (grp_keep hHeld bb) (fun hHeld => ?_)
  clear hK K 
  refine wpAnyH_ready (rs := [77]) (by kernel_rfl) (by simp) ?_
  refine AllReadyH.cons rfl (fun K hK => ?_) AllReadyH.nil
  go_simp
  refine (CL6.out _).mono ?_
  rintro e w9 ⟨rfl, bb⟩
  refine hK.out _ _ (grp_keep hHeld bb) (fun hHeld => ?_)
  clear hK K 
  refine wpAnyH_take (i := 78) (v := ?_) rfl (by kernel_rfl) (by kernel_rfl) (by kernel_rfl) (fun _ _ _ h => h) (Or.inl ⟨by rfl, ?_⟩) (by assumption) ?_
  rotate_left
  · intro w hSw
    go_simp
    try with_reducible rfl
  simp only [Act.put, List.getElem_toArray, List.getElem_cons_zero, List.getElem_cons_succ, List.setIfInBounds_toArray, List.set_cons_zero, List.set_cons_succ]
  refine wpAnyH_take (i := 79) (v := ?_) rfl (by kernel_rfl) (by kernel_rfl) (by kernel_rfl) (fun _ _ _ h => h) (Or.inl ⟨by rfl, ?_⟩) (by assumption) ?_
  rotate_left
  · intro w hSw
    go_simp
    try with_reducible rfl
  simp only [Act.put, List.getElem_toArray, List.getElem_cons_zero, List.getElem_cons_succ, List.setIfInBounds_toArray, List.set_cons_zero, List.set_cons_succ]
  refine wpAnyH_take (i := 80) (v := ?_) rfl (by kernel_rfl) (by kernel_rfl) (by kernel_rfl) (fun _ _ _ h => h) (Or.inl ⟨by rfl, ?_⟩) (by assumption) ?_
  rotate_left
  · intro w hSw
    go_simp
    try with_reducible rfl
  simp only [Act.put, List.getElem_toArray, List.getElem_cons_zero, List.getElem_cons_succ, List.setIfInBounds_toArray, List.set_cons_zero, List.set_cons_succ]
  refine wpAnyH_done (by kernel_rfl) ?_ _
  go_wp2
  go_ret
  exact ⟨rfl, hHeld.1⟩

theorem lgroup_walk (a0 a1 b0 b1 c0 c1 : Nat) (w : World) (L : Lanes w) (ha0 : a0 < 18446744073709551616) (ha1 : a1 < 18446744073709551616) (hb0 : b0 < 18446744073709551616) (hb1 : b1 < 18446744073709551616) (hc0 : c0 < 18446744073709551616) (hc1 : c1 < 18446744073709551616) :
    Calls Tryd.prog 5 #[.agg #[.int .u64 (a0 : Int), .int .u64 (a1 : Int)], .agg #[.int .u64 (b0 : Int), .int .u64 (b1 : Int)], .agg #[.int .u64 (c0 : Int), .int .u64 (c1 : Int)]] w fun e w' => e = .returned (.bool true) ∧ Below w.heap.size w w' := by
  refine lgroup_int a0 a1 b0 b1 c0 c1 (IntKind.u64.wrap (a0 + b0)) (IntKind.u64.wrap (a1 + b1)) (IntKind.u64.wrap (a0 - b0)) (IntKind.u64.wrap (a1 - b1)) (IntKind.u64.wrap (IntKind.u64.wrap (a0 + b0) + c0)) (IntKind.u64.wrap (IntKind.u64.wrap (a1 + b1) + c1)) (IntKind.u64.wrap (b0 + c0)) (IntKind.u64.wrap (b1 + c1)) (IntKind.u64.wrap (b0 - a0)) (IntKind.u64.wrap (b1 - a1)) w L
    rfl rfl rfl rfl ?_ ?_ rfl rfl rfl rfl ?_ ?_ ?_ ?_ ?_ ?_ ?_ ?_ ?_ ?_ ?_ ?_ rfl rfl ?_ ?_
  all_goals
    simp only [IntKind.wrap_u64]
    omega

end Go.Proofs.YtlieljnaecbmdaaDoor
