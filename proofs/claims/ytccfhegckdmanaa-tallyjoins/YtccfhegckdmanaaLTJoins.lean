/-
  The law TallyJoins, walked.
-/
import Derived.Test.YtccfhegckdmanaaTaJoin
namespace Go.Proofs.Ytccfhegckdmanaa
open Go.RowKit
set_option linter.unusedVariables false

theorem tj_keep {w W W' : World} {i j k l : Nat} {an a0 a1 bn b0 b1 cn c0 c1 xn x0 x1 : Int} (h : Below w.heap.size w W ∧ W.cell? ⟨i, 0, none⟩ = some (.int .i64 an) ∧ W.cell? ⟨i, 1, none⟩ = some (.int .u64 a0) ∧ W.cell? ⟨i, 2, none⟩ = some (.int .u64 a1) ∧ W.cell? ⟨j, 0, none⟩ = some (.int .i64 bn) ∧ W.cell? ⟨j, 1, none⟩ = some (.int .u64 b0) ∧ W.cell? ⟨j, 2, none⟩ = some (.int .u64 b1) ∧ W.cell? ⟨k, 0, none⟩ = some (.int .i64 cn) ∧ W.cell? ⟨k, 1, none⟩ = some (.int .u64 c0) ∧ W.cell? ⟨k, 2, none⟩ = some (.int .u64 c1) ∧ W.cell? ⟨l, 0, none⟩ = some (.int .i64 xn) ∧ W.cell? ⟨l, 1, none⟩ = some (.int .u64 x0) ∧ W.cell? ⟨l, 2, none⟩ = some (.int .u64 x1)) (bb : Below W.heap.size W W') :
    Below w.heap.size w W' ∧ W'.cell? ⟨i, 0, none⟩ = some (.int .i64 an) ∧ W'.cell? ⟨i, 1, none⟩ = some (.int .u64 a0) ∧ W'.cell? ⟨i, 2, none⟩ = some (.int .u64 a1) ∧ W'.cell? ⟨j, 0, none⟩ = some (.int .i64 bn) ∧ W'.cell? ⟨j, 1, none⟩ = some (.int .u64 b0) ∧ W'.cell? ⟨j, 2, none⟩ = some (.int .u64 b1) ∧ W'.cell? ⟨k, 0, none⟩ = some (.int .i64 cn) ∧ W'.cell? ⟨k, 1, none⟩ = some (.int .u64 c0) ∧ W'.cell? ⟨k, 2, none⟩ = some (.int .u64 c1) ∧ W'.cell? ⟨l, 0, none⟩ = some (.int .i64 xn) ∧ W'.cell? ⟨l, 1, none⟩ = some (.int .u64 x0) ∧ W'.cell? ⟨l, 2, none⟩ = some (.int .u64 x1) := by
  obtain ⟨h, h0, h1, h2, h3, h4, h5, h6, h7, h8, h9, h10, h11⟩ := h
  exact ⟨bthen h bb, cell_in h0 bb, cell_in h1 bb, cell_in h2 bb, cell_in h3 bb, cell_in h4 bb, cell_in h5 bb, cell_in h6 bb, cell_in h7 bb, cell_in h8 bb, cell_in h9 bb, cell_in h10 bb, cell_in h11 bb⟩

set_option maxRecDepth 100000 in
set_option maxHeartbeats 6400000 in
theorem ltjoins_int (an a0 a1 bn b0 b1 cn c0 c1 xn x0 x1 tn t0 t1 un u0 u1 : Int) (w : World)
    (exn : IntKind.i64.wrap (an + bn) = xn) (ex0 : IntKind.u64.wrap (a0 + b0) = x0) (ex1 : IntKind.u64.wrap (a1 + b1) = x1) (eyn : IntKind.i64.wrap (bn + an) = xn) (ey0 : IntKind.u64.wrap (b0 + a0) = x0) (ey1 : IntKind.u64.wrap (b1 + a1) = x1) (ezn : IntKind.i64.wrap (0 + an) = an) (ez0 : IntKind.u64.wrap (0 + a0) = a0) (ez1 : IntKind.u64.wrap (0 + a1) = a1) (ewn : IntKind.i64.wrap (an + 0) = an) (ew0 : IntKind.u64.wrap (a0 + 0) = a0) (ew1 : IntKind.u64.wrap (a1 + 0) = a1) (etn : IntKind.i64.wrap (xn + cn) = tn) (et0 : IntKind.u64.wrap (x0 + c0) = t0) (et1 : IntKind.u64.wrap (x1 + c1) = t1) (eun : IntKind.i64.wrap (bn + cn) = un) (eu0 : IntKind.u64.wrap (b0 + c0) = u0) (eu1 : IntKind.u64.wrap (b1 + c1) = u1) (evn : IntKind.i64.wrap (an + un) = tn) (ev0 : IntKind.u64.wrap (a0 + u0) = t0) (ev1 : IntKind.u64.wrap (a1 + u1) = t1) :
    Calls Try.prog 3 #[.agg #[.int .i64 an, .int .u64 a0, .int .u64 a1], .agg #[.int .i64 bn, .int .u64 b0, .int .u64 b1], .agg #[.int .i64 cn, .int .u64 c0, .int .u64 c1]] w fun e w' => e = .returned (.bool true) ∧ Below w.heap.size w w' := by
  have CX := aside (fun W => join_at exn ex0 ex1 W)
  have CR := aside (fun W => joinRef_at exn ex0 ex1 W)
  have CY := aside (fun W => join_at eyn ey0 ey1 W)
  have CZ := aside (fun W => join_at ezn ez0 ez1 W)
  have CW := aside (fun W => join_at ewn ew0 ew1 W)
  have CT := aside (fun W => join_at etn et0 et1 W)
  have CU := aside (fun W => join_at eun eu0 eu1 W)
  have CV := aside (fun W => join_at evn ev0 ev1 W)
  clear exn ex0 ex1 eyn ey0 ey1 ezn ez0 ez1 ewn ew0 ew1 etn et0 et1 eun eu0 eu1 evn ev0 ev1
  have qx := tal_ne_same xn x0 x1
  have qa := tal_ne_same an a0 a1
  have qt := tal_same tn t0 t1
  have R1 := aside (heap_alloc_new w (.cells #[.int .i64 an, .int .u64 a0, .int .u64 a1] 26))
  have R2 := aside (heap_alloc_new (w.alloc (.cells #[.int .i64 an, .int .u64 a0, .int .u64 a1] 26)) (.cells #[.int .i64 bn, .int .u64 b0, .int .u64 b1] 26))
  have R3 := aside (heap_alloc_new ((w.alloc (.cells #[.int .i64 an, .int .u64 a0, .int .u64 a1] 26)).alloc (.cells #[.int .i64 bn, .int .u64 b0, .int .u64 b1] 26)) (.cells #[.int .i64 cn, .int .u64 c0, .int .u64 c1] 26))
  have B0 := aside (bthen (bthen (bnew w (.cells #[.int .i64 an, .int .u64 a0, .int .u64 a1] 26)) (bnew _ (.cells #[.int .i64 bn, .int .u64 b0, .int .u64 b1] 26))) (bnew _ (.cells #[.int .i64 cn, .int .u64 c0, .int .u64 c1] 26)))
  have K1 := aside (blk_on (blk_on R1.out (bnew _ (.cells #[.int .i64 bn, .int .u64 b0, .int .u64 b1] 26))) (bnew _ (.cells #[.int .i64 cn, .int .u64 c0, .int .u64 c1] 26)))
  have K2 := aside (blk_on R2.out (bnew _ (.cells #[.int .i64 cn, .int .u64 c0, .int .u64 c1] 26)))
  have hz1 : (w.alloc (.cells #[.int .i64 an, .int .u64 a0, .int .u64 a1] 26)).heap.size = w.heap.size + 1 := by simp
  have hz2 : ((w.alloc (.cells #[.int .i64 an, .int .u64 a0, .int .u64 a1] 26)).alloc (.cells #[.int .i64 bn, .int .u64 b0, .int .u64 b1] 26)).heap.size = w.heap.size + 1 + 1 := by simp
  rw [hz1] at K2
  rw [hz2] at R3
  clear R1 R2 hz1 hz2
  go_enter Try.func3, Try.ntmps3
  go_wp2_with fail
  generalize ((w.alloc (.cells #[.int .i64 an, .int .u64 a0, .int .u64 a1] 26)).alloc (.cells #[.int .i64 bn, .int .u64 b0, .int .u64 b1] 26)).alloc (.cells #[.int .i64 cn, .int .u64 c0, .int .u64 c1] 26) = V0 at *
  obtain ⟨p0, p1, p2, -, -, -⟩ := tri K1.out
  obtain ⟨p3, p4, p5, -, -, -⟩ := tri K2.out
  refine (CX.out _).mono ?_
  rintro e w1 ⟨rfl, b1⟩
  have G1 := aside (blk_on (blk_on K1.out b1) (bnew _ (.cells #[.int .i64 xn, .int .u64 x0, .int .u64 x1] 26)))
  have G2 := aside (blk_on (blk_on K2.out b1) (bnew _ (.cells #[.int .i64 xn, .int .u64 x0, .int .u64 x1] 26)))
  have G3 := aside (blk_on (blk_on R3.out b1) (bnew _ (.cells #[.int .i64 xn, .int .u64 x0, .int .u64 x1] 26)))
  have G4 := aside (heap_alloc_new w1 (.cells #[.int .i64 xn, .int .u64 x0, .int .u64 x1] 26))
  have B1 := aside (bthen (bthen B0.out b1) (bnew _ (.cells #[.int .i64 xn, .int .u64 x0, .int .u64 x1] 26)))
  clear b1 B0 K1 K2 R3 p0 p1 p2 p3 p4 p5 CX
  go_wp2_with fail
  generalize (w1.alloc (.cells #[.int .i64 xn, .int .u64 x0, .int .u64 x1] 26)) = V1 at *
  generalize w1.heap.size = i7 at *
  have S0 : Hid (Below w.heap.size w V1.drew ∧ V1.drew.cell? ⟨w.heap.size, 0, none⟩ = some (.int .i64 an) ∧ V1.drew.cell? ⟨w.heap.size, 1, none⟩ = some (.int .u64 a0) ∧ V1.drew.cell? ⟨w.heap.size, 2, none⟩ = some (.int .u64 a1) ∧ V1.drew.cell? ⟨w.heap.size + 1, 0, none⟩ = some (.int .i64 bn) ∧ V1.drew.cell? ⟨w.heap.size + 1, 1, none⟩ = some (.int .u64 b0) ∧ V1.drew.cell? ⟨w.heap.size + 1, 2, none⟩ = some (.int .u64 b1) ∧ V1.drew.cell? ⟨w.heap.size + 1 + 1, 0, none⟩ = some (.int .i64 cn) ∧ V1.drew.cell? ⟨w.heap.size + 1 + 1, 1, none⟩ = some (.int .u64 c0) ∧ V1.drew.cell? ⟨w.heap.size + 1 + 1, 2, none⟩ = some (.int .u64 c1) ∧ V1.drew.cell? ⟨i7, 0, none⟩ = some (.int .i64 xn) ∧ V1.drew.cell? ⟨i7, 1, none⟩ = some (.int .u64 x0) ∧ V1.drew.cell? ⟨i7, 2, none⟩ = some (.int .u64 x1)) :=
    ⟨B1.out.drew, (tri G1.out).1, (tri G1.out).2.1, (tri G1.out).2.2.1, (tri G2.out).1, (tri G2.out).2.1, (tri G2.out).2.2.1, (tri G3.out).1, (tri G3.out).2.1, (tri G3.out).2.2.1, (tri G4.out).1, (tri G4.out).2.1, (tri G4.out).2.2.1⟩
  clear G1 G2 G3 G4 B1
  refine wp_region_held_drew (S := fun W => Below w.heap.size w W ∧ W.cell? ⟨w.heap.size, 0, none⟩ = some (.int .i64 an) ∧ W.cell? ⟨w.heap.size, 1, none⟩ = some (.int .u64 a0) ∧ W.cell? ⟨w.heap.size, 2, none⟩ = some (.int .u64 a1) ∧ W.cell? ⟨w.heap.size + 1, 0, none⟩ = some (.int .i64 bn) ∧ W.cell? ⟨w.heap.size + 1, 1, none⟩ = some (.int .u64 b0) ∧ W.cell? ⟨w.heap.size + 1, 2, none⟩ = some (.int .u64 b1) ∧ W.cell? ⟨w.heap.size + 1 + 1, 0, none⟩ = some (.int .i64 cn) ∧ W.cell? ⟨w.heap.size + 1 + 1, 1, none⟩ = some (.int .u64 c0) ∧ W.cell? ⟨w.heap.size + 1 + 1, 2, none⟩ = some (.int .u64 c1) ∧ W.cell? ⟨i7, 0, none⟩ = some (.int .i64 xn) ∧ W.cell? ⟨i7, 1, none⟩ = some (.int .u64 x0) ∧ W.cell? ⟨i7, 2, none⟩ = some (.int .u64 x1)) (by kernel_rfl) S0.out (fun hHeld => ?_)
  clear S0
  refine wpAnyH_take (i := 0) (v := ?_) rfl (by kernel_rfl) (by kernel_rfl) (by kernel_rfl) (fun _ _ _ h => h) (Or.inl ⟨by rfl, ?_⟩) (by assumption) ?_
  rotate_left
  · intro w hSw
    go_simp
    try with_reducible rfl
  simp only [Act.put, List.getElem_toArray, List.getElem_cons_zero, List.setIfInBounds_toArray, List.set_cons_zero, List.set_cons_succ]
  refine wpAnyH_take (i := 1) (v := ?_) rfl (by kernel_rfl) (by kernel_rfl) (by kernel_rfl) (fun _ _ _ h => h) (Or.inl ⟨by rfl, ?_⟩) (by assumption) ?_
  rotate_left
  · intro w hSw
    go_simp
    try with_reducible rfl
  simp only [Act.put, List.getElem_toArray, List.getElem_cons_zero, List.getElem_cons_succ, List.setIfInBounds_toArray, List.set_cons_zero, List.set_cons_succ]
  refine wpAnyH_take (i := 2) (v := ?_) rfl (by kernel_rfl) (by kernel_rfl) (by kernel_rfl) (fun _ _ _ h => h) (Or.inl ⟨by rfl, ?_⟩) (by assumption) ?_
  rotate_left
  · intro w hSw
    go_simp
    try with_reducible rfl
  simp only [Act.put, List.getElem_toArray, List.getElem_cons_zero, List.getElem_cons_succ, List.setIfInBounds_toArray, List.set_cons_zero, List.set_cons_succ]
  refine wpAnyH_ready (rs := [3]) (by kernel_rfl) (by simp) ?_
  refine AllReadyH.cons rfl (fun K hK => ?_) AllReadyH.nil
  go_simp
  refine (CR.out _).mono ?_
  rintro e w9 ⟨rfl, bb⟩
  refine hK.out _ _ (tj_keep hHeld bb) (fun hHeld => ?_)
  clear hK K 
  refine wpAnyH_take (i := 4) (v := ?_) rfl (by kernel_rfl) (by kernel_rfl) (by kernel_rfl) (fun _ _ _ h => h) (Or.inl ⟨by rfl, ?_⟩) (by assumption) ?_
  rotate_left
  · intro w hSw
    go_simp
    try with_reducible rfl
  simp only [Act.put, List.getElem_toArray, List.getElem_cons_zero, List.getElem_cons_succ, List.setIfInBounds_toArray, List.set_cons_zero, List.set_cons_succ]
  refine wpAnyH_take (i := 5) (v := ?_) rfl (by kernel_rfl) (by kernel_rfl) (by kernel_rfl) (fun _ _ _ h => h) (Or.inl ⟨by rfl, ?_⟩) (by assumption) ?_
  rotate_left
  · intro w hSw
    go_simp
    try with_reducible rfl
  simp only [Act.put, List.getElem_toArray, List.getElem_cons_zero, List.getElem_cons_succ, List.setIfInBounds_toArray, List.set_cons_zero, List.set_cons_succ]
  refine wpAnyH_take (i := 6) (v := ?_) rfl (by kernel_rfl) (by kernel_rfl) (by kernel_rfl) (fun _ _ _ h => h) (Or.inl ⟨by rfl, ?_⟩) (by assumption) ?_
  rotate_left
  · intro w hSw
    go_simp
    try with_reducible rfl
  simp only [Act.put, List.getElem_toArray, List.getElem_cons_zero, List.getElem_cons_succ, List.setIfInBounds_toArray, List.set_cons_zero, List.set_cons_succ]
  refine wpAnyH_take (i := 7) (v := ?_) rfl (by kernel_rfl) (by kernel_rfl) (by kernel_rfl) (fun _ _ _ h => h) (Or.inl ⟨by rfl, ?_⟩) (by assumption) ?_
  rotate_left
  · intro w hSw
    go_simp
    try with_reducible rfl
  simp only [Act.put, List.getElem_toArray, List.getElem_cons_zero, List.getElem_cons_succ, List.setIfInBounds_toArray, List.set_cons_zero, List.set_cons_succ]
  refine wpAnyH_take (i := 9) (v := ?_) rfl (by kernel_rfl) (by kernel_rfl) (by kernel_rfl) (fun _ _ _ h => h) (Or.inl ⟨by rfl, ?_⟩) (by assumption) ?_
  rotate_left
  · intro w hSw
    go_simp
    try with_reducible rfl
  simp only [Act.put, List.getElem_toArray, List.getElem_cons_zero, List.getElem_cons_succ, List.setIfInBounds_toArray, List.set_cons_zero, List.set_cons_succ]
  refine wpAnyH_ready (rs := [8]) (by kernel_rfl) (by simp) ?_
  refine AllReadyH.cons rfl (fun K hK => ?_) AllReadyH.nil
  go_simp
  refine (CY.out _).mono ?_
  rintro e w9 ⟨rfl, bb⟩
  refine hK.out _ _ (tj_keep hHeld bb) (fun hHeld => ?_)
  clear hK K 
  refine wpAnyH_take (i := 10) (v := ?_) rfl (by kernel_rfl) (by kernel_rfl) (by kernel_rfl) (fun _ _ _ h => h) (Or.inl ⟨by rfl, ?_⟩) (by assumption) ?_
  rotate_left
  · intro w hSw
    go_simp
    try with_reducible rfl
  simp only [Act.put, List.getElem_toArray, List.getElem_cons_zero, List.getElem_cons_succ, List.setIfInBounds_toArray, List.set_cons_zero, List.set_cons_succ]
  refine wpAnyH_take (i := 11) (v := ?_) rfl (by kernel_rfl) (by kernel_rfl) (by kernel_rfl) (fun _ _ _ h => h) (Or.inl ⟨by rfl, ?_⟩) (by assumption) ?_
  rotate_left
  · intro w hSw
    go_simp
    try with_reducible rfl
  simp only [Act.put, List.getElem_toArray, List.getElem_cons_zero, List.getElem_cons_succ, List.setIfInBounds_toArray, List.set_cons_zero, List.set_cons_succ]
  refine wpAnyH_take (i := 12) (v := ?_) rfl (by kernel_rfl) (by kernel_rfl) (by kernel_rfl) (fun _ _ _ h => h) (Or.inl ⟨by rfl, ?_⟩) (by assumption) ?_
  rotate_left
  · intro w hSw
    go_simp
    try with_reducible rfl
  simp only [Act.put, List.getElem_toArray, List.getElem_cons_zero, List.getElem_cons_succ, List.setIfInBounds_toArray, List.set_cons_zero, List.set_cons_succ]
  refine wpAnyH_take (i := 13) (v := ?_) rfl (by kernel_rfl) (by kernel_rfl) (by kernel_rfl) (fun _ _ _ h => h) (Or.inl ⟨by rfl, ?_⟩) (by assumption) ?_
  rotate_left
  · intro w hSw
    go_simp
    try with_reducible rfl
  simp only [Act.put, List.getElem_toArray, List.getElem_cons_zero, List.getElem_cons_succ, List.setIfInBounds_toArray, List.set_cons_zero, List.set_cons_succ]
  refine wpAnyH_take (i := 14) (v := ?_) rfl (by kernel_rfl) (by kernel_rfl) (by kernel_rfl) (fun _ _ _ h => h) (Or.inl ⟨by rfl, ?_⟩) (by assumption) ?_
  rotate_left
  · intro w hSw
    go_simp
    try with_reducible rfl
  simp only [Act.put, List.getElem_toArray, List.getElem_cons_zero, List.getElem_cons_succ, List.setIfInBounds_toArray, List.set_cons_zero, List.set_cons_succ]
  refine wpAnyH_take (i := 16) (v := ?_) rfl (by kernel_rfl) (by kernel_rfl) (by kernel_rfl) (fun _ _ _ h => h) (Or.inl ⟨by rfl, ?_⟩) (by assumption) ?_
  rotate_left
  · intro w hSw
    go_simp
    try with_reducible rfl
  simp only [Act.put, List.getElem_toArray, List.getElem_cons_zero, List.getElem_cons_succ, List.setIfInBounds_toArray, List.set_cons_zero, List.set_cons_succ]
  refine wpAnyH_ready (rs := [15]) (by kernel_rfl) (by simp) ?_
  refine AllReadyH.cons rfl (fun K hK => ?_) AllReadyH.nil
  go_simp
  refine (CZ.out _).mono ?_
  rintro e w9 ⟨rfl, bb⟩
  refine hK.out _ _ (tj_keep hHeld bb) (fun hHeld => ?_)
  clear hK K 
  refine wpAnyH_take (i := 17) (v := ?_) rfl (by kernel_rfl) (by kernel_rfl) (by kernel_rfl) (fun _ _ _ h => h) (Or.inl ⟨by rfl, ?_⟩) (by assumption) ?_
  rotate_left
  · intro w hSw
    go_simp
    try with_reducible rfl
  simp only [Act.put, List.getElem_toArray, List.getElem_cons_zero, List.getElem_cons_succ, List.setIfInBounds_toArray, List.set_cons_zero, List.set_cons_succ]
  refine wpAnyH_take (i := 18) (v := ?_) rfl (by kernel_rfl) (by kernel_rfl) (by kernel_rfl) (fun _ _ _ h => h) (Or.inl ⟨by rfl, ?_⟩) (by assumption) ?_
  rotate_left
  · intro w hSw
    go_simp
    try with_reducible rfl
  simp only [Act.put, List.getElem_toArray, List.getElem_cons_zero, List.getElem_cons_succ, List.setIfInBounds_toArray, List.set_cons_zero, List.set_cons_succ]
  refine wpAnyH_take (i := 19) (v := ?_) rfl (by kernel_rfl) (by kernel_rfl) (by kernel_rfl) (fun _ _ _ h => h) (Or.inl ⟨by rfl, ?_⟩) (by assumption) ?_
  rotate_left
  · intro w hSw
    go_simp
    try with_reducible rfl
  simp only [Act.put, List.getElem_toArray, List.getElem_cons_zero, List.getElem_cons_succ, List.setIfInBounds_toArray, List.set_cons_zero, List.set_cons_succ]
  refine wpAnyH_take (i := 20) (v := ?_) rfl (by kernel_rfl) (by kernel_rfl) (by kernel_rfl) (fun _ _ _ h => h) (Or.inl ⟨by rfl, ?_⟩) (by assumption) ?_
  rotate_left
  · intro w hSw
    go_simp
    try with_reducible rfl
  simp only [Act.put, List.getElem_toArray, List.getElem_cons_zero, List.getElem_cons_succ, List.setIfInBounds_toArray, List.set_cons_zero, List.set_cons_succ]
  refine wpAnyH_take (i := 21) (v := ?_) rfl (by kernel_rfl) (by kernel_rfl) (by kernel_rfl) (fun _ _ _ h => h) (Or.inl ⟨by rfl, ?_⟩) (by assumption) ?_
  rotate_left
  · intro w hSw
    go_simp
    try with_reducible rfl
  simp only [Act.put, List.getElem_toArray, List.getElem_cons_zero, List.getElem_cons_succ, List.setIfInBounds_toArray, List.set_cons_zero, List.set_cons_succ]
  refine wpAnyH_take (i := 23) (v := ?_) rfl (by kernel_rfl) (by kernel_rfl) (by kernel_rfl) (fun _ _ _ h => h) (Or.inl ⟨by rfl, ?_⟩) (by assumption) ?_
  rotate_left
  · intro w hSw
    go_simp
    try with_reducible rfl
  simp only [Act.put, List.getElem_toArray, List.getElem_cons_zero, List.getElem_cons_succ, List.setIfInBounds_toArray, List.set_cons_zero, List.set_cons_succ]
  refine wpAnyH_ready (rs := [22]) (by kernel_rfl) (by simp) ?_
  refine AllReadyH.cons rfl (fun K hK => ?_) AllReadyH.nil
  go_simp
  refine (CW.out _).mono ?_
  rintro e w9 ⟨rfl, bb⟩
  refine hK.out _ _ (tj_keep hHeld bb) (fun hHeld => ?_)
  clear hK K 
  refine wpAnyH_take (i := 24) (v := ?_) rfl (by kernel_rfl) (by kernel_rfl) (by kernel_rfl) (fun _ _ _ h => h) (Or.inl ⟨by rfl, ?_⟩) (by assumption) ?_
  rotate_left
  · intro w hSw
    go_simp
    try with_reducible rfl
  simp only [Act.put, List.getElem_toArray, List.getElem_cons_zero, List.getElem_cons_succ, List.setIfInBounds_toArray, List.set_cons_zero, List.set_cons_succ]
  refine wpAnyH_take (i := 25) (v := ?_) rfl (by kernel_rfl) (by kernel_rfl) (by kernel_rfl) (fun _ _ _ h => h) (Or.inl ⟨by rfl, ?_⟩) (by assumption) ?_
  rotate_left
  · intro w hSw
    go_simp
    try with_reducible rfl
  simp only [Act.put, List.getElem_toArray, List.getElem_cons_zero, List.getElem_cons_succ, List.setIfInBounds_toArray, List.set_cons_zero, List.set_cons_succ]
  refine wpAnyH_done (by kernel_rfl) ?_ _
  have S1 := aside hHeld
  clear hHeld
  go_wp2_with fail
  generalize hw0 : w9 = wa at *
  clear hw0
  have S2 : Hid (Below w.heap.size w wa.drew ∧ wa.drew.cell? ⟨w.heap.size, 0, none⟩ = some (.int .i64 an) ∧ wa.drew.cell? ⟨w.heap.size, 1, none⟩ = some (.int .u64 a0) ∧ wa.drew.cell? ⟨w.heap.size, 2, none⟩ = some (.int .u64 a1) ∧ wa.drew.cell? ⟨w.heap.size + 1, 0, none⟩ = some (.int .i64 bn) ∧ wa.drew.cell? ⟨w.heap.size + 1, 1, none⟩ = some (.int .u64 b0) ∧ wa.drew.cell? ⟨w.heap.size + 1, 2, none⟩ = some (.int .u64 b1) ∧ wa.drew.cell? ⟨w.heap.size + 1 + 1, 0, none⟩ = some (.int .i64 cn) ∧ wa.drew.cell? ⟨w.heap.size + 1 + 1, 1, none⟩ = some (.int .u64 c0) ∧ wa.drew.cell? ⟨w.heap.size + 1 + 1, 2, none⟩ = some (.int .u64 c1) ∧ wa.drew.cell? ⟨i7, 0, none⟩ = some (.int .i64 xn) ∧ wa.drew.cell? ⟨i7, 1, none⟩ = some (.int .u64 x0) ∧ wa.drew.cell? ⟨i7, 2, none⟩ = some (.int .u64 x1)) := by
    obtain ⟨h, hr⟩ := S1.out
    exact ⟨h.drew, hr⟩
  clear S1
  refine wp_region_held_drew (S := fun W => Below w.heap.size w W ∧ W.cell? ⟨w.heap.size, 0, none⟩ = some (.int .i64 an) ∧ W.cell? ⟨w.heap.size, 1, none⟩ = some (.int .u64 a0) ∧ W.cell? ⟨w.heap.size, 2, none⟩ = some (.int .u64 a1) ∧ W.cell? ⟨w.heap.size + 1, 0, none⟩ = some (.int .i64 bn) ∧ W.cell? ⟨w.heap.size + 1, 1, none⟩ = some (.int .u64 b0) ∧ W.cell? ⟨w.heap.size + 1, 2, none⟩ = some (.int .u64 b1) ∧ W.cell? ⟨w.heap.size + 1 + 1, 0, none⟩ = some (.int .i64 cn) ∧ W.cell? ⟨w.heap.size + 1 + 1, 1, none⟩ = some (.int .u64 c0) ∧ W.cell? ⟨w.heap.size + 1 + 1, 2, none⟩ = some (.int .u64 c1) ∧ W.cell? ⟨i7, 0, none⟩ = some (.int .i64 xn) ∧ W.cell? ⟨i7, 1, none⟩ = some (.int .u64 x0) ∧ W.cell? ⟨i7, 2, none⟩ = some (.int .u64 x1)) (by kernel_rfl) S2.out (fun hHeld => ?_)
  clear S2
  refine wpAnyH_take (i := 0) (v := ?_) rfl (by kernel_rfl) (by kernel_rfl) (by kernel_rfl) (fun _ _ _ h => h) (Or.inl ⟨by rfl, ?_⟩) (by assumption) ?_
  rotate_left
  · intro w hSw
    go_simp
    try with_reducible rfl
  simp only [Act.put, List.getElem_toArray, List.getElem_cons_zero, List.setIfInBounds_toArray, List.set_cons_zero, List.set_cons_succ]
  refine wpAnyH_take (i := 1) (v := ?_) rfl (by kernel_rfl) (by kernel_rfl) (by kernel_rfl) (fun _ _ _ h => h) (Or.inl ⟨by rfl, ?_⟩) (by assumption) ?_
  rotate_left
  · intro w hSw
    go_simp
    try with_reducible rfl
  simp only [Act.put, List.getElem_toArray, List.getElem_cons_zero, List.getElem_cons_succ, List.setIfInBounds_toArray, List.set_cons_zero, List.set_cons_succ]
  refine wpAnyH_take (i := 3) (v := ?_) rfl (by kernel_rfl) (by kernel_rfl) (by kernel_rfl) (fun _ _ _ h => h) (Or.inl ⟨by rfl, ?_⟩) (by assumption) ?_
  rotate_left
  · intro w hSw
    go_simp
    try with_reducible rfl
  simp only [Act.put, List.getElem_toArray, List.getElem_cons_zero, List.getElem_cons_succ, List.setIfInBounds_toArray, List.set_cons_zero, List.set_cons_succ]
  refine wpAnyH_take (i := 4) (v := ?_) rfl (by kernel_rfl) (by kernel_rfl) (by kernel_rfl) (fun _ _ _ h => h) (Or.inl ⟨by rfl, ?_⟩) (by assumption) ?_
  rotate_left
  · intro w hSw
    go_simp
    try with_reducible rfl
  simp only [Act.put, List.getElem_toArray, List.getElem_cons_zero, List.getElem_cons_succ, List.setIfInBounds_toArray, List.set_cons_zero, List.set_cons_succ]
  refine wpAnyH_take (i := 5) (v := ?_) rfl (by kernel_rfl) (by kernel_rfl) (by kernel_rfl) (fun _ _ _ h => h) (Or.inl ⟨by rfl, ?_⟩) (by assumption) ?_
  rotate_left
  · intro w hSw
    go_simp
    try with_reducible rfl
  simp only [Act.put, List.getElem_toArray, List.getElem_cons_zero, List.getElem_cons_succ, List.setIfInBounds_toArray, List.set_cons_zero, List.set_cons_succ]
  refine wpAnyH_ready (rs := [2]) (by kernel_rfl) (by simp) ?_
  refine AllReadyH.cons rfl (fun K hK => ?_) AllReadyH.nil
  go_simp
  refine (CT.out _).mono ?_
  rintro e w9 ⟨rfl, bb⟩
  refine hK.out _ _ (tj_keep hHeld bb) (fun hHeld => ?_)
  clear hK K 
  refine wpAnyH_ready (rs := [6]) (by kernel_rfl) (by simp) ?_
  refine AllReadyH.cons rfl (fun K hK => ?_) AllReadyH.nil
  go_simp
  refine (CU.out _).mono ?_
  rintro e w9 ⟨rfl, bb⟩
  refine hK.out _ _ (tj_keep hHeld bb) (fun hHeld => ?_)
  clear hK K 
  refine wpAnyH_ready (rs := [7]) (by kernel_rfl) (by simp) ?_
  refine AllReadyH.cons rfl (fun K hK => ?_) AllReadyH.nil
  go_simp
  refine (CV.out _).mono ?_
  rintro e w9 ⟨rfl, bb⟩
  refine hK.out _ _ (tj_keep hHeld bb) (fun hHeld => ?_)
  clear hK K 
  refine wpAnyH_take (i := 8) (v := ?_) rfl (by kernel_rfl) (by kernel_rfl) (by kernel_rfl) (fun _ _ _ h => h) (Or.inl ⟨by rfl, ?_⟩) (by assumption) ?_
  rotate_left
  · intro w hSw
    go_simp
    try with_reducible rfl
  simp only [Act.put, List.getElem_toArray, List.getElem_cons_zero, List.getElem_cons_succ, List.setIfInBounds_toArray, List.set_cons_zero, List.set_cons_succ]
  refine wpAnyH_take (i := 9) (v := ?_) rfl (by kernel_rfl) (by kernel_rfl) (by kernel_rfl) (fun _ _ _ h => h) (Or.inl ⟨by rfl, ?_⟩) (by assumption) ?_
  rotate_left
  · intro w hSw
    go_simp
    try with_reducible rfl
  simp only [Act.put, List.getElem_toArray, List.getElem_cons_zero, List.getElem_cons_succ, List.setIfInBounds_toArray, List.set_cons_zero, List.set_cons_succ]
  refine wpAnyH_done (by kernel_rfl) ?_ _
  go_wp2
  go_ret
  exact ⟨rfl, hHeld.1⟩

theorem ltjoins_walk (an bn cn : Int) (a0 a1 b0 b1 c0 c1 : Nat) (w : World) (han : -9223372036854775808 ≤ an ∧ an ≤ 9223372036854775807) (hbn : -9223372036854775808 ≤ bn ∧ bn ≤ 9223372036854775807) (hcn : -9223372036854775808 ≤ cn ∧ cn ≤ 9223372036854775807)
    (ha0 : a0 < 18446744073709551616) (ha1 : a1 < 18446744073709551616) (hb0 : b0 < 18446744073709551616) (hb1 : b1 < 18446744073709551616) (hc0 : c0 < 18446744073709551616) (hc1 : c1 < 18446744073709551616) :
    Calls Try.prog 3 #[.agg #[.int .i64 an, .int .u64 (a0 : Int), .int .u64 (a1 : Int)], .agg #[.int .i64 bn, .int .u64 (b0 : Int), .int .u64 (b1 : Int)], .agg #[.int .i64 cn, .int .u64 (c0 : Int), .int .u64 (c1 : Int)]] w fun e w' => e = .returned (.bool true) ∧ Below w.heap.size w w' := by
  refine ltjoins_int an a0 a1 bn b0 b1 cn c0 c1 (IntKind.i64.wrap (an + bn)) (IntKind.u64.wrap (a0 + b0)) (IntKind.u64.wrap (a1 + b1)) (IntKind.i64.wrap (IntKind.i64.wrap (an + bn) + cn)) (IntKind.u64.wrap (IntKind.u64.wrap (a0 + b0) + c0)) (IntKind.u64.wrap (IntKind.u64.wrap (a1 + b1) + c1)) (IntKind.i64.wrap (bn + cn)) (IntKind.u64.wrap (b0 + c0)) (IntKind.u64.wrap (b1 + c1)) w
    rfl rfl rfl ?_ ?_ ?_ ?_ ?_ ?_ ?_ ?_ ?_ rfl rfl rfl rfl rfl rfl ?_ ?_ ?_
  all_goals
    simp only [IntKind.wrap_u64, IntKind.wrap_i64]
    omega

end Go.Proofs.Ytccfhegckdmanaa
