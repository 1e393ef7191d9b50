/-
  Join of the code and of the document: counts added, wrapping round; sums added lane by lane.
-/
import Derived.Test.YtccfhegckdmanaaDoorTaBase
import Derived.Test.YtccfhegckdmanaaDoorMAdd
import Derived.Deep.RegionHeld
import Derived.OrdersHeld
namespace Go.Proofs.YtccfhegckdmanaaDoor
open Go.RowKit
set_option linter.unusedVariables false

/-- Two tallies and the result's place, in memory. -/
structure J3 (w V : World) (n a b m c d : Int) : Prop where
  below : Below w.heap.size w V
  b0 : V.heap[w.heap.size]? = some (.cells #[.int .i64 n, .int .u64 a, .int .u64 b] 28)
  b1 : V.heap[w.heap.size + 1]? = some (.cells #[.int .i64 m, .int .u64 c, .int .u64 d] 28)
  b2 : V.heap[w.heap.size + 1 + 1]? = some (.cells #[.int .i64 0, .int .u64 0, .int .u64 0] 28)

theorem j3_st (w : World) (n a b m c d : Int) : J3 w (((w.alloc (.cells #[.int .i64 n, .int .u64 a, .int .u64 b] 28)).alloc (.cells #[.int .i64 m, .int .u64 c, .int .u64 d] 28)).alloc (.cells #[.int .i64 0, .int .u64 0, .int .u64 0] 28)) n a b m c d := by
  refine ⟨((bnew w _).alloc (by simp) _).alloc (by simp; omega) _, blk_on (blk_on (heap_alloc_new w _) (bnew _ _)) (bnew _ _), ?_, ?_⟩
  · refine blk_on ?_ (bnew _ _)
    rw [show w.heap.size + 1 = (w.alloc (.cells #[.int .i64 n, .int .u64 a, .int .u64 b] 28)).heap.size from by simp]
    exact heap_alloc_new _ _
  · rw [show w.heap.size + 1 + 1 = ((w.alloc (.cells #[.int .i64 n, .int .u64 a, .int .u64 b] 28)).alloc (.cells #[.int .i64 m, .int .u64 c, .int .u64 d] 28)).heap.size from by simp]
    exact heap_alloc_new _ _

theorem J3.drew {w V : World} {n a b m c d : Int} (h : J3 w V n a b m c d) : J3 w V.drew n a b m c d := ⟨h.below.drew, h.b0, h.b1, h.b2⟩
theorem J3.keep {w V W : World} {n a b m c d : Int} (h : J3 w V n a b m c d) (b' : Below V.heap.size V W) : J3 w W n a b m c d := ⟨bthen h.below b', blk_on h.b0 b', blk_on h.b1 b', blk_on h.b2 b'⟩
theorem J3.held {w X : World} {n a b m c d : Int} (h : J3 w X n a b m c d) : Below w.heap.size w X ∧ X.cell? ⟨w.heap.size, 0, none⟩ = some (.int .i64 n) ∧ X.cell? ⟨w.heap.size, 1, none⟩ = some (.int .u64 a) ∧ X.cell? ⟨w.heap.size, 2, none⟩ = some (.int .u64 b) ∧ X.cell? ⟨w.heap.size + 1, 0, none⟩ = some (.int .i64 m) ∧ X.cell? ⟨w.heap.size + 1, 1, none⟩ = some (.int .u64 c) ∧ X.cell? ⟨w.heap.size + 1, 2, none⟩ = some (.int .u64 d) :=
  ⟨h.below, (tri h.b0).1, (tri h.b0).2.1, (tri h.b0).2.2.1, (tri h.b1).1, (tri h.b1).2.1, (tri h.b1).2.2.1⟩
theorem j3_set {w X : World} {n a b m c d : Int} (h : Below w.heap.size w X ∧ X.cell? ⟨w.heap.size, 0, none⟩ = some (.int .i64 n) ∧ X.cell? ⟨w.heap.size, 1, none⟩ = some (.int .u64 a) ∧ X.cell? ⟨w.heap.size, 2, none⟩ = some (.int .u64 b) ∧ X.cell? ⟨w.heap.size + 1, 0, none⟩ = some (.int .i64 m) ∧ X.cell? ⟨w.heap.size + 1, 1, none⟩ = some (.int .u64 c) ∧ X.cell? ⟨w.heap.size + 1, 2, none⟩ = some (.int .u64 d)) (k : Nat) (u : Value) : Below w.heap.size w (X.setCell ⟨w.heap.size + 1 + 1, k, none⟩ u) ∧ (X.setCell ⟨w.heap.size + 1 + 1, k, none⟩ u).cell? ⟨w.heap.size, 0, none⟩ = some (.int .i64 n) ∧ (X.setCell ⟨w.heap.size + 1 + 1, k, none⟩ u).cell? ⟨w.heap.size, 1, none⟩ = some (.int .u64 a) ∧ (X.setCell ⟨w.heap.size + 1 + 1, k, none⟩ u).cell? ⟨w.heap.size, 2, none⟩ = some (.int .u64 b) ∧ (X.setCell ⟨w.heap.size + 1 + 1, k, none⟩ u).cell? ⟨w.heap.size + 1, 0, none⟩ = some (.int .i64 m) ∧ (X.setCell ⟨w.heap.size + 1 + 1, k, none⟩ u).cell? ⟨w.heap.size + 1, 1, none⟩ = some (.int .u64 c) ∧ (X.setCell ⟨w.heap.size + 1 + 1, k, none⟩ u).cell? ⟨w.heap.size + 1, 2, none⟩ = some (.int .u64 d) := by
  obtain ⟨h, h0, h1, h2, h3, h4, h5⟩ := h
  exact ⟨h.setCell (by simp; omega) _, cell_apart h0 (by dsimp only; omega), cell_apart h1 (by dsimp only; omega), cell_apart h2 (by dsimp only; omega), cell_apart h3 (by dsimp only; omega), cell_apart h4 (by dsimp only; omega), cell_apart h5 (by dsimp only; omega)⟩

set_option maxHeartbeats 1600000 in
set_option maxRecDepth 100000 in
theorem join_any (n a b m c d : Int) (w : World) :
    Calls Tryd.prog 9 #[.agg #[.int .i64 n, .int .u64 a, .int .u64 b], .agg #[.int .i64 m, .int .u64 c, .int .u64 d]] w fun e w' => e = .returned (.agg #[.int .i64 (IntKind.i64.wrap (n + m)), .int .u64 (IntKind.u64.wrap (a + c)), .int .u64 (IntKind.u64.wrap (b + d))]) ∧ Below w.heap.size w w' := by
  have J := aside (j3_st w n a b m c d)
  go_enter Tryd.func9, Tryd.ntmps9
  go_wp2_with fail
  generalize ((w.alloc (.cells #[.int .i64 n, .int .u64 a, .int .u64 b] 28)).alloc (.cells #[.int .i64 m, .int .u64 c, .int .u64 d] 28)).alloc (.cells #[.int .i64 0, .int .u64 0, .int .u64 0] 28) = V at *
  refine wp_region_held_drew (S := fun X => Below w.heap.size w X ∧ X.cell? ⟨w.heap.size, 0, none⟩ = some (.int .i64 n) ∧ X.cell? ⟨w.heap.size, 1, none⟩ = some (.int .u64 a) ∧ X.cell? ⟨w.heap.size, 2, none⟩ = some (.int .u64 b) ∧ X.cell? ⟨w.heap.size + 1, 0, none⟩ = some (.int .i64 m) ∧ X.cell? ⟨w.heap.size + 1, 1, none⟩ = some (.int .u64 c) ∧ X.cell? ⟨w.heap.size + 1, 2, none⟩ = some (.int .u64 d)) (by kernel_rfl) J.out.drew.held (fun hHeld => ?_)
  refine wpAnyH_take (i := 0) (v := ?_) rfl (by kernel_rfl) (by kernel_rfl) (by kernel_rfl) (fun _ _ _ h => h) (Or.inl ⟨by rfl, ?_⟩) (by assumption) ?_
  rotate_left
  · intro w hSw
    go_simp
    try with_reducible rfl
  simp only [Act.put, List.getElem_toArray, List.getElem_cons_zero, List.setIfInBounds_toArray, List.set_cons_zero, List.set_cons_succ]
  refine wpAnyH_take (i := 1) (v := ?_) rfl (by kernel_rfl) (by kernel_rfl) (by kernel_rfl) (fun _ _ _ h => h) (Or.inl ⟨by rfl, ?_⟩) (by assumption) ?_
  rotate_left
  · intro w hSw
    go_simp
    try with_reducible rfl
  simp only [Act.put, List.getElem_toArray, List.getElem_cons_zero, List.getElem_cons_succ, List.setIfInBounds_toArray, List.set_cons_zero, List.set_cons_succ]
  refine wpAnyH_take (i := 2) (v := ?_) rfl (by kernel_rfl) (by kernel_rfl) (by kernel_rfl) (fun _ _ _ h => h) (Or.inl ⟨by rfl, ?_⟩) (by assumption) ?_
  rotate_left
  · intro w hSw
    go_simp
    try with_reducible rfl
  simp only [Act.put, List.getElem_toArray, List.getElem_cons_zero, List.getElem_cons_succ, List.setIfInBounds_toArray, List.set_cons_zero, List.set_cons_succ]
  refine wpAnyH_take (i := 3) (v := ?_) rfl (by kernel_rfl) (by kernel_rfl) (by kernel_rfl) (fun _ _ _ h => h) (Or.inl ⟨by rfl, ?_⟩) (by assumption) ?_
  rotate_left
  · intro w hSw
    go_simp
    try with_reducible rfl
  simp only [Act.put, List.getElem_toArray, List.getElem_cons_zero, List.getElem_cons_succ, List.setIfInBounds_toArray, List.set_cons_zero, List.set_cons_succ]
  refine wpAnyH_take (i := 4) (v := ?_) rfl (by kernel_rfl) (by kernel_rfl) (by kernel_rfl) (fun _ _ _ h => h) (Or.inl ⟨by rfl, ?_⟩) (by assumption) ?_
  rotate_left
  · intro w hSw
    go_simp
    try with_reducible rfl
  simp only [Act.put, List.getElem_toArray, List.getElem_cons_zero, List.getElem_cons_succ, List.setIfInBounds_toArray, List.set_cons_zero, List.set_cons_succ]
  refine wpAnyH_take (i := 5) (v := ?_) rfl (by kernel_rfl) (by kernel_rfl) (by kernel_rfl) (fun _ _ _ h => h) (Or.inl ⟨by rfl, ?_⟩) (by assumption) ?_
  rotate_left
  · intro w hSw
    go_simp
    try with_reducible rfl
  simp only [Act.put, List.getElem_toArray, List.getElem_cons_zero, List.getElem_cons_succ, List.setIfInBounds_toArray, List.set_cons_zero, List.set_cons_succ]
  refine wpAnyH_take (i := 6) (v := ?_) rfl (by kernel_rfl) (by kernel_rfl) (by kernel_rfl) (fun _ _ _ h => h) (Or.inl ⟨by rfl, ?_⟩) (by assumption) ?_
  rotate_left
  · intro w hSw
    go_simp
    try with_reducible rfl
  simp only [Act.put, List.getElem_toArray, List.getElem_cons_zero, List.getElem_cons_succ, List.setIfInBounds_toArray, List.set_cons_zero, List.set_cons_succ]
  refine wpAnyH_take (i := 7) (v := ?_) rfl (by kernel_rfl) (by kernel_rfl) (by kernel_rfl) (fun _ _ _ h => h) (Or.inl ⟨by rfl, ?_⟩) (by assumption) ?_
  rotate_left
  · intro w hSw
    go_simp
    try with_reducible rfl
  simp only [Act.put, List.getElem_toArray, List.getElem_cons_zero, List.getElem_cons_succ, List.setIfInBounds_toArray, List.set_cons_zero, List.set_cons_succ]
  refine wpAnyH_take (i := 8) (v := ?_) rfl (by kernel_rfl) (by kernel_rfl) (by kernel_rfl) (fun _ _ _ h => h) (Or.inl ⟨by rfl, ?_⟩) (by assumption) ?_
  rotate_left
  · intro w hSw
    go_simp
    try with_reducible rfl
  simp only [Act.put, List.getElem_toArray, List.getElem_cons_zero, List.getElem_cons_succ, List.setIfInBounds_toArray, List.set_cons_zero, List.set_cons_succ]
  refine wpAnyH_ready (rs := [9]) (by kernel_rfl) (by simp) ?_
  refine AllReadyH.cons rfl (fun K hK => ?_) AllReadyH.nil
  go_simp
  refine (add_any _ _ _ _ _).mono ?_
  rintro e w9 ⟨rfl, bb⟩
  refine hK.out _ _ ((J.out.drew.keep bb).held) (fun hHeld => ?_)
  clear hK K 
  have J1 := aside (J.out.drew.keep bb)
  obtain ⟨s0, s1, s2, z0, z1, z2⟩ := tri J1.out.b2
  clear bb
  refine wpAnyH_take (i := 10) (v := ?_) rfl (by kernel_rfl) (by kernel_rfl) (by kernel_rfl) (fun _ _ _ h => h) (Or.inl ⟨by rfl, ?_⟩) (by assumption) ?_
  rotate_left
  · intro w hSw
    go_simp
    try with_reducible rfl
  simp only [Act.put, List.getElem_toArray, List.getElem_cons_zero, List.getElem_cons_succ, List.setIfInBounds_toArray, List.set_cons_zero, List.set_cons_succ]
  refine wpAnyH_ready (rs := [11]) (by kernel_rfl) (by simp) ?_
  refine AllReadyH.cons rfl (fun K hK => ?_) AllReadyH.nil
  go_simp
  refine hK.out _ _ (j3_set (j3_set (j3_set J1.out.held 0 _) 1 _) 2 _) (fun hHeld => ?_)
  clear hK K 
  refine wpAnyH_done (by kernel_rfl) ?_ _
  go_wp2
  exact bodyPost_ret (v := .agg #[.int .i64 (IntKind.i64.wrap (n + m)), .int .u64 (IntKind.u64.wrap (a + c)), .int .u64 (IntKind.u64.wrap (b + d))]) (by simp [results, Tryd.results9, go_sem, s0, s1, s2]) rfl ⟨rfl, ((J1.out.below.setCell (by simp; omega) _).setCell (by simp; omega) _).setCell (by simp; omega) _⟩

theorem join_at {n a b m c d r x y : Int} (h : IntKind.i64.wrap (n + m) = r) (h0 : IntKind.u64.wrap (a + c) = x) (h1 : IntKind.u64.wrap (b + d) = y) (w : World) :
    Calls Tryd.prog 9 #[.agg #[.int .i64 n, .int .u64 a, .int .u64 b], .agg #[.int .i64 m, .int .u64 c, .int .u64 d]] w fun e w' => e = .returned (.agg #[.int .i64 r, .int .u64 x, .int .u64 y]) ∧ Below w.heap.size w w' := by
  subst h h0 h1; exact join_any n a b m c d w

set_option maxHeartbeats 1600000 in
set_option maxRecDepth 100000 in
theorem joinRef_any (n a b m c d : Int) (w : World) :
    Calls Tryd.prog 17 #[.agg #[.int .i64 n, .int .u64 a, .int .u64 b], .agg #[.int .i64 m, .int .u64 c, .int .u64 d]] w fun e w' => e = .returned (.agg #[.int .i64 (IntKind.i64.wrap (n + m)), .int .u64 (IntKind.u64.wrap (a + c)), .int .u64 (IntKind.u64.wrap (b + d))]) ∧ Below w.heap.size w w' := by
  have J := aside (j3_st w n a b m c d)
  go_enter Tryd.func17, Tryd.ntmps17
  go_wp2_with fail
  generalize ((w.alloc (.cells #[.int .i64 n, .int .u64 a, .int .u64 b] 28)).alloc (.cells #[.int .i64 m, .int .u64 c, .int .u64 d] 28)).alloc (.cells #[.int .i64 0, .int .u64 0, .int .u64 0] 28) = V at *
  refine wp_region_held_drew (S := fun X => Below w.heap.size w X ∧ X.cell? ⟨w.heap.size, 0, none⟩ = some (.int .i64 n) ∧ X.cell? ⟨w.heap.size, 1, none⟩ = some (.int .u64 a) ∧ X.cell? ⟨w.heap.size, 2, none⟩ = some (.int .u64 b) ∧ X.cell? ⟨w.heap.size + 1, 0, none⟩ = some (.int .i64 m) ∧ X.cell? ⟨w.heap.size + 1, 1, none⟩ = some (.int .u64 c) ∧ X.cell? ⟨w.heap.size + 1, 2, none⟩ = some (.int .u64 d)) (by kernel_rfl) J.out.drew.held (fun hHeld => ?_)
  refine wpAnyH_take (i := 0) (v := ?_) rfl (by kernel_rfl) (by kernel_rfl) (by kernel_rfl) (fun _ _ _ h => h) (Or.inl ⟨by rfl, ?_⟩) (by assumption) ?_
  rotate_left
  · intro w hSw
    go_simp
    try with_reducible rfl
  simp only [Act.put, List.getElem_toArray, List.getElem_cons_zero, List.setIfInBounds_toArray, List.set_cons_zero, List.set_cons_succ]
  refine wpAnyH_take (i := 1) (v := ?_) rfl (by kernel_rfl) (by kernel_rfl) (by kernel_rfl) (fun _ _ _ h => h) (Or.inl ⟨by rfl, ?_⟩) (by assumption) ?_
  rotate_left
  · intro w hSw
    go_simp
    try with_reducible rfl
  simp only [Act.put, List.getElem_toArray, List.getElem_cons_zero, List.getElem_cons_succ, List.setIfInBounds_toArray, List.set_cons_zero, List.set_cons_succ]
  refine wpAnyH_take (i := 2) (v := ?_) rfl (by kernel_rfl) (by kernel_rfl) (by kernel_rfl) (fun _ _ _ h => h) (Or.inl ⟨by rfl, ?_⟩) (by assumption) ?_
  rotate_left
  · intro w hSw
    go_simp
    try with_reducible rfl
  simp only [Act.put, List.getElem_toArray, List.getElem_cons_zero, List.getElem_cons_succ, List.setIfInBounds_toArray, List.set_cons_zero, List.set_cons_succ]
  refine wpAnyH_take (i := 3) (v := ?_) rfl (by kernel_rfl) (by kernel_rfl) (by kernel_rfl) (fun _ _ _ h => h) (Or.inl ⟨by rfl, ?_⟩) (by assumption) ?_
  rotate_left
  · intro w hSw
    go_simp
    try with_reducible rfl
  simp only [Act.put, List.getElem_toArray, List.getElem_cons_zero, List.getElem_cons_succ, List.setIfInBounds_toArray, List.set_cons_zero, List.set_cons_succ]
  refine wpAnyH_take (i := 4) (v := ?_) rfl (by kernel_rfl) (by kernel_rfl) (by kernel_rfl) (fun _ _ _ h => h) (Or.inl ⟨by rfl, ?_⟩) (by assumption) ?_
  rotate_left
  · intro w hSw
    go_simp
    try with_reducible rfl
  simp only [Act.put, List.getElem_toArray, List.getElem_cons_zero, List.getElem_cons_succ, List.setIfInBounds_toArray, List.set_cons_zero, List.set_cons_succ]
  refine wpAnyH_take (i := 5) (v := ?_) rfl (by kernel_rfl) (by kernel_rfl) (by kernel_rfl) (fun _ _ _ h => h) (Or.inl ⟨by rfl, ?_⟩) (by assumption) ?_
  rotate_left
  · intro w hSw
    go_simp
    try with_reducible rfl
  simp only [Act.put, List.getElem_toArray, List.getElem_cons_zero, List.getElem_cons_succ, List.setIfInBounds_toArray, List.set_cons_zero, List.set_cons_succ]
  refine wpAnyH_take (i := 6) (v := ?_) rfl (by kernel_rfl) (by kernel_rfl) (by kernel_rfl) (fun _ _ _ h => h) (Or.inl ⟨by rfl, ?_⟩) (by assumption) ?_
  rotate_left
  · intro w hSw
    go_simp
    try with_reducible rfl
  simp only [Act.put, List.getElem_toArray, List.getElem_cons_zero, List.getElem_cons_succ, List.setIfInBounds_toArray, List.set_cons_zero, List.set_cons_succ]
  refine wpAnyH_take (i := 7) (v := ?_) rfl (by kernel_rfl) (by kernel_rfl) (by kernel_rfl) (fun _ _ _ h => h) (Or.inl ⟨by rfl, ?_⟩) (by assumption) ?_
  rotate_left
  · intro w hSw
    go_simp
    try with_reducible rfl
  simp only [Act.put, List.getElem_toArray, List.getElem_cons_zero, List.getElem_cons_succ, List.setIfInBounds_toArray, List.set_cons_zero, List.set_cons_succ]
  refine wpAnyH_take (i := 8) (v := ?_) rfl (by kernel_rfl) (by kernel_rfl) (by kernel_rfl) (fun _ _ _ h => h) (Or.inl ⟨by rfl, ?_⟩) (by assumption) ?_
  rotate_left
  · intro w hSw
    go_simp
    try with_reducible rfl
  simp only [Act.put, List.getElem_toArray, List.getElem_cons_zero, List.getElem_cons_succ, List.setIfInBounds_toArray, List.set_cons_zero, List.set_cons_succ]
  refine wpAnyH_ready (rs := [9]) (by kernel_rfl) (by simp) ?_
  refine AllReadyH.cons rfl (fun K hK => ?_) AllReadyH.nil
  go_simp
  refine (addRef_any _ _ _ _ _).mono ?_
  rintro e w9 ⟨rfl, bb⟩
  refine hK.out _ _ ((J.out.drew.keep bb).held) (fun hHeld => ?_)
  clear hK K 
  have J1 := aside (J.out.drew.keep bb)
  obtain ⟨s0, s1, s2, z0, z1, z2⟩ := tri J1.out.b2
  clear bb
  refine wpAnyH_take (i := 10) (v := ?_) rfl (by kernel_rfl) (by kernel_rfl) (by kernel_rfl) (fun _ _ _ h => h) (Or.inl ⟨by rfl, ?_⟩) (by assumption) ?_
  rotate_left
  · intro w hSw
    go_simp
    try with_reducible rfl
  simp only [Act.put, List.getElem_toArray, List.getElem_cons_zero, List.getElem_cons_succ, List.setIfInBounds_toArray, List.set_cons_zero, List.set_cons_succ]
  refine wpAnyH_ready (rs := [11]) (by kernel_rfl) (by simp) ?_
  refine AllReadyH.cons rfl (fun K hK => ?_) AllReadyH.nil
  go_simp
  refine hK.out _ _ (j3_set (j3_set (j3_set J1.out.held 0 _) 1 _) 2 _) (fun hHeld => ?_)
  clear hK K 
  refine wpAnyH_done (by kernel_rfl) ?_ _
  go_wp2
  exact bodyPost_ret (v := .agg #[.int .i64 (IntKind.i64.wrap (n + m)), .int .u64 (IntKind.u64.wrap (a + c)), .int .u64 (IntKind.u64.wrap (b + d))]) (by simp [results, Tryd.results17, go_sem, s0, s1, s2]) rfl ⟨rfl, ((J1.out.below.setCell (by simp; omega) _).setCell (by simp; omega) _).setCell (by simp; omega) _⟩

theorem joinRef_at {n a b m c d r x y : Int} (h : IntKind.i64.wrap (n + m) = r) (h0 : IntKind.u64.wrap (a + c) = x) (h1 : IntKind.u64.wrap (b + d) = y) (w : World) :
    Calls Tryd.prog 17 #[.agg #[.int .i64 n, .int .u64 a, .int .u64 b], .agg #[.int .i64 m, .int .u64 c, .int .u64 d]] w fun e w' => e = .returned (.agg #[.int .i64 r, .int .u64 x, .int .u64 y]) ∧ Below w.heap.size w w' := by
  subst h h0 h1; exact joinRef_any n a b m c d w

end Go.Proofs.YtccfhegckdmanaaDoor
