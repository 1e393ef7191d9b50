/-
  Join of the code and of the document: counts added, wrapping round; sums added lane by lane.
  The words of a key and a version, plain, and what both lanes come to.
  The code's Of: the words of a key, and all words mixed.
-/
import Derived.Test.YtfkdhambbpkmpaaDoorBv12
import Derived.Deep.RegionHeld
import Derived.OrdersHeld
import Derived.Test.YtfkdhambbpkmpaaDoorBv1
import Derived.Deep.RegionWith
namespace Go.Proofs.YtfkdhambbpkmpaaDoor
open Go.RowKit
set_option linter.unusedVariables false
/-- Two tallies and the result's place, in memory. -/
structure J3 (w V : World) (n a b m c d : Int) : Prop where
  below : Below w.heap.size w V
  b0 : V.heap[w.heap.size]? = some (.cells #[.int .i64 n, .int .u64 a, .int .u64 b] 40)
  b1 : V.heap[w.heap.size + 1]? = some (.cells #[.int .i64 m, .int .u64 c, .int .u64 d] 40)
  b2 : V.heap[w.heap.size + 1 + 1]? = some (.cells #[.int .i64 0, .int .u64 0, .int .u64 0] 40)
theorem j3_st (w : World) (n a b m c d : Int) : J3 w (((w.alloc (.cells #[.int .i64 n, .int .u64 a, .int .u64 b] 40)).alloc (.cells #[.int .i64 m, .int .u64 c, .int .u64 d] 40)).alloc (.cells #[.int .i64 0, .int .u64 0, .int .u64 0] 40)) n a b m c d := by
  refine ⟨((bnew w _).alloc (by simp) _).alloc (by simp; omega) _, blk_on (blk_on (heap_alloc_new w _) (bnew _ _)) (bnew _ _), ?_, ?_⟩
  · refine blk_on ?_ (bnew _ _)
    rw [show w.heap.size + 1 = (w.alloc (.cells #[.int .i64 n, .int .u64 a, .int .u64 b] 40)).heap.size from by simp]
    exact heap_alloc_new _ _
  · rw [show w.heap.size + 1 + 1 = ((w.alloc (.cells #[.int .i64 n, .int .u64 a, .int .u64 b] 40)).alloc (.cells #[.int .i64 m, .int .u64 c, .int .u64 d] 40)).heap.size from by simp]
    exact heap_alloc_new _ _
theorem J3.drew {w V : World} {n a b m c d : Int} (h : J3 w V n a b m c d) : J3 w V.drew n a b m c d := ⟨h.below.drew, h.b0, h.b1, h.b2⟩
theorem J3.keep {w V W : World} {n a b m c d : Int} (h : J3 w V n a b m c d) (b' : Below V.heap.size V W) : J3 w W n a b m c d := ⟨bthen h.below b', blk_on h.b0 b', blk_on h.b1 b', blk_on h.b2 b'⟩
theorem J3.held {w X : World} {n a b m c d : Int} (h : J3 w X n a b m c d) : Below w.heap.size w X ∧ X.cell? ⟨w.heap.size, 0, none⟩ = some (.int .i64 n) ∧ X.cell? ⟨w.heap.size, 1, none⟩ = some (.int .u64 a) ∧ X.cell? ⟨w.heap.size, 2, none⟩ = some (.int .u64 b) ∧ X.cell? ⟨w.heap.size + 1, 0, none⟩ = some (.int .i64 m) ∧ X.cell? ⟨w.heap.size + 1, 1, none⟩ = some (.int .u64 c) ∧ X.cell? ⟨w.heap.size + 1, 2, none⟩ = some (.int .u64 d) :=
  ⟨h.below, (tri h.b0).1, (tri h.b0).2.1, (tri h.b0).2.2.1, (tri h.b1).1, (tri h.b1).2.1, (tri h.b1).2.2.1⟩
theorem j3_set {w X : World} {n a b m c d : Int} (h : Below w.heap.size w X ∧ X.cell? ⟨w.heap.size, 0, none⟩ = some (.int .i64 n) ∧ X.cell? ⟨w.heap.size, 1, none⟩ = some (.int .u64 a) ∧ X.cell? ⟨w.heap.size, 2, none⟩ = some (.int .u64 b) ∧ X.cell? ⟨w.heap.size + 1, 0, none⟩ = some (.int .i64 m) ∧ X.cell? ⟨w.heap.size + 1, 1, none⟩ = some (.int .u64 c) ∧ X.cell? ⟨w.heap.size + 1, 2, none⟩ = some (.int .u64 d)) (k : Nat) (u : Value) : Below w.heap.size w (X.setCell ⟨w.heap.size + 1 + 1, k, none⟩ u) ∧ (X.setCell ⟨w.heap.size + 1 + 1, k, none⟩ u).cell? ⟨w.heap.size, 0, none⟩ = some (.int .i64 n) ∧ (X.setCell ⟨w.heap.size + 1 + 1, k, none⟩ u).cell? ⟨w.heap.size, 1, none⟩ = some (.int .u64 a) ∧ (X.setCell ⟨w.heap.size + 1 + 1, k, none⟩ u).cell? ⟨w.heap.size, 2, none⟩ = some (.int .u64 b) ∧ (X.setCell ⟨w.heap.size + 1 + 1, k, none⟩ u).cell? ⟨w.heap.size + 1, 0, none⟩ = some (.int .i64 m) ∧ (X.setCell ⟨w.heap.size + 1 + 1, k, none⟩ u).cell? ⟨w.heap.size + 1, 1, none⟩ = some (.int .u64 c) ∧ (X.setCell ⟨w.heap.size + 1 + 1, k, none⟩ u).cell? ⟨w.heap.size + 1, 2, none⟩ = some (.int .u64 d) := by
  obtain ⟨h, h0, h1, h2, h3, h4, h5⟩ := h
  exact ⟨h.setCell (by simp; omega) _, cell_apart h0 (by dsimp only; omega), cell_apart h1 (by dsimp only; omega), cell_apart h2 (by dsimp only; omega), cell_apart h3 (by dsimp only; omega), cell_apart h4 (by dsimp only; omega), cell_apart h5 (by dsimp only; omega)⟩
set_option maxHeartbeats 1600000 in
set_option maxRecDepth 100000 in
theorem join_any (n a b m c d : Int) (w : World) :
    Calls Tryd.prog 31 #[.agg #[.int .i64 n, .int .u64 a, .int .u64 b], .agg #[.int .i64 m, .int .u64 c, .int .u64 d]] w fun e w' => e = .returned (.agg #[.int .i64 (IntKind.i64.wrap (n + m)), .int .u64 (IntKind.u64.wrap (a + c)), .int .u64 (IntKind.u64.wrap (b + d))]) ∧ Below w.heap.size w w' := by
  have J := aside (j3_st w n a b m c d)
  go_enter Tryd.func31, Tryd.ntmps31
  go_wp2_with fail
  generalize ((w.alloc (.cells #[.int .i64 n, .int .u64 a, .int .u64 b] 40)).alloc (.cells #[.int .i64 m, .int .u64 c, .int .u64 d] 40)).alloc (.cells #[.int .i64 0, .int .u64 0, .int .u64 0] 40) = V at *
  refine wp_region_held_drew (S := fun X => Below w.heap.size w X ∧ X.cell? ⟨w.heap.size, 0, none⟩ = some (.int .i64 n) ∧ X.cell? ⟨w.heap.size, 1, none⟩ = some (.int .u64 a) ∧ X.cell? ⟨w.heap.size, 2, none⟩ = some (.int .u64 b) ∧ X.cell? ⟨w.heap.size + 1, 0, none⟩ = some (.int .i64 m) ∧ X.cell? ⟨w.heap.size + 1, 1, none⟩ = some (.int .u64 c) ∧ X.cell? ⟨w.heap.size + 1, 2, none⟩ = some (.int .u64 d)) (by kernel_rfl) J.out.drew.held (fun hHeld => ?_)
  refine wpAnyH_take (i := 0) (v := ?_) rfl (by kernel_rfl) (by kernel_rfl) (by kernel_rfl) (fun _ _ _ h => h) (Or.inl ⟨by rfl, ?_⟩) (by assumption) ?_
  rotate_left
  · intro w hSw
    go_simp
    try with_reducible rfl
  simp only [Act.put, List.getElem_toArray, List.getElem_cons_zero, List.setIfInBounds_toArray, List.set_cons_zero, List.set_cons_succ]
  refine wpAnyH_take (i := 1) (v := ?_) rfl (by kernel_rfl) (by kernel_rfl) (by kernel_rfl) (fun _ _ _ h => h) (Or.inl ⟨by rfl, ?_⟩) (by assumption) ?_
  rotate_left
  · intro w hSw
    go_simp
    try with_reducible rfl
  simp only [Act.put, List.getElem_toArray, List.getElem_cons_zero, List.getElem_cons_succ, List.setIfInBounds_toArray, List.set_cons_zero, List.set_cons_succ]
  refine wpAnyH_take (i := 2) (v := ?_) rfl (by kernel_rfl) (by kernel_rfl) (by kernel_rfl) (fun _ _ _ h => h) (Or.inl ⟨by rfl, ?_⟩) (by assumption) ?_
  rotate_left
  · intro w hSw
    go_simp
    try with_reducible rfl
  simp only [Act.put, List.getElem_toArray, List.getElem_cons_zero, List.getElem_cons_succ, List.setIfInBounds_toArray, List.set_cons_zero, List.set_cons_succ]
  refine wpAnyH_take (i := 3) (v := ?_) rfl (by kernel_rfl) (by kernel_rfl) (by kernel_rfl) (fun _ _ _ h => h) (Or.inl ⟨by rfl, ?_⟩) (by assumption) ?_
  rotate_left
  · intro w hSw
    go_simp
    try with_reducible rfl
  simp only [Act.put, List.getElem_toArray, List.getElem_cons_zero, List.getElem_cons_succ, List.setIfInBounds_toArray, List.set_cons_zero, List.set_cons_succ]
  refine wpAnyH_take (i := 4) (v := ?_) rfl (by kernel_rfl) (by kernel_rfl) (by kernel_rfl) (fun _ _ _ h => h) (Or.inl ⟨by rfl, ?_⟩) (by assumption) ?_
  rotate_left
  · intro w hSw
    go_simp
    try with_reducible rfl
  simp only [Act.put, List.getElem_toArray, List.getElem_cons_zero, List.getElem_cons_succ, List.setIfInBounds_toArray, List.set_cons_zero, List.set_cons_succ]
  refine wpAnyH_take (i := 5) (v := ?_) rfl (by kernel_rfl) (by kernel_rfl) (by kernel_rfl) (fun _ _ _ h => h) (Or.inl ⟨by rfl, ?_⟩) (by assumption) ?_
  rotate_left
  · intro w hSw
    go_simp
    try with_reducible rfl
  simp only [Act.put, List.getElem_toArray, List.getElem_cons_zero, List.getElem_cons_succ, List.setIfInBounds_toArray, List.set_cons_zero, List.set_cons_succ]
  refine wpAnyH_take (i := 6) (v := ?_) rfl (by kernel_rfl) (by kernel_rfl) (by kernel_rfl) (fun _ _ _ h => h) (Or.inl ⟨by rfl, ?_⟩) (by assumption) ?_
  rotate_left
  · intro w hSw
    go_simp
    try with_reducible rfl
  simp only [Act.put, List.getElem_toArray, List.getElem_cons_zero, List.getElem_cons_succ, List.setIfInBounds_toArray, List.set_cons_zero, List.set_cons_succ]
  refine wpAnyH_take (i := 7) (v := ?_) rfl (by kernel_rfl) (by kernel_rfl) (by kernel_rfl) (fun _ _ _ h => h) (Or.inl ⟨by rfl, ?_⟩) (by assumption) ?_
  rotate_left
  · intro w hSw
    go_simp
    try with_reducible rfl
  simp only [Act.put, List.getElem_toArray, List.getElem_cons_zero, List.getElem_cons_succ, List.setIfInBounds_toArray, List.set_cons_zero, List.set_cons_succ]
  refine wpAnyH_take (i := 8) (v := ?_) rfl (by kernel_rfl) (by kernel_rfl) (by kernel_rfl) (fun _ _ _ h => h) (Or.inl ⟨by rfl, ?_⟩) (by assumption) ?_
  rotate_left
  · intro w hSw
    go_simp
    try with_reducible rfl
  simp only [Act.put, List.getElem_toArray, List.getElem_cons_zero, List.getElem_cons_succ, List.setIfInBounds_toArray, List.set_cons_zero, List.set_cons_succ]
  refine wpAnyH_ready (rs := [9]) (by kernel_rfl) (by simp) ?_
  refine AllReadyH.cons rfl (fun K hK => ?_) AllReadyH.nil
  go_simp
  refine (add_any _ _ _ _ _).mono ?_
  rintro e w9 ⟨rfl, bb⟩
  refine hK.out _ _ ((J.out.drew.keep bb).held) (fun hHeld => ?_)
  clear hK K 
  have J1 := aside (J.out.drew.keep bb)
  obtain ⟨s0, s1, s2, z0, z1, z2⟩ := tri J1.out.b2
  clear bb
  refine wpAnyH_take (i := 10) (v := ?_) rfl (by kernel_rfl) (by kernel_rfl) (by kernel_rfl) (fun _ _ _ h => h) (Or.inl ⟨by rfl, ?_⟩) (by assumption) ?_
  rotate_left
  · intro w hSw
    go_simp
    try with_reducible rfl
  simp only [Act.put, List.getElem_toArray, List.getElem_cons_zero, List.getElem_cons_succ, List.setIfInBounds_toArray, List.set_cons_zero, List.set_cons_succ]
  refine wpAnyH_ready (rs := [11]) (by kernel_rfl) (by simp) ?_
  refine AllReadyH.cons rfl (fun K hK => ?_) AllReadyH.nil
  go_simp
  refine hK.out _ _ (j3_set (j3_set (j3_set J1.out.held 0 _) 1 _) 2 _) (fun hHeld => ?_)
  clear hK K 
  refine wpAnyH_done (by kernel_rfl) ?_ _
  go_wp2
  exact bodyPost_ret (v := .agg #[.int .i64 (IntKind.i64.wrap (n + m)), .int .u64 (IntKind.u64.wrap (a + c)), .int .u64 (IntKind.u64.wrap (b + d))]) (by simp [results, Tryd.results31, go_sem, s0, s1, s2]) rfl ⟨rfl, ((J1.out.below.setCell (by simp; omega) _).setCell (by simp; omega) _).setCell (by simp; omega) _⟩
theorem join_at {n a b m c d r x y : Int} (h : IntKind.i64.wrap (n + m) = r) (h0 : IntKind.u64.wrap (a + c) = x) (h1 : IntKind.u64.wrap (b + d) = y) (w : World) :
    Calls Tryd.prog 31 #[.agg #[.int .i64 n, .int .u64 a, .int .u64 b], .agg #[.int .i64 m, .int .u64 c, .int .u64 d]] w fun e w' => e = .returned (.agg #[.int .i64 r, .int .u64 x, .int .u64 y]) ∧ Below w.heap.size w w' := by
  subst h h0 h1; exact join_any n a b m c d w
set_option maxHeartbeats 1600000 in
set_option maxRecDepth 100000 in
theorem joinRef_any (n a b m c d : Int) (w : World) :
    Calls Tryd.prog 58 #[.agg #[.int .i64 n, .int .u64 a, .int .u64 b], .agg #[.int .i64 m, .int .u64 c, .int .u64 d]] w fun e w' => e = .returned (.agg #[.int .i64 (IntKind.i64.wrap (n + m)), .int .u64 (IntKind.u64.wrap (a + c)), .int .u64 (IntKind.u64.wrap (b + d))]) ∧ Below w.heap.size w w' := by
  have J := aside (j3_st w n a b m c d)
  go_enter Tryd.func58, Tryd.ntmps58
  go_wp2_with fail
  generalize ((w.alloc (.cells #[.int .i64 n, .int .u64 a, .int .u64 b] 40)).alloc (.cells #[.int .i64 m, .int .u64 c, .int .u64 d] 40)).alloc (.cells #[.int .i64 0, .int .u64 0, .int .u64 0] 40) = V at *
  refine wp_region_held_drew (S := fun X => Below w.heap.size w X ∧ X.cell? ⟨w.heap.size, 0, none⟩ = some (.int .i64 n) ∧ X.cell? ⟨w.heap.size, 1, none⟩ = some (.int .u64 a) ∧ X.cell? ⟨w.heap.size, 2, none⟩ = some (.int .u64 b) ∧ X.cell? ⟨w.heap.size + 1, 0, none⟩ = some (.int .i64 m) ∧ X.cell? ⟨w.heap.size + 1, 1, none⟩ = some (.int .u64 c) ∧ X.cell? ⟨w.heap.size + 1, 2, none⟩ = some (.int .u64 d)) (by kernel_rfl) J.out.drew.held (fun hHeld => ?_)
  refine wpAnyH_take (i := 0) (v := ?_) rfl (by kernel_rfl) (by kernel_rfl) (by kernel_rfl) (fun _ _ _ h => h) (Or.inl ⟨by rfl, ?_⟩) (by assumption) ?_
  rotate_left
  · intro w hSw
    go_simp
    try with_reducible rfl
  simp only [Act.put, List.getElem_toArray, List.getElem_cons_zero, List.setIfInBounds_toArray, List.set_cons_zero, List.set_cons_succ]
  refine wpAnyH_take (i := 1) (v := ?_) rfl (by kernel_rfl) (by kernel_rfl) (by kernel_rfl) (fun _ _ _ h => h) (Or.inl ⟨by rfl, ?_⟩) (by assumption) ?_
  rotate_left
  · intro w hSw
    go_simp
    try with_reducible rfl
  simp only [Act.put, List.getElem_toArray, List.getElem_cons_zero, List.getElem_cons_succ, List.setIfInBounds_toArray, List.set_cons_zero, List.set_cons_succ]
  refine wpAnyH_take (i := 2) (v := ?_) rfl (by kernel_rfl) (by kernel_rfl) (by kernel_rfl) (fun _ _ _ h => h) (Or.inl ⟨by rfl, ?_⟩) (by assumption) ?_
  rotate_left
  · intro w hSw
    go_simp
    try with_reducible rfl
  simp only [Act.put, List.getElem_toArray, List.getElem_cons_zero, List.getElem_cons_succ, List.setIfInBounds_toArray, List.set_cons_zero, List.set_cons_succ]
  refine wpAnyH_take (i := 3) (v := ?_) rfl (by kernel_rfl) (by kernel_rfl) (by kernel_rfl) (fun _ _ _ h => h) (Or.inl ⟨by rfl, ?_⟩) (by assumption) ?_
  rotate_left
  · intro w hSw
    go_simp
    try with_reducible rfl
  simp only [Act.put, List.getElem_toArray, List.getElem_cons_zero, List.getElem_cons_succ, List.setIfInBounds_toArray, List.set_cons_zero, List.set_cons_succ]
  refine wpAnyH_take (i := 4) (v := ?_) rfl (by kernel_rfl) (by kernel_rfl) (by kernel_rfl) (fun _ _ _ h => h) (Or.inl ⟨by rfl, ?_⟩) (by assumption) ?_
  rotate_left
  · intro w hSw
    go_simp
    try with_reducible rfl
  simp only [Act.put, List.getElem_toArray, List.getElem_cons_zero, List.getElem_cons_succ, List.setIfInBounds_toArray, List.set_cons_zero, List.set_cons_succ]
  refine wpAnyH_take (i := 5) (v := ?_) rfl (by kernel_rfl) (by kernel_rfl) (by kernel_rfl) (fun _ _ _ h => h) (Or.inl ⟨by rfl, ?_⟩) (by assumption) ?_
  rotate_left
  · intro w hSw
    go_simp
    try with_reducible rfl
  simp only [Act.put, List.getElem_toArray, List.getElem_cons_zero, List.getElem_cons_succ, List.setIfInBounds_toArray, List.set_cons_zero, List.set_cons_succ]
  refine wpAnyH_take (i := 6) (v := ?_) rfl (by kernel_rfl) (by kernel_rfl) (by kernel_rfl) (fun _ _ _ h => h) (Or.inl ⟨by rfl, ?_⟩) (by assumption) ?_
  rotate_left
  · intro w hSw
    go_simp
    try with_reducible rfl
  simp only [Act.put, List.getElem_toArray, List.getElem_cons_zero, List.getElem_cons_succ, List.setIfInBounds_toArray, List.set_cons_zero, List.set_cons_succ]
  refine wpAnyH_take (i := 7) (v := ?_) rfl (by kernel_rfl) (by kernel_rfl) (by kernel_rfl) (fun _ _ _ h => h) (Or.inl ⟨by rfl, ?_⟩) (by assumption) ?_
  rotate_left
  · intro w hSw
    go_simp
    try with_reducible rfl
  simp only [Act.put, List.getElem_toArray, List.getElem_cons_zero, List.getElem_cons_succ, List.setIfInBounds_toArray, List.set_cons_zero, List.set_cons_succ]
  refine wpAnyH_take (i := 8) (v := ?_) rfl (by kernel_rfl) (by kernel_rfl) (by kernel_rfl) (fun _ _ _ h => h) (Or.inl ⟨by rfl, ?_⟩) (by assumption) ?_
  rotate_left
  · intro w hSw
    go_simp
    try with_reducible rfl
  simp only [Act.put, List.getElem_toArray, List.getElem_cons_zero, List.getElem_cons_succ, List.setIfInBounds_toArray, List.set_cons_zero, List.set_cons_succ]
  refine wpAnyH_ready (rs := [9]) (by kernel_rfl) (by simp) ?_
  refine AllReadyH.cons rfl (fun K hK => ?_) AllReadyH.nil
  go_simp
  refine (addRef_any _ _ _ _ _).mono ?_
  rintro e w9 ⟨rfl, bb⟩
  refine hK.out _ _ ((J.out.drew.keep bb).held) (fun hHeld => ?_)
  clear hK K 
  have J1 := aside (J.out.drew.keep bb)
  obtain ⟨s0, s1, s2, z0, z1, z2⟩ := tri J1.out.b2
  clear bb
  refine wpAnyH_take (i := 10) (v := ?_) rfl (by kernel_rfl) (by kernel_rfl) (by kernel_rfl) (fun _ _ _ h => h) (Or.inl ⟨by rfl, ?_⟩) (by assumption) ?_
  rotate_left
  · intro w hSw
    go_simp
    try with_reducible rfl
  simp only [Act.put, List.getElem_toArray, List.getElem_cons_zero, List.getElem_cons_succ, List.setIfInBounds_toArray, List.set_cons_zero, List.set_cons_succ]
  refine wpAnyH_ready (rs := [11]) (by kernel_rfl) (by simp) ?_
  refine AllReadyH.cons rfl (fun K hK => ?_) AllReadyH.nil
  go_simp
  refine hK.out _ _ (j3_set (j3_set (j3_set J1.out.held 0 _) 1 _) 2 _) (fun hHeld => ?_)
  clear hK K 
  refine wpAnyH_done (by kernel_rfl) ?_ _
  go_wp2
  exact bodyPost_ret (v := .agg #[.int .i64 (IntKind.i64.wrap (n + m)), .int .u64 (IntKind.u64.wrap (a + c)), .int .u64 (IntKind.u64.wrap (b + d))]) (by simp [results, Tryd.results58, go_sem, s0, s1, s2]) rfl ⟨rfl, ((J1.out.below.setCell (by simp; omega) _).setCell (by simp; omega) _).setCell (by simp; omega) _⟩
theorem joinRef_at {n a b m c d r x y : Int} (h : IntKind.i64.wrap (n + m) = r) (h0 : IntKind.u64.wrap (a + c) = x) (h1 : IntKind.u64.wrap (b + d) = y) (w : World) :
    Calls Tryd.prog 58 #[.agg #[.int .i64 n, .int .u64 a, .int .u64 b], .agg #[.int .i64 m, .int .u64 c, .int .u64 d]] w fun e w' => e = .returned (.agg #[.int .i64 r, .int .u64 x, .int .u64 y]) ∧ Below w.heap.size w w' := by
  subst h h0 h1; exact joinRef_any n a b m c d w
end Go.Proofs.YtfkdhambbpkmpaaDoor
namespace Go.Proofs.YtfkdhambbpkmpaaDoor
set_option linter.unusedVariables false
/-- Bytes as a number, the first byte the lowest one. -/
def leB : List UInt8 → Nat
  | [] => 0
  | b :: r => b.toNat + 256 * leB r
theorem leB_lt : ∀ l : List UInt8, leB l < 256 ^ l.length
  | [] => by simp [leB]
  | b :: r => by
    have h := leB_lt r
    have hb := b.toNat_lt
    simp only [leB, List.length_cons, Nat.pow_succ]
    omega
theorem leB_snoc (b : UInt8) : ∀ l : List UInt8, leB (l ++ [b]) = leB l + 256 ^ l.length * b.toNat
  | [] => by simp [leB]
  | a :: r => by
    simp only [List.cons_append, leB, leB_snoc b r, List.length_cons, Nat.pow_succ]
    rw [Nat.mul_add, Nat.add_assoc, ← Nat.mul_assoc, Nat.mul_comm 256 (256 ^ r.length)]
/-- The word that begins at byte m. -/
def wordN (k : List UInt8) (m : Nat) : Nat := leB ((k.drop m).take 8)
/-- The first j words of a key. -/
def keyW (k : List UInt8) (j : Nat) : List Int := (List.range j).map fun m => (wordN k (8 * m) : Int)
theorem keyW_succ (k : List UInt8) (j : Nat) : keyW k (j + 1) = keyW k j ++ [(wordN k (8 * j) : Int)] := by simp [keyW, List.range_succ]
theorem keyW_length (k : List UInt8) (j : Nat) : (keyW k j).length = j := by simp [keyW]
/-- How many words a key has. -/
def keyN (n : Nat) : Nat := (n + 7) / 8
/-- All words of a key and a version. -/
def wordsI (k : ByteArray) (c n : Int) : List Int := (k.size : Int) :: keyW k.data.toList (keyN k.size) ++ [IntKind.u64.wrap c, IntKind.u64.wrap n]
def lane0 (ws : List Int) : Int := ws.foldl (mixI 11400714819323198485 29) 2611923443488327891
def lane1 (ws : List Int) : Int := ws.foldl (mixI 14029467366897019727 32) 1376283091369227076
theorem lane0_snoc (ws : List Int) (u : Int) : lane0 (ws ++ [u]) = mixI 11400714819323198485 29 (lane0 ws) u := by simp [lane0]
theorem lane1_snoc (ws : List Int) (u : Int) : lane1 (ws ++ [u]) = mixI 14029467366897019727 32 (lane1 ws) u := by simp [lane1]
/-- What an entry comes to, lane by lane. -/
def of0 (k : ByteArray) (c n : Int) : Int := lane0 (wordsI k c n)
def of1 (k : ByteArray) (c n : Int) : Int := lane1 (wordsI k c n)
def ofV (k : ByteArray) (c n : Int) : Value := .agg #[.int .u64 (of0 k c n), .int .u64 (of1 k c n)]
theorem wordsI_snoc (k : ByteArray) (c n : Int) : wordsI k c n = (((k.size : Int) :: keyW k.data.toList (keyN k.size)) ++ [IntKind.u64.wrap c]) ++ [IntKind.u64.wrap n] := by simp [wordsI]
/-- The list that the document's loop has made of the first i bytes. -/
def doneW (k : List UInt8) (i : Nat) : List Int := keyW k (i / 8) ++ (if i % 8 = 0 then [] else [(leB ((k.drop (8 * (i / 8))).take (i % 8)) : Int)])
theorem doneW_zero (k : List UInt8) : doneW k 0 = [] := by simp [doneW, keyW]
theorem doneW_all (k : List UInt8) : doneW k k.length = keyW k (keyN k.length) := by
  unfold doneW keyN
  by_cases h : k.length % 8 = 0
  · rw [if_pos h, List.append_nil, show (k.length + 7) / 8 = k.length / 8 from by omega]
  · rw [if_neg h, show (k.length + 7) / 8 = k.length / 8 + 1 from by omega, keyW_succ]
    congr 3
    unfold wordN
    rw [List.take_of_length_le (by simp; omega), List.take_of_length_le (by simp; omega)]
/-- The part word at byte i, ahead of it and behind it. -/
def partN (k : List UInt8) (i : Nat) : Nat := leB ((k.drop (8 * (i / 8))).take (i % 8))
theorem partN_lt (k : List UInt8) (i : Nat) : partN k i < 256 ^ (i % 8) := by
  have h := leB_lt ((k.drop (8 * (i / 8))).take (i % 8))
  have hl : ((k.drop (8 * (i / 8))).take (i % 8)).length ≤ i % 8 := by simp; omega
  have : 256 ^ ((k.drop (8 * (i / 8))).take (i % 8)).length ≤ 256 ^ (i % 8) := Nat.pow_le_pow_right (by decide) hl
  unfold partN
  omega
theorem doneW_next (k : List UInt8) (i : Nat) (h : i < k.length) : doneW k (i + 1) = keyW k (i / 8) ++ [((partN k i + k[i].toNat * 256 ^ (i % 8) : Nat) : Int)] := by
  have hd : (k.drop (8 * (i / 8))).take (i % 8 + 1) = (k.drop (8 * (i / 8))).take (i % 8) ++ [k[i]] := by
    rw [List.take_add_one]
    congr 1
    rw [List.getElem?_drop, show 8 * (i / 8) + i % 8 = i from by omega, List.getElem?_eq_getElem h]
    rfl
  have hv : leB ((k.drop (8 * (i / 8))).take (i % 8 + 1)) = partN k i + k[i].toNat * 256 ^ (i % 8) := by
    rw [hd, leB_snoc, show ((k.drop (8 * (i / 8))).take (i % 8)).length = i % 8 from by rw [List.length_take, List.length_drop]; omega]
    unfold partN
    rw [Nat.mul_comm k[i].toNat]
  unfold doneW
  by_cases h7 : i % 8 = 7
  · rw [if_pos (by omega), List.append_nil, show (i + 1) / 8 = i / 8 + 1 from by omega, keyW_succ, ← hv, h7]
    rfl
  · rw [if_neg (by omega), show (i + 1) / 8 = i / 8 from by omega, show (i + 1) % 8 = i % 8 + 1 from by omega, hv]
theorem doneW_here (k : List UInt8) (i : Nat) (h : i % 8 ≠ 0) : doneW k i = keyW k (i / 8) ++ [(partN k i : Int)] := by
  unfold doneW
  rw [if_neg h]
  rfl
theorem doneW_edge (k : List UInt8) (i : Nat) (h : i % 8 = 0) : doneW k i = keyW k (i / 8) ∧ partN k i = 0 := by
  unfold doneW partN
  rw [if_pos h, h]
  simp [leB]
theorem sum_lt (k : List UInt8) (i : Nat) (c : UInt8) : partN k i + c.toNat * 256 ^ (i % 8) < 18446744073709551616 := by
  have h := partN_lt k i
  have hc := c.toNat_lt
  have h8 : i % 8 < 8 := by omega
  generalize i % 8 = r at *
  generalize partN k i = p at *
  generalize c.toNat = q at *
  match r, h8 with
  | 0, _ | 1, _ | 2, _ | 3, _ | 4, _ | 5, _ | 6, _ | 7, _ => simp at h ⊢; omega
end Go.Proofs.YtfkdhambbpkmpaaDoor
namespace Go.Proofs.YtfkdhambbpkmpaaDoor
open Go.RowKit
set_option linter.unusedVariables false
/-- What the loop over a word's bytes has come to, from byte m on. -/
def restN (k : List UInt8) (h m : Nat) : Nat := leB ((k.drop m).take (h - m))
theorem restN_end (k : List UInt8) (h : Nat) : restN k h h = 0 := by simp [restN, leB]
theorem restN_step (k : List UInt8) (h m : Nat) (hm : m < h) (hk : m < k.length) : restN k h m = restN k h (m + 1) * 256 + k[m].toNat := by
  unfold restN
  rw [List.drop_eq_getElem_cons hk, show h - m = (h - (m + 1)) + 1 from by omega, List.take_succ_cons]
  simp only [leB]
  omega
theorem restN_lt (k : List UInt8) (h m : Nat) (hm : h ≤ m + 8) : restN k h m < 18446744073709551616 := by
  have hl := leB_lt ((k.drop m).take (h - m))
  have hb : ((k.drop m).take (h - m)).length ≤ 8 := by simp; omega
  have : 256 ^ ((k.drop m).take (h - m)).length ≤ 256 ^ 8 := Nat.pow_le_pow_right (by decide) hb
  unfold restN
  omega
theorem restN_word (k : List UInt8) (s h : Nat) (hh : h = min (s + 8) k.length) (hs : s ≤ k.length) : restN k h s = wordN k s := by
  unfold restN wordN
  by_cases h8 : s + 8 ≤ k.length
  · rw [show h - s = 8 from by omega]
  · rw [List.take_of_length_le (by simp; omega), List.take_of_length_le (by simp; omega)]
def WordAtRel (k : ByteArray) (s h : Nat) (w : World) (v i : Value) (wr : World) : Prop :=
  ∃ m : Nat, v = .int .u64 (restN k.data.toList h m : Int) ∧ i = .int .i64 ((m : Int) - 1) ∧ s ≤ m ∧ m ≤ h ∧ wr = w
set_option maxHeartbeats 1600000 in
set_option maxRecDepth 100000 in
theorem wordAt_any (k : ByteArray) (s : Nat) (w : World) (hk : k.size ≤ 140737488355328) (hs : s < k.size) :
    Calls Tryd.prog 67 #[.string k, .int .i64 (s : Int)] w fun e w' => e = .returned (.int .u64 (wordN k.data.toList s : Int)) ∧ w' = w := by
  have hlen : k.data.toList.length = k.size := by show k.data.toList.length = k.data.size; simp
  have hw8 : IntKind.i64.wrap ((s : Int) + 8) = (s : Int) + 8 := by rw [IntKind.wrap_i64]; omega
  obtain ⟨top, hh⟩ : ∃ h, h = min (s + 8) k.size := ⟨_, rfl⟩
  have HH := aside hh
  clear hh
  go_enter Tryd.func67, Tryd.ntmps67
  go_wp2
  all_goals
    rename_i hc
    go_loopw [5, 6] (fun v i wr => WordAtRel k s top w v i wr) (fun _ i _ => (intOf i + 1).toNat)
    case atStart =>
      refine ⟨top, by rw [restN_end]; rfl, ?_, by have := HH.out; omega, Nat.le_refl _, rfl⟩
      congr 1
      have := HH.out
      omega
    case round =>
      obtain ⟨m, rfl, rfl, hsm, hmh, rfl⟩ := hrel
      by_cases hge : (s : Int) ≤ (m : Int) - 1
      · obtain ⟨p, rfl⟩ : ∃ p, m = p + 1 := ⟨m - 1, by omega⟩
        have hp : ((p + 1 : Nat) : Int) - 1 = (p : Int) := by omega
        rw [hp]
        have hpk : p < k.size := by have := HH.out; omega
        have hps : (s : Int) ≤ (p : Int) := by omega
        have hix := idx_str' k p hpk (p : Int) rfl wr
        have hst := restN_step k.data.toList top p (by omega) (by omega)
        have hlt := restN_lt k.data.toList top (p + 1) (by have := HH.out; omega)
        have hlt' := restN_lt k.data.toList top p (by have := HH.out; omega)
        generalize restN k.data.toList top (p + 1) = a at *
        obtain ⟨b, hb⟩ : ∃ b, b = restN k.data.toList top p := ⟨_, rfl⟩
        rw [← hb] at hst hlt'
        have hgt : k.data.toList[p]'(by omega) = k[p] := rfl
        rw [hgt] at hst
        have hc2 := k[p].toNat_lt
        generalize k[p].toNat = c at *
        have hs3 : IntKind.u64.wrap (c : Int) = (c : Int) := by rw [IntKind.wrap_u64]; omega
        have hs1 : IntKind.u64.wrap ((a : Int) * 256) = (a : Int) * 256 := by rw [IntKind.wrap_u64]; omega
        have hs2 : IntKind.u64.wrap ((a : Int) * 256 + (c : Int)) = (b : Int) := by rw [IntKind.wrap_u64]; omega
        have HB := aside hb
        clear hb hst hlt hlt' hgt hc hc2
        go_wp2
        go_roundw
        case rel => exact ⟨p, by rw [← HB.out], by go_num, by omega, by omega, rfl⟩
        case measure => simp [intOf]
      · have hms : m = s := by omega
        have hng : ¬ (s : Int) ≤ (m : Int) - 1 := hge
        subst hms
        go_wp2
        go_ret
        exact ⟨by rw [restN_word k.data.toList m top (by rw [hlen]; exact HH.out) (by omega)]; rfl, rfl⟩
/-- The memory of Of: the version, the result, the sum. -/
def of3 (w : World) (c n r0 r1 x0 x1 : Int) : World :=
  ((w.alloc (.cells #[.int .i64 c, .int .i64 n] 53)).alloc (.cells #[.int .u64 r0, .int .u64 r1] 38)).alloc (.cells #[.int .u64 x0, .int .u64 x1] 38)
/-- What is kept of the memory while words are mixed. -/
structure OfSt (w wr : World) (c n x0 x1 : Int) : Prop where
  below : Below w.heap.size w wr
  sz : w.heap.size + 3 ≤ wr.heap.size
  v : wr.heap[w.heap.size]? = some (.cells #[.int .i64 c, .int .i64 n] 53 (0, 0))
  r : wr.heap[w.heap.size + 1]? = some (.cells #[.int .u64 0, .int .u64 0] 38 (0, 0))
  s : wr.heap[w.heap.size + 2]? = some (.cells #[.int .u64 x0, .int .u64 x1] 38 (0, 0))
theorem OfSt.keep {w wr w2 : World} {c n x0 x1 : Int} (h : OfSt w wr c n x0 x1) (b : Below wr.heap.size wr w2) : OfSt w w2 c n x0 x1 :=
  ⟨h.below.trans (b.mono h.below.size), by have := b.size; have := h.sz; omega, blk_on h.v b, blk_on h.r b, blk_on h.s b⟩
theorem OfSt.drew {w wr : World} {c n x0 x1 : Int} (h : OfSt w wr c n x0 x1) : OfSt w wr.drew c n x0 x1 := ⟨h.below.drew, h.sz, h.v, h.r, h.s⟩
theorem OfSt.set {w wr : World} {c n x0 x1 : Int} (h : OfSt w wr c n x0 x1) (y0 y1 : Int) : OfSt w ((wr.setCell ⟨w.heap.size + 2, 0, none⟩ (.int .u64 y0)).setCell ⟨w.heap.size + 2, 1, none⟩ (.int .u64 y1)) c n y0 y1 := by
  have s1 := heap_setCell_same wr (w.heap.size + 2) 0 _ _ (.int .u64 y0) h.s
  have s2 := heap_setCell_same _ (w.heap.size + 2) 1 _ _ (.int .u64 y1) s1
  refine ⟨(h.below.setCell (by simp) _).setCell (by simp) _, by simpa using h.sz, ?_, ?_, s2⟩
  · rw [heap_setCell_other _ _ _ _ (by simp), heap_setCell_other _ _ _ _ (by simp)]; exact h.v
  · rw [heap_setCell_other _ _ _ _ (by simp), heap_setCell_other _ _ _ _ (by simp)]; exact h.r
theorem of3_st (w : World) (c n x0 x1 : Int) : OfSt w (of3 w c n 0 0 x0 x1) c n x0 x1 := by
  refine ⟨((bnew w _).alloc (by simp) _).alloc (by simp; omega) _, by simp [of3], ?_, ?_, ?_⟩
  · exact blk_on (blk_on (heap_alloc_new w _) (bnew _ _)) (bnew _ _)
  · exact blk_on (by have := heap_alloc_new (w.alloc (.cells #[.int .i64 c, .int .i64 n] 53)) (.cells #[.int .u64 0, .int .u64 0] 38); simpa using this) (bnew _ _)
  · have := heap_alloc_new ((w.alloc (.cells #[.int .i64 c, .int .i64 n] 53)).alloc (.cells #[.int .u64 0, .int .u64 0] 38)) (.cells #[.int .u64 x0, .int .u64 x1] 38)
    simpa [of3] using this
def headW (k : ByteArray) (j : Nat) : List Int := (k.size : Int) :: keyW k.data.toList j
theorem head0 (k : ByteArray) (j : Nat) : lane0 (headW k (j + 1)) = mixI 11400714819323198485 29 (lane0 (headW k j)) (wordN k.data.toList (8 * j) : Int) := by
  rw [headW, keyW_succ, ← List.cons_append, lane0_snoc]; rfl
theorem head1 (k : ByteArray) (j : Nat) : lane1 (headW k (j + 1)) = mixI 14029467366897019727 32 (lane1 (headW k j)) (wordN k.data.toList (8 * j) : Int) := by
  rw [headW, keyW_succ, ← List.cons_append, lane1_snoc]; rfl
theorem of0_end (k : ByteArray) (c n : Int) {j : Nat} (h : j = keyN k.size) : of0 k c n = mixI 11400714819323198485 29 (mixI 11400714819323198485 29 (lane0 (headW k j)) (IntKind.u64.wrap c)) (IntKind.u64.wrap n) := by
  subst h; rw [of0, wordsI_snoc, lane0_snoc, lane0_snoc]; rfl
theorem of1_end (k : ByteArray) (c n : Int) {j : Nat} (h : j = keyN k.size) : of1 k c n = mixI 14029467366897019727 32 (mixI 14029467366897019727 32 (lane1 (headW k j)) (IntKind.u64.wrap c)) (IntKind.u64.wrap n) := by
  subst h; rw [of1, wordsI_snoc, lane1_snoc, lane1_snoc]; rfl
def OfRel (w : World) (k : ByteArray) (c n : Int) (i : Value) (wr : World) : Prop :=
  ∃ j : Nat, i = .int .i64 ((8 * j : Nat) : Int) ∧ j ≤ keyN k.size ∧ OfSt w wr c n (lane0 (headW k j)) (lane1 (headW k j))
def OfRel0 (w : World) (c n : Int) (i : Value) (wr : World) : Prop :=
  (i = .int .i64 0 ∧ wr = of3 w c n 0 0 0 0) ∨ (i = .int .i64 1 ∧ wr = of3 w c n 0 0 2611923443488327891 0) ∨ (i = .int .i64 2 ∧ wr = of3 w c n 0 0 2611923443488327891 1376283091369227076)
set_option maxHeartbeats 1600000 in
set_option maxRecDepth 100000 in
theorem of_any (k : ByteArray) (c n : Int) (w : World) (L : Lanes w) (hk : k.size ≤ 140737488355328) :
    Calls Tryd.prog 52 #[.string k, .agg #[.int .i64 c, .int .i64 n]] w fun e w' => e = .returned (ofV k c n) ∧ Below w.heap.size w w' := by
  have h0 := L.pos
  have LL := aside L
  obtain ⟨c0, c1, c2, c3, c4, c5⟩ := L
  go_enter Tryd.func52, Tryd.ntmps52
  go_wp2
  go_loopw [8] (fun i wr => OfRel0 w c n i wr) (fun i _ => 2 - (intOf i).toNat)
  case atStart => exact .inl ⟨rfl, rfl⟩
  case round =>
    obtain ⟨rfl, rfl⟩ | ⟨rfl, rfl⟩ | ⟨rfl, rfl⟩ := hrel
    · unfold of3
      go_wp2
      go_roundw
      case rel => exact .inr (.inl ⟨rfl, rfl⟩)
      case measure => simp [intOf]
    · unfold of3
      go_wp2
      go_roundw
      case rel => exact .inr (.inr ⟨rfl, rfl⟩)
      case measure => simp [intOf]
    · unfold of3
      go_wp2_with fail
      refine (mixed_any _ _ _ _ (LL.out.keep (of3_st w c n _ _).below)).mono ?_
      rintro e w1 ⟨rfl, b1⟩
      have S1 := (of3_st w c n _ _).keep b1
      have H1 := aside S1
      obtain ⟨-, z1, -, -, s1⟩ := S1
      obtain ⟨p0, p1, p2, p3⟩ := pair s1
      clear b1 s1 c0 c1 c2 c3 c4 c5
      go_wp2_with fail
      have H2 := H1.out.set (lane0 (headW k 0)) (lane1 (headW k 0))
      have HH2 := aside H2
      clear H1 H2
      go_loopw [7] (fun i wr => OfRel w k c n i wr) (fun i _ => (k.size + 8 - (intOf i).toNat))
      case atStart => exact ⟨0, rfl, Nat.zero_le _, HH2.out⟩
      case round =>
        obtain ⟨j, rfl, hj, S⟩ := hrel
        clear HH2 p0 p1 p2 p3
        have L2 := aside (LL.out.keep S.drew.below)
        have HS := aside S
        obtain ⟨-, z1, s2, s3, s1⟩ := S
        obtain ⟨p0, p1, p2, p3⟩ := pair s1
        by_cases hlt : ((8 * j : Nat) : Int) < (k.size : Int)
        · clear s1 s2 s3
          have wa : ∀ W, Hid _ := fun W => aside (wordAt_any k (8 * j) W hk (by omega))
          have hw8 : IntKind.i64.wrap (8 * (j : Int) + 8) = 8 * (j : Int) + 8 := by rw [IntKind.wrap_i64]; omega
          go_wp2
          go_region_with (first | (go_at_call 67; refine (wa _).out.mono ?_; rintro e w' ⟨rfl, rfl⟩) | (go_at_call 66; refine (mixed_any _ _ _ _ L2.out).mono ?_; rintro e w2 ⟨rfl, b2⟩; have S2 := HS.out.drew.keep b2; have HS2 := aside S2; obtain ⟨-, -, -, -, s1⟩ := S2; obtain ⟨q0, q1, q2, q3⟩ := pair s1; clear s1))
          all_goals
            go_wp2
            go_roundw
            case rel =>
              refine ⟨j + 1, by congr 1, by unfold keyN; omega, ?_⟩
              rw [head0, head1]
              exact HS2.out.set _ _
            case measure => simp [intOf]; omega
        · obtain ⟨q0, q1, q2, q3⟩ := pair s2
          clear s1 s2 s3
          have hjn : j = keyN k.size := by unfold keyN at hj ⊢; omega
          have HJ := aside hjn
          clear hjn hj
          go_wp2_with fail
          refine (mixed_any _ _ _ _ (LL.out.keep HS.out.below)).mono ?_
          rintro e w2 ⟨rfl, b2⟩
          have S2 := HS.out.keep b2
          have HS2 := aside (S2.set (mixI 11400714819323198485 29 (lane0 (headW k j)) (IntKind.u64.wrap c)) (mixI 14029467366897019727 32 (lane1 (headW k j)) (IntKind.u64.wrap c)))
          clear HS L2 p0 p1 p2 p3 q0 q1 q2 q3 b2 z1
          obtain ⟨-, z1, s2, s3, s1⟩ := S2
          obtain ⟨p0, p1, p2, p3⟩ := pair s1
          obtain ⟨q0, q1, q2, q3⟩ := pair s2
          clear s1 s2 s3
          go_wp2_with fail
          refine (mixed_any _ _ _ _ (LL.out.keep HS2.out.below)).mono ?_
          rintro e w3 ⟨rfl, b3⟩
          have S3 := HS2.out.keep b3
          have HS3 := aside S3
          clear HS2 p0 p1 p2 p3 q0 q1 q2 q3 b3 z1
          obtain ⟨-, z1, s2, s3, s1⟩ := S3
          obtain ⟨p0, p1, p2, p3⟩ := pair s3
          clear s1 s2 s3
          go_wp2_with fail
          have e0 := of0_end k c n HJ.out
          have e1 := of1_end k c n HJ.out
          generalize mixI 11400714819323198485 29 (mixI 11400714819323198485 29 (lane0 (headW k j)) (IntKind.u64.wrap c)) (IntKind.u64.wrap n) = x0 at *
          generalize mixI 14029467366897019727 32 (mixI 14029467366897019727 32 (lane1 (headW k j)) (IntKind.u64.wrap c)) (IntKind.u64.wrap n) = x1 at *
          refine bodyPost_ret (v := .agg #[.int .u64 x0, .int .u64 x1]) (by simp [results, Tryd.results52, go_sem, p0, p1]) rfl ⟨by rw [ofV, e0, e1], ?_⟩
          exact (HS3.out.below.setCell (by simp) _).setCell (by simp) _
end Go.Proofs.YtfkdhambbpkmpaaDoor
