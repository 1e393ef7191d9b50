/-
  The law TallyLess, walked.
-/
import Derived.Test.YtccfhegckdmanaaTaLess
namespace Go.Proofs.Ytccfhegckdmanaa
open Go.RowKit
set_option linter.unusedVariables false

theorem tl_keep9 {w W W' : World} {i j : Nat} {n a b m c d : Int} (h : Below w.heap.size w W ∧ W.cell? ⟨i, 0, none⟩ = some (.int .i64 n) ∧ W.cell? ⟨i, 1, none⟩ = some (.int .u64 a) ∧ W.cell? ⟨i, 2, none⟩ = some (.int .u64 b) ∧ W.cell? ⟨j, 0, none⟩ = some (.int .i64 m) ∧ W.cell? ⟨j, 1, none⟩ = some (.int .u64 c) ∧ W.cell? ⟨j, 2, none⟩ = some (.int .u64 d)) (bb : Below W.heap.size W W') :
    Below w.heap.size w W' ∧ W'.cell? ⟨i, 0, none⟩ = some (.int .i64 n) ∧ W'.cell? ⟨i, 1, none⟩ = some (.int .u64 a) ∧ W'.cell? ⟨i, 2, none⟩ = some (.int .u64 b) ∧ W'.cell? ⟨j, 0, none⟩ = some (.int .i64 m) ∧ W'.cell? ⟨j, 1, none⟩ = some (.int .u64 c) ∧ W'.cell? ⟨j, 2, none⟩ = some (.int .u64 d) := by
  obtain ⟨h, h0, h1, h2, h3, h4, h5⟩ := h
  exact ⟨bthen h bb, cell_in h0 bb, cell_in h1 bb, cell_in h2 bb, cell_in h3 bb, cell_in h4 bb, cell_in h5 bb⟩

theorem tl_keep5 {w W W' : World} {i j l : Nat} {n a b m c d r x y : Int} (h : Below w.heap.size w W ∧ W.cell? ⟨i, 0, none⟩ = some (.int .i64 n) ∧ W.cell? ⟨i, 1, none⟩ = some (.int .u64 a) ∧ W.cell? ⟨i, 2, none⟩ = some (.int .u64 b) ∧ W.cell? ⟨j, 0, none⟩ = some (.int .i64 m) ∧ W.cell? ⟨j, 1, none⟩ = some (.int .u64 c) ∧ W.cell? ⟨j, 2, none⟩ = some (.int .u64 d) ∧ W.cell? ⟨l, 0, none⟩ = some (.int .i64 r) ∧ W.cell? ⟨l, 1, none⟩ = some (.int .u64 x) ∧ W.cell? ⟨l, 2, none⟩ = some (.int .u64 y)) (bb : Below W.heap.size W W') :
    Below w.heap.size w W' ∧ W'.cell? ⟨i, 0, none⟩ = some (.int .i64 n) ∧ W'.cell? ⟨i, 1, none⟩ = some (.int .u64 a) ∧ W'.cell? ⟨i, 2, none⟩ = some (.int .u64 b) ∧ W'.cell? ⟨j, 0, none⟩ = some (.int .i64 m) ∧ W'.cell? ⟨j, 1, none⟩ = some (.int .u64 c) ∧ W'.cell? ⟨j, 2, none⟩ = some (.int .u64 d) ∧ W'.cell? ⟨l, 0, none⟩ = some (.int .i64 r) ∧ W'.cell? ⟨l, 1, none⟩ = some (.int .u64 x) ∧ W'.cell? ⟨l, 2, none⟩ = some (.int .u64 y) := by
  obtain ⟨h, h0, h1, h2, h3, h4, h5, h6, h7, h8⟩ := h
  exact ⟨bthen h bb, cell_in h0 bb, cell_in h1 bb, cell_in h2 bb, cell_in h3 bb, cell_in h4 bb, cell_in h5 bb, cell_in h6 bb, cell_in h7 bb, cell_in h8 bb⟩

theorem tl_low {w X : World} {n a b m c d : Int} (h : Below w.heap.size w X ∧ X.cell? ⟨w.heap.size, 0, none⟩ = some (.int .i64 n) ∧ X.cell? ⟨w.heap.size, 1, none⟩ = some (.int .u64 a) ∧ X.cell? ⟨w.heap.size, 2, none⟩ = some (.int .u64 b) ∧ X.cell? ⟨w.heap.size + 1, 0, none⟩ = some (.int .i64 m) ∧ X.cell? ⟨w.heap.size + 1, 1, none⟩ = some (.int .u64 c) ∧ X.cell? ⟨w.heap.size + 1, 2, none⟩ = some (.int .u64 d)) : w.heap.size + 1 < X.heap.size := World.block_lt_of_cell? X _ h.2.2.2.2.1

theorem tl_set9 {w X : World} {n a b m c d : Int} {g : Nat} (hg : w.heap.size + 1 < g) (h : Below w.heap.size w X ∧ X.cell? ⟨w.heap.size, 0, none⟩ = some (.int .i64 n) ∧ X.cell? ⟨w.heap.size, 1, none⟩ = some (.int .u64 a) ∧ X.cell? ⟨w.heap.size, 2, none⟩ = some (.int .u64 b) ∧ X.cell? ⟨w.heap.size + 1, 0, none⟩ = some (.int .i64 m) ∧ X.cell? ⟨w.heap.size + 1, 1, none⟩ = some (.int .u64 c) ∧ X.cell? ⟨w.heap.size + 1, 2, none⟩ = some (.int .u64 d)) (k : Nat) (u : Value) : Below w.heap.size w (X.setCell ⟨g, k, none⟩ u) ∧ (X.setCell ⟨g, k, none⟩ u).cell? ⟨w.heap.size, 0, none⟩ = some (.int .i64 n) ∧ (X.setCell ⟨g, k, none⟩ u).cell? ⟨w.heap.size, 1, none⟩ = some (.int .u64 a) ∧ (X.setCell ⟨g, k, none⟩ u).cell? ⟨w.heap.size, 2, none⟩ = some (.int .u64 b) ∧ (X.setCell ⟨g, k, none⟩ u).cell? ⟨w.heap.size + 1, 0, none⟩ = some (.int .i64 m) ∧ (X.setCell ⟨g, k, none⟩ u).cell? ⟨w.heap.size + 1, 1, none⟩ = some (.int .u64 c) ∧ (X.setCell ⟨g, k, none⟩ u).cell? ⟨w.heap.size + 1, 2, none⟩ = some (.int .u64 d) := by
  obtain ⟨h, h0, h1, h2, h3, h4, h5⟩ := h
  exact ⟨h.setCell (by simp; omega) _, cell_apart h0 (by dsimp only; omega), cell_apart h1 (by dsimp only; omega), cell_apart h2 (by dsimp only; omega), cell_apart h3 (by dsimp only; omega), cell_apart h4 (by dsimp only; omega), cell_apart h5 (by dsimp only; omega)⟩

theorem set3 {X : World} {g : Nat} {x y z : Value} {T : TypeId} (h : X.heap[g]? = some (.cells #[x, y, z] T (0, 0))) (u v t : Value) :
    (((X.setCell ⟨g, 0, none⟩ u).setCell ⟨g, 1, none⟩ v).setCell ⟨g, 2, none⟩ t).heap[g]? = some (.cells #[u, v, t] T (0, 0)) := by
  have s1 := heap_setCell_same X g 0 _ _ u h
  have s2 := heap_setCell_same _ g 1 _ _ v s1
  exact heap_setCell_same _ g 2 _ _ t s2

theorem tal_ne_yes {n a b m c d : Int} (h : ¬ (a = c ∧ b = d)) (w : World) : (binOp .neq 26 (.agg #[.int .i64 n, .int .u64 a, .int .u64 b]) (.agg #[.int .i64 m, .int .u64 c, .int .u64 d])).run Try.prog w = .ok (.bool true) w := by
  rw [tal_ne_run]
  by_cases h1 : a = c
  · by_cases h2 : b = d
    · exact absurd ⟨h1, h2⟩ h
    · simp [h2]
  · simp [h1]

set_option maxRecDepth 100000 in
set_option maxHeartbeats 12800000 in
theorem ltless_bad (n a b m c d : Int) (w : World)
    (CL : Hid (∀ W, Calls Try.prog 9 #[.agg #[.int .i64 n, .int .u64 a, .int .u64 b], .agg #[.int .i64 m, .int .u64 c, .int .u64 d]] W fun e w' => e = .returned (.tuple #[.agg #[.int .i64 0, .int .u64 0, .int .u64 0], .int .i64 50]) ∧ Below W.heap.size W w'))
    (CR : Hid (∀ W, Calls Try.prog 10 #[.agg #[.int .i64 n, .int .u64 a, .int .u64 b], .agg #[.int .i64 m, .int .u64 c, .int .u64 d]] W fun e w' => e = .returned (.tuple #[.agg #[.int .i64 0, .int .u64 0, .int .u64 0], .int .i64 50]) ∧ Below W.heap.size W w'))
    (CG : Hid (¬ n < 0 → ¬ m < 0 → ¬ 2305843009213693952 < n → ¬ 2305843009213693952 < m → (n = 0 → a = 0 ∧ b = 0) → ∃ jn ja jb : Int, (∀ W, Calls Try.prog 7 #[.agg #[.int .i64 n, .int .u64 a, .int .u64 b], .agg #[.int .i64 m, .int .u64 c, .int .u64 d]] W fun e w' => e = .returned (.agg #[.int .i64 jn, .int .u64 ja, .int .u64 jb]) ∧ Below W.heap.size W w') ∧ (∀ W, Calls Try.prog 9 #[.agg #[.int .i64 jn, .int .u64 ja, .int .u64 jb], .agg #[.int .i64 m, .int .u64 c, .int .u64 d]] W fun e w' => e = .returned (.tuple #[.agg #[.int .i64 n, .int .u64 a, .int .u64 b], .int .i64 0]) ∧ Below W.heap.size W w'))) :
    Calls Try.prog 4 #[.agg #[.int .i64 n, .int .u64 a, .int .u64 b], .agg #[.int .i64 m, .int .u64 c, .int .u64 d]] w fun e w' => e = .returned (.bool true) ∧ Below w.heap.size w w' := by
  have qx := tal_ne_same 0 0 0
  have qa := tal_ne_same n a b
  have qs := tal_same n a b
  have R1 := aside (heap_alloc_new w (.cells #[.int .i64 n, .int .u64 a, .int .u64 b] 26))
  have R2 := aside (heap_alloc_new (w.alloc (.cells #[.int .i64 n, .int .u64 a, .int .u64 b] 26)) (.cells #[.int .i64 m, .int .u64 c, .int .u64 d] 26))
  have B0 := aside (bthen (bnew w (.cells #[.int .i64 n, .int .u64 a, .int .u64 b] 26)) (bnew _ (.cells #[.int .i64 m, .int .u64 c, .int .u64 d] 26)))
  have K1 := aside (blk_on R1.out (bnew _ (.cells #[.int .i64 m, .int .u64 c, .int .u64 d] 26)))
  have hz1 : (w.alloc (.cells #[.int .i64 n, .int .u64 a, .int .u64 b] 26)).heap.size = w.heap.size + 1 := by simp
  rw [hz1] at R2
  clear R1 hz1
  go_enter Try.func4, Try.ntmps4
  go_wp2_with fail
  generalize (w.alloc (.cells #[.int .i64 n, .int .u64 a, .int .u64 b] 26)).alloc (.cells #[.int .i64 m, .int .u64 c, .int .u64 d] 26) = V0 at *
  refine (CL.out _).mono ?_
  rintro e w1 ⟨rfl, b1⟩
  have G1 := aside (blk_on (blk_on K1.out b1) (bnew _ (.cells #[.int .i64 0, .int .u64 0, .int .u64 0] 26)))
  have G2 := aside (blk_on (blk_on R2.out b1) (bnew _ (.cells #[.int .i64 0, .int .u64 0, .int .u64 0] 26)))
  have G5 := aside (heap_alloc_new w1 (.cells #[.int .i64 0, .int .u64 0, .int .u64 0] 26))
  have B1 := aside (bthen (bthen B0.out b1) (bnew _ (.cells #[.int .i64 0, .int .u64 0, .int .u64 0] 26)))
  obtain ⟨p0, p1, p2, -, -, -⟩ := tri G1.out
  obtain ⟨p3, p4, p5, -, -, -⟩ := tri G2.out
  clear b1 B0 K1 R2 CL
  go_wp2_with fail
  generalize w1.alloc (.cells #[.int .i64 0, .int .u64 0, .int .u64 0] 26) = V1 at *
  generalize w1.heap.size = i5 at *
  refine (CR.out _).mono ?_
  rintro e w2 ⟨rfl, b2⟩
  have G1' := aside (blk_on (blk_on G1.out b2) (bnew _ (.cells #[.int .i64 0, .int .u64 0, .int .u64 0] 26)))
  have G2' := aside (blk_on (blk_on G2.out b2) (bnew _ (.cells #[.int .i64 0, .int .u64 0, .int .u64 0] 26)))
  have G5' := aside (blk_on (blk_on G5.out b2) (bnew _ (.cells #[.int .i64 0, .int .u64 0, .int .u64 0] 26)))
  have G7 := aside (heap_alloc_new w2 (.cells #[.int .i64 0, .int .u64 0, .int .u64 0] 26))
  have B2 := aside (bthen (bthen B1.out b2) (bnew _ (.cells #[.int .i64 0, .int .u64 0, .int .u64 0] 26)))
  clear p0 p1 p2 p3 p4 p5 b2 B1 G1 G2 G5 CR
  obtain ⟨s0, s1, s2, -, -, -⟩ := tri G5'.out
  go_wp2_with fail
  generalize w2.alloc (.cells #[.int .i64 0, .int .u64 0, .int .u64 0] 26) = V2 at *
  clear s0 s1 s2 G7
  have S0 : Hid (Below w.heap.size w V2.drew ∧ V2.drew.cell? ⟨w.heap.size, 0, none⟩ = some (.int .i64 n) ∧ V2.drew.cell? ⟨w.heap.size, 1, none⟩ = some (.int .u64 a) ∧ V2.drew.cell? ⟨w.heap.size, 2, none⟩ = some (.int .u64 b) ∧ V2.drew.cell? ⟨w.heap.size + 1, 0, none⟩ = some (.int .i64 m) ∧ V2.drew.cell? ⟨w.heap.size + 1, 1, none⟩ = some (.int .u64 c) ∧ V2.drew.cell? ⟨w.heap.size + 1, 2, none⟩ = some (.int .u64 d) ∧ V2.drew.cell? ⟨i5, 0, none⟩ = some (.int .i64 0) ∧ V2.drew.cell? ⟨i5, 1, none⟩ = some (.int .u64 0) ∧ V2.drew.cell? ⟨i5, 2, none⟩ = some (.int .u64 0)) :=
    ⟨B2.out.drew, (tri G1'.out).1, (tri G1'.out).2.1, (tri G1'.out).2.2.1, (tri G2'.out).1, (tri G2'.out).2.1, (tri G2'.out).2.2.1, (tri G5'.out).1, (tri G5'.out).2.1, (tri G5'.out).2.2.1⟩
  clear B2 G1' G2' G5'
  refine wp_region_held_drew (S := fun W => Below w.heap.size w W ∧ W.cell? ⟨w.heap.size, 0, none⟩ = some (.int .i64 n) ∧ W.cell? ⟨w.heap.size, 1, none⟩ = some (.int .u64 a) ∧ W.cell? ⟨w.heap.size, 2, none⟩ = some (.int .u64 b) ∧ W.cell? ⟨w.heap.size + 1, 0, none⟩ = some (.int .i64 m) ∧ W.cell? ⟨w.heap.size + 1, 1, none⟩ = some (.int .u64 c) ∧ W.cell? ⟨w.heap.size + 1, 2, none⟩ = some (.int .u64 d) ∧ W.cell? ⟨i5, 0, none⟩ = some (.int .i64 0) ∧ W.cell? ⟨i5, 1, none⟩ = some (.int .u64 0) ∧ W.cell? ⟨i5, 2, none⟩ = some (.int .u64 0)) (by kernel_rfl) S0.out (fun hHeld => ?_)
  clear S0
  refine wpAnyH_take (i := 0) (v := ?_) rfl (by kernel_rfl) (by kernel_rfl) (by kernel_rfl) (fun _ _ _ h => h) (Or.inl ⟨by rfl, ?_⟩) (by assumption) ?_
  rotate_left
  · intro w hSw
    go_simp
    try with_reducible rfl
  simp only [Act.put, List.getElem_toArray, List.getElem_cons_zero, List.setIfInBounds_toArray, List.set_cons_zero, List.set_cons_succ]
  refine wpAnyH_take (i := 1) (v := ?_) rfl (by kernel_rfl) (by kernel_rfl) (by kernel_rfl) (fun _ _ _ h => h) (Or.inl ⟨by rfl, ?_⟩) (by assumption) ?_
  rotate_left
  · intro w hSw
    go_simp
    try with_reducible rfl
  simp only [Act.put, List.getElem_toArray, List.getElem_cons_zero, List.getElem_cons_succ, List.setIfInBounds_toArray, List.set_cons_zero, List.set_cons_succ]
  refine wpAnyH_take (i := 2) (v := ?_) rfl (by kernel_rfl) (by kernel_rfl) (by kernel_rfl) (fun _ _ _ h => h) (Or.inl ⟨by rfl, ?_⟩) (by assumption) ?_
  rotate_left
  · intro w hSw
    go_simp
    try with_reducible rfl
  simp only [Act.put, List.getElem_toArray, List.getElem_cons_zero, List.getElem_cons_succ, List.setIfInBounds_toArray, List.set_cons_zero, List.set_cons_succ]
  refine wpAnyH_take (i := 3) (v := undef) rfl (by kernel_rfl) (by kernel_rfl) (by kernel_rfl) (fun _ _ _ h => h) (Or.inr ⟨by rfl, rfl⟩) (by assumption) ?_
  simp only [Act.put, List.getElem_toArray, List.getElem_cons_zero, List.getElem_cons_succ, List.setIfInBounds_toArray, List.set_cons_zero, List.set_cons_succ]
  refine wpAnyH_take (i := 4) (v := undef) rfl (by kernel_rfl) (by kernel_rfl) (by kernel_rfl) (fun _ _ _ h => h) (Or.inr ⟨by rfl, rfl⟩) (by assumption) ?_
  simp only [Act.put, List.getElem_toArray, List.getElem_cons_zero, List.getElem_cons_succ, List.setIfInBounds_toArray, List.set_cons_zero, List.set_cons_succ]
  refine wpAnyH_take (i := 5) (v := undef) rfl (by kernel_rfl) (by kernel_rfl) (by kernel_rfl) (fun _ _ _ h => h) (Or.inr ⟨by rfl, rfl⟩) (by assumption) ?_
  simp only [Act.put, List.getElem_toArray, List.getElem_cons_zero, List.getElem_cons_succ, List.setIfInBounds_toArray, List.set_cons_zero, List.set_cons_succ]
  refine wpAnyH_take (i := 6) (v := undef) rfl (by kernel_rfl) (by kernel_rfl) (by kernel_rfl) (fun _ _ _ h => h) (Or.inr ⟨by rfl, rfl⟩) (by assumption) ?_
  simp only [Act.put, List.getElem_toArray, List.getElem_cons_zero, List.getElem_cons_succ, List.setIfInBounds_toArray, List.set_cons_zero, List.set_cons_succ]
  refine wpAnyH_take (i := 7) (v := undef) rfl (by kernel_rfl) (by kernel_rfl) (by kernel_rfl) (fun _ _ _ h => h) (Or.inr ⟨by rfl, rfl⟩) (by assumption) ?_
  simp only [Act.put, List.getElem_toArray, List.getElem_cons_zero, List.getElem_cons_succ, List.setIfInBounds_toArray, List.set_cons_zero, List.set_cons_succ]
  refine wpAnyH_take (i := 8) (v := ?_) rfl (by kernel_rfl) (by kernel_rfl) (by kernel_rfl) (fun _ _ _ h => h) (Or.inl ⟨by rfl, ?_⟩) (by assumption) ?_
  rotate_left
  · intro w hSw
    go_simp
    try with_reducible rfl
  simp only [Act.put, List.getElem_toArray, List.getElem_cons_zero, List.getElem_cons_succ, List.setIfInBounds_toArray, List.set_cons_zero, List.set_cons_succ]
  refine wpAnyH_done (by kernel_rfl) ?_ _
  have hH : Hid (Below w.heap.size w V2.drew ∧ V2.drew.cell? ⟨w.heap.size, 0, none⟩ = some (.int .i64 n) ∧ V2.drew.cell? ⟨w.heap.size, 1, none⟩ = some (.int .u64 a) ∧ V2.drew.cell? ⟨w.heap.size, 2, none⟩ = some (.int .u64 b) ∧ V2.drew.cell? ⟨w.heap.size + 1, 0, none⟩ = some (.int .i64 m) ∧ V2.drew.cell? ⟨w.heap.size + 1, 1, none⟩ = some (.int .u64 c) ∧ V2.drew.cell? ⟨w.heap.size + 1, 2, none⟩ = some (.int .u64 d)) := by
    obtain ⟨h, h0, h1, h2, h3, h4, h5, -⟩ := hHeld
    exact ⟨h, h0, h1, h2, h3, h4, h5⟩
  clear hHeld
  generalize V2.drew = wa at *
  have HB := aside hH.out.1
  obtain ⟨-, p0, p1, p2, p3, p4, p5⟩ := hH.out
  by_cases h1 : n < 0
  · clear CG
    go_wp2
    go_ret
    exact ⟨rfl, HB.out⟩
  by_cases h2 : m < 0
  · clear CG
    go_wp2
    go_ret
    exact ⟨rfl, HB.out⟩
  by_cases h3 : 2305843009213693952 < n
  · clear CG
    go_wp2
    go_ret
    exact ⟨rfl, HB.out⟩
  by_cases h4 : 2305843009213693952 < m
  · clear CG
    go_wp2
    go_ret
    exact ⟨rfl, HB.out⟩
  by_cases h5 : n = 0
  · by_cases h6 : a = 0 ∧ b = 0
    · obtain ⟨jn, ja, jb, CJ0, CZ0⟩ := CG.out (by omega) (by omega) (by omega) (by omega) (fun _ => h6)
      have CJ := aside CJ0
      have CZ := aside CZ0
      clear CJ0 CZ0 CG
      obtain ⟨rfl, rfl⟩ := h6
      subst h5
      go_wp2_with fail
      have S9 : Hid (Below w.heap.size w wa.drew ∧ wa.drew.cell? ⟨w.heap.size, 0, none⟩ = some (.int .i64 0) ∧ wa.drew.cell? ⟨w.heap.size, 1, none⟩ = some (.int .u64 0) ∧ wa.drew.cell? ⟨w.heap.size, 2, none⟩ = some (.int .u64 0) ∧ wa.drew.cell? ⟨w.heap.size + 1, 0, none⟩ = some (.int .i64 m) ∧ wa.drew.cell? ⟨w.heap.size + 1, 1, none⟩ = some (.int .u64 c) ∧ wa.drew.cell? ⟨w.heap.size + 1, 2, none⟩ = some (.int .u64 d)) := by
        obtain ⟨h, hr⟩ := hH.out
        exact ⟨h.drew, hr⟩
      clear p0 p1 p2 p3 p4 p5 hH HB
      refine wp_region_held_drew (S := fun W => Below w.heap.size w W ∧ W.cell? ⟨w.heap.size, 0, none⟩ = some (.int .i64 0) ∧ W.cell? ⟨w.heap.size, 1, none⟩ = some (.int .u64 0) ∧ W.cell? ⟨w.heap.size, 2, none⟩ = some (.int .u64 0) ∧ W.cell? ⟨w.heap.size + 1, 0, none⟩ = some (.int .i64 m) ∧ W.cell? ⟨w.heap.size + 1, 1, none⟩ = some (.int .u64 c) ∧ W.cell? ⟨w.heap.size + 1, 2, none⟩ = some (.int .u64 d)) (by kernel_rfl) S9.out (fun hHeld => ?_)
      clear S9
      refine wpAnyH_take (i := 0) (v := ?_) rfl (by kernel_rfl) (by kernel_rfl) (by kernel_rfl) (fun _ _ _ h => h) (Or.inl ⟨by rfl, ?_⟩) (by assumption) ?_
      rotate_left
      · intro w hSw
        go_simp
        try with_reducible rfl
      simp only [Act.put, List.getElem_toArray, List.getElem_cons_zero, List.setIfInBounds_toArray, List.set_cons_zero, List.set_cons_succ]
      refine wpAnyH_take (i := 1) (v := ?_) rfl (by kernel_rfl) (by kernel_rfl) (by kernel_rfl) (fun _ _ _ h => h) (Or.inl ⟨by rfl, ?_⟩) (by assumption) ?_
      rotate_left
      · intro w hSw
        go_simp
        try with_reducible rfl
      simp only [Act.put, List.getElem_toArray, List.getElem_cons_zero, List.getElem_cons_succ, List.setIfInBounds_toArray, List.set_cons_zero, List.set_cons_succ]
      refine wpAnyH_take (i := 3) (v := ?_) rfl (by kernel_rfl) (by kernel_rfl) (by kernel_rfl) (fun _ _ _ h => h) (Or.inl ⟨by rfl, ?_⟩) (by assumption) ?_
      rotate_left
      · intro w hSw
        go_simp
        try with_reducible rfl
      simp only [Act.put, List.getElem_toArray, List.getElem_cons_zero, List.getElem_cons_succ, List.setIfInBounds_toArray, List.set_cons_zero, List.set_cons_succ]
      refine wpAnyH_ready (rs := [2, 8]) (by kernel_rfl) (by simp) ?_
      refine AllReadyH.cons rfl (fun K hK => ?_) (AllReadyH.cons rfl (fun K hK => ?_) AllReadyH.nil)
      · go_simp
        refine (CJ.out _).mono ?_
        rintro e w5 ⟨rfl, bb⟩
        refine hK.out _ _ (tl_keep9 hHeld bb) (fun hHeld => ?_)
        clear hK K
        clear bb
        refine wpAnyH_ready (rs := [4, 8]) (by kernel_rfl) (by simp) ?_
        refine AllReadyH.cons rfl (fun K hK => ?_) (AllReadyH.cons rfl (fun K hK => ?_) AllReadyH.nil)
        · go_simp
          refine (CZ.out _).mono ?_
          rintro e w6 ⟨rfl, bb⟩
          refine hK.out _ _ (tl_keep9 hHeld bb) (fun hHeld => ?_)
          clear hK K
          clear bb
          have hg : w.heap.size + 1 < w6.heap.size := tl_low hHeld
          refine wpAnyH_take (i := 5) (v := ?_) rfl (by kernel_rfl) (by kernel_rfl) (by kernel_rfl) (fun _ _ _ h => h) (Or.inl ⟨by rfl, ?_⟩) (by assumption) ?_
          rotate_left
          · intro w hSw
            go_simp
            try with_reducible rfl
          simp only [Act.put, List.getElem_toArray, List.getElem_cons_zero, List.getElem_cons_succ, List.setIfInBounds_toArray, List.set_cons_zero, List.set_cons_succ]
          refine wpAnyH_take (i := 6) (v := ?_) rfl (by kernel_rfl) (by kernel_rfl) (by kernel_rfl) (fun _ _ _ h => h) (Or.inl ⟨by rfl, ?_⟩) (by assumption) ?_
          rotate_left
          · intro w hSw
            go_simp
            try with_reducible rfl
          simp only [Act.put, List.getElem_toArray, List.getElem_cons_zero, List.getElem_cons_succ, List.setIfInBounds_toArray, List.set_cons_zero, List.set_cons_succ]
          refine wpAnyH_take (i := 7) (v := ?_) rfl (by kernel_rfl) (by kernel_rfl) (by kernel_rfl) (fun _ _ _ h => h) (Or.inl ⟨by rfl, ?_⟩) (by assumption) ?_
          rotate_left
          · intro w hSw
            go_simp
            try with_reducible rfl
          simp only [Act.put, List.getElem_toArray, List.getElem_cons_zero, List.getElem_cons_succ, List.setIfInBounds_toArray, List.set_cons_zero, List.set_cons_succ]
          refine wpAnyH_ready (rs := [8]) (by kernel_rfl) (by simp) ?_
          refine AllReadyH.cons rfl (fun K hK => ?_) AllReadyH.nil
          go_simp
          refine hK.out _ _ (tl_keep9 hHeld (bnew w6 _)) (fun hHeld => ?_)
          clear hK K
          have G := heap_alloc_new w6 (.cells #[.int .i64 0, .int .u64 0, .int .u64 0] 26)
          generalize w6.alloc (.cells #[.int .i64 0, .int .u64 0, .int .u64 0] 26) = wz at *
          generalize w6.heap.size = g at *
          obtain ⟨s0, s1, s2, z0, z1, z2⟩ := tri G
          have hHeld2 := tl_set9 hg (tl_set9 hg (tl_set9 hg hHeld 0 (.int .i64 0)) 1 (.int .u64 0)) 2 (.int .u64 0)
          have G2 := set3 G (.int .i64 0) (.int .u64 0) (.int .u64 0)
          refine wpAnyH_ready (rs := [9]) (by kernel_rfl) (by simp) ?_
          refine AllReadyH.cons rfl (fun K hK => ?_) AllReadyH.nil
          go_simp
          refine hK.out _ _ hHeld2 (fun hHeld => ?_)
          clear hK K hHeld2 s0 s1 s2 z0 z1 z2 G
          generalize ((wz.setCell ⟨g, 0, none⟩ (.int .i64 0)).setCell ⟨g, 1, none⟩ (.int .u64 0)).setCell ⟨g, 2, none⟩ (.int .u64 0) = Y at *
          refine wpAnyH_take (i := 10) (v := ?_) rfl (by kernel_rfl) (by kernel_rfl) (by kernel_rfl) (fun _ _ _ h => h) (Or.inl ⟨by rfl, ?_⟩) (by assumption) ?_
          rotate_left
          · intro w hSw
            go_simp
            try with_reducible rfl
          simp only [Act.put, List.getElem_toArray, List.getElem_cons_zero, List.getElem_cons_succ, List.setIfInBounds_toArray, List.set_cons_zero, List.set_cons_succ]
          refine wpAnyH_done (by kernel_rfl) ?_ _
          obtain ⟨s0, s1, s2, -, -, -⟩ := tri G2
          obtain ⟨hB, p0, p1, p2, -, -, -⟩ := hHeld
          have HB := aside hB
          clear hB G2 hg
          go_wp2
          go_ret
          exact ⟨rfl, HB.out⟩
        · have hg : w.heap.size + 1 < w5.heap.size := tl_low hHeld
          go_simp
          refine hK.out _ _ (tl_keep9 hHeld (bnew w5 _)) (fun hHeld => ?_)
          clear hK K
          have G0 := aside (heap_alloc_new w5 (.cells #[.int .i64 0, .int .u64 0, .int .u64 0] 26))
          generalize w5.alloc (.cells #[.int .i64 0, .int .u64 0, .int .u64 0] 26) = wy at *
          generalize w5.heap.size = g at *
          refine wpAnyH_ready (rs := [4]) (by kernel_rfl) (by simp) ?_
          refine AllReadyH.cons rfl (fun K hK => ?_) AllReadyH.nil
          go_simp
          refine (CZ.out _).mono ?_
          rintro e wz ⟨rfl, bb⟩
          refine hK.out _ _ (tl_keep9 hHeld bb) (fun hHeld => ?_)
          clear hK K
          have G := blk_on G0.out bb
          clear bb G0
          refine wpAnyH_take (i := 5) (v := ?_) rfl (by kernel_rfl) (by kernel_rfl) (by kernel_rfl) (fun _ _ _ h => h) (Or.inl ⟨by rfl, ?_⟩) (by assumption) ?_
          rotate_left
          · intro w hSw
            go_simp
            try with_reducible rfl
          simp only [Act.put, List.getElem_toArray, List.getElem_cons_zero, List.getElem_cons_succ, List.setIfInBounds_toArray, List.set_cons_zero, List.set_cons_succ]
          refine wpAnyH_take (i := 6) (v := ?_) rfl (by kernel_rfl) (by kernel_rfl) (by kernel_rfl) (fun _ _ _ h => h) (Or.inl ⟨by rfl, ?_⟩) (by assumption) ?_
          rotate_left
          · intro w hSw
            go_simp
            try with_reducible rfl
          simp only [Act.put, List.getElem_toArray, List.getElem_cons_zero, List.getElem_cons_succ, List.setIfInBounds_toArray, List.set_cons_zero, List.set_cons_succ]
          refine wpAnyH_take (i := 7) (v := ?_) rfl (by kernel_rfl) (by kernel_rfl) (by kernel_rfl) (fun _ _ _ h => h) (Or.inl ⟨by rfl, ?_⟩) (by assumption) ?_
          rotate_left
          · intro w hSw
            go_simp
            try with_reducible rfl
          simp only [Act.put, List.getElem_toArray, List.getElem_cons_zero, List.getElem_cons_succ, List.setIfInBounds_toArray, List.set_cons_zero, List.set_cons_succ]
          obtain ⟨s0, s1, s2, z0, z1, z2⟩ := tri G
          have hHeld2 := tl_set9 hg (tl_set9 hg (tl_set9 hg hHeld 0 (.int .i64 0)) 1 (.int .u64 0)) 2 (.int .u64 0)
          have G2 := set3 G (.int .i64 0) (.int .u64 0) (.int .u64 0)
          refine wpAnyH_ready (rs := [9]) (by kernel_rfl) (by simp) ?_
          refine AllReadyH.cons rfl (fun K hK => ?_) AllReadyH.nil
          go_simp
          refine hK.out _ _ hHeld2 (fun hHeld => ?_)
          clear hK K hHeld2 s0 s1 s2 z0 z1 z2 G
          generalize ((wz.setCell ⟨g, 0, none⟩ (.int .i64 0)).setCell ⟨g, 1, none⟩ (.int .u64 0)).setCell ⟨g, 2, none⟩ (.int .u64 0) = Y at *
          refine wpAnyH_take (i := 10) (v := ?_) rfl (by kernel_rfl) (by kernel_rfl) (by kernel_rfl) (fun _ _ _ h => h) (Or.inl ⟨by rfl, ?_⟩) (by assumption) ?_
          rotate_left
          · intro w hSw
            go_simp
            try with_reducible rfl
          simp only [Act.put, List.getElem_toArray, List.getElem_cons_zero, List.getElem_cons_succ, List.setIfInBounds_toArray, List.set_cons_zero, List.set_cons_succ]
          refine wpAnyH_done (by kernel_rfl) ?_ _
          obtain ⟨s0, s1, s2, -, -, -⟩ := tri G2
          obtain ⟨hB, p0, p1, p2, -, -, -⟩ := hHeld
          have HB := aside hB
          clear hB G2 hg
          go_wp2
          go_ret
          exact ⟨rfl, HB.out⟩
      · have hg : w.heap.size + 1 < wa.heap.size := tl_low (X := wa.drew) hHeld
        go_simp
        refine hK.out _ _ (tl_keep9 hHeld (bnew wa.drew _)) (fun hHeld => ?_)
        clear hK K
        have G0 := aside (show (wa.alloc (.cells #[.int .i64 0, .int .u64 0, .int .u64 0] 26)).drew.heap[wa.heap.size]? = some (.cells #[.int .i64 0, .int .u64 0, .int .u64 0] 26) from heap_alloc_new wa _)
        generalize (wa.alloc (.cells #[.int .i64 0, .int .u64 0, .int .u64 0] 26)).drew = wx at *
        generalize wa.heap.size = g at *
        refine wpAnyH_ready (rs := [2]) (by kernel_rfl) (by simp) ?_
        refine AllReadyH.cons rfl (fun K hK => ?_) AllReadyH.nil
        go_simp
        refine (CJ.out _).mono ?_
        rintro e wy ⟨rfl, bb⟩
        refine hK.out _ _ (tl_keep9 hHeld bb) (fun hHeld => ?_)
        clear hK K
        have G1 := aside (blk_on G0.out bb)
        clear bb G0
        refine wpAnyH_ready (rs := [4]) (by kernel_rfl) (by simp) ?_
        refine AllReadyH.cons rfl (fun K hK => ?_) AllReadyH.nil
        go_simp
        refine (CZ.out _).mono ?_
        rintro e wz ⟨rfl, bb⟩
        refine hK.out _ _ (tl_keep9 hHeld bb) (fun hHeld => ?_)
        clear hK K
        have G := blk_on G1.out bb
        clear bb G1
        refine wpAnyH_take (i := 5) (v := ?_) rfl (by kernel_rfl) (by kernel_rfl) (by kernel_rfl) (fun _ _ _ h => h) (Or.inl ⟨by rfl, ?_⟩) (by assumption) ?_
        rotate_left
        · intro w hSw
          go_simp
          try with_reducible rfl
        simp only [Act.put, List.getElem_toArray, List.getElem_cons_zero, List.getElem_cons_succ, List.setIfInBounds_toArray, List.set_cons_zero, List.set_cons_succ]
        refine wpAnyH_take (i := 6) (v := ?_) rfl (by kernel_rfl) (by kernel_rfl) (by kernel_rfl) (fun _ _ _ h => h) (Or.inl ⟨by rfl, ?_⟩) (by assumption) ?_
        rotate_left
        · intro w hSw
          go_simp
          try with_reducible rfl
        simp only [Act.put, List.getElem_toArray, List.getElem_cons_zero, List.getElem_cons_succ, List.setIfInBounds_toArray, List.set_cons_zero, List.set_cons_succ]
        refine wpAnyH_take (i := 7) (v := ?_) rfl (by kernel_rfl) (by kernel_rfl) (by kernel_rfl) (fun _ _ _ h => h) (Or.inl ⟨by rfl, ?_⟩) (by assumption) ?_
        rotate_left
        · intro w hSw
          go_simp
          try with_reducible rfl
        simp only [Act.put, List.getElem_toArray, List.getElem_cons_zero, List.getElem_cons_succ, List.setIfInBounds_toArray, List.set_cons_zero, List.set_cons_succ]
        obtain ⟨s0, s1, s2, z0, z1, z2⟩ := tri G
        have hHeld2 := tl_set9 hg (tl_set9 hg (tl_set9 hg hHeld 0 (.int .i64 0)) 1 (.int .u64 0)) 2 (.int .u64 0)
        have G2 := set3 G (.int .i64 0) (.int .u64 0) (.int .u64 0)
        refine wpAnyH_ready (rs := [9]) (by kernel_rfl) (by simp) ?_
        refine AllReadyH.cons rfl (fun K hK => ?_) AllReadyH.nil
        go_simp
        refine hK.out _ _ hHeld2 (fun hHeld => ?_)
        clear hK K hHeld2 s0 s1 s2 z0 z1 z2 G
        generalize ((wz.setCell ⟨g, 0, none⟩ (.int .i64 0)).setCell ⟨g, 1, none⟩ (.int .u64 0)).setCell ⟨g, 2, none⟩ (.int .u64 0) = Y at *
        refine wpAnyH_take (i := 10) (v := ?_) rfl (by kernel_rfl) (by kernel_rfl) (by kernel_rfl) (fun _ _ _ h => h) (Or.inl ⟨by rfl, ?_⟩) (by assumption) ?_
        rotate_left
        · intro w hSw
          go_simp
          try with_reducible rfl
        simp only [Act.put, List.getElem_toArray, List.getElem_cons_zero, List.getElem_cons_succ, List.setIfInBounds_toArray, List.set_cons_zero, List.set_cons_succ]
        refine wpAnyH_done (by kernel_rfl) ?_ _
        obtain ⟨s0, s1, s2, -, -, -⟩ := tri G2
        obtain ⟨hB, p0, p1, p2, -, -, -⟩ := hHeld
        have HB := aside hB
        clear hB G2 hg
        go_wp2
        go_ret
        exact ⟨rfl, HB.out⟩
    · clear CG
      subst h5
      have qn := fun (W : World) => tal_ne_yes (n := 0) (m := 0) h6 W
      clear h6
      go_wp2
      go_ret
      exact ⟨rfl, HB.out⟩
  · obtain ⟨jn, ja, jb, CJ0, CZ0⟩ := CG.out (by omega) (by omega) (by omega) (by omega) (fun h => absurd h h5)
    have CJ := aside CJ0
    have CZ := aside CZ0
    clear CJ0 CZ0 CG
    go_wp2_with fail
    have S9 : Hid (Below w.heap.size w wa.drew ∧ wa.drew.cell? ⟨w.heap.size, 0, none⟩ = some (.int .i64 n) ∧ wa.drew.cell? ⟨w.heap.size, 1, none⟩ = some (.int .u64 a) ∧ wa.drew.cell? ⟨w.heap.size, 2, none⟩ = some (.int .u64 b) ∧ wa.drew.cell? ⟨w.heap.size + 1, 0, none⟩ = some (.int .i64 m) ∧ wa.drew.cell? ⟨w.heap.size + 1, 1, none⟩ = some (.int .u64 c) ∧ wa.drew.cell? ⟨w.heap.size + 1, 2, none⟩ = some (.int .u64 d)) := by
      obtain ⟨h, hr⟩ := hH.out
      exact ⟨h.drew, hr⟩
    clear p0 p1 p2 p3 p4 p5 hH HB
    refine wp_region_held_drew (S := fun W => Below w.heap.size w W ∧ W.cell? ⟨w.heap.size, 0, none⟩ = some (.int .i64 n) ∧ W.cell? ⟨w.heap.size, 1, none⟩ = some (.int .u64 a) ∧ W.cell? ⟨w.heap.size, 2, none⟩ = some (.int .u64 b) ∧ W.cell? ⟨w.heap.size + 1, 0, none⟩ = some (.int .i64 m) ∧ W.cell? ⟨w.heap.size + 1, 1, none⟩ = some (.int .u64 c) ∧ W.cell? ⟨w.heap.size + 1, 2, none⟩ = some (.int .u64 d)) (by kernel_rfl) S9.out (fun hHeld => ?_)
    clear S9
    refine wpAnyH_take (i := 0) (v := ?_) rfl (by kernel_rfl) (by kernel_rfl) (by kernel_rfl) (fun _ _ _ h => h) (Or.inl ⟨by rfl, ?_⟩) (by assumption) ?_
    rotate_left
    · intro w hSw
      go_simp
      try with_reducible rfl
    simp only [Act.put, List.getElem_toArray, List.getElem_cons_zero, List.setIfInBounds_toArray, List.set_cons_zero, List.set_cons_succ]
    refine wpAnyH_take (i := 1) (v := ?_) rfl (by kernel_rfl) (by kernel_rfl) (by kernel_rfl) (fun _ _ _ h => h) (Or.inl ⟨by rfl, ?_⟩) (by assumption) ?_
    rotate_left
    · intro w hSw
      go_simp
      try with_reducible rfl
    simp only [Act.put, List.getElem_toArray, List.getElem_cons_zero, List.getElem_cons_succ, List.setIfInBounds_toArray, List.set_cons_zero, List.set_cons_succ]
    refine wpAnyH_take (i := 3) (v := ?_) rfl (by kernel_rfl) (by kernel_rfl) (by kernel_rfl) (fun _ _ _ h => h) (Or.inl ⟨by rfl, ?_⟩) (by assumption) ?_
    rotate_left
    · intro w hSw
      go_simp
      try with_reducible rfl
    simp only [Act.put, List.getElem_toArray, List.getElem_cons_zero, List.getElem_cons_succ, List.setIfInBounds_toArray, List.set_cons_zero, List.set_cons_succ]
    refine wpAnyH_ready (rs := [2, 8]) (by kernel_rfl) (by simp) ?_
    refine AllReadyH.cons rfl (fun K hK => ?_) (AllReadyH.cons rfl (fun K hK => ?_) AllReadyH.nil)
    · go_simp
      refine (CJ.out _).mono ?_
      rintro e w5 ⟨rfl, bb⟩
      refine hK.out _ _ (tl_keep9 hHeld bb) (fun hHeld => ?_)
      clear hK K
      clear bb
      refine wpAnyH_ready (rs := [4, 8]) (by kernel_rfl) (by simp) ?_
      refine AllReadyH.cons rfl (fun K hK => ?_) (AllReadyH.cons rfl (fun K hK => ?_) AllReadyH.nil)
      · go_simp
        refine (CZ.out _).mono ?_
        rintro e w6 ⟨rfl, bb⟩
        refine hK.out _ _ (tl_keep9 hHeld bb) (fun hHeld => ?_)
        clear hK K
        clear bb
        have hg : w.heap.size + 1 < w6.heap.size := tl_low hHeld
        refine wpAnyH_take (i := 5) (v := ?_) rfl (by kernel_rfl) (by kernel_rfl) (by kernel_rfl) (fun _ _ _ h => h) (Or.inl ⟨by rfl, ?_⟩) (by assumption) ?_
        rotate_left
        · intro w hSw
          go_simp
          try with_reducible rfl
        simp only [Act.put, List.getElem_toArray, List.getElem_cons_zero, List.getElem_cons_succ, List.setIfInBounds_toArray, List.set_cons_zero, List.set_cons_succ]
        refine wpAnyH_take (i := 6) (v := ?_) rfl (by kernel_rfl) (by kernel_rfl) (by kernel_rfl) (fun _ _ _ h => h) (Or.inl ⟨by rfl, ?_⟩) (by assumption) ?_
        rotate_left
        · intro w hSw
          go_simp
          try with_reducible rfl
        simp only [Act.put, List.getElem_toArray, List.getElem_cons_zero, List.getElem_cons_succ, List.setIfInBounds_toArray, List.set_cons_zero, List.set_cons_succ]
        refine wpAnyH_take (i := 7) (v := ?_) rfl (by kernel_rfl) (by kernel_rfl) (by kernel_rfl) (fun _ _ _ h => h) (Or.inl ⟨by rfl, ?_⟩) (by assumption) ?_
        rotate_left
        · intro w hSw
          go_simp
          try with_reducible rfl
        simp only [Act.put, List.getElem_toArray, List.getElem_cons_zero, List.getElem_cons_succ, List.setIfInBounds_toArray, List.set_cons_zero, List.set_cons_succ]
        refine wpAnyH_ready (rs := [8]) (by kernel_rfl) (by simp) ?_
        refine AllReadyH.cons rfl (fun K hK => ?_) AllReadyH.nil
        go_simp
        refine hK.out _ _ (tl_keep9 hHeld (bnew w6 _)) (fun hHeld => ?_)
        clear hK K
        have G := heap_alloc_new w6 (.cells #[.int .i64 0, .int .u64 0, .int .u64 0] 26)
        generalize w6.alloc (.cells #[.int .i64 0, .int .u64 0, .int .u64 0] 26) = wz at *
        generalize w6.heap.size = g at *
        obtain ⟨s0, s1, s2, z0, z1, z2⟩ := tri G
        have hHeld2 := tl_set9 hg (tl_set9 hg (tl_set9 hg hHeld 0 (.int .i64 n)) 1 (.int .u64 a)) 2 (.int .u64 b)
        have G2 := set3 G (.int .i64 n) (.int .u64 a) (.int .u64 b)
        refine wpAnyH_ready (rs := [9]) (by kernel_rfl) (by simp) ?_
        refine AllReadyH.cons rfl (fun K hK => ?_) AllReadyH.nil
        go_simp
        refine hK.out _ _ hHeld2 (fun hHeld => ?_)
        clear hK K hHeld2 s0 s1 s2 z0 z1 z2 G
        generalize ((wz.setCell ⟨g, 0, none⟩ (.int .i64 n)).setCell ⟨g, 1, none⟩ (.int .u64 a)).setCell ⟨g, 2, none⟩ (.int .u64 b) = Y at *
        refine wpAnyH_take (i := 10) (v := ?_) rfl (by kernel_rfl) (by kernel_rfl) (by kernel_rfl) (fun _ _ _ h => h) (Or.inl ⟨by rfl, ?_⟩) (by assumption) ?_
        rotate_left
        · intro w hSw
          go_simp
          try with_reducible rfl
        simp only [Act.put, List.getElem_toArray, List.getElem_cons_zero, List.getElem_cons_succ, List.setIfInBounds_toArray, List.set_cons_zero, List.set_cons_succ]
        refine wpAnyH_done (by kernel_rfl) ?_ _
        obtain ⟨s0, s1, s2, -, -, -⟩ := tri G2
        obtain ⟨hB, p0, p1, p2, -, -, -⟩ := hHeld
        have HB := aside hB
        clear hB G2 hg
        go_wp2
        go_ret
        exact ⟨rfl, HB.out⟩
      · have hg : w.heap.size + 1 < w5.heap.size := tl_low hHeld
        go_simp
        refine hK.out _ _ (tl_keep9 hHeld (bnew w5 _)) (fun hHeld => ?_)
        clear hK K
        have G0 := aside (heap_alloc_new w5 (.cells #[.int .i64 0, .int .u64 0, .int .u64 0] 26))
        generalize w5.alloc (.cells #[.int .i64 0, .int .u64 0, .int .u64 0] 26) = wy at *
        generalize w5.heap.size = g at *
        refine wpAnyH_ready (rs := [4]) (by kernel_rfl) (by simp) ?_
        refine AllReadyH.cons rfl (fun K hK => ?_) AllReadyH.nil
        go_simp
        refine (CZ.out _).mono ?_
        rintro e wz ⟨rfl, bb⟩
        refine hK.out _ _ (tl_keep9 hHeld bb) (fun hHeld => ?_)
        clear hK K
        have G := blk_on G0.out bb
        clear bb G0
        refine wpAnyH_take (i := 5) (v := ?_) rfl (by kernel_rfl) (by kernel_rfl) (by kernel_rfl) (fun _ _ _ h => h) (Or.inl ⟨by rfl, ?_⟩) (by assumption) ?_
        rotate_left
        · intro w hSw
          go_simp
          try with_reducible rfl
        simp only [Act.put, List.getElem_toArray, List.getElem_cons_zero, List.getElem_cons_succ, List.setIfInBounds_toArray, List.set_cons_zero, List.set_cons_succ]
        refine wpAnyH_take (i := 6) (v := ?_) rfl (by kernel_rfl) (by kernel_rfl) (by kernel_rfl) (fun _ _ _ h => h) (Or.inl ⟨by rfl, ?_⟩) (by assumption) ?_
        rotate_left
        · intro w hSw
          go_simp
          try with_reducible rfl
        simp only [Act.put, List.getElem_toArray, List.getElem_cons_zero, List.getElem_cons_succ, List.setIfInBounds_toArray, List.set_cons_zero, List.set_cons_succ]
        refine wpAnyH_take (i := 7) (v := ?_) rfl (by kernel_rfl) (by kernel_rfl) (by kernel_rfl) (fun _ _ _ h => h) (Or.inl ⟨by rfl, ?_⟩) (by assumption) ?_
        rotate_left
        · intro w hSw
          go_simp
          try with_reducible rfl
        simp only [Act.put, List.getElem_toArray, List.getElem_cons_zero, List.getElem_cons_succ, List.setIfInBounds_toArray, List.set_cons_zero, List.set_cons_succ]
        obtain ⟨s0, s1, s2, z0, z1, z2⟩ := tri G
        have hHeld2 := tl_set9 hg (tl_set9 hg (tl_set9 hg hHeld 0 (.int .i64 n)) 1 (.int .u64 a)) 2 (.int .u64 b)
        have G2 := set3 G (.int .i64 n) (.int .u64 a) (.int .u64 b)
        refine wpAnyH_ready (rs := [9]) (by kernel_rfl) (by simp) ?_
        refine AllReadyH.cons rfl (fun K hK => ?_) AllReadyH.nil
        go_simp
        refine hK.out _ _ hHeld2 (fun hHeld => ?_)
        clear hK K hHeld2 s0 s1 s2 z0 z1 z2 G
        generalize ((wz.setCell ⟨g, 0, none⟩ (.int .i64 n)).setCell ⟨g, 1, none⟩ (.int .u64 a)).setCell ⟨g, 2, none⟩ (.int .u64 b) = Y at *
        refine wpAnyH_take (i := 10) (v := ?_) rfl (by kernel_rfl) (by kernel_rfl) (by kernel_rfl) (fun _ _ _ h => h) (Or.inl ⟨by rfl, ?_⟩) (by assumption) ?_
        rotate_left
        · intro w hSw
          go_simp
          try with_reducible rfl
        simp only [Act.put, List.getElem_toArray, List.getElem_cons_zero, List.getElem_cons_succ, List.setIfInBounds_toArray, List.set_cons_zero, List.set_cons_succ]
        refine wpAnyH_done (by kernel_rfl) ?_ _
        obtain ⟨s0, s1, s2, -, -, -⟩ := tri G2
        obtain ⟨hB, p0, p1, p2, -, -, -⟩ := hHeld
        have HB := aside hB
        clear hB G2 hg
        go_wp2
        go_ret
        exact ⟨rfl, HB.out⟩
    · have hg : w.heap.size + 1 < wa.heap.size := tl_low (X := wa.drew) hHeld
      go_simp
      refine hK.out _ _ (tl_keep9 hHeld (bnew wa.drew _)) (fun hHeld => ?_)
      clear hK K
      have G0 := aside (show (wa.alloc (.cells #[.int .i64 0, .int .u64 0, .int .u64 0] 26)).drew.heap[wa.heap.size]? = some (.cells #[.int .i64 0, .int .u64 0, .int .u64 0] 26) from heap_alloc_new wa _)
      generalize (wa.alloc (.cells #[.int .i64 0, .int .u64 0, .int .u64 0] 26)).drew = wx at *
      generalize wa.heap.size = g at *
      refine wpAnyH_ready (rs := [2]) (by kernel_rfl) (by simp) ?_
      refine AllReadyH.cons rfl (fun K hK => ?_) AllReadyH.nil
      go_simp
      refine (CJ.out _).mono ?_
      rintro e wy ⟨rfl, bb⟩
      refine hK.out _ _ (tl_keep9 hHeld bb) (fun hHeld => ?_)
      clear hK K
      have G1 := aside (blk_on G0.out bb)
      clear bb G0
      refine wpAnyH_ready (rs := [4]) (by kernel_rfl) (by simp) ?_
      refine AllReadyH.cons rfl (fun K hK => ?_) AllReadyH.nil
      go_simp
      refine (CZ.out _).mono ?_
      rintro e wz ⟨rfl, bb⟩
      refine hK.out _ _ (tl_keep9 hHeld bb) (fun hHeld => ?_)
      clear hK K
      have G := blk_on G1.out bb
      clear bb G1
      refine wpAnyH_take (i := 5) (v := ?_) rfl (by kernel_rfl) (by kernel_rfl) (by kernel_rfl) (fun _ _ _ h => h) (Or.inl ⟨by rfl, ?_⟩) (by assumption) ?_
      rotate_left
      · intro w hSw
        go_simp
        try with_reducible rfl
      simp only [Act.put, List.getElem_toArray, List.getElem_cons_zero, List.getElem_cons_succ, List.setIfInBounds_toArray, List.set_cons_zero, List.set_cons_succ]
      refine wpAnyH_take (i := 6) (v := ?_) rfl (by kernel_rfl) (by kernel_rfl) (by kernel_rfl) (fun _ _ _ h => h) (Or.inl ⟨by rfl, ?_⟩) (by assumption) ?_
      rotate_left
      · intro w hSw
        go_simp
        try with_reducible rfl
      simp only [Act.put, List.getElem_toArray, List.getElem_cons_zero, List.getElem_cons_succ, List.setIfInBounds_toArray, List.set_cons_zero, List.set_cons_succ]
      refine wpAnyH_take (i := 7) (v := ?_) rfl (by kernel_rfl) (by kernel_rfl) (by kernel_rfl) (fun _ _ _ h => h) (Or.inl ⟨by rfl, ?_⟩) (by assumption) ?_
      rotate_left
      · intro w hSw
        go_simp
        try with_reducible rfl
      simp only [Act.put, List.getElem_toArray, List.getElem_cons_zero, List.getElem_cons_succ, List.setIfInBounds_toArray, List.set_cons_zero, List.set_cons_succ]
      obtain ⟨s0, s1, s2, z0, z1, z2⟩ := tri G
      have hHeld2 := tl_set9 hg (tl_set9 hg (tl_set9 hg hHeld 0 (.int .i64 n)) 1 (.int .u64 a)) 2 (.int .u64 b)
      have G2 := set3 G (.int .i64 n) (.int .u64 a) (.int .u64 b)
      refine wpAnyH_ready (rs := [9]) (by kernel_rfl) (by simp) ?_
      refine AllReadyH.cons rfl (fun K hK => ?_) AllReadyH.nil
      go_simp
      refine hK.out _ _ hHeld2 (fun hHeld => ?_)
      clear hK K hHeld2 s0 s1 s2 z0 z1 z2 G
      generalize ((wz.setCell ⟨g, 0, none⟩ (.int .i64 n)).setCell ⟨g, 1, none⟩ (.int .u64 a)).setCell ⟨g, 2, none⟩ (.int .u64 b) = Y at *
      refine wpAnyH_take (i := 10) (v := ?_) rfl (by kernel_rfl) (by kernel_rfl) (by kernel_rfl) (fun _ _ _ h => h) (Or.inl ⟨by rfl, ?_⟩) (by assumption) ?_
      rotate_left
      · intro w hSw
        go_simp
        try with_reducible rfl
      simp only [Act.put, List.getElem_toArray, List.getElem_cons_zero, List.getElem_cons_succ, List.setIfInBounds_toArray, List.set_cons_zero, List.set_cons_succ]
      refine wpAnyH_done (by kernel_rfl) ?_ _
      obtain ⟨s0, s1, s2, -, -, -⟩ := tri G2
      obtain ⟨hB, p0, p1, p2, -, -, -⟩ := hHeld
      have HB := aside hB
      clear hB G2 hg
      go_wp2
      go_ret
      exact ⟨rfl, HB.out⟩


set_option maxRecDepth 100000 in
set_option maxHeartbeats 12800000 in
theorem ltless_ok (n a b m c d r x y : Int) (w : World)
    (CL : Hid (∀ W, Calls Try.prog 9 #[.agg #[.int .i64 n, .int .u64 a, .int .u64 b], .agg #[.int .i64 m, .int .u64 c, .int .u64 d]] W fun e w' => e = .returned (.tuple #[.agg #[.int .i64 r, .int .u64 x, .int .u64 y], .int .i64 0]) ∧ Below W.heap.size W w'))
    (CR : Hid (∀ W, Calls Try.prog 10 #[.agg #[.int .i64 n, .int .u64 a, .int .u64 b], .agg #[.int .i64 m, .int .u64 c, .int .u64 d]] W fun e w' => e = .returned (.tuple #[.agg #[.int .i64 r, .int .u64 x, .int .u64 y], .int .i64 0]) ∧ Below W.heap.size W w'))
    (CB : Hid (∀ W, Calls Try.prog 7 #[.agg #[.int .i64 r, .int .u64 x, .int .u64 y], .agg #[.int .i64 m, .int .u64 c, .int .u64 d]] W fun e w' => e = .returned (.agg #[.int .i64 n, .int .u64 a, .int .u64 b]) ∧ Below W.heap.size W w'))
    (CG : Hid (¬ n < 0 → ¬ m < 0 → ¬ 2305843009213693952 < n → ¬ 2305843009213693952 < m → (n = 0 → a = 0 ∧ b = 0) → ∃ jn ja jb : Int, (∀ W, Calls Try.prog 7 #[.agg #[.int .i64 n, .int .u64 a, .int .u64 b], .agg #[.int .i64 m, .int .u64 c, .int .u64 d]] W fun e w' => e = .returned (.agg #[.int .i64 jn, .int .u64 ja, .int .u64 jb]) ∧ Below W.heap.size W w') ∧ (∀ W, Calls Try.prog 9 #[.agg #[.int .i64 jn, .int .u64 ja, .int .u64 jb], .agg #[.int .i64 m, .int .u64 c, .int .u64 d]] W fun e w' => e = .returned (.tuple #[.agg #[.int .i64 n, .int .u64 a, .int .u64 b], .int .i64 0]) ∧ Below W.heap.size W w'))) :
    Calls Try.prog 4 #[.agg #[.int .i64 n, .int .u64 a, .int .u64 b], .agg #[.int .i64 m, .int .u64 c, .int .u64 d]] w fun e w' => e = .returned (.bool true) ∧ Below w.heap.size w w' := by
  have qx := tal_ne_same r x y
  have qa := tal_ne_same n a b
  have qs := tal_same n a b
  have R1 := aside (heap_alloc_new w (.cells #[.int .i64 n, .int .u64 a, .int .u64 b] 26))
  have R2 := aside (heap_alloc_new (w.alloc (.cells #[.int .i64 n, .int .u64 a, .int .u64 b] 26)) (.cells #[.int .i64 m, .int .u64 c, .int .u64 d] 26))
  have B0 := aside (bthen (bnew w (.cells #[.int .i64 n, .int .u64 a, .int .u64 b] 26)) (bnew _ (.cells #[.int .i64 m, .int .u64 c, .int .u64 d] 26)))
  have K1 := aside (blk_on R1.out (bnew _ (.cells #[.int .i64 m, .int .u64 c, .int .u64 d] 26)))
  have hz1 : (w.alloc (.cells #[.int .i64 n, .int .u64 a, .int .u64 b] 26)).heap.size = w.heap.size + 1 := by simp
  rw [hz1] at R2
  clear R1 hz1
  go_enter Try.func4, Try.ntmps4
  go_wp2_with fail
  generalize (w.alloc (.cells #[.int .i64 n, .int .u64 a, .int .u64 b] 26)).alloc (.cells #[.int .i64 m, .int .u64 c, .int .u64 d] 26) = V0 at *
  refine (CL.out _).mono ?_
  rintro e w1 ⟨rfl, b1⟩
  have G1 := aside (blk_on (blk_on K1.out b1) (bnew _ (.cells #[.int .i64 r, .int .u64 x, .int .u64 y] 26)))
  have G2 := aside (blk_on (blk_on R2.out b1) (bnew _ (.cells #[.int .i64 r, .int .u64 x, .int .u64 y] 26)))
  have G5 := aside (heap_alloc_new w1 (.cells #[.int .i64 r, .int .u64 x, .int .u64 y] 26))
  have B1 := aside (bthen (bthen B0.out b1) (bnew _ (.cells #[.int .i64 r, .int .u64 x, .int .u64 y] 26)))
  obtain ⟨p0, p1, p2, -, -, -⟩ := tri G1.out
  obtain ⟨p3, p4, p5, -, -, -⟩ := tri G2.out
  clear b1 B0 K1 R2 CL
  go_wp2_with fail
  generalize w1.alloc (.cells #[.int .i64 r, .int .u64 x, .int .u64 y] 26) = V1 at *
  generalize w1.heap.size = i5 at *
  refine (CR.out _).mono ?_
  rintro e w2 ⟨rfl, b2⟩
  have G1' := aside (blk_on (blk_on G1.out b2) (bnew _ (.cells #[.int .i64 r, .int .u64 x, .int .u64 y] 26)))
  have G2' := aside (blk_on (blk_on G2.out b2) (bnew _ (.cells #[.int .i64 r, .int .u64 x, .int .u64 y] 26)))
  have G5' := aside (blk_on (blk_on G5.out b2) (bnew _ (.cells #[.int .i64 r, .int .u64 x, .int .u64 y] 26)))
  have G7 := aside (heap_alloc_new w2 (.cells #[.int .i64 r, .int .u64 x, .int .u64 y] 26))
  have B2 := aside (bthen (bthen B1.out b2) (bnew _ (.cells #[.int .i64 r, .int .u64 x, .int .u64 y] 26)))
  clear p0 p1 p2 p3 p4 p5 b2 B1 G1 G2 G5 CR
  obtain ⟨s0, s1, s2, -, -, -⟩ := tri G5'.out
  go_wp2_with fail
  generalize w2.alloc (.cells #[.int .i64 r, .int .u64 x, .int .u64 y] 26) = V2 at *
  clear s0 s1 s2 G7
  have S0 : Hid (Below w.heap.size w V2.drew ∧ V2.drew.cell? ⟨w.heap.size, 0, none⟩ = some (.int .i64 n) ∧ V2.drew.cell? ⟨w.heap.size, 1, none⟩ = some (.int .u64 a) ∧ V2.drew.cell? ⟨w.heap.size, 2, none⟩ = some (.int .u64 b) ∧ V2.drew.cell? ⟨w.heap.size + 1, 0, none⟩ = some (.int .i64 m) ∧ V2.drew.cell? ⟨w.heap.size + 1, 1, none⟩ = some (.int .u64 c) ∧ V2.drew.cell? ⟨w.heap.size + 1, 2, none⟩ = some (.int .u64 d) ∧ V2.drew.cell? ⟨i5, 0, none⟩ = some (.int .i64 r) ∧ V2.drew.cell? ⟨i5, 1, none⟩ = some (.int .u64 x) ∧ V2.drew.cell? ⟨i5, 2, none⟩ = some (.int .u64 y)) :=
    ⟨B2.out.drew, (tri G1'.out).1, (tri G1'.out).2.1, (tri G1'.out).2.2.1, (tri G2'.out).1, (tri G2'.out).2.1, (tri G2'.out).2.2.1, (tri G5'.out).1, (tri G5'.out).2.1, (tri G5'.out).2.2.1⟩
  clear B2 G1' G2' G5'
  refine wp_region_held_drew (S := fun W => Below w.heap.size w W ∧ W.cell? ⟨w.heap.size, 0, none⟩ = some (.int .i64 n) ∧ W.cell? ⟨w.heap.size, 1, none⟩ = some (.int .u64 a) ∧ W.cell? ⟨w.heap.size, 2, none⟩ = some (.int .u64 b) ∧ W.cell? ⟨w.heap.size + 1, 0, none⟩ = some (.int .i64 m) ∧ W.cell? ⟨w.heap.size + 1, 1, none⟩ = some (.int .u64 c) ∧ W.cell? ⟨w.heap.size + 1, 2, none⟩ = some (.int .u64 d) ∧ W.cell? ⟨i5, 0, none⟩ = some (.int .i64 r) ∧ W.cell? ⟨i5, 1, none⟩ = some (.int .u64 x) ∧ W.cell? ⟨i5, 2, none⟩ = some (.int .u64 y)) (by kernel_rfl) S0.out (fun hHeld => ?_)
  clear S0
  refine wpAnyH_take (i := 0) (v := ?_) rfl (by kernel_rfl) (by kernel_rfl) (by kernel_rfl) (fun _ _ _ h => h) (Or.inl ⟨by rfl, ?_⟩) (by assumption) ?_
  rotate_left
  · intro w hSw
    go_simp
    try with_reducible rfl
  simp only [Act.put, List.getElem_toArray, List.getElem_cons_zero, List.setIfInBounds_toArray, List.set_cons_zero, List.set_cons_succ]
  refine wpAnyH_take (i := 1) (v := ?_) rfl (by kernel_rfl) (by kernel_rfl) (by kernel_rfl) (fun _ _ _ h => h) (Or.inl ⟨by rfl, ?_⟩) (by assumption) ?_
  rotate_left
  · intro w hSw
    go_simp
    try with_reducible rfl
  simp only [Act.put, List.getElem_toArray, List.getElem_cons_zero, List.getElem_cons_succ, List.setIfInBounds_toArray, List.set_cons_zero, List.set_cons_succ]
  refine wpAnyH_take (i := 2) (v := ?_) rfl (by kernel_rfl) (by kernel_rfl) (by kernel_rfl) (fun _ _ _ h => h) (Or.inl ⟨by rfl, ?_⟩) (by assumption) ?_
  rotate_left
  · intro w hSw
    go_simp
    try with_reducible rfl
  simp only [Act.put, List.getElem_toArray, List.getElem_cons_zero, List.getElem_cons_succ, List.setIfInBounds_toArray, List.set_cons_zero, List.set_cons_succ]
  refine wpAnyH_take (i := 3) (v := ?_) rfl (by kernel_rfl) (by kernel_rfl) (by kernel_rfl) (fun _ _ _ h => h) (Or.inl ⟨by rfl, ?_⟩) (by assumption) ?_
  rotate_left
  · intro w hSw
    go_simp
    try with_reducible rfl
  simp only [Act.put, List.getElem_toArray, List.getElem_cons_zero, List.getElem_cons_succ, List.setIfInBounds_toArray, List.set_cons_zero, List.set_cons_succ]
  refine wpAnyH_take (i := 4) (v := ?_) rfl (by kernel_rfl) (by kernel_rfl) (by kernel_rfl) (fun _ _ _ h => h) (Or.inl ⟨by rfl, ?_⟩) (by assumption) ?_
  rotate_left
  · intro w hSw
    go_simp
    try with_reducible rfl
  simp only [Act.put, List.getElem_toArray, List.getElem_cons_zero, List.getElem_cons_succ, List.setIfInBounds_toArray, List.set_cons_zero, List.set_cons_succ]
  refine wpAnyH_take (i := 6) (v := ?_) rfl (by kernel_rfl) (by kernel_rfl) (by kernel_rfl) (fun _ _ _ h => h) (Or.inl ⟨by rfl, ?_⟩) (by assumption) ?_
  rotate_left
  · intro w hSw
    go_simp
    try with_reducible rfl
  simp only [Act.put, List.getElem_toArray, List.getElem_cons_zero, List.getElem_cons_succ, List.setIfInBounds_toArray, List.set_cons_zero, List.set_cons_succ]
  refine wpAnyH_ready (rs := [5]) (by kernel_rfl) (by simp) ?_
  refine AllReadyH.cons rfl (fun K hK => ?_) AllReadyH.nil
  go_simp
  refine (CB.out _).mono ?_
  rintro e w9 ⟨rfl, bb⟩
  refine hK.out _ _ (tl_keep5 hHeld bb) (fun hHeld => ?_)
  clear hK K 
  refine wpAnyH_take (i := 7) (v := ?_) rfl (by kernel_rfl) (by kernel_rfl) (by kernel_rfl) (fun _ _ _ h => h) (Or.inl ⟨by rfl, ?_⟩) (by assumption) ?_
  rotate_left
  · intro w hSw
    go_simp
    try with_reducible rfl
  simp only [Act.put, List.getElem_toArray, List.getElem_cons_zero, List.getElem_cons_succ, List.setIfInBounds_toArray, List.set_cons_zero, List.set_cons_succ]
  refine wpAnyH_take (i := 8) (v := ?_) rfl (by kernel_rfl) (by kernel_rfl) (by kernel_rfl) (fun _ _ _ h => h) (Or.inl ⟨by rfl, ?_⟩) (by assumption) ?_
  rotate_left
  · intro w hSw
    go_simp
    try with_reducible rfl
  simp only [Act.put, List.getElem_toArray, List.getElem_cons_zero, List.getElem_cons_succ, List.setIfInBounds_toArray, List.set_cons_zero, List.set_cons_succ]
  refine wpAnyH_done (by kernel_rfl) ?_ _
  have hH : Hid (Below w.heap.size w w9 ∧ w9.cell? ⟨w.heap.size, 0, none⟩ = some (.int .i64 n) ∧ w9.cell? ⟨w.heap.size, 1, none⟩ = some (.int .u64 a) ∧ w9.cell? ⟨w.heap.size, 2, none⟩ = some (.int .u64 b) ∧ w9.cell? ⟨w.heap.size + 1, 0, none⟩ = some (.int .i64 m) ∧ w9.cell? ⟨w.heap.size + 1, 1, none⟩ = some (.int .u64 c) ∧ w9.cell? ⟨w.heap.size + 1, 2, none⟩ = some (.int .u64 d)) := by
    obtain ⟨h, h0, h1, h2, h3, h4, h5, -⟩ := hHeld
    exact ⟨h, h0, h1, h2, h3, h4, h5⟩
  clear hHeld
  generalize w9 = wa at *
  have HB := aside hH.out.1
  obtain ⟨-, p0, p1, p2, p3, p4, p5⟩ := hH.out
  by_cases h1 : n < 0
  · clear CG
    go_wp2
    go_ret
    exact ⟨rfl, HB.out⟩
  by_cases h2 : m < 0
  · clear CG
    go_wp2
    go_ret
    exact ⟨rfl, HB.out⟩
  by_cases h3 : 2305843009213693952 < n
  · clear CG
    go_wp2
    go_ret
    exact ⟨rfl, HB.out⟩
  by_cases h4 : 2305843009213693952 < m
  · clear CG
    go_wp2
    go_ret
    exact ⟨rfl, HB.out⟩
  by_cases h5 : n = 0
  · by_cases h6 : a = 0 ∧ b = 0
    · obtain ⟨jn, ja, jb, CJ0, CZ0⟩ := CG.out (by omega) (by omega) (by omega) (by omega) (fun _ => h6)
      have CJ := aside CJ0
      have CZ := aside CZ0
      clear CJ0 CZ0 CG
      obtain ⟨rfl, rfl⟩ := h6
      subst h5
      go_wp2_with fail
      have S9 : Hid (Below w.heap.size w wa.drew ∧ wa.drew.cell? ⟨w.heap.size, 0, none⟩ = some (.int .i64 0) ∧ wa.drew.cell? ⟨w.heap.size, 1, none⟩ = some (.int .u64 0) ∧ wa.drew.cell? ⟨w.heap.size, 2, none⟩ = some (.int .u64 0) ∧ wa.drew.cell? ⟨w.heap.size + 1, 0, none⟩ = some (.int .i64 m) ∧ wa.drew.cell? ⟨w.heap.size + 1, 1, none⟩ = some (.int .u64 c) ∧ wa.drew.cell? ⟨w.heap.size + 1, 2, none⟩ = some (.int .u64 d)) := by
        obtain ⟨h, hr⟩ := hH.out
        exact ⟨h.drew, hr⟩
      clear p0 p1 p2 p3 p4 p5 hH HB
      refine wp_region_held_drew (S := fun W => Below w.heap.size w W ∧ W.cell? ⟨w.heap.size, 0, none⟩ = some (.int .i64 0) ∧ W.cell? ⟨w.heap.size, 1, none⟩ = some (.int .u64 0) ∧ W.cell? ⟨w.heap.size, 2, none⟩ = some (.int .u64 0) ∧ W.cell? ⟨w.heap.size + 1, 0, none⟩ = some (.int .i64 m) ∧ W.cell? ⟨w.heap.size + 1, 1, none⟩ = some (.int .u64 c) ∧ W.cell? ⟨w.heap.size + 1, 2, none⟩ = some (.int .u64 d)) (by kernel_rfl) S9.out (fun hHeld => ?_)
      clear S9
      refine wpAnyH_take (i := 0) (v := ?_) rfl (by kernel_rfl) (by kernel_rfl) (by kernel_rfl) (fun _ _ _ h => h) (Or.inl ⟨by rfl, ?_⟩) (by assumption) ?_
      rotate_left
      · intro w hSw
        go_simp
        try with_reducible rfl
      simp only [Act.put, List.getElem_toArray, List.getElem_cons_zero, List.setIfInBounds_toArray, List.set_cons_zero, List.set_cons_succ]
      refine wpAnyH_take (i := 1) (v := ?_) rfl (by kernel_rfl) (by kernel_rfl) (by kernel_rfl) (fun _ _ _ h => h) (Or.inl ⟨by rfl, ?_⟩) (by assumption) ?_
      rotate_left
      · intro w hSw
        go_simp
        try with_reducible rfl
      simp only [Act.put, List.getElem_toArray, List.getElem_cons_zero, List.getElem_cons_succ, List.setIfInBounds_toArray, List.set_cons_zero, List.set_cons_succ]
      refine wpAnyH_take (i := 3) (v := ?_) rfl (by kernel_rfl) (by kernel_rfl) (by kernel_rfl) (fun _ _ _ h => h) (Or.inl ⟨by rfl, ?_⟩) (by assumption) ?_
      rotate_left
      · intro w hSw
        go_simp
        try with_reducible rfl
      simp only [Act.put, List.getElem_toArray, List.getElem_cons_zero, List.getElem_cons_succ, List.setIfInBounds_toArray, List.set_cons_zero, List.set_cons_succ]
      refine wpAnyH_ready (rs := [2, 8]) (by kernel_rfl) (by simp) ?_
      refine AllReadyH.cons rfl (fun K hK => ?_) (AllReadyH.cons rfl (fun K hK => ?_) AllReadyH.nil)
      · go_simp
        refine (CJ.out _).mono ?_
        rintro e w5 ⟨rfl, bb⟩
        refine hK.out _ _ (tl_keep9 hHeld bb) (fun hHeld => ?_)
        clear hK K
        clear bb
        refine wpAnyH_ready (rs := [4, 8]) (by kernel_rfl) (by simp) ?_
        refine AllReadyH.cons rfl (fun K hK => ?_) (AllReadyH.cons rfl (fun K hK => ?_) AllReadyH.nil)
        · go_simp
          refine (CZ.out _).mono ?_
          rintro e w6 ⟨rfl, bb⟩
          refine hK.out _ _ (tl_keep9 hHeld bb) (fun hHeld => ?_)
          clear hK K
          clear bb
          have hg : w.heap.size + 1 < w6.heap.size := tl_low hHeld
          refine wpAnyH_take (i := 5) (v := ?_) rfl (by kernel_rfl) (by kernel_rfl) (by kernel_rfl) (fun _ _ _ h => h) (Or.inl ⟨by rfl, ?_⟩) (by assumption) ?_
          rotate_left
          · intro w hSw
            go_simp
            try with_reducible rfl
          simp only [Act.put, List.getElem_toArray, List.getElem_cons_zero, List.getElem_cons_succ, List.setIfInBounds_toArray, List.set_cons_zero, List.set_cons_succ]
          refine wpAnyH_take (i := 6) (v := ?_) rfl (by kernel_rfl) (by kernel_rfl) (by kernel_rfl) (fun _ _ _ h => h) (Or.inl ⟨by rfl, ?_⟩) (by assumption) ?_
          rotate_left
          · intro w hSw
            go_simp
            try with_reducible rfl
          simp only [Act.put, List.getElem_toArray, List.getElem_cons_zero, List.getElem_cons_succ, List.setIfInBounds_toArray, List.set_cons_zero, List.set_cons_succ]
          refine wpAnyH_take (i := 7) (v := ?_) rfl (by kernel_rfl) (by kernel_rfl) (by kernel_rfl) (fun _ _ _ h => h) (Or.inl ⟨by rfl, ?_⟩) (by assumption) ?_
          rotate_left
          · intro w hSw
            go_simp
            try with_reducible rfl
          simp only [Act.put, List.getElem_toArray, List.getElem_cons_zero, List.getElem_cons_succ, List.setIfInBounds_toArray, List.set_cons_zero, List.set_cons_succ]
          refine wpAnyH_ready (rs := [8]) (by kernel_rfl) (by simp) ?_
          refine AllReadyH.cons rfl (fun K hK => ?_) AllReadyH.nil
          go_simp
          refine hK.out _ _ (tl_keep9 hHeld (bnew w6 _)) (fun hHeld => ?_)
          clear hK K
          have G := heap_alloc_new w6 (.cells #[.int .i64 0, .int .u64 0, .int .u64 0] 26)
          generalize w6.alloc (.cells #[.int .i64 0, .int .u64 0, .int .u64 0] 26) = wz at *
          generalize w6.heap.size = g at *
          obtain ⟨s0, s1, s2, z0, z1, z2⟩ := tri G
          have hHeld2 := tl_set9 hg (tl_set9 hg (tl_set9 hg hHeld 0 (.int .i64 0)) 1 (.int .u64 0)) 2 (.int .u64 0)
          have G2 := set3 G (.int .i64 0) (.int .u64 0) (.int .u64 0)
          refine wpAnyH_ready (rs := [9]) (by kernel_rfl) (by simp) ?_
          refine AllReadyH.cons rfl (fun K hK => ?_) AllReadyH.nil
          go_simp
          refine hK.out _ _ hHeld2 (fun hHeld => ?_)
          clear hK K hHeld2 s0 s1 s2 z0 z1 z2 G
          generalize ((wz.setCell ⟨g, 0, none⟩ (.int .i64 0)).setCell ⟨g, 1, none⟩ (.int .u64 0)).setCell ⟨g, 2, none⟩ (.int .u64 0) = Y at *
          refine wpAnyH_take (i := 10) (v := ?_) rfl (by kernel_rfl) (by kernel_rfl) (by kernel_rfl) (fun _ _ _ h => h) (Or.inl ⟨by rfl, ?_⟩) (by assumption) ?_
          rotate_left
          · intro w hSw
            go_simp
            try with_reducible rfl
          simp only [Act.put, List.getElem_toArray, List.getElem_cons_zero, List.getElem_cons_succ, List.setIfInBounds_toArray, List.set_cons_zero, List.set_cons_succ]
          refine wpAnyH_done (by kernel_rfl) ?_ _
          obtain ⟨s0, s1, s2, -, -, -⟩ := tri G2
          obtain ⟨hB, p0, p1, p2, -, -, -⟩ := hHeld
          have HB := aside hB
          clear hB G2 hg
          go_wp2
          go_ret
          exact ⟨rfl, HB.out⟩
        · have hg : w.heap.size + 1 < w5.heap.size := tl_low hHeld
          go_simp
          refine hK.out _ _ (tl_keep9 hHeld (bnew w5 _)) (fun hHeld => ?_)
          clear hK K
          have G0 := aside (heap_alloc_new w5 (.cells #[.int .i64 0, .int .u64 0, .int .u64 0] 26))
          generalize w5.alloc (.cells #[.int .i64 0, .int .u64 0, .int .u64 0] 26) = wy at *
          generalize w5.heap.size = g at *
          refine wpAnyH_ready (rs := [4]) (by kernel_rfl) (by simp) ?_
          refine AllReadyH.cons rfl (fun K hK => ?_) AllReadyH.nil
          go_simp
          refine (CZ.out _).mono ?_
          rintro e wz ⟨rfl, bb⟩
          refine hK.out _ _ (tl_keep9 hHeld bb) (fun hHeld => ?_)
          clear hK K
          have G := blk_on G0.out bb
          clear bb G0
          refine wpAnyH_take (i := 5) (v := ?_) rfl (by kernel_rfl) (by kernel_rfl) (by kernel_rfl) (fun _ _ _ h => h) (Or.inl ⟨by rfl, ?_⟩) (by assumption) ?_
          rotate_left
          · intro w hSw
            go_simp
            try with_reducible rfl
          simp only [Act.put, List.getElem_toArray, List.getElem_cons_zero, List.getElem_cons_succ, List.setIfInBounds_toArray, List.set_cons_zero, List.set_cons_succ]
          refine wpAnyH_take (i := 6) (v := ?_) rfl (by kernel_rfl) (by kernel_rfl) (by kernel_rfl) (fun _ _ _ h => h) (Or.inl ⟨by rfl, ?_⟩) (by assumption) ?_
          rotate_left
          · intro w hSw
            go_simp
            try with_reducible rfl
          simp only [Act.put, List.getElem_toArray, List.getElem_cons_zero, List.getElem_cons_succ, List.setIfInBounds_toArray, List.set_cons_zero, List.set_cons_succ]
          refine wpAnyH_take (i := 7) (v := ?_) rfl (by kernel_rfl) (by kernel_rfl) (by kernel_rfl) (fun _ _ _ h => h) (Or.inl ⟨by rfl, ?_⟩) (by assumption) ?_
          rotate_left
          · intro w hSw
            go_simp
            try with_reducible rfl
          simp only [Act.put, List.getElem_toArray, List.getElem_cons_zero, List.getElem_cons_succ, List.setIfInBounds_toArray, List.set_cons_zero, List.set_cons_succ]
          obtain ⟨s0, s1, s2, z0, z1, z2⟩ := tri G
          have hHeld2 := tl_set9 hg (tl_set9 hg (tl_set9 hg hHeld 0 (.int .i64 0)) 1 (.int .u64 0)) 2 (.int .u64 0)
          have G2 := set3 G (.int .i64 0) (.int .u64 0) (.int .u64 0)
          refine wpAnyH_ready (rs := [9]) (by kernel_rfl) (by simp) ?_
          refine AllReadyH.cons rfl (fun K hK => ?_) AllReadyH.nil
          go_simp
          refine hK.out _ _ hHeld2 (fun hHeld => ?_)
          clear hK K hHeld2 s0 s1 s2 z0 z1 z2 G
          generalize ((wz.setCell ⟨g, 0, none⟩ (.int .i64 0)).setCell ⟨g, 1, none⟩ (.int .u64 0)).setCell ⟨g, 2, none⟩ (.int .u64 0) = Y at *
          refine wpAnyH_take (i := 10) (v := ?_) rfl (by kernel_rfl) (by kernel_rfl) (by kernel_rfl) (fun _ _ _ h => h) (Or.inl ⟨by rfl, ?_⟩) (by assumption) ?_
          rotate_left
          · intro w hSw
            go_simp
            try with_reducible rfl
          simp only [Act.put, List.getElem_toArray, List.getElem_cons_zero, List.getElem_cons_succ, List.setIfInBounds_toArray, List.set_cons_zero, List.set_cons_succ]
          refine wpAnyH_done (by kernel_rfl) ?_ _
          obtain ⟨s0, s1, s2, -, -, -⟩ := tri G2
          obtain ⟨hB, p0, p1, p2, -, -, -⟩ := hHeld
          have HB := aside hB
          clear hB G2 hg
          go_wp2
          go_ret
          exact ⟨rfl, HB.out⟩
      · have hg : w.heap.size + 1 < wa.heap.size := tl_low (X := wa.drew) hHeld
        go_simp
        refine hK.out _ _ (tl_keep9 hHeld (bnew wa.drew _)) (fun hHeld => ?_)
        clear hK K
        have G0 := aside (show (wa.alloc (.cells #[.int .i64 0, .int .u64 0, .int .u64 0] 26)).drew.heap[wa.heap.size]? = some (.cells #[.int .i64 0, .int .u64 0, .int .u64 0] 26) from heap_alloc_new wa _)
        generalize (wa.alloc (.cells #[.int .i64 0, .int .u64 0, .int .u64 0] 26)).drew = wx at *
        generalize wa.heap.size = g at *
        refine wpAnyH_ready (rs := [2]) (by kernel_rfl) (by simp) ?_
        refine AllReadyH.cons rfl (fun K hK => ?_) AllReadyH.nil
        go_simp
        refine (CJ.out _).mono ?_
        rintro e wy ⟨rfl, bb⟩
        refine hK.out _ _ (tl_keep9 hHeld bb) (fun hHeld => ?_)
        clear hK K
        have G1 := aside (blk_on G0.out bb)
        clear bb G0
        refine wpAnyH_ready (rs := [4]) (by kernel_rfl) (by simp) ?_
        refine AllReadyH.cons rfl (fun K hK => ?_) AllReadyH.nil
        go_simp
        refine (CZ.out _).mono ?_
        rintro e wz ⟨rfl, bb⟩
        refine hK.out _ _ (tl_keep9 hHeld bb) (fun hHeld => ?_)
        clear hK K
        have G := blk_on G1.out bb
        clear bb G1
        refine wpAnyH_take (i := 5) (v := ?_) rfl (by kernel_rfl) (by kernel_rfl) (by kernel_rfl) (fun _ _ _ h => h) (Or.inl ⟨by rfl, ?_⟩) (by assumption) ?_
        rotate_left
        · intro w hSw
          go_simp
          try with_reducible rfl
        simp only [Act.put, List.getElem_toArray, List.getElem_cons_zero, List.getElem_cons_succ, List.setIfInBounds_toArray, List.set_cons_zero, List.set_cons_succ]
        refine wpAnyH_take (i := 6) (v := ?_) rfl (by kernel_rfl) (by kernel_rfl) (by kernel_rfl) (fun _ _ _ h => h) (Or.inl ⟨by rfl, ?_⟩) (by assumption) ?_
        rotate_left
        · intro w hSw
          go_simp
          try with_reducible rfl
        simp only [Act.put, List.getElem_toArray, List.getElem_cons_zero, List.getElem_cons_succ, List.setIfInBounds_toArray, List.set_cons_zero, List.set_cons_succ]
        refine wpAnyH_take (i := 7) (v := ?_) rfl (by kernel_rfl) (by kernel_rfl) (by kernel_rfl) (fun _ _ _ h => h) (Or.inl ⟨by rfl, ?_⟩) (by assumption) ?_
        rotate_left
        · intro w hSw
          go_simp
          try with_reducible rfl
        simp only [Act.put, List.getElem_toArray, List.getElem_cons_zero, List.getElem_cons_succ, List.setIfInBounds_toArray, List.set_cons_zero, List.set_cons_succ]
        obtain ⟨s0, s1, s2, z0, z1, z2⟩ := tri G
        have hHeld2 := tl_set9 hg (tl_set9 hg (tl_set9 hg hHeld 0 (.int .i64 0)) 1 (.int .u64 0)) 2 (.int .u64 0)
        have G2 := set3 G (.int .i64 0) (.int .u64 0) (.int .u64 0)
        refine wpAnyH_ready (rs := [9]) (by kernel_rfl) (by simp) ?_
        refine AllReadyH.cons rfl (fun K hK => ?_) AllReadyH.nil
        go_simp
        refine hK.out _ _ hHeld2 (fun hHeld => ?_)
        clear hK K hHeld2 s0 s1 s2 z0 z1 z2 G
        generalize ((wz.setCell ⟨g, 0, none⟩ (.int .i64 0)).setCell ⟨g, 1, none⟩ (.int .u64 0)).setCell ⟨g, 2, none⟩ (.int .u64 0) = Y at *
        refine wpAnyH_take (i := 10) (v := ?_) rfl (by kernel_rfl) (by kernel_rfl) (by kernel_rfl) (fun _ _ _ h => h) (Or.inl ⟨by rfl, ?_⟩) (by assumption) ?_
        rotate_left
        · intro w hSw
          go_simp
          try with_reducible rfl
        simp only [Act.put, List.getElem_toArray, List.getElem_cons_zero, List.getElem_cons_succ, List.setIfInBounds_toArray, List.set_cons_zero, List.set_cons_succ]
        refine wpAnyH_done (by kernel_rfl) ?_ _
        obtain ⟨s0, s1, s2, -, -, -⟩ := tri G2
        obtain ⟨hB, p0, p1, p2, -, -, -⟩ := hHeld
        have HB := aside hB
        clear hB G2 hg
        go_wp2
        go_ret
        exact ⟨rfl, HB.out⟩
    · clear CG
      subst h5
      have qn := fun (W : World) => tal_ne_yes (n := 0) (m := 0) h6 W
      clear h6
      go_wp2
      go_ret
      exact ⟨rfl, HB.out⟩
  · obtain ⟨jn, ja, jb, CJ0, CZ0⟩ := CG.out (by omega) (by omega) (by omega) (by omega) (fun h => absurd h h5)
    have CJ := aside CJ0
    have CZ := aside CZ0
    clear CJ0 CZ0 CG
    go_wp2_with fail
    have S9 : Hid (Below w.heap.size w wa.drew ∧ wa.drew.cell? ⟨w.heap.size, 0, none⟩ = some (.int .i64 n) ∧ wa.drew.cell? ⟨w.heap.size, 1, none⟩ = some (.int .u64 a) ∧ wa.drew.cell? ⟨w.heap.size, 2, none⟩ = some (.int .u64 b) ∧ wa.drew.cell? ⟨w.heap.size + 1, 0, none⟩ = some (.int .i64 m) ∧ wa.drew.cell? ⟨w.heap.size + 1, 1, none⟩ = some (.int .u64 c) ∧ wa.drew.cell? ⟨w.heap.size + 1, 2, none⟩ = some (.int .u64 d)) := by
      obtain ⟨h, hr⟩ := hH.out
      exact ⟨h.drew, hr⟩
    clear p0 p1 p2 p3 p4 p5 hH HB
    refine wp_region_held_drew (S := fun W => Below w.heap.size w W ∧ W.cell? ⟨w.heap.size, 0, none⟩ = some (.int .i64 n) ∧ W.cell? ⟨w.heap.size, 1, none⟩ = some (.int .u64 a) ∧ W.cell? ⟨w.heap.size, 2, none⟩ = some (.int .u64 b) ∧ W.cell? ⟨w.heap.size + 1, 0, none⟩ = some (.int .i64 m) ∧ W.cell? ⟨w.heap.size + 1, 1, none⟩ = some (.int .u64 c) ∧ W.cell? ⟨w.heap.size + 1, 2, none⟩ = some (.int .u64 d)) (by kernel_rfl) S9.out (fun hHeld => ?_)
    clear S9
    refine wpAnyH_take (i := 0) (v := ?_) rfl (by kernel_rfl) (by kernel_rfl) (by kernel_rfl) (fun _ _ _ h => h) (Or.inl ⟨by rfl, ?_⟩) (by assumption) ?_
    rotate_left
    · intro w hSw
      go_simp
      try with_reducible rfl
    simp only [Act.put, List.getElem_toArray, List.getElem_cons_zero, List.setIfInBounds_toArray, List.set_cons_zero, List.set_cons_succ]
    refine wpAnyH_take (i := 1) (v := ?_) rfl (by kernel_rfl) (by kernel_rfl) (by kernel_rfl) (fun _ _ _ h => h) (Or.inl ⟨by rfl, ?_⟩) (by assumption) ?_
    rotate_left
    · intro w hSw
      go_simp
      try with_reducible rfl
    simp only [Act.put, List.getElem_toArray, List.getElem_cons_zero, List.getElem_cons_succ, List.setIfInBounds_toArray, List.set_cons_zero, List.set_cons_succ]
    refine wpAnyH_take (i := 3) (v := ?_) rfl (by kernel_rfl) (by kernel_rfl) (by kernel_rfl) (fun _ _ _ h => h) (Or.inl ⟨by rfl, ?_⟩) (by assumption) ?_
    rotate_left
    · intro w hSw
      go_simp
      try with_reducible rfl
    simp only [Act.put, List.getElem_toArray, List.getElem_cons_zero, List.getElem_cons_succ, List.setIfInBounds_toArray, List.set_cons_zero, List.set_cons_succ]
    refine wpAnyH_ready (rs := [2, 8]) (by kernel_rfl) (by simp) ?_
    refine AllReadyH.cons rfl (fun K hK => ?_) (AllReadyH.cons rfl (fun K hK => ?_) AllReadyH.nil)
    · go_simp
      refine (CJ.out _).mono ?_
      rintro e w5 ⟨rfl, bb⟩
      refine hK.out _ _ (tl_keep9 hHeld bb) (fun hHeld => ?_)
      clear hK K
      clear bb
      refine wpAnyH_ready (rs := [4, 8]) (by kernel_rfl) (by simp) ?_
      refine AllReadyH.cons rfl (fun K hK => ?_) (AllReadyH.cons rfl (fun K hK => ?_) AllReadyH.nil)
      · go_simp
        refine (CZ.out _).mono ?_
        rintro e w6 ⟨rfl, bb⟩
        refine hK.out _ _ (tl_keep9 hHeld bb) (fun hHeld => ?_)
        clear hK K
        clear bb
        have hg : w.heap.size + 1 < w6.heap.size := tl_low hHeld
        refine wpAnyH_take (i := 5) (v := ?_) rfl (by kernel_rfl) (by kernel_rfl) (by kernel_rfl) (fun _ _ _ h => h) (Or.inl ⟨by rfl, ?_⟩) (by assumption) ?_
        rotate_left
        · intro w hSw
          go_simp
          try with_reducible rfl
        simp only [Act.put, List.getElem_toArray, List.getElem_cons_zero, List.getElem_cons_succ, List.setIfInBounds_toArray, List.set_cons_zero, List.set_cons_succ]
        refine wpAnyH_take (i := 6) (v := ?_) rfl (by kernel_rfl) (by kernel_rfl) (by kernel_rfl) (fun _ _ _ h => h) (Or.inl ⟨by rfl, ?_⟩) (by assumption) ?_
        rotate_left
        · intro w hSw
          go_simp
          try with_reducible rfl
        simp only [Act.put, List.getElem_toArray, List.getElem_cons_zero, List.getElem_cons_succ, List.setIfInBounds_toArray, List.set_cons_zero, List.set_cons_succ]
        refine wpAnyH_take (i := 7) (v := ?_) rfl (by kernel_rfl) (by kernel_rfl) (by kernel_rfl) (fun _ _ _ h => h) (Or.inl ⟨by rfl, ?_⟩) (by assumption) ?_
        rotate_left
        · intro w hSw
          go_simp
          try with_reducible rfl
        simp only [Act.put, List.getElem_toArray, List.getElem_cons_zero, List.getElem_cons_succ, List.setIfInBounds_toArray, List.set_cons_zero, List.set_cons_succ]
        refine wpAnyH_ready (rs := [8]) (by kernel_rfl) (by simp) ?_
        refine AllReadyH.cons rfl (fun K hK => ?_) AllReadyH.nil
        go_simp
        refine hK.out _ _ (tl_keep9 hHeld (bnew w6 _)) (fun hHeld => ?_)
        clear hK K
        have G := heap_alloc_new w6 (.cells #[.int .i64 0, .int .u64 0, .int .u64 0] 26)
        generalize w6.alloc (.cells #[.int .i64 0, .int .u64 0, .int .u64 0] 26) = wz at *
        generalize w6.heap.size = g at *
        obtain ⟨s0, s1, s2, z0, z1, z2⟩ := tri G
        have hHeld2 := tl_set9 hg (tl_set9 hg (tl_set9 hg hHeld 0 (.int .i64 n)) 1 (.int .u64 a)) 2 (.int .u64 b)
        have G2 := set3 G (.int .i64 n) (.int .u64 a) (.int .u64 b)
        refine wpAnyH_ready (rs := [9]) (by kernel_rfl) (by simp) ?_
        refine AllReadyH.cons rfl (fun K hK => ?_) AllReadyH.nil
        go_simp
        refine hK.out _ _ hHeld2 (fun hHeld => ?_)
        clear hK K hHeld2 s0 s1 s2 z0 z1 z2 G
        generalize ((wz.setCell ⟨g, 0, none⟩ (.int .i64 n)).setCell ⟨g, 1, none⟩ (.int .u64 a)).setCell ⟨g, 2, none⟩ (.int .u64 b) = Y at *
        refine wpAnyH_take (i := 10) (v := ?_) rfl (by kernel_rfl) (by kernel_rfl) (by kernel_rfl) (fun _ _ _ h => h) (Or.inl ⟨by rfl, ?_⟩) (by assumption) ?_
        rotate_left
        · intro w hSw
          go_simp
          try with_reducible rfl
        simp only [Act.put, List.getElem_toArray, List.getElem_cons_zero, List.getElem_cons_succ, List.setIfInBounds_toArray, List.set_cons_zero, List.set_cons_succ]
        refine wpAnyH_done (by kernel_rfl) ?_ _
        obtain ⟨s0, s1, s2, -, -, -⟩ := tri G2
        obtain ⟨hB, p0, p1, p2, -, -, -⟩ := hHeld
        have HB := aside hB
        clear hB G2 hg
        go_wp2
        go_ret
        exact ⟨rfl, HB.out⟩
      · have hg : w.heap.size + 1 < w5.heap.size := tl_low hHeld
        go_simp
        refine hK.out _ _ (tl_keep9 hHeld (bnew w5 _)) (fun hHeld => ?_)
        clear hK K
        have G0 := aside (heap_alloc_new w5 (.cells #[.int .i64 0, .int .u64 0, .int .u64 0] 26))
        generalize w5.alloc (.cells #[.int .i64 0, .int .u64 0, .int .u64 0] 26) = wy at *
        generalize w5.heap.size = g at *
        refine wpAnyH_ready (rs := [4]) (by kernel_rfl) (by simp) ?_
        refine AllReadyH.cons rfl (fun K hK => ?_) AllReadyH.nil
        go_simp
        refine (CZ.out _).mono ?_
        rintro e wz ⟨rfl, bb⟩
        refine hK.out _ _ (tl_keep9 hHeld bb) (fun hHeld => ?_)
        clear hK K
        have G := blk_on G0.out bb
        clear bb G0
        refine wpAnyH_take (i := 5) (v := ?_) rfl (by kernel_rfl) (by kernel_rfl) (by kernel_rfl) (fun _ _ _ h => h) (Or.inl ⟨by rfl, ?_⟩) (by assumption) ?_
        rotate_left
        · intro w hSw
          go_simp
          try with_reducible rfl
        simp only [Act.put, List.getElem_toArray, List.getElem_cons_zero, List.getElem_cons_succ, List.setIfInBounds_toArray, List.set_cons_zero, List.set_cons_succ]
        refine wpAnyH_take (i := 6) (v := ?_) rfl (by kernel_rfl) (by kernel_rfl) (by kernel_rfl) (fun _ _ _ h => h) (Or.inl ⟨by rfl, ?_⟩) (by assumption) ?_
        rotate_left
        · intro w hSw
          go_simp
          try with_reducible rfl
        simp only [Act.put, List.getElem_toArray, List.getElem_cons_zero, List.getElem_cons_succ, List.setIfInBounds_toArray, List.set_cons_zero, List.set_cons_succ]
        refine wpAnyH_take (i := 7) (v := ?_) rfl (by kernel_rfl) (by kernel_rfl) (by kernel_rfl) (fun _ _ _ h => h) (Or.inl ⟨by rfl, ?_⟩) (by assumption) ?_
        rotate_left
        · intro w hSw
          go_simp
          try with_reducible rfl
        simp only [Act.put, List.getElem_toArray, List.getElem_cons_zero, List.getElem_cons_succ, List.setIfInBounds_toArray, List.set_cons_zero, List.set_cons_succ]
        obtain ⟨s0, s1, s2, z0, z1, z2⟩ := tri G
        have hHeld2 := tl_set9 hg (tl_set9 hg (tl_set9 hg hHeld 0 (.int .i64 n)) 1 (.int .u64 a)) 2 (.int .u64 b)
        have G2 := set3 G (.int .i64 n) (.int .u64 a) (.int .u64 b)
        refine wpAnyH_ready (rs := [9]) (by kernel_rfl) (by simp) ?_
        refine AllReadyH.cons rfl (fun K hK => ?_) AllReadyH.nil
        go_simp
        refine hK.out _ _ hHeld2 (fun hHeld => ?_)
        clear hK K hHeld2 s0 s1 s2 z0 z1 z2 G
        generalize ((wz.setCell ⟨g, 0, none⟩ (.int .i64 n)).setCell ⟨g, 1, none⟩ (.int .u64 a)).setCell ⟨g, 2, none⟩ (.int .u64 b) = Y at *
        refine wpAnyH_take (i := 10) (v := ?_) rfl (by kernel_rfl) (by kernel_rfl) (by kernel_rfl) (fun _ _ _ h => h) (Or.inl ⟨by rfl, ?_⟩) (by assumption) ?_
        rotate_left
        · intro w hSw
          go_simp
          try with_reducible rfl
        simp only [Act.put, List.getElem_toArray, List.getElem_cons_zero, List.getElem_cons_succ, List.setIfInBounds_toArray, List.set_cons_zero, List.set_cons_succ]
        refine wpAnyH_done (by kernel_rfl) ?_ _
        obtain ⟨s0, s1, s2, -, -, -⟩ := tri G2
        obtain ⟨hB, p0, p1, p2, -, -, -⟩ := hHeld
        have HB := aside hB
        clear hB G2 hg
        go_wp2
        go_ret
        exact ⟨rfl, HB.out⟩
    · have hg : w.heap.size + 1 < wa.heap.size := tl_low (X := wa.drew) hHeld
      go_simp
      refine hK.out _ _ (tl_keep9 hHeld (bnew wa.drew _)) (fun hHeld => ?_)
      clear hK K
      have G0 := aside (show (wa.alloc (.cells #[.int .i64 0, .int .u64 0, .int .u64 0] 26)).drew.heap[wa.heap.size]? = some (.cells #[.int .i64 0, .int .u64 0, .int .u64 0] 26) from heap_alloc_new wa _)
      generalize (wa.alloc (.cells #[.int .i64 0, .int .u64 0, .int .u64 0] 26)).drew = wx at *
      generalize wa.heap.size = g at *
      refine wpAnyH_ready (rs := [2]) (by kernel_rfl) (by simp) ?_
      refine AllReadyH.cons rfl (fun K hK => ?_) AllReadyH.nil
      go_simp
      refine (CJ.out _).mono ?_
      rintro e wy ⟨rfl, bb⟩
      refine hK.out _ _ (tl_keep9 hHeld bb) (fun hHeld => ?_)
      clear hK K
      have G1 := aside (blk_on G0.out bb)
      clear bb G0
      refine wpAnyH_ready (rs := [4]) (by kernel_rfl) (by simp) ?_
      refine AllReadyH.cons rfl (fun K hK => ?_) AllReadyH.nil
      go_simp
      refine (CZ.out _).mono ?_
      rintro e wz ⟨rfl, bb⟩
      refine hK.out _ _ (tl_keep9 hHeld bb) (fun hHeld => ?_)
      clear hK K
      have G := blk_on G1.out bb
      clear bb G1
      refine wpAnyH_take (i := 5) (v := ?_) rfl (by kernel_rfl) (by kernel_rfl) (by kernel_rfl) (fun _ _ _ h => h) (Or.inl ⟨by rfl, ?_⟩) (by assumption) ?_
      rotate_left
      · intro w hSw
        go_simp
        try with_reducible rfl
      simp only [Act.put, List.getElem_toArray, List.getElem_cons_zero, List.getElem_cons_succ, List.setIfInBounds_toArray, List.set_cons_zero, List.set_cons_succ]
      refine wpAnyH_take (i := 6) (v := ?_) rfl (by kernel_rfl) (by kernel_rfl) (by kernel_rfl) (fun _ _ _ h => h) (Or.inl ⟨by rfl, ?_⟩) (by assumption) ?_
      rotate_left
      · intro w hSw
        go_simp
        try with_reducible rfl
      simp only [Act.put, List.getElem_toArray, List.getElem_cons_zero, List.getElem_cons_succ, List.setIfInBounds_toArray, List.set_cons_zero, List.set_cons_succ]
      refine wpAnyH_take (i := 7) (v := ?_) rfl (by kernel_rfl) (by kernel_rfl) (by kernel_rfl) (fun _ _ _ h => h) (Or.inl ⟨by rfl, ?_⟩) (by assumption) ?_
      rotate_left
      · intro w hSw
        go_simp
        try with_reducible rfl
      simp only [Act.put, List.getElem_toArray, List.getElem_cons_zero, List.getElem_cons_succ, List.setIfInBounds_toArray, List.set_cons_zero, List.set_cons_succ]
      obtain ⟨s0, s1, s2, z0, z1, z2⟩ := tri G
      have hHeld2 := tl_set9 hg (tl_set9 hg (tl_set9 hg hHeld 0 (.int .i64 n)) 1 (.int .u64 a)) 2 (.int .u64 b)
      have G2 := set3 G (.int .i64 n) (.int .u64 a) (.int .u64 b)
      refine wpAnyH_ready (rs := [9]) (by kernel_rfl) (by simp) ?_
      refine AllReadyH.cons rfl (fun K hK => ?_) AllReadyH.nil
      go_simp
      refine hK.out _ _ hHeld2 (fun hHeld => ?_)
      clear hK K hHeld2 s0 s1 s2 z0 z1 z2 G
      generalize ((wz.setCell ⟨g, 0, none⟩ (.int .i64 n)).setCell ⟨g, 1, none⟩ (.int .u64 a)).setCell ⟨g, 2, none⟩ (.int .u64 b) = Y at *
      refine wpAnyH_take (i := 10) (v := ?_) rfl (by kernel_rfl) (by kernel_rfl) (by kernel_rfl) (fun _ _ _ h => h) (Or.inl ⟨by rfl, ?_⟩) (by assumption) ?_
      rotate_left
      · intro w hSw
        go_simp
        try with_reducible rfl
      simp only [Act.put, List.getElem_toArray, List.getElem_cons_zero, List.getElem_cons_succ, List.setIfInBounds_toArray, List.set_cons_zero, List.set_cons_succ]
      refine wpAnyH_done (by kernel_rfl) ?_ _
      obtain ⟨s0, s1, s2, -, -, -⟩ := tri G2
      obtain ⟨hB, p0, p1, p2, -, -, -⟩ := hHeld
      have HB := aside hB
      clear hB G2 hg
      go_wp2
      go_ret
      exact ⟨rfl, HB.out⟩


theorem ltless_walk (n m : Int) (a b c d : Nat) (w : World) (hn : -9223372036854775808 ≤ n ∧ n ≤ 9223372036854775807) (hm : -9223372036854775808 ≤ m ∧ m ≤ 9223372036854775807)
    (ha : a < 18446744073709551616) (hb : b < 18446744073709551616) (hc : c < 18446744073709551616) (hd : d < 18446744073709551616) :
    Calls Try.prog 4 #[.agg #[.int .i64 n, .int .u64 (a : Int), .int .u64 (b : Int)], .agg #[.int .i64 m, .int .u64 (c : Int), .int .u64 (d : Int)]] w fun e w' => e = .returned (.bool true) ∧ Below w.heap.size w w' := by
  have CG : ¬ n < 0 → ¬ m < 0 → ¬ 2305843009213693952 < n → ¬ 2305843009213693952 < m → (n = 0 → (a : Int) = 0 ∧ (b : Int) = 0) → ∃ jn ja jb : Int, (∀ W, Calls Try.prog 7 #[.agg #[.int .i64 n, .int .u64 (a : Int), .int .u64 (b : Int)], .agg #[.int .i64 m, .int .u64 (c : Int), .int .u64 (d : Int)]] W fun e w' => e = .returned (.agg #[.int .i64 jn, .int .u64 ja, .int .u64 jb]) ∧ Below W.heap.size W w') ∧ (∀ W, Calls Try.prog 9 #[.agg #[.int .i64 jn, .int .u64 ja, .int .u64 jb], .agg #[.int .i64 m, .int .u64 (c : Int), .int .u64 (d : Int)]] W fun e w' => e = .returned (.tuple #[.agg #[.int .i64 n, .int .u64 (a : Int), .int .u64 (b : Int)], .int .i64 0]) ∧ Below W.heap.size W w') := by
    intro h1 h2 h3 h4 h5
    refine ⟨n + m, IntKind.u64.wrap (a + c), IntKind.u64.wrap (b + d), fun W => join_at (by rw [IntKind.wrap_i64]; omega) rfl rfl W, fun W => tless_at ?_ (by rw [IntKind.wrap_i64]; omega) (by rw [IntKind.wrap_u64, IntKind.wrap_u64]; omega) (by rw [IntKind.wrap_u64, IntKind.wrap_u64]; omega) W⟩
    rintro (h | h | h | ⟨h, h6⟩)
    · omega
    · omega
    · omega
    · obtain ⟨e1, e2⟩ := h5 (by omega)
      refine h6 ⟨?_, ?_⟩
      · rw [IntKind.wrap_u64]; omega
      · rw [IntKind.wrap_u64]; omega
  by_cases hB : Bad n a b m c d
  · exact ltless_bad n a b m c d w (fun W => tless_bad n a b m c d W hB) (fun W => tlessRef_bad n a b m c d W hB) CG
  · refine ltless_ok n a b m c d (IntKind.i64.wrap (n - m)) (IntKind.u64.wrap (a - c)) (IntKind.u64.wrap (b - d)) w (fun W => tless_ok n a b m c d W hB) (fun W => tlessRef_ok n a b m c d W hB) (fun W => join_at ?_ ?_ ?_ W) CG
    · rw [IntKind.wrap_i64, IntKind.wrap_i64]; omega
    · rw [IntKind.wrap_u64, IntKind.wrap_u64]; omega
    · rw [IntKind.wrap_u64, IntKind.wrap_u64]; omega

end Go.Proofs.Ytccfhegckdmanaa
