/-
  What a new node tells.
-/
import Derived.Test.YtldnmboenfaajaaGreatDoorBn4
import Derived.Test.YtldnmboenfaajaaGreatDoorBn7
import Derived.Deep.Cut
namespace Go.Proofs.YtldnmboenfaajaaGreatDoor
open Go.RowKit
set_option linter.unusedVariables false
set_option maxHeartbeats 3200000 in
set_option maxRecDepth 100000 in
theorem upC {w : World} {nb sb d : Nat} {b l t r : Int} (h : w.heap[nb]? = some (.cells #[.int .i64 b, .int .i64 l, .int .i64 t, .int .i64 r, .int .i64 1, .int .i64 0, .int .i64 0, .int .i64 0, .int .i64 0, .int .i64 0, .int .i64 0, .int .i64 0, .int .i64 0, .int .i64 0, .int .i64 0, .pointer (some ⟨sb, 0, none⟩), .pointer (some ⟨d, 0, none⟩), .slice none 0 0, .int .i64 0] 45 (0, 0))) :
    Calls Tryz.prog 12 #[.pointer (some ⟨nb, 0, none⟩)] w fun e w' => e = .returned (.bool true) ∧ Below w.heap.size w w' := by
  have c0 : w.cell? ⟨nb, 16, none⟩ = some (.pointer (some ⟨d, 0, none⟩)) := by rw [cell_of_row _ _ 16 _ _ _ h]; rfl
  clear h
  go_enter Tryz.func12, Tryz.ntmps12
  go_wp2
  go_ret
  exact ⟨rfl, Below.refl _ _⟩
set_option maxHeartbeats 3200000 in
set_option maxRecDepth 100000 in
theorem upR {w : World} {nb db dd : Nat} {b l t r : Int} (h : w.heap[nb]? = some (.cells #[.int .i64 b, .int .i64 l, .int .i64 t, .int .i64 r, .pointer (some ⟨db, 0, none⟩), .pointer (some ⟨dd, 0, none⟩), .int .i64 1, .int .i64 0, .int .i64 0, .int .i64 0, .int .i64 0, .int .i64 0, .int .i64 0, .int .i64 0, .int .i64 0, .int .i64 0, .int .i64 0] 53 (0, 0))) :
    Calls Tryz.prog 13 #[.pointer (some ⟨nb, 0, none⟩)] w fun e w' => e = .returned (.bool true) ∧ Below w.heap.size w w' := by
  have c0 : w.cell? ⟨nb, 5, none⟩ = some (.pointer (some ⟨dd, 0, none⟩)) := by rw [cell_of_row _ _ 5 _ _ _ h]; rfl
  clear h
  go_enter Tryz.func13, Tryz.ntmps13
  go_wp2
  go_ret
  exact ⟨rfl, Below.refl _ _⟩
set_option maxHeartbeats 3200000 in
set_option maxRecDepth 100000 in
theorem lifeC {w : World} {nb sb d : Nat} {b l t r : Int} (h : w.heap[nb]? = some (.cells #[.int .i64 b, .int .i64 l, .int .i64 t, .int .i64 r, .int .i64 1, .int .i64 0, .int .i64 0, .int .i64 0, .int .i64 0, .int .i64 0, .int .i64 0, .int .i64 0, .int .i64 0, .int .i64 0, .int .i64 0, .pointer (some ⟨sb, 0, none⟩), .pointer (some ⟨d, 0, none⟩), .slice none 0 0, .int .i64 0] 45 (0, 0))) :
    Calls Tryz.prog 14 #[.pointer (some ⟨nb, 0, none⟩)] w fun e w' => e = .returned (.int .i64 1) ∧ Below w.heap.size w w' := by
  have c0 : w.cell? ⟨nb, 4, none⟩ = some (.int .i64 1) := by rw [cell_of_row _ _ 4 _ _ _ h]; rfl
  clear h
  go_enter Tryz.func14, Tryz.ntmps14
  go_wp2
  go_ret
  exact ⟨rfl, Below.refl _ _⟩
set_option maxHeartbeats 3200000 in
set_option maxRecDepth 100000 in
theorem lifeR {w : World} {nb db dd : Nat} {b l t r : Int} (h : w.heap[nb]? = some (.cells #[.int .i64 b, .int .i64 l, .int .i64 t, .int .i64 r, .pointer (some ⟨db, 0, none⟩), .pointer (some ⟨dd, 0, none⟩), .int .i64 1, .int .i64 0, .int .i64 0, .int .i64 0, .int .i64 0, .int .i64 0, .int .i64 0, .int .i64 0, .int .i64 0, .int .i64 0, .int .i64 0] 53 (0, 0))) :
    Calls Tryz.prog 15 #[.pointer (some ⟨nb, 0, none⟩)] w fun e w' => e = .returned (.int .i64 1) ∧ Below w.heap.size w w' := by
  have c0 : w.cell? ⟨nb, 6, none⟩ = some (.int .i64 1) := by rw [cell_of_row _ _ 6 _ _ _ h]; rfl
  clear h
  go_enter Tryz.func15, Tryz.ntmps15
  go_wp2
  go_ret
  exact ⟨rfl, Below.refl _ _⟩
set_option maxHeartbeats 3200000 in
set_option maxRecDepth 100000 in
theorem countC {w : World} {nb sb d : Nat} {b l t r : Int} (h : w.heap[nb]? = some (.cells #[.int .i64 b, .int .i64 l, .int .i64 t, .int .i64 r, .int .i64 1, .int .i64 0, .int .i64 0, .int .i64 0, .int .i64 0, .int .i64 0, .int .i64 0, .int .i64 0, .int .i64 0, .int .i64 0, .int .i64 0, .pointer (some ⟨sb, 0, none⟩), .pointer (some ⟨d, 0, none⟩), .slice none 0 0, .int .i64 0] 45 (0, 0))) :
    Calls Tryz.prog 16 #[.pointer (some ⟨nb, 0, none⟩)] w fun e w' => e = .returned (.agg #[.int .i64 0, .int .i64 0, .int .i64 0, .int .i64 0, .int .i64 0, .int .i64 0, .int .i64 0, .int .i64 0, .int .i64 0, .int .i64 0]) ∧ Below w.heap.size w w' := by
  have H1 := blk_on h (bnew w (.cells #[.int .i64 0, .int .i64 0, .int .i64 0, .int .i64 0, .int .i64 0, .int .i64 0, .int .i64 0, .int .i64 0, .int .i64 0, .int .i64 0] 39))
  have K1 := heap_alloc_new w (.cells #[.int .i64 0, .int .i64 0, .int .i64 0, .int .i64 0, .int .i64 0, .int .i64 0, .int .i64 0, .int .i64 0, .int .i64 0, .int .i64 0] 39)
  obtain ⟨p, hp⟩ : ∃ p, w.heap.size = p := ⟨_, rfl⟩
  have B1 := aside (bnew w (.cells #[.int .i64 0, .int .i64 0, .int .i64 0, .int .i64 0, .int .i64 0, .int .i64 0, .int .i64 0, .int .i64 0, .int .i64 0, .int .i64 0] 39))
  have HP := aside hp
  clear h
  go_enter Tryz.func16, Tryz.ntmps16
  go_upto_region 1 with fail
  rw [hp] at K1
  obtain ⟨V, hV⟩ : ∃ V, w.alloc (.cells #[.int .i64 0, .int .i64 0, .int .i64 0, .int .i64 0, .int .i64 0, .int .i64 0, .int .i64 0, .int .i64 0, .int .i64 0, .int .i64 0] 39) = V := ⟨_, rfl⟩
  rw [hV] at H1 K1 B1 ⊢
  clear hV hp
  have HK := aside K1
  have c0 : V.cell? ⟨nb, 5, none⟩ = some (.int .i64 0) := by rw [cell_of_row _ _ 5 _ _ _ H1]; rfl
  have c1 : V.cell? ⟨nb, 6, none⟩ = some (.int .i64 0) := by rw [cell_of_row _ _ 6 _ _ _ H1]; rfl
  have c2 : V.cell? ⟨nb, 7, none⟩ = some (.int .i64 0) := by rw [cell_of_row _ _ 7 _ _ _ H1]; rfl
  have c3 : V.cell? ⟨nb, 8, none⟩ = some (.int .i64 0) := by rw [cell_of_row _ _ 8 _ _ _ H1]; rfl
  have c4 : V.cell? ⟨nb, 9, none⟩ = some (.int .i64 0) := by rw [cell_of_row _ _ 9 _ _ _ H1]; rfl
  have c5 : V.cell? ⟨nb, 10, none⟩ = some (.int .i64 0) := by rw [cell_of_row _ _ 10 _ _ _ H1]; rfl
  have c6 : V.cell? ⟨nb, 11, none⟩ = some (.int .i64 0) := by rw [cell_of_row _ _ 11 _ _ _ H1]; rfl
  have c7 : V.cell? ⟨nb, 12, none⟩ = some (.int .i64 0) := by rw [cell_of_row _ _ 12 _ _ _ H1]; rfl
  have c8 : V.cell? ⟨nb, 13, none⟩ = some (.int .i64 0) := by rw [cell_of_row _ _ 13 _ _ _ H1]; rfl
  have c9 : V.cell? ⟨nb, 14, none⟩ = some (.int .i64 0) := by rw [cell_of_row _ _ 14 _ _ _ H1]; rfl
  have d0 : V.cell? ⟨p, 0, none⟩ = some (.int .i64 0) := by rw [cell_of_row _ _ 0 _ _ _ K1]; rfl
  have z0 := frozen_of_row _ _ 0 _ _ K1
  have d1 : V.cell? ⟨p, 1, none⟩ = some (.int .i64 0) := by rw [cell_of_row _ _ 1 _ _ _ K1]; rfl
  have z1 := frozen_of_row _ _ 1 _ _ K1
  have d2 : V.cell? ⟨p, 2, none⟩ = some (.int .i64 0) := by rw [cell_of_row _ _ 2 _ _ _ K1]; rfl
  have z2 := frozen_of_row _ _ 2 _ _ K1
  have d3 : V.cell? ⟨p, 3, none⟩ = some (.int .i64 0) := by rw [cell_of_row _ _ 3 _ _ _ K1]; rfl
  have z3 := frozen_of_row _ _ 3 _ _ K1
  have d4 : V.cell? ⟨p, 4, none⟩ = some (.int .i64 0) := by rw [cell_of_row _ _ 4 _ _ _ K1]; rfl
  have z4 := frozen_of_row _ _ 4 _ _ K1
  have d5 : V.cell? ⟨p, 5, none⟩ = some (.int .i64 0) := by rw [cell_of_row _ _ 5 _ _ _ K1]; rfl
  have z5 := frozen_of_row _ _ 5 _ _ K1
  have d6 : V.cell? ⟨p, 6, none⟩ = some (.int .i64 0) := by rw [cell_of_row _ _ 6 _ _ _ K1]; rfl
  have z6 := frozen_of_row _ _ 6 _ _ K1
  have d7 : V.cell? ⟨p, 7, none⟩ = some (.int .i64 0) := by rw [cell_of_row _ _ 7 _ _ _ K1]; rfl
  have z7 := frozen_of_row _ _ 7 _ _ K1
  have d8 : V.cell? ⟨p, 8, none⟩ = some (.int .i64 0) := by rw [cell_of_row _ _ 8 _ _ _ K1]; rfl
  have z8 := frozen_of_row _ _ 8 _ _ K1
  have d9 : V.cell? ⟨p, 9, none⟩ = some (.int .i64 0) := by rw [cell_of_row _ _ 9 _ _ _ K1]; rfl
  have z9 := frozen_of_row _ _ 9 _ _ K1
  clear H1 K1
  go_wp2
  have kz := (heap_setCell_same _ p 9 _ _ (.int .i64 0) (heap_setCell_same _ p 8 _ _ (.int .i64 0) (heap_setCell_same _ p 7 _ _ (.int .i64 0) (heap_setCell_same _ p 6 _ _ (.int .i64 0) (heap_setCell_same _ p 5 _ _ (.int .i64 0) (heap_setCell_same _ p 4 _ _ (.int .i64 0) (heap_setCell_same _ p 3 _ _ (.int .i64 0) (heap_setCell_same _ p 2 _ _ (.int .i64 0) (heap_setCell_same _ p 1 _ _ (.int .i64 0) (heap_setCell_same _ p 0 _ _ (.int .i64 0) HK.out))))))))))
  simp only [List.setIfInBounds_toArray, List.set_cons_zero, List.set_cons_succ] at kz
  have y0 := cell_of_row _ _ 0 _ _ _ kz
  simp at y0
  have y1 := cell_of_row _ _ 1 _ _ _ kz
  simp at y1
  have y2 := cell_of_row _ _ 2 _ _ _ kz
  simp at y2
  have y3 := cell_of_row _ _ 3 _ _ _ kz
  simp at y3
  have y4 := cell_of_row _ _ 4 _ _ _ kz
  simp at y4
  have y5 := cell_of_row _ _ 5 _ _ _ kz
  simp at y5
  have y6 := cell_of_row _ _ 6 _ _ _ kz
  simp at y6
  have y7 := cell_of_row _ _ 7 _ _ _ kz
  simp at y7
  have y8 := cell_of_row _ _ 8 _ _ _ kz
  simp at y8
  have y9 := cell_of_row _ _ 9 _ _ _ kz
  simp at y9
  refine bodyPost_ret (v := .agg #[.int .i64 0, .int .i64 0, .int .i64 0, .int .i64 0, .int .i64 0, .int .i64 0, .int .i64 0, .int .i64 0, .int .i64 0, .int .i64 0]) (by simp [results, Tryz.results16, go_sem, y0, y1, y2, y3, y4, y5, y6, y7, y8, y9]) rfl ⟨rfl, ?_⟩
  exact ((((((((((B1.out.setCell (p := ⟨p, 0, none⟩) (by show w.heap.size ≤ p; rw [HP.out]; exact Nat.le_refl _) (.int .i64 0)).setCell (p := ⟨p, 1, none⟩) (by show w.heap.size ≤ p; rw [HP.out]; exact Nat.le_refl _) (.int .i64 0)).setCell (p := ⟨p, 2, none⟩) (by show w.heap.size ≤ p; rw [HP.out]; exact Nat.le_refl _) (.int .i64 0)).setCell (p := ⟨p, 3, none⟩) (by show w.heap.size ≤ p; rw [HP.out]; exact Nat.le_refl _) (.int .i64 0)).setCell (p := ⟨p, 4, none⟩) (by show w.heap.size ≤ p; rw [HP.out]; exact Nat.le_refl _) (.int .i64 0)).setCell (p := ⟨p, 5, none⟩) (by show w.heap.size ≤ p; rw [HP.out]; exact Nat.le_refl _) (.int .i64 0)).setCell (p := ⟨p, 6, none⟩) (by show w.heap.size ≤ p; rw [HP.out]; exact Nat.le_refl _) (.int .i64 0)).setCell (p := ⟨p, 7, none⟩) (by show w.heap.size ≤ p; rw [HP.out]; exact Nat.le_refl _) (.int .i64 0)).setCell (p := ⟨p, 8, none⟩) (by show w.heap.size ≤ p; rw [HP.out]; exact Nat.le_refl _) (.int .i64 0)).setCell (p := ⟨p, 9, none⟩) (by show w.heap.size ≤ p; rw [HP.out]; exact Nat.le_refl _) (.int .i64 0))
set_option maxHeartbeats 3200000 in
set_option maxRecDepth 100000 in
theorem countR {w : World} {nb db dd : Nat} {b l t r : Int} (h : w.heap[nb]? = some (.cells #[.int .i64 b, .int .i64 l, .int .i64 t, .int .i64 r, .pointer (some ⟨db, 0, none⟩), .pointer (some ⟨dd, 0, none⟩), .int .i64 1, .int .i64 0, .int .i64 0, .int .i64 0, .int .i64 0, .int .i64 0, .int .i64 0, .int .i64 0, .int .i64 0, .int .i64 0, .int .i64 0] 53 (0, 0))) :
    Calls Tryz.prog 17 #[.pointer (some ⟨nb, 0, none⟩)] w fun e w' => e = .returned (.agg #[.int .i64 0, .int .i64 0, .int .i64 0, .int .i64 0, .int .i64 0, .int .i64 0, .int .i64 0, .int .i64 0, .int .i64 0, .int .i64 0]) ∧ Below w.heap.size w w' := by
  have H1 := blk_on h (bnew w (.cells #[.int .i64 0, .int .i64 0, .int .i64 0, .int .i64 0, .int .i64 0, .int .i64 0, .int .i64 0, .int .i64 0, .int .i64 0, .int .i64 0] 39))
  have K1 := heap_alloc_new w (.cells #[.int .i64 0, .int .i64 0, .int .i64 0, .int .i64 0, .int .i64 0, .int .i64 0, .int .i64 0, .int .i64 0, .int .i64 0, .int .i64 0] 39)
  obtain ⟨p, hp⟩ : ∃ p, w.heap.size = p := ⟨_, rfl⟩
  have B1 := aside (bnew w (.cells #[.int .i64 0, .int .i64 0, .int .i64 0, .int .i64 0, .int .i64 0, .int .i64 0, .int .i64 0, .int .i64 0, .int .i64 0, .int .i64 0] 39))
  have HP := aside hp
  clear h
  go_enter Tryz.func17, Tryz.ntmps17
  go_upto_region 1 with fail
  rw [hp] at K1
  obtain ⟨V, hV⟩ : ∃ V, w.alloc (.cells #[.int .i64 0, .int .i64 0, .int .i64 0, .int .i64 0, .int .i64 0, .int .i64 0, .int .i64 0, .int .i64 0, .int .i64 0, .int .i64 0] 39) = V := ⟨_, rfl⟩
  rw [hV] at H1 K1 B1 ⊢
  clear hV hp
  have HK := aside K1
  have c0 : V.cell? ⟨nb, 7, none⟩ = some (.int .i64 0) := by rw [cell_of_row _ _ 7 _ _ _ H1]; rfl
  have c1 : V.cell? ⟨nb, 8, none⟩ = some (.int .i64 0) := by rw [cell_of_row _ _ 8 _ _ _ H1]; rfl
  have c2 : V.cell? ⟨nb, 9, none⟩ = some (.int .i64 0) := by rw [cell_of_row _ _ 9 _ _ _ H1]; rfl
  have c3 : V.cell? ⟨nb, 10, none⟩ = some (.int .i64 0) := by rw [cell_of_row _ _ 10 _ _ _ H1]; rfl
  have c4 : V.cell? ⟨nb, 11, none⟩ = some (.int .i64 0) := by rw [cell_of_row _ _ 11 _ _ _ H1]; rfl
  have c5 : V.cell? ⟨nb, 12, none⟩ = some (.int .i64 0) := by rw [cell_of_row _ _ 12 _ _ _ H1]; rfl
  have c6 : V.cell? ⟨nb, 13, none⟩ = some (.int .i64 0) := by rw [cell_of_row _ _ 13 _ _ _ H1]; rfl
  have c7 : V.cell? ⟨nb, 14, none⟩ = some (.int .i64 0) := by rw [cell_of_row _ _ 14 _ _ _ H1]; rfl
  have c8 : V.cell? ⟨nb, 15, none⟩ = some (.int .i64 0) := by rw [cell_of_row _ _ 15 _ _ _ H1]; rfl
  have c9 : V.cell? ⟨nb, 16, none⟩ = some (.int .i64 0) := by rw [cell_of_row _ _ 16 _ _ _ H1]; rfl
  have d0 : V.cell? ⟨p, 0, none⟩ = some (.int .i64 0) := by rw [cell_of_row _ _ 0 _ _ _ K1]; rfl
  have z0 := frozen_of_row _ _ 0 _ _ K1
  have d1 : V.cell? ⟨p, 1, none⟩ = some (.int .i64 0) := by rw [cell_of_row _ _ 1 _ _ _ K1]; rfl
  have z1 := frozen_of_row _ _ 1 _ _ K1
  have d2 : V.cell? ⟨p, 2, none⟩ = some (.int .i64 0) := by rw [cell_of_row _ _ 2 _ _ _ K1]; rfl
  have z2 := frozen_of_row _ _ 2 _ _ K1
  have d3 : V.cell? ⟨p, 3, none⟩ = some (.int .i64 0) := by rw [cell_of_row _ _ 3 _ _ _ K1]; rfl
  have z3 := frozen_of_row _ _ 3 _ _ K1
  have d4 : V.cell? ⟨p, 4, none⟩ = some (.int .i64 0) := by rw [cell_of_row _ _ 4 _ _ _ K1]; rfl
  have z4 := frozen_of_row _ _ 4 _ _ K1
  have d5 : V.cell? ⟨p, 5, none⟩ = some (.int .i64 0) := by rw [cell_of_row _ _ 5 _ _ _ K1]; rfl
  have z5 := frozen_of_row _ _ 5 _ _ K1
  have d6 : V.cell? ⟨p, 6, none⟩ = some (.int .i64 0) := by rw [cell_of_row _ _ 6 _ _ _ K1]; rfl
  have z6 := frozen_of_row _ _ 6 _ _ K1
  have d7 : V.cell? ⟨p, 7, none⟩ = some (.int .i64 0) := by rw [cell_of_row _ _ 7 _ _ _ K1]; rfl
  have z7 := frozen_of_row _ _ 7 _ _ K1
  have d8 : V.cell? ⟨p, 8, none⟩ = some (.int .i64 0) := by rw [cell_of_row _ _ 8 _ _ _ K1]; rfl
  have z8 := frozen_of_row _ _ 8 _ _ K1
  have d9 : V.cell? ⟨p, 9, none⟩ = some (.int .i64 0) := by rw [cell_of_row _ _ 9 _ _ _ K1]; rfl
  have z9 := frozen_of_row _ _ 9 _ _ K1
  clear H1 K1
  go_wp2
  have kz := (heap_setCell_same _ p 9 _ _ (.int .i64 0) (heap_setCell_same _ p 8 _ _ (.int .i64 0) (heap_setCell_same _ p 7 _ _ (.int .i64 0) (heap_setCell_same _ p 6 _ _ (.int .i64 0) (heap_setCell_same _ p 5 _ _ (.int .i64 0) (heap_setCell_same _ p 4 _ _ (.int .i64 0) (heap_setCell_same _ p 3 _ _ (.int .i64 0) (heap_setCell_same _ p 2 _ _ (.int .i64 0) (heap_setCell_same _ p 1 _ _ (.int .i64 0) (heap_setCell_same _ p 0 _ _ (.int .i64 0) HK.out))))))))))
  simp only [List.setIfInBounds_toArray, List.set_cons_zero, List.set_cons_succ] at kz
  have y0 := cell_of_row _ _ 0 _ _ _ kz
  simp at y0
  have y1 := cell_of_row _ _ 1 _ _ _ kz
  simp at y1
  have y2 := cell_of_row _ _ 2 _ _ _ kz
  simp at y2
  have y3 := cell_of_row _ _ 3 _ _ _ kz
  simp at y3
  have y4 := cell_of_row _ _ 4 _ _ _ kz
  simp at y4
  have y5 := cell_of_row _ _ 5 _ _ _ kz
  simp at y5
  have y6 := cell_of_row _ _ 6 _ _ _ kz
  simp at y6
  have y7 := cell_of_row _ _ 7 _ _ _ kz
  simp at y7
  have y8 := cell_of_row _ _ 8 _ _ _ kz
  simp at y8
  have y9 := cell_of_row _ _ 9 _ _ _ kz
  simp at y9
  refine bodyPost_ret (v := .agg #[.int .i64 0, .int .i64 0, .int .i64 0, .int .i64 0, .int .i64 0, .int .i64 0, .int .i64 0, .int .i64 0, .int .i64 0, .int .i64 0]) (by simp [results, Tryz.results17, go_sem, y0, y1, y2, y3, y4, y5, y6, y7, y8, y9]) rfl ⟨rfl, ?_⟩
  exact ((((((((((B1.out.setCell (p := ⟨p, 0, none⟩) (by show w.heap.size ≤ p; rw [HP.out]; exact Nat.le_refl _) (.int .i64 0)).setCell (p := ⟨p, 1, none⟩) (by show w.heap.size ≤ p; rw [HP.out]; exact Nat.le_refl _) (.int .i64 0)).setCell (p := ⟨p, 2, none⟩) (by show w.heap.size ≤ p; rw [HP.out]; exact Nat.le_refl _) (.int .i64 0)).setCell (p := ⟨p, 3, none⟩) (by show w.heap.size ≤ p; rw [HP.out]; exact Nat.le_refl _) (.int .i64 0)).setCell (p := ⟨p, 4, none⟩) (by show w.heap.size ≤ p; rw [HP.out]; exact Nat.le_refl _) (.int .i64 0)).setCell (p := ⟨p, 5, none⟩) (by show w.heap.size ≤ p; rw [HP.out]; exact Nat.le_refl _) (.int .i64 0)).setCell (p := ⟨p, 6, none⟩) (by show w.heap.size ≤ p; rw [HP.out]; exact Nat.le_refl _) (.int .i64 0)).setCell (p := ⟨p, 7, none⟩) (by show w.heap.size ≤ p; rw [HP.out]; exact Nat.le_refl _) (.int .i64 0)).setCell (p := ⟨p, 8, none⟩) (by show w.heap.size ≤ p; rw [HP.out]; exact Nat.le_refl _) (.int .i64 0)).setCell (p := ⟨p, 9, none⟩) (by show w.heap.size ≤ p; rw [HP.out]; exact Nat.le_refl _) (.int .i64 0))
set_option maxHeartbeats 3200000 in
set_option maxRecDepth 100000 in
theorem dtalksC {w : World} {nb sb : Nat} {b l t r : Int} {m q : Value} (h : w.heap[nb]? = some (.cells #[.pointer (some ⟨sb, 0, none⟩), .int .i64 b, .int .i64 l, .int .i64 t, .int .i64 r, .int .i64 1, .int .i64 0, .int .i64 0, .slice none 0 0, m, q, .int .i64 0, .int .i64 0, .int .i64 0, .int .i64 0, .int .i64 0, .int .i64 0, .int .i64 0, .int .i64 0, .int .i64 0, .int .i64 0, .int .i64 0, .int .i64 0, .int .i64 0, .int .i64 0, .int .i64 0, .int .i64 0, .int .i64 0, .int .i64 0, .int .i64 0, .int .i64 0, .int .i64 0, .int .i64 0, .int .i64 0, .int .i64 0] 100 (0, 0))) :
    Calls Tryz.prog 26 #[.pointer (some ⟨nb, 0, none⟩)] w fun e w' => e = .returned (.slice none 0 0) ∧ Below w.heap.size w w' := by
  have c8 : w.cell? ⟨nb, 8, none⟩ = some (.slice none 0 0) := by rw [cell_of_row _ _ 8 _ _ _ h]; rfl
  clear h
  go_enter Tryz.func26, Tryz.ntmps26
  go_wp2
  go_loopw [3, 11] (fun v i wr => v = .slice none 0 0 ∧ i = .int .i64 0 ∧ wr = w) (fun _ _ _ => 0)
  case atStart => exact ⟨rfl, rfl, rfl⟩
  case round =>
    obtain ⟨rfl, rfl, rfl⟩ := hrel
    go_wp2
    go_ret
    exact ⟨rfl, Below.refl _ _⟩
set_option maxHeartbeats 3200000 in
set_option maxRecDepth 100000 in
theorem dtalksR {w : World} {nb db : Nat} {b l t r : Int} (h : w.heap[nb]? = some (.cells #[.pointer (some ⟨db, 0, none⟩), .int .i64 b, .int .i64 l, .int .i64 t, .int .i64 r, .int .i64 1, .int .i64 0, .int .i64 0, .slice none 0 0, .slice none 0 0] 72 (0, 0))) :
    Calls Tryz.prog 27 #[.pointer (some ⟨nb, 0, none⟩)] w fun e w' => e = .returned (.slice none 0 0) ∧ Below w.heap.size w w' := by
  have c8 : w.cell? ⟨nb, 8, none⟩ = some (.slice none 0 0) := by rw [cell_of_row _ _ 8 _ _ _ h]; rfl
  clear h
  go_enter Tryz.func27, Tryz.ntmps27
  go_wp2
  go_loopw [3, 11] (fun v i wr => v = .slice none 0 0 ∧ i = .int .i64 0 ∧ wr = w) (fun _ _ _ => 0)
  case atStart => exact ⟨rfl, rfl, rfl⟩
  case round =>
    obtain ⟨rfl, rfl, rfl⟩ := hrel
    go_wp2
    go_ret
    exact ⟨rfl, Below.refl _ _⟩
set_option maxHeartbeats 3200000 in
set_option maxRecDepth 100000 in
theorem sameT0 (w : World) :
    Calls Tryz.prog 18 #[.slice none 0 0, .slice none 0 0] w fun e w' => e = .returned (.bool true) ∧ Below w.heap.size w w' := by
  go_enter Tryz.func18, Tryz.ntmps18
  go_wp2
  go_loopw [5] (fun i wr => i = .int .i64 0 ∧ wr = w) (fun _ _ => 0)
  case atStart => exact ⟨rfl, rfl⟩
  case round =>
    obtain ⟨rfl, rfl⟩ := hrel
    go_wp2
    go_ret
    exact ⟨rfl, Below.refl _ _⟩
set_option maxHeartbeats 3200000 in
set_option maxRecDepth 100000 in
theorem sameE0 (a a2 : Option Addr) (c c2 : Nat) (w : World) :
    Calls Tryz.prog 21 #[.slice a 0 c, .slice a2 0 c2] w fun e w' => e = .returned (.bool true) ∧ Below w.heap.size w w' := by
  go_enter Tryz.func21, Tryz.ntmps21
  go_wp2
  go_loopw [5] (fun i wr => i = .int .i64 0 ∧ wr = w) (fun _ _ => 0)
  case atStart => exact ⟨rfl, rfl⟩
  case round =>
    obtain ⟨rfl, rfl⟩ := hrel
    go_wp2
    go_ret
    exact ⟨rfl, Below.refl _ _⟩
set_option maxHeartbeats 3200000 in
set_option maxRecDepth 100000 in
theorem talksC {w : World} {nb sb d : Nat} {b l t r : Int} (h : w.heap[nb]? = some (.cells #[.int .i64 b, .int .i64 l, .int .i64 t, .int .i64 r, .int .i64 1, .int .i64 0, .int .i64 0, .int .i64 0, .int .i64 0, .int .i64 0, .int .i64 0, .int .i64 0, .int .i64 0, .int .i64 0, .int .i64 0, .pointer (some ⟨sb, 0, none⟩), .pointer (some ⟨d, 0, none⟩), .slice none 0 0, .int .i64 0] 45 (0, 0))) (hd : DeskAt w d sb b l t r) :
    Calls Tryz.prog 19 #[.pointer (some ⟨nb, 0, none⟩)] w fun e w' => e = .returned (.slice none 0 0) ∧ Below w.heap.size w w' := by
  have H := aside h
  have HD := aside hd
  have CU := aside (upC h)
  clear h hd
  go_enter Tryz.func19, Tryz.ntmps19
  go_wp2_with fail
  refine CU.out.mono ?_
  rintro e w1 ⟨rfl, b1⟩
  have H1 := blk_on H.out b1
  have c16 : w1.cell? ⟨nb, 16, none⟩ = some (.pointer (some ⟨d, 0, none⟩)) := by rw [cell_of_row _ _ 16 _ _ _ H1]; rfl
  have CT := aside (by obtain ⟨m, q, h9⟩ := HD.out.on b1; exact dtalksC h9)
  have B1 := aside b1
  clear b1 H1 CU
  go_wp2_with fail
  refine CT.out.mono ?_
  rintro e w2 ⟨rfl, b2⟩
  have B2 := aside (bthen B1.out b2)
  clear b2 CT
  go_wp2
  go_ret
  exact ⟨rfl, B2.out⟩
set_option maxHeartbeats 3200000 in
set_option maxRecDepth 100000 in
theorem talksR {w : World} {nb db dd : Nat} {b l t r : Int} (h : w.heap[nb]? = some (.cells #[.int .i64 b, .int .i64 l, .int .i64 t, .int .i64 r, .pointer (some ⟨db, 0, none⟩), .pointer (some ⟨dd, 0, none⟩), .int .i64 1, .int .i64 0, .int .i64 0, .int .i64 0, .int .i64 0, .int .i64 0, .int .i64 0, .int .i64 0, .int .i64 0, .int .i64 0, .int .i64 0] 53 (0, 0))) (hd : w.heap[dd]? = some (.cells #[.pointer (some ⟨db, 0, none⟩), .int .i64 b, .int .i64 l, .int .i64 t, .int .i64 r, .int .i64 1, .int .i64 0, .int .i64 0, .slice none 0 0, .slice none 0 0] 72 (0, 0))) :
    Calls Tryz.prog 20 #[.pointer (some ⟨nb, 0, none⟩)] w fun e w' => e = .returned (.slice none 0 0) ∧ Below w.heap.size w w' := by
  have c5 : w.cell? ⟨nb, 5, none⟩ = some (.pointer (some ⟨dd, 0, none⟩)) := by rw [cell_of_row _ _ 5 _ _ _ h]; rfl
  have CT := aside (dtalksR hd)
  clear h hd
  go_enter Tryz.func20, Tryz.ntmps20
  go_wp2_with fail
  refine CT.out.mono ?_
  rintro e w2 ⟨rfl, b2⟩
  have B2 := aside b2
  clear b2 CT
  go_wp2
  go_ret
  exact ⟨rfl, B2.out⟩
set_option maxHeartbeats 3200000 in
set_option maxRecDepth 100000 in
theorem collectN {w : World} {lb : Array Value} {es : List En} (hs : SeqE w lb es) :
    Calls Tryz.prog 30 #[.func (.func 64) #[] lb] w fun r w' => ∃ v, r = .returned v ∧ w'.ownsRow w.heap.size 80 5 v es.length (entCells es) ∧ Below w.heap.size w w' := by
  have C := aside (appendSeq_any hs)
  clear hs
  go_enter Tryz.func30, Tryz.ntmps30
  go_wp2_with fail
  refine C.out.mono ?_
  rintro e w1 ⟨v, rfl, ho, b1⟩
  have HO := aside ho
  have B1 := aside b1
  clear ho b1 C
  go_wp2
  go_ret
  exact ⟨v, rfl, HO.out, B1.out⟩
theorem own_none {w : World} {B : Nat} {v : Value} {xs : List Value} {T : TypeId} {s n : Nat} (h : w.ownsRow B T s v n xs) (hn : n = 0) : ∃ a c, v = .slice a 0 c := by
  subst hn
  rcases h.2 with ⟨h1, _⟩ | ⟨g, cap, cur, h1, _⟩
  · exact ⟨_, _, h1⟩
  · exact ⟨_, _, h1⟩
set_option maxHeartbeats 3200000 in
set_option maxRecDepth 100000 in
theorem mapC {w : World} {nb sb d : Nat} {b l t r : Int} (h : w.heap[nb]? = some (.cells #[.int .i64 b, .int .i64 l, .int .i64 t, .int .i64 r, .int .i64 1, .int .i64 0, .int .i64 0, .int .i64 0, .int .i64 0, .int .i64 0, .int .i64 0, .int .i64 0, .int .i64 0, .int .i64 0, .int .i64 0, .pointer (some ⟨sb, 0, none⟩), .pointer (some ⟨d, 0, none⟩), .slice none 0 0, .int .i64 0] 45 (0, 0))) {g tb : Nat} {nd : Int} (hs : Sto w sb g tb nd 0 []) :
    Calls Tryz.prog 22 #[.pointer (some ⟨nb, 0, none⟩)] w fun e w' => (∃ a c, e = .returned (.slice a 0 c)) ∧ Below w.heap.size w w' := by
  have H := aside h
  have HS := aside hs
  have CU := aside (upC h)
  have c15 : w.cell? ⟨nb, 15, none⟩ = some (.pointer (some ⟨sb, 0, none⟩)) := by rw [cell_of_row _ _ 15 _ _ _ h]; rfl
  clear h hs
  go_enter Tryz.func22, Tryz.ntmps22
  go_wp2_with fail
  refine CU.out.mono ?_
  rintro e w1 ⟨rfl, b1⟩
  have CA := aside (qall ⟨#[]⟩ ⟨#[]⟩ true (HS.out.below b1) (by simp))
  have B1 := aside b1
  clear b1 CU c15
  go_wp2_with fail
  refine CA.out.mono ?_
  rintro e w2 ⟨b2, ⟨h0, -⟩ | ⟨-, lb, rfl, hsq⟩⟩
  · exact absurd chk_whole h0
  have C2 := aside (collectN hsq)
  have B2 := aside (bthen B1.out b2)
  clear b2 hsq CA
  go_wp2_with fail
  refine C2.out.mono ?_
  rintro e w3 ⟨v, rfl, ho, b3⟩
  have HO := aside ho
  have B3 := aside (bthen B2.out b3)
  clear ho b3 C2
  go_wp2
  go_ret
  obtain ⟨a, c, rfl⟩ := own_none HO.out (by simp [thruL])
  exact ⟨⟨a, c, rfl⟩, B3.out⟩
set_option maxHeartbeats 3200000 in
set_option maxRecDepth 100000 in
theorem mapR {w : World} {nb db dd : Nat} {b l t r : Int} (h : w.heap[nb]? = some (.cells #[.int .i64 b, .int .i64 l, .int .i64 t, .int .i64 r, .pointer (some ⟨db, 0, none⟩), .pointer (some ⟨dd, 0, none⟩), .int .i64 1, .int .i64 0, .int .i64 0, .int .i64 0, .int .i64 0, .int .i64 0, .int .i64 0, .int .i64 0, .int .i64 0, .int .i64 0, .int .i64 0] 53 (0, 0))) {B : Nat} {nd : Int} (hs : DSt w B db nd 0 []) :
    Calls Tryz.prog 23 #[.pointer (some ⟨nb, 0, none⟩)] w fun e w' => (∃ a c, e = .returned (.slice a 0 c)) ∧ Below w.heap.size w w' := by
  have CA := aside (rallS ⟨#[]⟩ ⟨#[]⟩ true hs MapL.nil (by simp))
  have c4 : w.cell? ⟨nb, 4, none⟩ = some (.pointer (some ⟨db, 0, none⟩)) := by rw [cell_of_row _ _ 4 _ _ _ h]; rfl
  clear h hs
  go_enter Tryz.func23, Tryz.ntmps23
  go_wp2_with fail
  refine CA.out.mono ?_
  rintro e w1 ⟨b1, v, rfl, ho⟩
  have HO := aside ho
  have B1 := aside b1
  clear ho b1 CA
  go_wp2
  go_ret
  obtain ⟨a, c, rfl⟩ := own_none HO.out (by simp [outL, inL])
  exact ⟨⟨a, c, rfl⟩, B1.out⟩
set_option maxHeartbeats 3200000 in
set_option maxRecDepth 100000 in
set_option maxHeartbeats 3200000 in
set_option maxRecDepth 100000 in
theorem cnt_same (w : World) : (binOp .eql 39 (.agg #[.int .i64 0, .int .i64 0, .int .i64 0, .int .i64 0, .int .i64 0, .int .i64 0, .int .i64 0, .int .i64 0, .int .i64 0, .int .i64 0]) (.agg #[.int .i64 0, .int .i64 0, .int .i64 0, .int .i64 0, .int .i64 0, .int .i64 0, .int .i64 0, .int .i64 0, .int .i64 0, .int .i64 0])).run Tryz.prog w = .ok (.bool true) w := by kernel_rfl
set_option maxHeartbeats 3200000 in
set_option maxRecDepth 100000 in
theorem looks_any {w : World} {nb sb d : Nat} {b l t r : Int} (h : w.heap[nb]? = some (.cells #[.int .i64 b, .int .i64 l, .int .i64 t, .int .i64 r, .int .i64 1, .int .i64 0, .int .i64 0, .int .i64 0, .int .i64 0, .int .i64 0, .int .i64 0, .int .i64 0, .int .i64 0, .int .i64 0, .int .i64 0, .pointer (some ⟨sb, 0, none⟩), .pointer (some ⟨d, 0, none⟩), .slice none 0 0, .int .i64 0] 45 (0, 0))) {g tb rb db dd B : Nat} {nd : Int} (hs : Sto w sb g tb nd 0 []) (hd : DeskAt w d sb b l t r) (h2 : w.heap[rb]? = some (.cells #[.int .i64 b, .int .i64 l, .int .i64 t, .int .i64 r, .pointer (some ⟨db, 0, none⟩), .pointer (some ⟨dd, 0, none⟩), .int .i64 1, .int .i64 0, .int .i64 0, .int .i64 0, .int .i64 0, .int .i64 0, .int .i64 0, .int .i64 0, .int .i64 0, .int .i64 0, .int .i64 0] 53 (0, 0))) (hs2 : DSt w B db nd 0 []) (hd2 : w.heap[dd]? = some (.cells #[.pointer (some ⟨db, 0, none⟩), .int .i64 b, .int .i64 l, .int .i64 t, .int .i64 r, .int .i64 1, .int .i64 0, .int .i64 0, .slice none 0 0, .slice none 0 0] 72 (0, 0))) :
    Calls Tryz.prog 6 #[.agg #[.pointer (some ⟨nb, 0, none⟩), .pointer (some ⟨rb, 0, none⟩)]] w fun e w' => e = .returned (.bool true) ∧ Below w.heap.size w w' := by
  have B0 := bnew w (.cells #[.pointer (some ⟨nb, 0, none⟩), .pointer (some ⟨rb, 0, none⟩)] 32)
  have K0 := aside (heap_alloc_new w (.cells #[.pointer (some ⟨nb, 0, none⟩), .pointer (some ⟨rb, 0, none⟩)] 32))
  obtain ⟨w0, hw0⟩ : ∃ w0, w.alloc (.cells #[.pointer (some ⟨nb, 0, none⟩), .pointer (some ⟨rb, 0, none⟩)] 32) = w0 := ⟨_, rfl⟩
  have HW0 := aside hw0
  rw [hw0] at B0 K0
  have BB := aside B0
  have H := aside (blk_on h B0)
  have HS := aside (hs.below B0)
  have HD := aside (hd.on B0)
  have H2 := aside (blk_on h2 B0)
  have HS2 := aside (hs2.below B0)
  have HD2 := aside (blk_on hd2 B0)
  have CU := aside (fun W (bb : Below w0.heap.size w0 W) => upC (blk_on H.out bb))
  have CU2 := aside (fun W (bb : Below w0.heap.size w0 W) => upR (blk_on H2.out bb))
  have CL := aside (fun W (bb : Below w0.heap.size w0 W) => lifeC (blk_on H.out bb))
  have CL2 := aside (fun W (bb : Below w0.heap.size w0 W) => lifeR (blk_on H2.out bb))
  have CC := aside (fun W (bb : Below w0.heap.size w0 W) => countC (blk_on H.out bb))
  have CC2 := aside (fun W (bb : Below w0.heap.size w0 W) => countR (blk_on H2.out bb))
  have CT := aside (fun W (bb : Below w0.heap.size w0 W) => talksC (blk_on H.out bb) (HD.out.on bb))
  have CT2 := aside (fun W (bb : Below w0.heap.size w0 W) => talksR (blk_on H2.out bb) (blk_on HD2.out bb))
  have CM := aside (fun W (bb : Below w0.heap.size w0 W) => mapC (blk_on H.out bb) (HS.out.below bb))
  have CM2 := aside (fun W (bb : Below w0.heap.size w0 W) => mapR (blk_on H2.out bb) (HS2.out.below bb))
  have SX := aside (fun (W : World) (bb : Below w0.heap.size w0 W) => (show (fun W => (W.cell? ⟨w.heap.size, 0, none⟩ = some (.pointer (some ⟨nb, 0, none⟩)) ∧ W.cell? ⟨w.heap.size, 1, none⟩ = some (.pointer (some ⟨rb, 0, none⟩))) ∧ Below w0.heap.size w0 W) W from by
    have h9 := blk_on K0.out bb
    exact ⟨⟨by rw [cell_of_row _ _ 0 _ _ _ h9]; rfl, by rw [cell_of_row _ _ 1 _ _ _ h9]; rfl⟩, bb⟩))
  clear h hs hd h2 hs2 hd2 B0 hw0
  have hce := cnt_same
  go_enter Tryz.func6, Tryz.ntmps6
  go_upto_region 1 with fail
  rw [HW0.out]
  go_wp2_with fail
  refine wp_region_held_drew (S := fun W => (W.cell? ⟨w.heap.size, 0, none⟩ = some (.pointer (some ⟨nb, 0, none⟩)) ∧ W.cell? ⟨w.heap.size, 1, none⟩ = some (.pointer (some ⟨rb, 0, none⟩))) ∧ Below w0.heap.size w0 W) (by kernel_rfl) (SX.out _ (Below.refl _ w0).drew) (fun hHeld => ?_)
  refine wpAnyH_take (i := 0) (v := ?_) rfl (by kernel_rfl) (by kernel_rfl) (by kernel_rfl) (fun _ _ _ h => h) (Or.inl ⟨by rfl, ?_⟩) (by assumption) ?_
  rotate_left
  · intro w hSw
    go_simp
    try with_reducible rfl
  simp only [Act.put, List.getElem_toArray, List.getElem_cons_zero, List.setIfInBounds_toArray, List.set_cons_zero, List.set_cons_succ]
  refine wpAnyH_take (i := 1) (v := ?_) rfl (by kernel_rfl) (by kernel_rfl) (by kernel_rfl) (fun _ _ _ h => h) (Or.inl ⟨by rfl, ?_⟩) (by assumption) ?_
  rotate_left
  · intro w hSw
    go_simp
    try with_reducible rfl
  simp only [Act.put, List.getElem_toArray, List.getElem_cons_zero, List.getElem_cons_succ, List.setIfInBounds_toArray, List.set_cons_zero, List.set_cons_succ]
  refine wpAnyH_take (i := 3) (v := ?_) rfl (by kernel_rfl) (by kernel_rfl) (by kernel_rfl) (fun _ _ _ h => h) (Or.inl ⟨by rfl, ?_⟩) (by assumption) ?_
  rotate_left
  · intro w hSw
    go_simp
    try with_reducible rfl
  simp only [Act.put, List.getElem_toArray, List.getElem_cons_zero, List.getElem_cons_succ, List.setIfInBounds_toArray, List.set_cons_zero, List.set_cons_succ]
  refine wpAnyH_take (i := 4) (v := ?_) rfl (by kernel_rfl) (by kernel_rfl) (by kernel_rfl) (fun _ _ _ h => h) (Or.inl ⟨by rfl, ?_⟩) (by assumption) ?_
  rotate_left
  · intro w hSw
    go_simp
    try with_reducible rfl
  simp only [Act.put, List.getElem_toArray, List.getElem_cons_zero, List.getElem_cons_succ, List.setIfInBounds_toArray, List.set_cons_zero, List.set_cons_succ]
  refine wpAnyH_ready (rs := [2]) (by kernel_rfl) (by simp) ?_
  refine AllReadyH.cons rfl (fun K hK => ?_) AllReadyH.nil
  go_simp
  refine (CU.out _ hHeld.2).mono ?_
  rintro e w9 ⟨rfl, bb⟩
  refine hK.out _ _ (SX.out _ (bthen hHeld.2 bb)) (fun hHeld => ?_)
  clear hK K bb
  refine wpAnyH_ready (rs := [5]) (by kernel_rfl) (by simp) ?_
  refine AllReadyH.cons rfl (fun K hK => ?_) AllReadyH.nil
  go_simp
  refine (CU2.out _ hHeld.2).mono ?_
  rintro e w9 ⟨rfl, bb⟩
  refine hK.out _ _ (SX.out _ (bthen hHeld.2 bb)) (fun hHeld => ?_)
  clear hK K bb
  refine wpAnyH_take (i := 6) (v := ?_) rfl (by kernel_rfl) (by kernel_rfl) (by kernel_rfl) (fun _ _ _ h => h) (Or.inl ⟨by rfl, ?_⟩) (by assumption) ?_
  rotate_left
  · intro w hSw
    go_simp
    try with_reducible rfl
  simp only [Act.put, List.getElem_toArray, List.getElem_cons_zero, List.getElem_cons_succ, List.setIfInBounds_toArray, List.set_cons_zero, List.set_cons_succ]
  refine wpAnyH_take (i := 7) (v := ?_) rfl (by kernel_rfl) (by kernel_rfl) (by kernel_rfl) (fun _ _ _ h => h) (Or.inl ⟨by rfl, ?_⟩) (by assumption) ?_
  rotate_left
  · intro w hSw
    go_simp
    try with_reducible rfl
  simp only [Act.put, List.getElem_toArray, List.getElem_cons_zero, List.getElem_cons_succ, List.setIfInBounds_toArray, List.set_cons_zero, List.set_cons_succ]
  refine wpAnyH_take (i := 8) (v := ?_) rfl (by kernel_rfl) (by kernel_rfl) (by kernel_rfl) (fun _ _ _ h => h) (Or.inl ⟨by rfl, ?_⟩) (by assumption) ?_
  rotate_left
  · intro w hSw
    go_simp
    try with_reducible rfl
  simp only [Act.put, List.getElem_toArray, List.getElem_cons_zero, List.getElem_cons_succ, List.setIfInBounds_toArray, List.set_cons_zero, List.set_cons_succ]
  refine wpAnyH_take (i := 9) (v := ?_) rfl (by kernel_rfl) (by kernel_rfl) (by kernel_rfl) (fun _ _ _ h => h) (Or.inl ⟨by rfl, ?_⟩) (by assumption) ?_
  rotate_left
  · intro w hSw
    go_simp
    try with_reducible rfl
  simp only [Act.put, List.getElem_toArray, List.getElem_cons_zero, List.getElem_cons_succ, List.setIfInBounds_toArray, List.set_cons_zero, List.set_cons_succ]
  refine wpAnyH_take (i := 11) (v := ?_) rfl (by kernel_rfl) (by kernel_rfl) (by kernel_rfl) (fun _ _ _ h => h) (Or.inl ⟨by rfl, ?_⟩) (by assumption) ?_
  rotate_left
  · intro w hSw
    go_simp
    try with_reducible rfl
  simp only [Act.put, List.getElem_toArray, List.getElem_cons_zero, List.getElem_cons_succ, List.setIfInBounds_toArray, List.set_cons_zero, List.set_cons_succ]
  refine wpAnyH_take (i := 12) (v := ?_) rfl (by kernel_rfl) (by kernel_rfl) (by kernel_rfl) (fun _ _ _ h => h) (Or.inl ⟨by rfl, ?_⟩) (by assumption) ?_
  rotate_left
  · intro w hSw
    go_simp
    try with_reducible rfl
  simp only [Act.put, List.getElem_toArray, List.getElem_cons_zero, List.getElem_cons_succ, List.setIfInBounds_toArray, List.set_cons_zero, List.set_cons_succ]
  refine wpAnyH_ready (rs := [10]) (by kernel_rfl) (by simp) ?_
  refine AllReadyH.cons rfl (fun K hK => ?_) AllReadyH.nil
  go_simp
  refine (CL.out _ hHeld.2).mono ?_
  rintro e w9 ⟨rfl, bb⟩
  refine hK.out _ _ (SX.out _ (bthen hHeld.2 bb)) (fun hHeld => ?_)
  clear hK K bb
  refine wpAnyH_ready (rs := [13]) (by kernel_rfl) (by simp) ?_
  refine AllReadyH.cons rfl (fun K hK => ?_) AllReadyH.nil
  go_simp
  refine (CL2.out _ hHeld.2).mono ?_
  rintro e w9 ⟨rfl, bb⟩
  refine hK.out _ _ (SX.out _ (bthen hHeld.2 bb)) (fun hHeld => ?_)
  clear hK K bb
  refine wpAnyH_take (i := 14) (v := ?_) rfl (by kernel_rfl) (by kernel_rfl) (by kernel_rfl) (fun _ _ _ h => h) (Or.inl ⟨by rfl, ?_⟩) (by assumption) ?_
  rotate_left
  · intro w hSw
    go_simp
    try with_reducible rfl
  simp only [Act.put, List.getElem_toArray, List.getElem_cons_zero, List.getElem_cons_succ, List.setIfInBounds_toArray, List.set_cons_zero, List.set_cons_succ]
  refine wpAnyH_take (i := 15) (v := ?_) rfl (by kernel_rfl) (by kernel_rfl) (by kernel_rfl) (fun _ _ _ h => h) (Or.inl ⟨by rfl, ?_⟩) (by assumption) ?_
  rotate_left
  · intro w hSw
    go_simp
    try with_reducible rfl
  simp only [Act.put, List.getElem_toArray, List.getElem_cons_zero, List.getElem_cons_succ, List.setIfInBounds_toArray, List.set_cons_zero, List.set_cons_succ]
  refine wpAnyH_take (i := 16) (v := ?_) rfl (by kernel_rfl) (by kernel_rfl) (by kernel_rfl) (fun _ _ _ h => h) (Or.inl ⟨by rfl, ?_⟩) (by assumption) ?_
  rotate_left
  · intro w hSw
    go_simp
    try with_reducible rfl
  simp only [Act.put, List.getElem_toArray, List.getElem_cons_zero, List.getElem_cons_succ, List.setIfInBounds_toArray, List.set_cons_zero, List.set_cons_succ]
  refine wpAnyH_take (i := 17) (v := ?_) rfl (by kernel_rfl) (by kernel_rfl) (by kernel_rfl) (fun _ _ _ h => h) (Or.inl ⟨by rfl, ?_⟩) (by assumption) ?_
  rotate_left
  · intro w hSw
    go_simp
    try with_reducible rfl
  simp only [Act.put, List.getElem_toArray, List.getElem_cons_zero, List.getElem_cons_succ, List.setIfInBounds_toArray, List.set_cons_zero, List.set_cons_succ]
  refine wpAnyH_take (i := 18) (v := ?_) rfl (by kernel_rfl) (by kernel_rfl) (by kernel_rfl) (fun _ _ _ h => h) (Or.inl ⟨by rfl, ?_⟩) (by assumption) ?_
  rotate_left
  · intro w hSw
    go_simp
    try with_reducible rfl
  simp only [Act.put, List.getElem_toArray, List.getElem_cons_zero, List.getElem_cons_succ, List.setIfInBounds_toArray, List.set_cons_zero, List.set_cons_succ]
  refine wpAnyH_take (i := 20) (v := ?_) rfl (by kernel_rfl) (by kernel_rfl) (by kernel_rfl) (fun _ _ _ h => h) (Or.inl ⟨by rfl, ?_⟩) (by assumption) ?_
  rotate_left
  · intro w hSw
    go_simp
    try with_reducible rfl
  simp only [Act.put, List.getElem_toArray, List.getElem_cons_zero, List.getElem_cons_succ, List.setIfInBounds_toArray, List.set_cons_zero, List.set_cons_succ]
  refine wpAnyH_take (i := 21) (v := ?_) rfl (by kernel_rfl) (by kernel_rfl) (by kernel_rfl) (fun _ _ _ h => h) (Or.inl ⟨by rfl, ?_⟩) (by assumption) ?_
  rotate_left
  · intro w hSw
    go_simp
    try with_reducible rfl
  simp only [Act.put, List.getElem_toArray, List.getElem_cons_zero, List.getElem_cons_succ, List.setIfInBounds_toArray, List.set_cons_zero, List.set_cons_succ]
  refine wpAnyH_ready (rs := [19]) (by kernel_rfl) (by simp) ?_
  refine AllReadyH.cons rfl (fun K hK => ?_) AllReadyH.nil
  go_simp
  refine (CC.out _ hHeld.2).mono ?_
  rintro e w9 ⟨rfl, bb⟩
  refine hK.out _ _ (SX.out _ (bthen hHeld.2 bb)) (fun hHeld => ?_)
  clear hK K bb
  refine wpAnyH_ready (rs := [22]) (by kernel_rfl) (by simp) ?_
  refine AllReadyH.cons rfl (fun K hK => ?_) AllReadyH.nil
  go_simp
  refine (CC2.out _ hHeld.2).mono ?_
  rintro e w9 ⟨rfl, bb⟩
  refine hK.out _ _ (SX.out _ (bthen hHeld.2 bb)) (fun hHeld => ?_)
  clear hK K bb
  refine wpAnyH_take (i := 23) (v := .bool true) rfl (by kernel_rfl) (by kernel_rfl) (by kernel_rfl) (fun _ _ _ h => h) (Or.inl ⟨by rfl, ?_⟩) (by assumption) ?_
  · intro w hSw
    go_simp
  simp only [Act.put, List.getElem_toArray, List.getElem_cons_zero, List.getElem_cons_succ, List.setIfInBounds_toArray, List.set_cons_zero, List.set_cons_succ]
  refine wpAnyH_take (i := 24) (v := ?_) rfl (by kernel_rfl) (by kernel_rfl) (by kernel_rfl) (fun _ _ _ h => h) (Or.inl ⟨by rfl, ?_⟩) (by assumption) ?_
  rotate_left
  · intro w hSw
    go_simp
    try with_reducible rfl
  simp only [Act.put, List.getElem_toArray, List.getElem_cons_zero, List.getElem_cons_succ, List.setIfInBounds_toArray, List.set_cons_zero, List.set_cons_succ]
  refine wpAnyH_take (i := 25) (v := ?_) rfl (by kernel_rfl) (by kernel_rfl) (by kernel_rfl) (fun _ _ _ h => h) (Or.inl ⟨by rfl, ?_⟩) (by assumption) ?_
  rotate_left
  · intro w hSw
    go_simp
    try with_reducible rfl
  simp only [Act.put, List.getElem_toArray, List.getElem_cons_zero, List.getElem_cons_succ, List.setIfInBounds_toArray, List.set_cons_zero, List.set_cons_succ]
  refine wpAnyH_take (i := 26) (v := ?_) rfl (by kernel_rfl) (by kernel_rfl) (by kernel_rfl) (fun _ _ _ h => h) (Or.inl ⟨by rfl, ?_⟩) (by assumption) ?_
  rotate_left
  · intro w hSw
    go_simp
    try with_reducible rfl
  simp only [Act.put, List.getElem_toArray, List.getElem_cons_zero, List.getElem_cons_succ, List.setIfInBounds_toArray, List.set_cons_zero, List.set_cons_succ]
  refine wpAnyH_take (i := 27) (v := ?_) rfl (by kernel_rfl) (by kernel_rfl) (by kernel_rfl) (fun _ _ _ h => h) (Or.inl ⟨by rfl, ?_⟩) (by assumption) ?_
  rotate_left
  · intro w hSw
    go_simp
    try with_reducible rfl
  simp only [Act.put, List.getElem_toArray, List.getElem_cons_zero, List.getElem_cons_succ, List.setIfInBounds_toArray, List.set_cons_zero, List.set_cons_succ]
  refine wpAnyH_take (i := 29) (v := ?_) rfl (by kernel_rfl) (by kernel_rfl) (by kernel_rfl) (fun _ _ _ h => h) (Or.inl ⟨by rfl, ?_⟩) (by assumption) ?_
  rotate_left
  · intro w hSw
    go_simp
    try with_reducible rfl
  simp only [Act.put, List.getElem_toArray, List.getElem_cons_zero, List.getElem_cons_succ, List.setIfInBounds_toArray, List.set_cons_zero, List.set_cons_succ]
  refine wpAnyH_take (i := 30) (v := ?_) rfl (by kernel_rfl) (by kernel_rfl) (by kernel_rfl) (fun _ _ _ h => h) (Or.inl ⟨by rfl, ?_⟩) (by assumption) ?_
  rotate_left
  · intro w hSw
    go_simp
    try with_reducible rfl
  simp only [Act.put, List.getElem_toArray, List.getElem_cons_zero, List.getElem_cons_succ, List.setIfInBounds_toArray, List.set_cons_zero, List.set_cons_succ]
  refine wpAnyH_ready (rs := [28]) (by kernel_rfl) (by simp) ?_
  refine AllReadyH.cons rfl (fun K hK => ?_) AllReadyH.nil
  go_simp
  refine (CT.out _ hHeld.2).mono ?_
  rintro e w9 ⟨rfl, bb⟩
  refine hK.out _ _ (SX.out _ (bthen hHeld.2 bb)) (fun hHeld => ?_)
  clear hK K bb
  refine wpAnyH_ready (rs := [31]) (by kernel_rfl) (by simp) ?_
  refine AllReadyH.cons rfl (fun K hK => ?_) AllReadyH.nil
  go_simp
  refine (CT2.out _ hHeld.2).mono ?_
  rintro e w9 ⟨rfl, bb⟩
  refine hK.out _ _ (SX.out _ (bthen hHeld.2 bb)) (fun hHeld => ?_)
  clear hK K bb
  refine wpAnyH_ready (rs := [32]) (by kernel_rfl) (by simp) ?_
  refine AllReadyH.cons rfl (fun K hK => ?_) AllReadyH.nil
  go_simp
  refine (sameT0 _).mono ?_
  rintro e w9 ⟨rfl, bb⟩
  refine hK.out _ _ (SX.out _ (bthen hHeld.2 bb)) (fun hHeld => ?_)
  clear hK K bb
  refine wpAnyH_take (i := 33) (v := ?_) rfl (by kernel_rfl) (by kernel_rfl) (by kernel_rfl) (fun _ _ _ h => h) (Or.inl ⟨by rfl, ?_⟩) (by assumption) ?_
  rotate_left
  · intro w hSw
    go_simp
    try with_reducible rfl
  simp only [Act.put, List.getElem_toArray, List.getElem_cons_zero, List.getElem_cons_succ, List.setIfInBounds_toArray, List.set_cons_zero, List.set_cons_succ]
  refine wpAnyH_take (i := 34) (v := ?_) rfl (by kernel_rfl) (by kernel_rfl) (by kernel_rfl) (fun _ _ _ h => h) (Or.inl ⟨by rfl, ?_⟩) (by assumption) ?_
  rotate_left
  · intro w hSw
    go_simp
    try with_reducible rfl
  simp only [Act.put, List.getElem_toArray, List.getElem_cons_zero, List.getElem_cons_succ, List.setIfInBounds_toArray, List.set_cons_zero, List.set_cons_succ]
  refine wpAnyH_take (i := 35) (v := ?_) rfl (by kernel_rfl) (by kernel_rfl) (by kernel_rfl) (fun _ _ _ h => h) (Or.inl ⟨by rfl, ?_⟩) (by assumption) ?_
  rotate_left
  · intro w hSw
    go_simp
    try with_reducible rfl
  simp only [Act.put, List.getElem_toArray, List.getElem_cons_zero, List.getElem_cons_succ, List.setIfInBounds_toArray, List.set_cons_zero, List.set_cons_succ]
  refine wpAnyH_take (i := 36) (v := ?_) rfl (by kernel_rfl) (by kernel_rfl) (by kernel_rfl) (fun _ _ _ h => h) (Or.inl ⟨by rfl, ?_⟩) (by assumption) ?_
  rotate_left
  · intro w hSw
    go_simp
    try with_reducible rfl
  simp only [Act.put, List.getElem_toArray, List.getElem_cons_zero, List.getElem_cons_succ, List.setIfInBounds_toArray, List.set_cons_zero, List.set_cons_succ]
  refine wpAnyH_take (i := 38) (v := ?_) rfl (by kernel_rfl) (by kernel_rfl) (by kernel_rfl) (fun _ _ _ h => h) (Or.inl ⟨by rfl, ?_⟩) (by assumption) ?_
  rotate_left
  · intro w hSw
    go_simp
    try with_reducible rfl
  simp only [Act.put, List.getElem_toArray, List.getElem_cons_zero, List.getElem_cons_succ, List.setIfInBounds_toArray, List.set_cons_zero, List.set_cons_succ]
  refine wpAnyH_take (i := 39) (v := ?_) rfl (by kernel_rfl) (by kernel_rfl) (by kernel_rfl) (fun _ _ _ h => h) (Or.inl ⟨by rfl, ?_⟩) (by assumption) ?_
  rotate_left
  · intro w hSw
    go_simp
    try with_reducible rfl
  simp only [Act.put, List.getElem_toArray, List.getElem_cons_zero, List.getElem_cons_succ, List.setIfInBounds_toArray, List.set_cons_zero, List.set_cons_succ]
  refine wpAnyH_ready (rs := [37]) (by kernel_rfl) (by simp) ?_
  refine AllReadyH.cons rfl (fun K hK => ?_) AllReadyH.nil
  go_simp
  refine (CM.out _ hHeld.2).mono ?_
  rintro e w9 ⟨⟨xa, xc, rfl⟩, bb⟩
  refine hK.out _ _ (SX.out _ (bthen hHeld.2 bb)) (fun hHeld => ?_)
  clear hK K bb
  refine wpAnyH_ready (rs := [40]) (by kernel_rfl) (by simp) ?_
  refine AllReadyH.cons rfl (fun K hK => ?_) AllReadyH.nil
  go_simp
  refine (CM2.out _ hHeld.2).mono ?_
  rintro e w9 ⟨⟨ya, yc, rfl⟩, bb⟩
  refine hK.out _ _ (SX.out _ (bthen hHeld.2 bb)) (fun hHeld => ?_)
  clear hK K bb
  refine wpAnyH_ready (rs := [41]) (by kernel_rfl) (by simp) ?_
  refine AllReadyH.cons rfl (fun K hK => ?_) AllReadyH.nil
  go_simp
  refine (sameE0 _ _ _ _ _).mono ?_
  rintro e w9 ⟨rfl, bb⟩
  refine hK.out _ _ (SX.out _ (bthen hHeld.2 bb)) (fun hHeld => ?_)
  clear hK K bb
  refine wpAnyH_take (i := 42) (v := ?_) rfl (by kernel_rfl) (by kernel_rfl) (by kernel_rfl) (fun _ _ _ h => h) (Or.inl ⟨by rfl, ?_⟩) (by assumption) ?_
  rotate_left
  · intro w hSw
    go_simp
    try with_reducible rfl
  simp only [Act.put, List.getElem_toArray, List.getElem_cons_zero, List.getElem_cons_succ, List.setIfInBounds_toArray, List.set_cons_zero, List.set_cons_succ]
  refine wpAnyH_take (i := 43) (v := ?_) rfl (by kernel_rfl) (by kernel_rfl) (by kernel_rfl) (fun _ _ _ h => h) (Or.inl ⟨by rfl, ?_⟩) (by assumption) ?_
  rotate_left
  · intro w hSw
    go_simp
    try with_reducible rfl
  simp only [Act.put, List.getElem_toArray, List.getElem_cons_zero, List.getElem_cons_succ, List.setIfInBounds_toArray, List.set_cons_zero, List.set_cons_succ]
  refine wpAnyH_done (by kernel_rfl) ?_ _
  have HB := aside (bthen BB.out hHeld.2)
  clear hHeld
  go_wp2
  go_ret
  exact ⟨rfl, HB.out⟩
end Go.Proofs.YtldnmboenfaajaaGreatDoor
