/-
  The law ItemOrder, walked: it returns true at any three versions.
-/
import Derived.Test.YtnjbglnkhgholaaIVer
import Derived.Laws.StructEq
namespace Go.Proofs.Ytnjbglnkhgholaa
open Go.RowKit

theorem blk_keep {w w' : World} {i : Nat} {o : Obj} (h : w.heap[i]? = some o) (b : Below w.heap.size w w') : w'.heap[i]? = some o := (b.block i (Array.getElem?_eq_some_iff.1 h).1).trans h

/-- Three versions laid down stay as they were. -/
theorem six {w w' : World} {a n b m c k : Int} {T : TypeId} (h : Below (((w.alloc (.cells #[.int .i64 a, .int .i64 n] T)).alloc (.cells #[.int .i64 b, .int .i64 m] T)).alloc (.cells #[.int .i64 c, .int .i64 k] T)).heap.size (((w.alloc (.cells #[.int .i64 a, .int .i64 n] T)).alloc (.cells #[.int .i64 b, .int .i64 m] T)).alloc (.cells #[.int .i64 c, .int .i64 k] T)) w') :
    w'.cell? ⟨w.heap.size, 0, none⟩ = some (.int .i64 a) ∧ w'.cell? ⟨w.heap.size, 1, none⟩ = some (.int .i64 n) ∧ w'.cell? ⟨w.heap.size + 1, 0, none⟩ = some (.int .i64 b) ∧ w'.cell? ⟨w.heap.size + 1, 1, none⟩ = some (.int .i64 m) ∧
      w'.cell? ⟨w.heap.size + 1 + 1, 0, none⟩ = some (.int .i64 c) ∧ w'.cell? ⟨w.heap.size + 1 + 1, 1, none⟩ = some (.int .i64 k) ∧ Below w.heap.size w w' := by
  have r0 := blk_keep (blk_keep (blk_keep (heap_alloc_new w (.cells #[.int .i64 a, .int .i64 n] T)) (bnew _ (.cells #[.int .i64 b, .int .i64 m] T))) (bnew _ (.cells #[.int .i64 c, .int .i64 k] T))) h
  have r1 := blk_keep (blk_keep (heap_alloc_new (w.alloc (.cells #[.int .i64 a, .int .i64 n] T)) (.cells #[.int .i64 b, .int .i64 m] T)) (bnew _ (.cells #[.int .i64 c, .int .i64 k] T))) h
  have r2 := blk_keep (heap_alloc_new ((w.alloc (.cells #[.int .i64 a, .int .i64 n] T)).alloc (.cells #[.int .i64 b, .int .i64 m] T)) (.cells #[.int .i64 c, .int .i64 k] T)) h
  rw [World.size_alloc] at r1 r2
  rw [World.size_alloc] at r2
  refine ⟨?_, ?_, ?_, ?_, ?_, ?_, bthen (bthen (bthen (bnew w _) (bnew _ _)) (bnew _ _)) h⟩
  · rw [cell_of_row _ _ 0 _ _ _ r0]; rfl
  · rw [cell_of_row _ _ 1 _ _ _ r0]; rfl
  · rw [cell_of_row _ _ 0 _ _ _ r1]; rfl
  · rw [cell_of_row _ _ 1 _ _ _ r1]; rfl
  · rw [cell_of_row _ _ 0 _ _ _ r2]; rfl
  · rw [cell_of_row _ _ 1 _ _ _ r2]; rfl

theorem compare_at {a n b m q : Int} (h : Vs.cmp a n b m = q) (w : World) : Calls Try.prog 11 #[.agg #[.int .i64 a, .int .i64 n], .agg #[.int .i64 b, .int .i64 m]] w fun e w' => e = .returned (.int .i64 q) ∧ Below w.heap.size w w' := by
  subst h; exact compare_any a n b m w
theorem compareRef_at {a n b m q : Int} (h : Vs.cmp a n b m = q) (w : World) : Calls Try.prog 13 #[.agg #[.int .i64 a, .int .i64 n], .agg #[.int .i64 b, .int .i64 m]] w fun e w' => e = .returned (.int .i64 q) ∧ Below w.heap.size w w' := by
  subst h; exact compareRef_any a n b m w

theorem cmp_self (a n : Int) : Vs.cmp a n a n = 0 := by rw [cmp_eq, c2_eq]
theorem cmp_zero {a n b m : Int} (h : Vs.cmp a n b m = 0) : a = b ∧ n = m := by
  unfold Vs.cmp Vs.c2 at h
  split at h
  · omega
  · split at h
    · omega
    · split at h
      · omega
      · split at h <;> omega
theorem cmp_three (a n b m : Int) : Vs.cmp a n b m = 1 ∧ (b < a ∨ (a = b ∧ m < n)) ∨ Vs.cmp a n b m = 0 ∧ a = b ∧ n = m ∨ Vs.cmp a n b m = -1 ∧ (a < b ∨ (a = b ∧ n < m)) := by
  unfold Vs.cmp Vs.c2
  by_cases h1 : b < a
  · rw [if_pos h1]; omega
  · by_cases h2 : a < b
    · rw [if_neg h1, if_pos h2]; omega
    · by_cases h3 : m < n
      · rw [if_neg h1, if_neg h2, if_pos h3]; omega
      · by_cases h4 : n < m
        · rw [if_neg h1, if_neg h2, if_neg h3, if_pos h4]; omega
        · rw [if_neg h1, if_neg h2, if_neg h3, if_neg h4]; omega
theorem cmp_back (a n b m : Int) : Vs.cmp b m a n = -Vs.cmp a n b m := by
  rcases cmp_three a n b m with h | h | h <;> rcases cmp_three b m a n with g | g | g <;> omega

set_option maxRecDepth 100000 in
set_option maxHeartbeats 6400000 in
theorem order_ne (a n b m c k : Int) (x y z x' : Int) (w : World) (hx : Vs.cmp a n b m = x) (hy : Vs.cmp b m c k = y) (hz : Vs.cmp a n c k = z) (hx' : Vs.cmp b m a n = x') (h0 : Vs.cmp a n a n = 0) (hne : ¬ (a = b ∧ n = m))
    (hL : (x = 1 ∧ x' = -1 ∧ ((y = 1 ∧ z = 1) ∨ (y = 0 ∧ z = 1) ∨ (y = -1 ∧ (z = 1 ∨ z = 0 ∨ z = -1)))) ∨ (x = -1 ∧ x' = 1 ∧ (y = 1 ∨ y = 0 ∨ y = -1) ∧ (z = 1 ∨ z = 0 ∨ z = -1))) :
    Calls Try.prog 4 #[.agg #[.int .i64 a, .int .i64 n], .agg #[.int .i64 b, .int .i64 m], .agg #[.int .i64 c, .int .i64 k]] w fun e w' => e = .returned (.bool true) ∧ Below w.heap.size w w' := by
  have HN := aside hne
  have C1 := aside (fun w => compare_at hx w)
  have C2 := aside (fun w => compare_at hy w)
  have C3 := aside (fun w => compare_at hz w)
  have C4 := aside (fun w => compareRef_at hx w)
  have C5 := aside (fun w => compare_at hx' w)
  have C6 := aside (fun w => compare_at h0 w)
  clear hx hy hz hx' h0 hne
  rcases hL with ⟨rfl, rfl, ⟨rfl, rfl⟩ | ⟨rfl, rfl⟩ | ⟨rfl, rfl | rfl | rfl⟩⟩ | ⟨rfl, rfl, rfl | rfl | rfl, rfl | rfl | rfl⟩
  all_goals
    go_enter Try.func4, Try.ntmps4
    go_wp2_with fail
    refine (C1.out _).mono ?_
    rintro e w1 ⟨rfl, b1⟩
    obtain ⟨q0, q1, q2, q3, q4, q5, -⟩ := six b1
    go_wp2_with fail
    refine (C2.out _).mono ?_
    rintro e w2 ⟨rfl, b2⟩
    replace b2 := bthen b1 b2
    clear q0 q1 q2 q3 q4 q5 b1
    obtain ⟨q0, q1, q2, q3, q4, q5, -⟩ := six b2
    go_wp2_with fail
    refine (C3.out _).mono ?_
    rintro e w3 ⟨rfl, b3⟩
    replace b3 := bthen b2 b3
    clear q0 q1 q2 q3 q4 q5 b2
    obtain ⟨q0, q1, q2, q3, q4, q5, -⟩ := six b3
    go_wp2_with fail
    refine (C4.out _).mono ?_
    rintro e w4 ⟨rfl, b4⟩
    replace b4 := bthen b3 b4
    clear q0 q1 q2 q3 q4 q5 b3
    obtain ⟨q0, q1, q2, q3, q4, q5, -⟩ := six b4
    go_wp2_with fail
    refine (C5.out _).mono ?_
    rintro e w5 ⟨rfl, b5⟩
    replace b5 := bthen b4 b5
    clear q0 q1 q2 q3 q4 q5 b4
    obtain ⟨q0, q1, q2, q3, q4, q5, -⟩ := six b5
    go_wp2_with fail
    refine (C6.out _).mono ?_
    rintro e w6 ⟨rfl, b6⟩
    replace b6 := bthen b5 b6
    clear q0 q1 q2 q3 q4 q5 b5
    obtain ⟨q0, q1, q2, q3, -, -, hb⟩ := six b6
    clear b6
    go_wp2
    all_goals first
      | (go_ret; exact ⟨rfl, hb⟩)
      | (exfalso; exact HN.out ⟨by first | assumption | rfl, by first | assumption | rfl⟩)

set_option maxRecDepth 100000 in
set_option maxHeartbeats 6400000 in
theorem order_eq (a n c k : Int) (y : Int) (w : World) (hy : Vs.cmp a n c k = y) (h0 : Vs.cmp a n a n = 0) (hL : y = 1 ∨ y = 0 ∨ y = -1) :
    Calls Try.prog 4 #[.agg #[.int .i64 a, .int .i64 n], .agg #[.int .i64 a, .int .i64 n], .agg #[.int .i64 c, .int .i64 k]] w fun e w' => e = .returned (.bool true) ∧ Below w.heap.size w w' := by
  have C1 := aside (fun w => compare_at h0 w)
  have C2 := aside (fun w => compare_at hy w)
  have C3 := aside (fun w => compare_at hy w)
  have C4 := aside (fun w => compareRef_at h0 w)
  have C5 := aside (fun w => compare_at h0 w)
  have C6 := aside (fun w => compare_at h0 w)
  clear hy h0
  rcases hL with rfl | rfl | rfl
  all_goals
    go_enter Try.func4, Try.ntmps4
    go_wp2_with fail
    refine (C1.out _).mono ?_
    rintro e w1 ⟨rfl, b1⟩
    obtain ⟨q0, q1, q2, q3, q4, q5, -⟩ := six b1
    go_wp2_with fail
    refine (C2.out _).mono ?_
    rintro e w2 ⟨rfl, b2⟩
    replace b2 := bthen b1 b2
    clear q0 q1 q2 q3 q4 q5 b1
    obtain ⟨q0, q1, q2, q3, q4, q5, -⟩ := six b2
    go_wp2_with fail
    refine (C3.out _).mono ?_
    rintro e w3 ⟨rfl, b3⟩
    replace b3 := bthen b2 b3
    clear q0 q1 q2 q3 q4 q5 b2
    obtain ⟨q0, q1, q2, q3, q4, q5, -⟩ := six b3
    go_wp2_with fail
    refine (C4.out _).mono ?_
    rintro e w4 ⟨rfl, b4⟩
    replace b4 := bthen b3 b4
    clear q0 q1 q2 q3 q4 q5 b3
    obtain ⟨q0, q1, q2, q3, q4, q5, -⟩ := six b4
    go_wp2_with fail
    refine (C5.out _).mono ?_
    rintro e w5 ⟨rfl, b5⟩
    replace b5 := bthen b4 b5
    clear q0 q1 q2 q3 q4 q5 b4
    obtain ⟨q0, q1, q2, q3, q4, q5, -⟩ := six b5
    go_wp2_with fail
    refine (C6.out _).mono ?_
    rintro e w6 ⟨rfl, b6⟩
    replace b6 := bthen b5 b6
    clear q0 q1 q2 q3 q4 q5 b5
    obtain ⟨q0, q1, q2, q3, -, -, hb⟩ := six b6
    clear b6
    go_wp2
    go_ret
    exact ⟨rfl, hb⟩

theorem order_walk (a n b m c k : Int) (w : World) :
    Calls Try.prog 4 #[.agg #[.int .i64 a, .int .i64 n], .agg #[.int .i64 b, .int .i64 m], .agg #[.int .i64 c, .int .i64 k]] w fun e w' => e = .returned (.bool true) ∧ Below w.heap.size w w' := by
  have hy := cmp_three b m c k
  have hz := cmp_three a n c k
  rcases cmp_three a n b m with ⟨hx, h⟩ | ⟨hx, rfl, rfl⟩ | ⟨hx, h⟩
  · refine order_ne a n b m c k 1 _ _ (-1) w hx rfl rfl (by rw [cmp_back, hx]) (cmp_self a n) (fun e => by omega) (.inl ⟨rfl, rfl, ?_⟩)
    omega
  · exact order_eq a n c k _ w rfl (cmp_self a n) (by omega)
  · refine order_ne a n b m c k (-1) _ _ 1 w hx rfl rfl (by rw [cmp_back, hx]; rfl) (cmp_self a n) (fun e => by omega) (.inr ⟨rfl, rfl, ?_, ?_⟩)
    · omega
    · omega

end Go.Proofs.Ytnjbglnkhgholaa
