/-
  The law ItemBest, walked: it returns true at any three entries.
-/
import Derived.Test.YtnjbglnkhgholaaLIChk
namespace Go.Proofs.Ytnjbglnkhgholaa
open Go.RowKit

/-- Three entries laid down stay as they were. -/
theorem three_ents {w w' : World} {ak av : ByteArray} {ac an : Int} {ad : Bool} {bk bv : ByteArray} {bc bn : Int} {bd : Bool} {ck cv : ByteArray} {cc cn : Int} {cd : Bool} (h : Below (((w.alloc (.cells #[.string ak, .int .i64 ac, .int .i64 an, .string av, .bool ad] 34)).alloc (.cells #[.string bk, .int .i64 bc, .int .i64 bn, .string bv, .bool bd] 34)).alloc (.cells #[.string ck, .int .i64 cc, .int .i64 cn, .string cv, .bool cd] 34)).heap.size (((w.alloc (.cells #[.string ak, .int .i64 ac, .int .i64 an, .string av, .bool ad] 34)).alloc (.cells #[.string bk, .int .i64 bc, .int .i64 bn, .string bv, .bool bd] 34)).alloc (.cells #[.string ck, .int .i64 cc, .int .i64 cn, .string cv, .bool cd] 34)) w') :
    w'.heap[w.heap.size]? = some (.cells #[.string ak, .int .i64 ac, .int .i64 an, .string av, .bool ad] 34 (0, 0)) ∧ w'.heap[w.heap.size + 1]? = some (.cells #[.string bk, .int .i64 bc, .int .i64 bn, .string bv, .bool bd] 34 (0, 0)) ∧ w'.heap[w.heap.size + 1 + 1]? = some (.cells #[.string ck, .int .i64 cc, .int .i64 cn, .string cv, .bool cd] 34 (0, 0)) ∧ Below w.heap.size w w' := by
  have r0 := blk_keep (blk_keep (blk_keep (heap_alloc_new w (.cells #[.string ak, .int .i64 ac, .int .i64 an, .string av, .bool ad] 34)) (bnew _ (.cells #[.string bk, .int .i64 bc, .int .i64 bn, .string bv, .bool bd] 34))) (bnew _ (.cells #[.string ck, .int .i64 cc, .int .i64 cn, .string cv, .bool cd] 34))) h
  have r1 := blk_keep (blk_keep (heap_alloc_new (w.alloc (.cells #[.string ak, .int .i64 ac, .int .i64 an, .string av, .bool ad] 34)) (.cells #[.string bk, .int .i64 bc, .int .i64 bn, .string bv, .bool bd] 34)) (bnew _ (.cells #[.string ck, .int .i64 cc, .int .i64 cn, .string cv, .bool cd] 34))) h
  have r2 := blk_keep (heap_alloc_new ((w.alloc (.cells #[.string ak, .int .i64 ac, .int .i64 an, .string av, .bool ad] 34)).alloc (.cells #[.string bk, .int .i64 bc, .int .i64 bn, .string bv, .bool bd] 34)) (.cells #[.string ck, .int .i64 cc, .int .i64 cn, .string cv, .bool cd] 34)) h
  rw [World.size_alloc] at r1 r2
  rw [World.size_alloc] at r2
  exact ⟨r0, r1, r2, bthen (bthen (bthen (bnew w _) (bnew _ _)) (bnew _ _)) h⟩

set_option maxRecDepth 100000 in
set_option maxHeartbeats 1600000 in
theorem best_long1 (ak : ByteArray) (ac an : Int) (av : ByteArray) (ad : Bool) (bk : ByteArray) (bc bn : Int) (bv : ByteArray) (bd : Bool) (ck : ByteArray) (cc cn : Int) (cv : ByteArray) (cd : Bool) (w : World) (h : (1073741824 : Int) < ak.size ∨ (1073741824 : Int) < av.size) :
    Calls Try.prog 7 #[.agg #[.string ak, .int .i64 ac, .int .i64 an, .string av, .bool ad], .agg #[.string bk, .int .i64 bc, .int .i64 bn, .string bv, .bool bd], .agg #[.string ck, .int .i64 cc, .int .i64 cn, .string cv, .bool cd]] w fun e w' => e = .returned (.bool true) ∧ Below w.heap.size w w' := by
  have Ca := aside (fun w => long_yes ak ac an av ad w h)
  clear h
  go_enter Try.func7, Try.ntmps7
  go_wp2_with fail
  refine (Ca.out _).mono ?_
  rintro e w1 ⟨rfl, b1⟩
  obtain ⟨kA, kB, kC, b0⟩ := three_ents b1
  obtain ⟨⟨fa0, fa1, fa2, fa3, fa4⟩, -⟩ := box5 kA
  obtain ⟨⟨fb0, fb1, fb2, fb3, fb4⟩, -⟩ := box5 kB
  obtain ⟨⟨fc0, fc1, fc2, fc3, fc4⟩, -⟩ := box5 kC
  clear kA kB kC
  go_wp2
  go_ret
  exact ⟨rfl, b0⟩

set_option maxRecDepth 100000 in
set_option maxHeartbeats 1600000 in
theorem best_long2 (ak : ByteArray) (ac an : Int) (av : ByteArray) (ad : Bool) (bk : ByteArray) (bc bn : Int) (bv : ByteArray) (bd : Bool) (ck : ByteArray) (cc cn : Int) (cv : ByteArray) (cd : Bool) (w : World) (ha : ¬ (1073741824 : Int) < ak.size) (ga : ¬ (1073741824 : Int) < av.size) (h : (1073741824 : Int) < bk.size ∨ (1073741824 : Int) < bv.size) :
    Calls Try.prog 7 #[.agg #[.string ak, .int .i64 ac, .int .i64 an, .string av, .bool ad], .agg #[.string bk, .int .i64 bc, .int .i64 bn, .string bv, .bool bd], .agg #[.string ck, .int .i64 cc, .int .i64 cn, .string cv, .bool cd]] w fun e w' => e = .returned (.bool true) ∧ Below w.heap.size w w' := by
  have Ca := aside (fun w => long_no ak ac an av ad w ha ga)
  clear ha ga
  have Cb := aside (fun w => long_yes bk bc bn bv bd w h)
  clear h
  go_enter Try.func7, Try.ntmps7
  go_wp2_with fail
  refine (Ca.out _).mono ?_
  rintro e w1 ⟨rfl, b1⟩
  obtain ⟨kA, kB, kC, b0⟩ := three_ents b1
  obtain ⟨⟨fa0, fa1, fa2, fa3, fa4⟩, -⟩ := box5 kA
  obtain ⟨⟨fb0, fb1, fb2, fb3, fb4⟩, -⟩ := box5 kB
  obtain ⟨⟨fc0, fc1, fc2, fc3, fc4⟩, -⟩ := box5 kC
  clear kA kB kC
  clear b0
  go_wp2_with fail
  refine (Cb.out _).mono ?_
  rintro e w2 ⟨rfl, b2⟩
  replace b2 := bthen b1 b2
  clear fa0 fa1 fa2 fa3 fa4 fb0 fb1 fb2 fb3 fb4 fc0 fc1 fc2 fc3 fc4
  clear b1
  obtain ⟨kA, kB, kC, b0⟩ := three_ents b2
  obtain ⟨⟨fa0, fa1, fa2, fa3, fa4⟩, -⟩ := box5 kA
  obtain ⟨⟨fb0, fb1, fb2, fb3, fb4⟩, -⟩ := box5 kB
  obtain ⟨⟨fc0, fc1, fc2, fc3, fc4⟩, -⟩ := box5 kC
  clear kA kB kC
  go_wp2
  go_ret
  exact ⟨rfl, b0⟩

set_option maxRecDepth 100000 in
set_option maxHeartbeats 1600000 in
theorem best_long3 (ak : ByteArray) (ac an : Int) (av : ByteArray) (ad : Bool) (bk : ByteArray) (bc bn : Int) (bv : ByteArray) (bd : Bool) (ck : ByteArray) (cc cn : Int) (cv : ByteArray) (cd : Bool) (w : World) (ha : ¬ (1073741824 : Int) < ak.size) (ga : ¬ (1073741824 : Int) < av.size) (hb : ¬ (1073741824 : Int) < bk.size) (gb : ¬ (1073741824 : Int) < bv.size) (h : (1073741824 : Int) < ck.size ∨ (1073741824 : Int) < cv.size) :
    Calls Try.prog 7 #[.agg #[.string ak, .int .i64 ac, .int .i64 an, .string av, .bool ad], .agg #[.string bk, .int .i64 bc, .int .i64 bn, .string bv, .bool bd], .agg #[.string ck, .int .i64 cc, .int .i64 cn, .string cv, .bool cd]] w fun e w' => e = .returned (.bool true) ∧ Below w.heap.size w w' := by
  have Ca := aside (fun w => long_no ak ac an av ad w ha ga)
  clear ha ga
  have Cb := aside (fun w => long_no bk bc bn bv bd w hb gb)
  clear hb gb
  have Cc := aside (fun w => long_yes ck cc cn cv cd w h)
  clear h
  go_enter Try.func7, Try.ntmps7
  go_wp2_with fail
  refine (Ca.out _).mono ?_
  rintro e w1 ⟨rfl, b1⟩
  obtain ⟨kA, kB, kC, b0⟩ := three_ents b1
  obtain ⟨⟨fa0, fa1, fa2, fa3, fa4⟩, -⟩ := box5 kA
  obtain ⟨⟨fb0, fb1, fb2, fb3, fb4⟩, -⟩ := box5 kB
  obtain ⟨⟨fc0, fc1, fc2, fc3, fc4⟩, -⟩ := box5 kC
  clear kA kB kC
  clear b0
  go_wp2_with fail
  refine (Cb.out _).mono ?_
  rintro e w2 ⟨rfl, b2⟩
  replace b2 := bthen b1 b2
  clear fa0 fa1 fa2 fa3 fa4 fb0 fb1 fb2 fb3 fb4 fc0 fc1 fc2 fc3 fc4
  clear b1
  obtain ⟨kA, kB, kC, b0⟩ := three_ents b2
  obtain ⟨⟨fa0, fa1, fa2, fa3, fa4⟩, -⟩ := box5 kA
  obtain ⟨⟨fb0, fb1, fb2, fb3, fb4⟩, -⟩ := box5 kB
  obtain ⟨⟨fc0, fc1, fc2, fc3, fc4⟩, -⟩ := box5 kC
  clear kA kB kC
  clear b0
  go_wp2_with fail
  refine (Cc.out _).mono ?_
  rintro e w3 ⟨rfl, b3⟩
  replace b3 := bthen b2 b3
  clear fa0 fa1 fa2 fa3 fa4 fb0 fb1 fb2 fb3 fb4 fc0 fc1 fc2 fc3 fc4
  clear b2
  obtain ⟨kA, kB, kC, b0⟩ := three_ents b3
  obtain ⟨⟨fa0, fa1, fa2, fa3, fa4⟩, -⟩ := box5 kA
  obtain ⟨⟨fb0, fb1, fb2, fb3, fb4⟩, -⟩ := box5 kB
  obtain ⟨⟨fc0, fc1, fc2, fc3, fc4⟩, -⟩ := box5 kC
  clear kA kB kC
  go_wp2
  go_ret
  exact ⟨rfl, b0⟩

theorem set5_blk {W : World} {i : Nat} {a b c d e : Value} {T : TypeId} (h : W.heap[i]? = some (.cells #[a, b, c, d, e] T (0, 0))) (u0 u1 u2 u3 u4 : Value) :
    (((((W.setCell ⟨i, 0, none⟩ u0).setCell ⟨i, 1, none⟩ u1).setCell ⟨i, 2, none⟩ u2).setCell ⟨i, 3, none⟩ u3).setCell ⟨i, 4, none⟩ u4).heap[i]? = some (.cells #[u0, u1, u2, u3, u4] T (0, 0)) := by
  have h0 := (heap_setCell_same W i 0 _ _ u0 h)
  have h1 := (heap_setCell_same _ i 1 _ _ u1 h0)
  have h2 := (heap_setCell_same _ i 2 _ _ u2 h1)
  have h3 := (heap_setCell_same _ i 3 _ _ u3 h2)
  have h4 := (heap_setCell_same _ i 4 _ _ u4 h3)
  exact h4

theorem ab_keep {w W W' : World} {i j : Nat} {ak av : ByteArray} {ac an : Int} {ad : Bool} {bk bv : ByteArray} {bc bn : Int} {bd : Bool} (h : Below w.heap.size w W ∧ W.cell? ⟨i, 0, none⟩ = some (.string ak) ∧ W.cell? ⟨i, 1, none⟩ = some (.int .i64 ac) ∧ W.cell? ⟨i, 2, none⟩ = some (.int .i64 an) ∧ W.cell? ⟨i, 3, none⟩ = some (.string av) ∧ W.cell? ⟨i, 4, none⟩ = some (.bool ad) ∧ W.cell? ⟨j, 0, none⟩ = some (.string bk) ∧ W.cell? ⟨j, 1, none⟩ = some (.int .i64 bc) ∧ W.cell? ⟨j, 2, none⟩ = some (.int .i64 bn) ∧ W.cell? ⟨j, 3, none⟩ = some (.string bv) ∧ W.cell? ⟨j, 4, none⟩ = some (.bool bd)) (bb : Below W.heap.size W W') :
    Below w.heap.size w W' ∧ W'.cell? ⟨i, 0, none⟩ = some (.string ak) ∧ W'.cell? ⟨i, 1, none⟩ = some (.int .i64 ac) ∧ W'.cell? ⟨i, 2, none⟩ = some (.int .i64 an) ∧ W'.cell? ⟨i, 3, none⟩ = some (.string av) ∧ W'.cell? ⟨i, 4, none⟩ = some (.bool ad) ∧ W'.cell? ⟨j, 0, none⟩ = some (.string bk) ∧ W'.cell? ⟨j, 1, none⟩ = some (.int .i64 bc) ∧ W'.cell? ⟨j, 2, none⟩ = some (.int .i64 bn) ∧ W'.cell? ⟨j, 3, none⟩ = some (.string bv) ∧ W'.cell? ⟨j, 4, none⟩ = some (.bool bd) := by
  obtain ⟨h, h0, h1, h2, h3, h4, h5, h6, h7, h8, h9⟩ := h
  exact ⟨bthen h bb, cell_on h0 bb, cell_on h1 bb, cell_on h2 bb, cell_on h3 bb, cell_on h4 bb, cell_on h5 bb, cell_on h6 bb, cell_on h7 bb, cell_on h8 bb, cell_on h9 bb⟩

theorem abc_keep {w W W' : World} {i j l : Nat} {ak av : ByteArray} {ac an : Int} {ad : Bool} {bk bv : ByteArray} {bc bn : Int} {bd : Bool} {ck cv : ByteArray} {cc cn : Int} {cd : Bool} (h : Below w.heap.size w W ∧ W.cell? ⟨i, 0, none⟩ = some (.string ak) ∧ W.cell? ⟨i, 1, none⟩ = some (.int .i64 ac) ∧ W.cell? ⟨i, 2, none⟩ = some (.int .i64 an) ∧ W.cell? ⟨i, 3, none⟩ = some (.string av) ∧ W.cell? ⟨i, 4, none⟩ = some (.bool ad) ∧ W.cell? ⟨j, 0, none⟩ = some (.string bk) ∧ W.cell? ⟨j, 1, none⟩ = some (.int .i64 bc) ∧ W.cell? ⟨j, 2, none⟩ = some (.int .i64 bn) ∧ W.cell? ⟨j, 3, none⟩ = some (.string bv) ∧ W.cell? ⟨j, 4, none⟩ = some (.bool bd) ∧ W.cell? ⟨l, 0, none⟩ = some (.string ck) ∧ W.cell? ⟨l, 1, none⟩ = some (.int .i64 cc) ∧ W.cell? ⟨l, 2, none⟩ = some (.int .i64 cn) ∧ W.cell? ⟨l, 3, none⟩ = some (.string cv) ∧ W.cell? ⟨l, 4, none⟩ = some (.bool cd)) (bb : Below W.heap.size W W') :
    Below w.heap.size w W' ∧ W'.cell? ⟨i, 0, none⟩ = some (.string ak) ∧ W'.cell? ⟨i, 1, none⟩ = some (.int .i64 ac) ∧ W'.cell? ⟨i, 2, none⟩ = some (.int .i64 an) ∧ W'.cell? ⟨i, 3, none⟩ = some (.string av) ∧ W'.cell? ⟨i, 4, none⟩ = some (.bool ad) ∧ W'.cell? ⟨j, 0, none⟩ = some (.string bk) ∧ W'.cell? ⟨j, 1, none⟩ = some (.int .i64 bc) ∧ W'.cell? ⟨j, 2, none⟩ = some (.int .i64 bn) ∧ W'.cell? ⟨j, 3, none⟩ = some (.string bv) ∧ W'.cell? ⟨j, 4, none⟩ = some (.bool bd) ∧ W'.cell? ⟨l, 0, none⟩ = some (.string ck) ∧ W'.cell? ⟨l, 1, none⟩ = some (.int .i64 cc) ∧ W'.cell? ⟨l, 2, none⟩ = some (.int .i64 cn) ∧ W'.cell? ⟨l, 3, none⟩ = some (.string cv) ∧ W'.cell? ⟨l, 4, none⟩ = some (.bool cd) := by
  obtain ⟨h, h0, h1, h2, h3, h4, h5, h6, h7, h8, h9, h10, h11, h12, h13, h14⟩ := h
  exact ⟨bthen h bb, cell_on h0 bb, cell_on h1 bb, cell_on h2 bb, cell_on h3 bb, cell_on h4 bb, cell_on h5 bb, cell_on h6 bb, cell_on h7 bb, cell_on h8 bb, cell_on h9 bb, cell_on h10 bb, cell_on h11 bb, cell_on h12 bb, cell_on h13 bb, cell_on h14 bb⟩

theorem ver_run (a n b m : Int) (w : World) : (binOp .eql 24 (.agg #[.int .i64 a, .int .i64 n]) (.agg #[.int .i64 b, .int .i64 m])).run Try.prog w = .ok (.bool (a == b && n == m)) w := by
  by_cases h1 : a = b <;> by_cases h2 : n = m
  all_goals
    go_simp
    try simp [h1, h2]
theorem ver_at {a n b m : Int} {q : Bool} {w : World} (h : (a == b && n == m) = q) : (binOp .eql 24 (.agg #[.int .i64 a, .int .i64 n]) (.agg #[.int .i64 b, .int .i64 m])).run Try.prog w = .ok (.bool q) w := by
  rw [← h]; exact ver_run a n b m w
theorem ver_yes {a n b m : Int} (h : a = b ∧ n = m) : (a == b && n == m) = true := by simp [h.1, h.2]
theorem ver_no {a n b m : Int} (h : ¬ (a = b ∧ n = m)) : (a == b && n == m) = false := by
  simp only [Bool.and_eq_false_iff, beq_eq_false_iff_ne]
  by_cases h1 : a = b
  · exact .inr (fun h2 => h ⟨h1, h2⟩)
  · exact .inl h1

theorem x1_keep {w W W' : World} {i j l ix : Nat} {ak av : ByteArray} {ac an : Int} {ad : Bool} {bk bv : ByteArray} {bc bn : Int} {bd : Bool} {ck cv : ByteArray} {cc cn : Int} {cd : Bool} {xk xv : ByteArray} {xc xn : Int} {xd : Bool} (h : Below w.heap.size w W ∧ W.cell? ⟨i, 0, none⟩ = some (.string ak) ∧ W.cell? ⟨i, 1, none⟩ = some (.int .i64 ac) ∧ W.cell? ⟨i, 2, none⟩ = some (.int .i64 an) ∧ W.cell? ⟨i, 3, none⟩ = some (.string av) ∧ W.cell? ⟨i, 4, none⟩ = some (.bool ad) ∧ W.cell? ⟨j, 0, none⟩ = some (.string bk) ∧ W.cell? ⟨j, 1, none⟩ = some (.int .i64 bc) ∧ W.cell? ⟨j, 2, none⟩ = some (.int .i64 bn) ∧ W.cell? ⟨j, 3, none⟩ = some (.string bv) ∧ W.cell? ⟨j, 4, none⟩ = some (.bool bd) ∧ W.cell? ⟨l, 0, none⟩ = some (.string ck) ∧ W.cell? ⟨l, 1, none⟩ = some (.int .i64 cc) ∧ W.cell? ⟨l, 2, none⟩ = some (.int .i64 cn) ∧ W.cell? ⟨l, 3, none⟩ = some (.string cv) ∧ W.cell? ⟨l, 4, none⟩ = some (.bool cd) ∧ W.cell? ⟨ix, 0, none⟩ = some (.string xk) ∧ W.cell? ⟨ix, 1, none⟩ = some (.int .i64 xc) ∧ W.cell? ⟨ix, 2, none⟩ = some (.int .i64 xn) ∧ W.cell? ⟨ix, 3, none⟩ = some (.string xv) ∧ W.cell? ⟨ix, 4, none⟩ = some (.bool xd)) (bb : Below W.heap.size W W') :
    Below w.heap.size w W' ∧ W'.cell? ⟨i, 0, none⟩ = some (.string ak) ∧ W'.cell? ⟨i, 1, none⟩ = some (.int .i64 ac) ∧ W'.cell? ⟨i, 2, none⟩ = some (.int .i64 an) ∧ W'.cell? ⟨i, 3, none⟩ = some (.string av) ∧ W'.cell? ⟨i, 4, none⟩ = some (.bool ad) ∧ W'.cell? ⟨j, 0, none⟩ = some (.string bk) ∧ W'.cell? ⟨j, 1, none⟩ = some (.int .i64 bc) ∧ W'.cell? ⟨j, 2, none⟩ = some (.int .i64 bn) ∧ W'.cell? ⟨j, 3, none⟩ = some (.string bv) ∧ W'.cell? ⟨j, 4, none⟩ = some (.bool bd) ∧ W'.cell? ⟨l, 0, none⟩ = some (.string ck) ∧ W'.cell? ⟨l, 1, none⟩ = some (.int .i64 cc) ∧ W'.cell? ⟨l, 2, none⟩ = some (.int .i64 cn) ∧ W'.cell? ⟨l, 3, none⟩ = some (.string cv) ∧ W'.cell? ⟨l, 4, none⟩ = some (.bool cd) ∧ W'.cell? ⟨ix, 0, none⟩ = some (.string xk) ∧ W'.cell? ⟨ix, 1, none⟩ = some (.int .i64 xc) ∧ W'.cell? ⟨ix, 2, none⟩ = some (.int .i64 xn) ∧ W'.cell? ⟨ix, 3, none⟩ = some (.string xv) ∧ W'.cell? ⟨ix, 4, none⟩ = some (.bool xd) := by
  obtain ⟨h, h0, h1, h2, h3, h4, h5, h6, h7, h8, h9, h10, h11, h12, h13, h14, h15, h16, h17, h18, h19⟩ := h
  exact ⟨bthen h bb, cell_on h0 bb, cell_on h1 bb, cell_on h2 bb, cell_on h3 bb, cell_on h4 bb, cell_on h5 bb, cell_on h6 bb, cell_on h7 bb, cell_on h8 bb, cell_on h9 bb, cell_on h10 bb, cell_on h11 bb, cell_on h12 bb, cell_on h13 bb, cell_on h14 bb, cell_on h15 bb, cell_on h16 bb, cell_on h17 bb, cell_on h18 bb, cell_on h19 bb⟩

theorem x2_keep {w W W' : World} {i j l ix iy : Nat} {ak av : ByteArray} {ac an : Int} {ad : Bool} {bk bv : ByteArray} {bc bn : Int} {bd : Bool} {ck cv : ByteArray} {cc cn : Int} {cd : Bool} {xk xv : ByteArray} {xc xn : Int} {xd : Bool} (h : Below w.heap.size w W ∧ W.cell? ⟨i, 0, none⟩ = some (.string ak) ∧ W.cell? ⟨i, 1, none⟩ = some (.int .i64 ac) ∧ W.cell? ⟨i, 2, none⟩ = some (.int .i64 an) ∧ W.cell? ⟨i, 3, none⟩ = some (.string av) ∧ W.cell? ⟨i, 4, none⟩ = some (.bool ad) ∧ W.cell? ⟨j, 0, none⟩ = some (.string bk) ∧ W.cell? ⟨j, 1, none⟩ = some (.int .i64 bc) ∧ W.cell? ⟨j, 2, none⟩ = some (.int .i64 bn) ∧ W.cell? ⟨j, 3, none⟩ = some (.string bv) ∧ W.cell? ⟨j, 4, none⟩ = some (.bool bd) ∧ W.cell? ⟨l, 0, none⟩ = some (.string ck) ∧ W.cell? ⟨l, 1, none⟩ = some (.int .i64 cc) ∧ W.cell? ⟨l, 2, none⟩ = some (.int .i64 cn) ∧ W.cell? ⟨l, 3, none⟩ = some (.string cv) ∧ W.cell? ⟨l, 4, none⟩ = some (.bool cd) ∧ W.cell? ⟨ix, 0, none⟩ = some (.string xk) ∧ W.cell? ⟨ix, 1, none⟩ = some (.int .i64 xc) ∧ W.cell? ⟨ix, 2, none⟩ = some (.int .i64 xn) ∧ W.cell? ⟨ix, 3, none⟩ = some (.string xv) ∧ W.cell? ⟨ix, 4, none⟩ = some (.bool xd) ∧ W.cell? ⟨iy, 0, none⟩ = some (.string xk) ∧ W.cell? ⟨iy, 1, none⟩ = some (.int .i64 xc) ∧ W.cell? ⟨iy, 2, none⟩ = some (.int .i64 xn) ∧ W.cell? ⟨iy, 3, none⟩ = some (.string xv) ∧ W.cell? ⟨iy, 4, none⟩ = some (.bool xd)) (bb : Below W.heap.size W W') :
    Below w.heap.size w W' ∧ W'.cell? ⟨i, 0, none⟩ = some (.string ak) ∧ W'.cell? ⟨i, 1, none⟩ = some (.int .i64 ac) ∧ W'.cell? ⟨i, 2, none⟩ = some (.int .i64 an) ∧ W'.cell? ⟨i, 3, none⟩ = some (.string av) ∧ W'.cell? ⟨i, 4, none⟩ = some (.bool ad) ∧ W'.cell? ⟨j, 0, none⟩ = some (.string bk) ∧ W'.cell? ⟨j, 1, none⟩ = some (.int .i64 bc) ∧ W'.cell? ⟨j, 2, none⟩ = some (.int .i64 bn) ∧ W'.cell? ⟨j, 3, none⟩ = some (.string bv) ∧ W'.cell? ⟨j, 4, none⟩ = some (.bool bd) ∧ W'.cell? ⟨l, 0, none⟩ = some (.string ck) ∧ W'.cell? ⟨l, 1, none⟩ = some (.int .i64 cc) ∧ W'.cell? ⟨l, 2, none⟩ = some (.int .i64 cn) ∧ W'.cell? ⟨l, 3, none⟩ = some (.string cv) ∧ W'.cell? ⟨l, 4, none⟩ = some (.bool cd) ∧ W'.cell? ⟨ix, 0, none⟩ = some (.string xk) ∧ W'.cell? ⟨ix, 1, none⟩ = some (.int .i64 xc) ∧ W'.cell? ⟨ix, 2, none⟩ = some (.int .i64 xn) ∧ W'.cell? ⟨ix, 3, none⟩ = some (.string xv) ∧ W'.cell? ⟨ix, 4, none⟩ = some (.bool xd) ∧ W'.cell? ⟨iy, 0, none⟩ = some (.string xk) ∧ W'.cell? ⟨iy, 1, none⟩ = some (.int .i64 xc) ∧ W'.cell? ⟨iy, 2, none⟩ = some (.int .i64 xn) ∧ W'.cell? ⟨iy, 3, none⟩ = some (.string xv) ∧ W'.cell? ⟨iy, 4, none⟩ = some (.bool xd) := by
  obtain ⟨h, h0, h1, h2, h3, h4, h5, h6, h7, h8, h9, h10, h11, h12, h13, h14, h15, h16, h17, h18, h19, h20, h21, h22, h23, h24⟩ := h
  exact ⟨bthen h bb, cell_on h0 bb, cell_on h1 bb, cell_on h2 bb, cell_on h3 bb, cell_on h4 bb, cell_on h5 bb, cell_on h6 bb, cell_on h7 bb, cell_on h8 bb, cell_on h9 bb, cell_on h10 bb, cell_on h11 bb, cell_on h12 bb, cell_on h13 bb, cell_on h14 bb, cell_on h15 bb, cell_on h16 bb, cell_on h17 bb, cell_on h18 bb, cell_on h19 bb, cell_on h20 bb, cell_on h21 bb, cell_on h22 bb, cell_on h23 bb, cell_on h24 bb⟩

theorem x3_keep {w W W' : World} {i j l ix iy iz : Nat} {ak av : ByteArray} {ac an : Int} {ad : Bool} {bk bv : ByteArray} {bc bn : Int} {bd : Bool} {ck cv : ByteArray} {cc cn : Int} {cd : Bool} {xk xv : ByteArray} {xc xn : Int} {xd : Bool} {zk zv : ByteArray} {zc zn : Int} {zd : Bool} (h : Below w.heap.size w W ∧ W.cell? ⟨i, 0, none⟩ = some (.string ak) ∧ W.cell? ⟨i, 1, none⟩ = some (.int .i64 ac) ∧ W.cell? ⟨i, 2, none⟩ = some (.int .i64 an) ∧ W.cell? ⟨i, 3, none⟩ = some (.string av) ∧ W.cell? ⟨i, 4, none⟩ = some (.bool ad) ∧ W.cell? ⟨j, 0, none⟩ = some (.string bk) ∧ W.cell? ⟨j, 1, none⟩ = some (.int .i64 bc) ∧ W.cell? ⟨j, 2, none⟩ = some (.int .i64 bn) ∧ W.cell? ⟨j, 3, none⟩ = some (.string bv) ∧ W.cell? ⟨j, 4, none⟩ = some (.bool bd) ∧ W.cell? ⟨l, 0, none⟩ = some (.string ck) ∧ W.cell? ⟨l, 1, none⟩ = some (.int .i64 cc) ∧ W.cell? ⟨l, 2, none⟩ = some (.int .i64 cn) ∧ W.cell? ⟨l, 3, none⟩ = some (.string cv) ∧ W.cell? ⟨l, 4, none⟩ = some (.bool cd) ∧ W.cell? ⟨ix, 0, none⟩ = some (.string xk) ∧ W.cell? ⟨ix, 1, none⟩ = some (.int .i64 xc) ∧ W.cell? ⟨ix, 2, none⟩ = some (.int .i64 xn) ∧ W.cell? ⟨ix, 3, none⟩ = some (.string xv) ∧ W.cell? ⟨ix, 4, none⟩ = some (.bool xd) ∧ W.cell? ⟨iy, 0, none⟩ = some (.string xk) ∧ W.cell? ⟨iy, 1, none⟩ = some (.int .i64 xc) ∧ W.cell? ⟨iy, 2, none⟩ = some (.int .i64 xn) ∧ W.cell? ⟨iy, 3, none⟩ = some (.string xv) ∧ W.cell? ⟨iy, 4, none⟩ = some (.bool xd) ∧ W.cell? ⟨iz, 0, none⟩ = some (.string zk) ∧ W.cell? ⟨iz, 1, none⟩ = some (.int .i64 zc) ∧ W.cell? ⟨iz, 2, none⟩ = some (.int .i64 zn) ∧ W.cell? ⟨iz, 3, none⟩ = some (.string zv) ∧ W.cell? ⟨iz, 4, none⟩ = some (.bool zd)) (bb : Below W.heap.size W W') :
    Below w.heap.size w W' ∧ W'.cell? ⟨i, 0, none⟩ = some (.string ak) ∧ W'.cell? ⟨i, 1, none⟩ = some (.int .i64 ac) ∧ W'.cell? ⟨i, 2, none⟩ = some (.int .i64 an) ∧ W'.cell? ⟨i, 3, none⟩ = some (.string av) ∧ W'.cell? ⟨i, 4, none⟩ = some (.bool ad) ∧ W'.cell? ⟨j, 0, none⟩ = some (.string bk) ∧ W'.cell? ⟨j, 1, none⟩ = some (.int .i64 bc) ∧ W'.cell? ⟨j, 2, none⟩ = some (.int .i64 bn) ∧ W'.cell? ⟨j, 3, none⟩ = some (.string bv) ∧ W'.cell? ⟨j, 4, none⟩ = some (.bool bd) ∧ W'.cell? ⟨l, 0, none⟩ = some (.string ck) ∧ W'.cell? ⟨l, 1, none⟩ = some (.int .i64 cc) ∧ W'.cell? ⟨l, 2, none⟩ = some (.int .i64 cn) ∧ W'.cell? ⟨l, 3, none⟩ = some (.string cv) ∧ W'.cell? ⟨l, 4, none⟩ = some (.bool cd) ∧ W'.cell? ⟨ix, 0, none⟩ = some (.string xk) ∧ W'.cell? ⟨ix, 1, none⟩ = some (.int .i64 xc) ∧ W'.cell? ⟨ix, 2, none⟩ = some (.int .i64 xn) ∧ W'.cell? ⟨ix, 3, none⟩ = some (.string xv) ∧ W'.cell? ⟨ix, 4, none⟩ = some (.bool xd) ∧ W'.cell? ⟨iy, 0, none⟩ = some (.string xk) ∧ W'.cell? ⟨iy, 1, none⟩ = some (.int .i64 xc) ∧ W'.cell? ⟨iy, 2, none⟩ = some (.int .i64 xn) ∧ W'.cell? ⟨iy, 3, none⟩ = some (.string xv) ∧ W'.cell? ⟨iy, 4, none⟩ = some (.bool xd) ∧ W'.cell? ⟨iz, 0, none⟩ = some (.string zk) ∧ W'.cell? ⟨iz, 1, none⟩ = some (.int .i64 zc) ∧ W'.cell? ⟨iz, 2, none⟩ = some (.int .i64 zn) ∧ W'.cell? ⟨iz, 3, none⟩ = some (.string zv) ∧ W'.cell? ⟨iz, 4, none⟩ = some (.bool zd) := by
  obtain ⟨h, h0, h1, h2, h3, h4, h5, h6, h7, h8, h9, h10, h11, h12, h13, h14, h15, h16, h17, h18, h19, h20, h21, h22, h23, h24, h25, h26, h27, h28, h29⟩ := h
  exact ⟨bthen h bb, cell_on h0 bb, cell_on h1 bb, cell_on h2 bb, cell_on h3 bb, cell_on h4 bb, cell_on h5 bb, cell_on h6 bb, cell_on h7 bb, cell_on h8 bb, cell_on h9 bb, cell_on h10 bb, cell_on h11 bb, cell_on h12 bb, cell_on h13 bb, cell_on h14 bb, cell_on h15 bb, cell_on h16 bb, cell_on h17 bb, cell_on h18 bb, cell_on h19 bb, cell_on h20 bb, cell_on h21 bb, cell_on h22 bb, cell_on h23 bb, cell_on h24 bb, cell_on h25 bb, cell_on h26 bb, cell_on h27 bb, cell_on h28 bb, cell_on h29 bb⟩

set_option maxRecDepth 100000 in
set_option maxHeartbeats 6400000 in
theorem best_core (ak : ByteArray) (ac an : Int) (av : ByteArray) (ad : Bool) (bk : ByteArray) (bc bn : Int) (bv : ByteArray) (bd : Bool) (ck : ByteArray) (cc cn : Int) (cv : ByteArray) (cd : Bool) (pk : ByteArray) (pc pn : Int) (pv : ByteArray) (pd : Bool) (qk : ByteArray) (qc qn : Int) (qv : ByteArray) (qd : Bool) (rk : ByteArray) (rc rn : Int) (rv : ByteArray) (rd : Bool) (xk : ByteArray) (xc xn : Int) (xv : ByteArray) (xd : Bool) (zk : ByteArray) (zc zn : Int) (zv : ByteArray) (zd : Bool) (w : World)
    (hla : ¬ (1073741824 : Int) < ak.size) (hga : ¬ (1073741824 : Int) < av.size) (hlb : ¬ (1073741824 : Int) < bk.size) (hgb : ¬ (1073741824 : Int) < bv.size) (hlc : ¬ (1073741824 : Int) < ck.size) (hgc : ¬ (1073741824 : Int) < cv.size)
    (hp : En.best ⟨ak, ac, an, av, ad⟩ ⟨bk, bc, bn, bv, bd⟩ = ⟨pk, pc, pn, pv, pd⟩) (hq : En.best ⟨bk, bc, bn, bv, bd⟩ ⟨ck, cc, cn, cv, cd⟩ = ⟨qk, qc, qn, qv, qd⟩) (hr : En.best ⟨bk, bc, bn, bv, bd⟩ ⟨ak, ac, an, av, ad⟩ = ⟨rk, rc, rn, rv, rd⟩) (hx : En.best ⟨pk, pc, pn, pv, pd⟩ ⟨ck, cc, cn, cv, cd⟩ = ⟨xk, xc, xn, xv, xd⟩) (hy : En.best ⟨ak, ac, an, av, ad⟩ ⟨qk, qc, qn, qv, qd⟩ = ⟨xk, xc, xn, xv, xd⟩) (hz : En.best ⟨ck, cc, cn, cv, cd⟩ ⟨rk, rc, rn, rv, rd⟩ = ⟨zk, zc, zn, zv, zd⟩)
    (hna : En.newer ⟨ak, ac, an, av, ad⟩ ⟨xk, xc, xn, xv, xd⟩ = false) (hnb : En.newer ⟨bk, bc, bn, bv, bd⟩ ⟨xk, xc, xn, xv, xd⟩ = false) (hnc : En.newer ⟨ck, cc, cn, cv, cd⟩ ⟨xk, xc, xn, xv, xd⟩ = false)
    (hV : ¬ (ac = bc ∧ an = bn) → ¬ (bc = cc ∧ bn = cn) → ¬ (ac = cc ∧ an = cn) → (⟨zk, zc, zn, zv, zd⟩ : En) = ⟨xk, xc, xn, xv, xd⟩) :
    Calls Try.prog 7 #[.agg #[.string ak, .int .i64 ac, .int .i64 an, .string av, .bool ad], .agg #[.string bk, .int .i64 bc, .int .i64 bn, .string bv, .bool bd], .agg #[.string ck, .int .i64 cc, .int .i64 cn, .string cv, .bool cd]] w fun e w' => e = .returned (.bool true) ∧ Below w.heap.size w w' := by
  obtain ⟨m, hm⟩ : ∃ m, En.newer ⟨ak, ac, an, av, ad⟩ ⟨bk, bc, bn, bv, bd⟩ = m := ⟨_, rfl⟩
  have Ca := aside (fun w => long_no ak ac an av ad w hla hga)
  have Cb := aside (fun w => long_no bk bc bn bv bd w hlb hgb)
  have Cc := aside (fun w => long_no ck cc cn cv cd w hlc hgc)
  have N1 := aside (fun w => newer_any _ _ _ _ _ _ _ _ _ _ _ w hm)
  have N2 := aside (fun w => newerRef_any _ _ _ _ _ _ _ _ _ _ _ w hm)
  have B1 := aside (fun w => best_any _ _ _ _ _ _ _ _ _ _ _ _ _ _ _ w hp)
  have B1' := aside (fun w => bestRef_any _ _ _ _ _ _ _ _ _ _ _ _ _ _ _ w hp)
  have B2 := aside (fun w => best_any _ _ _ _ _ _ _ _ _ _ _ _ _ _ _ w hq)
  have B3 := aside (fun w => best_any _ _ _ _ _ _ _ _ _ _ _ _ _ _ _ w hr)
  have B4 := aside (fun w => best_any _ _ _ _ _ _ _ _ _ _ _ _ _ _ _ w hx)
  have B5 := aside (fun w => best_any _ _ _ _ _ _ _ _ _ _ _ _ _ _ _ w hy)
  have B6 := aside (fun w => best_any _ _ _ _ _ _ _ _ _ _ _ _ _ _ _ w hz)
  have N3 := aside (fun w => newer_any _ _ _ _ _ _ _ _ _ _ _ w hna)
  have N4 := aside (fun w => newer_any _ _ _ _ _ _ _ _ _ _ _ w hnb)
  have N5 := aside (fun w => newer_any _ _ _ _ _ _ _ _ _ _ _ w hnc)
  have HV := aside hV
  clear hm hla hga hlb hgb hlc hgc hp hq hr hx hy hz hna hnb hnc hV
  go_enter Try.func7, Try.ntmps7
  go_wp2_with fail
  refine (Ca.out _).mono ?_
  rintro e w1 ⟨rfl, b1⟩
  obtain ⟨kA, kB, kC, -⟩ := three_ents b1
  obtain ⟨⟨fa0, fa1, fa2, fa3, fa4⟩, -⟩ := box5 kA
  obtain ⟨⟨fb0, fb1, fb2, fb3, fb4⟩, -⟩ := box5 kB
  obtain ⟨⟨fc0, fc1, fc2, fc3, fc4⟩, -⟩ := box5 kC
  clear kA kB kC
  go_wp2_with fail
  refine (Cb.out _).mono ?_
  rintro e w2 ⟨rfl, b2⟩
  replace b2 := bthen b1 b2
  clear fa0 fa1 fa2 fa3 fa4 fb0 fb1 fb2 fb3 fb4 fc0 fc1 fc2 fc3 fc4
  clear b1
  obtain ⟨kA, kB, kC, -⟩ := three_ents b2
  obtain ⟨⟨fa0, fa1, fa2, fa3, fa4⟩, -⟩ := box5 kA
  obtain ⟨⟨fb0, fb1, fb2, fb3, fb4⟩, -⟩ := box5 kB
  obtain ⟨⟨fc0, fc1, fc2, fc3, fc4⟩, -⟩ := box5 kC
  clear kA kB kC
  go_wp2_with fail
  refine (Cc.out _).mono ?_
  rintro e w3 ⟨rfl, b3⟩
  replace b3 := bthen b2 b3
  clear fa0 fa1 fa2 fa3 fa4 fb0 fb1 fb2 fb3 fb4 fc0 fc1 fc2 fc3 fc4
  clear b2
  obtain ⟨kA, kB, kC, b0⟩ := three_ents b3
  obtain ⟨⟨fa0, fa1, fa2, fa3, fa4⟩, -⟩ := box5 kA
  obtain ⟨⟨fb0, fb1, fb2, fb3, fb4⟩, -⟩ := box5 kB
  obtain ⟨⟨fc0, fc1, fc2, fc3, fc4⟩, -⟩ := box5 kC
  clear kA kB kC b3
  go_wp2_with fail
  refine wp_region_held_drew (S := fun W => Below w.heap.size w W ∧ W.cell? ⟨w.heap.size, 0, none⟩ = some (.string ak) ∧ W.cell? ⟨w.heap.size, 1, none⟩ = some (.int .i64 ac) ∧ W.cell? ⟨w.heap.size, 2, none⟩ = some (.int .i64 an) ∧ W.cell? ⟨w.heap.size, 3, none⟩ = some (.string av) ∧ W.cell? ⟨w.heap.size, 4, none⟩ = some (.bool ad) ∧ W.cell? ⟨w.heap.size + 1, 0, none⟩ = some (.string bk) ∧ W.cell? ⟨w.heap.size + 1, 1, none⟩ = some (.int .i64 bc) ∧ W.cell? ⟨w.heap.size + 1, 2, none⟩ = some (.int .i64 bn) ∧ W.cell? ⟨w.heap.size + 1, 3, none⟩ = some (.string bv) ∧ W.cell? ⟨w.heap.size + 1, 4, none⟩ = some (.bool bd) ∧ W.cell? ⟨w.heap.size + 1 + 1, 0, none⟩ = some (.string ck) ∧ W.cell? ⟨w.heap.size + 1 + 1, 1, none⟩ = some (.int .i64 cc) ∧ W.cell? ⟨w.heap.size + 1 + 1, 2, none⟩ = some (.int .i64 cn) ∧ W.cell? ⟨w.heap.size + 1 + 1, 3, none⟩ = some (.string cv) ∧ W.cell? ⟨w.heap.size + 1 + 1, 4, none⟩ = some (.bool cd)) (by kernel_rfl) ⟨b0.drew, fa0, fa1, fa2, fa3, fa4, fb0, fb1, fb2, fb3, fb4, fc0, fc1, fc2, fc3, fc4⟩ (fun hHeld => ?_)
  clear fa0 fa1 fa2 fa3 fa4 fb0 fb1 fb2 fb3 fb4 fc0 fc1 fc2 fc3 fc4
  refine wpAnyH_take (i := 0) (v := ?_) rfl (by kernel_rfl) (by kernel_rfl) (by kernel_rfl) (fun _ _ _ h => h) (Or.inl ⟨by rfl, ?_⟩) (by assumption) ?_
  rotate_left
  · intro w hSw
    go_simp
    try with_reducible rfl
  simp only [Act.put, List.getElem_toArray, List.getElem_cons_zero, List.setIfInBounds_toArray, List.set_cons_zero, List.set_cons_succ]
  refine wpAnyH_take (i := 1) (v := ?_) rfl (by kernel_rfl) (by kernel_rfl) (by kernel_rfl) (fun _ _ _ h => h) (Or.inl ⟨by rfl, ?_⟩) (by assumption) ?_
  rotate_left
  · intro w hSw
    go_simp
    try with_reducible rfl
  simp only [Act.put, List.getElem_toArray, List.getElem_cons_zero, List.getElem_cons_succ, List.setIfInBounds_toArray, List.set_cons_zero, List.set_cons_succ]
  refine wpAnyH_take (i := 3) (v := ?_) rfl (by kernel_rfl) (by kernel_rfl) (by kernel_rfl) (fun _ _ _ h => h) (Or.inl ⟨by rfl, ?_⟩) (by assumption) ?_
  rotate_left
  · intro w hSw
    go_simp
    try with_reducible rfl
  simp only [Act.put, List.getElem_toArray, List.getElem_cons_zero, List.getElem_cons_succ, List.setIfInBounds_toArray, List.set_cons_zero, List.set_cons_succ]
  refine wpAnyH_take (i := 4) (v := ?_) rfl (by kernel_rfl) (by kernel_rfl) (by kernel_rfl) (fun _ _ _ h => h) (Or.inl ⟨by rfl, ?_⟩) (by assumption) ?_
  rotate_left
  · intro w hSw
    go_simp
    try with_reducible rfl
  simp only [Act.put, List.getElem_toArray, List.getElem_cons_zero, List.getElem_cons_succ, List.setIfInBounds_toArray, List.set_cons_zero, List.set_cons_succ]
  refine wpAnyH_ready (rs := [2]) (by kernel_rfl) (by simp) ?_
  refine AllReadyH.cons rfl (fun K hK => ?_) AllReadyH.nil
  go_simp
  refine (N1.out _).mono ?_
  rintro e w9 ⟨rfl, bb⟩
  refine hK.out _ _ (abc_keep hHeld bb) (fun hHeld => ?_)
  clear hK K 
  refine wpAnyH_ready (rs := [5]) (by kernel_rfl) (by simp) ?_
  refine AllReadyH.cons rfl (fun K hK => ?_) AllReadyH.nil
  go_simp
  refine (N2.out _).mono ?_
  rintro e w9 ⟨rfl, bb⟩
  refine hK.out _ _ (abc_keep hHeld bb) (fun hHeld => ?_)
  clear hK K 
  refine wpAnyH_take (i := 6) (v := ?_) rfl (by kernel_rfl) (by kernel_rfl) (by kernel_rfl) (fun _ _ _ h => h) (Or.inl ⟨by rfl, ?_⟩) (by assumption) ?_
  rotate_left
  · intro w hSw
    go_simp
    try with_reducible rfl
  simp only [Act.put, List.getElem_toArray, List.getElem_cons_zero, List.getElem_cons_succ, List.setIfInBounds_toArray, List.set_cons_zero, List.set_cons_succ]
  refine wpAnyH_take (i := 7) (v := ?_) rfl (by kernel_rfl) (by kernel_rfl) (by kernel_rfl) (fun _ _ _ h => h) (Or.inl ⟨by rfl, ?_⟩) (by assumption) ?_
  rotate_left
  · intro w hSw
    go_simp
    try with_reducible rfl
  simp only [Act.put, List.getElem_toArray, List.getElem_cons_zero, List.getElem_cons_succ, List.setIfInBounds_toArray, List.set_cons_zero, List.set_cons_succ]
  refine wpAnyH_take (i := 8) (v := ?_) rfl (by kernel_rfl) (by kernel_rfl) (by kernel_rfl) (fun _ _ _ h => h) (Or.inl ⟨by rfl, ?_⟩) (by assumption) ?_
  rotate_left
  · intro w hSw
    go_simp
    try with_reducible rfl
  simp only [Act.put, List.getElem_toArray, List.getElem_cons_zero, List.getElem_cons_succ, List.setIfInBounds_toArray, List.set_cons_zero, List.set_cons_succ]
  refine wpAnyH_take (i := 9) (v := ?_) rfl (by kernel_rfl) (by kernel_rfl) (by kernel_rfl) (fun _ _ _ h => h) (Or.inl ⟨by rfl, ?_⟩) (by assumption) ?_
  rotate_left
  · intro w hSw
    go_simp
    try with_reducible rfl
  simp only [Act.put, List.getElem_toArray, List.getElem_cons_zero, List.getElem_cons_succ, List.setIfInBounds_toArray, List.set_cons_zero, List.set_cons_succ]
  refine wpAnyH_take (i := 11) (v := ?_) rfl (by kernel_rfl) (by kernel_rfl) (by kernel_rfl) (fun _ _ _ h => h) (Or.inl ⟨by rfl, ?_⟩) (by assumption) ?_
  rotate_left
  · intro w hSw
    go_simp
    try with_reducible rfl
  simp only [Act.put, List.getElem_toArray, List.getElem_cons_zero, List.getElem_cons_succ, List.setIfInBounds_toArray, List.set_cons_zero, List.set_cons_succ]
  refine wpAnyH_take (i := 12) (v := ?_) rfl (by kernel_rfl) (by kernel_rfl) (by kernel_rfl) (fun _ _ _ h => h) (Or.inl ⟨by rfl, ?_⟩) (by assumption) ?_
  rotate_left
  · intro w hSw
    go_simp
    try with_reducible rfl
  simp only [Act.put, List.getElem_toArray, List.getElem_cons_zero, List.getElem_cons_succ, List.setIfInBounds_toArray, List.set_cons_zero, List.set_cons_succ]
  refine wpAnyH_ready (rs := [10]) (by kernel_rfl) (by simp) ?_
  refine AllReadyH.cons rfl (fun K hK => ?_) AllReadyH.nil
  go_simp
  refine (B1.out _).mono ?_
  rintro e w9 ⟨rfl, bb⟩
  refine hK.out _ _ (abc_keep hHeld bb) (fun hHeld => ?_)
  clear hK K 
  refine wpAnyH_ready (rs := [13]) (by kernel_rfl) (by simp) ?_
  refine AllReadyH.cons rfl (fun K hK => ?_) AllReadyH.nil
  go_simp
  refine (B1'.out _).mono ?_
  rintro e w9 ⟨rfl, bb⟩
  refine hK.out _ _ (abc_keep hHeld bb) (fun hHeld => ?_)
  clear hK K 
  refine wpAnyH_take (i := 14) (v := ?_) rfl (by kernel_rfl) (by kernel_rfl) (by kernel_rfl) (fun _ _ _ h => h) (Or.inl ⟨by rfl, ?_⟩) (by assumption) ?_
  rotate_left
  · intro w hSw
    go_simp
    try with_reducible rfl
  simp only [Act.put, List.getElem_toArray, List.getElem_cons_zero, List.getElem_cons_succ, List.setIfInBounds_toArray, List.set_cons_zero, List.set_cons_succ]
  refine wpAnyH_take (i := 15) (v := ?_) rfl (by kernel_rfl) (by kernel_rfl) (by kernel_rfl) (fun _ _ _ h => h) (Or.inl ⟨by rfl, ?_⟩) (by assumption) ?_
  rotate_left
  · intro w hSw
    go_simp
    try with_reducible rfl
  simp only [Act.put, List.getElem_toArray, List.getElem_cons_zero, List.getElem_cons_succ, List.setIfInBounds_toArray, List.set_cons_zero, List.set_cons_succ]
  refine wpAnyH_done (by kernel_rfl) ?_ _
  go_wp2
  generalize hw0 : w9 = w0 at *
  clear hw0
  have hHeld0 := hHeld
  clear hHeld
  go_wp2_with fail
  rename_i K0 hK0
  refine (fun (key : Hid (∀ (i : Nat) (W : World), Below w.heap.size w W ∧ W.cell? ⟨w.heap.size, 0, none⟩ = some (.string ak) ∧ W.cell? ⟨w.heap.size, 1, none⟩ = some (.int .i64 ac) ∧ W.cell? ⟨w.heap.size, 2, none⟩ = some (.int .i64 an) ∧ W.cell? ⟨w.heap.size, 3, none⟩ = some (.string av) ∧ W.cell? ⟨w.heap.size, 4, none⟩ = some (.bool ad) ∧ W.cell? ⟨w.heap.size + 1, 0, none⟩ = some (.string bk) ∧ W.cell? ⟨w.heap.size + 1, 1, none⟩ = some (.int .i64 bc) ∧ W.cell? ⟨w.heap.size + 1, 2, none⟩ = some (.int .i64 bn) ∧ W.cell? ⟨w.heap.size + 1, 3, none⟩ = some (.string bv) ∧ W.cell? ⟨w.heap.size + 1, 4, none⟩ = some (.bool bd) ∧ W.cell? ⟨w.heap.size + 1 + 1, 0, none⟩ = some (.string ck) ∧ W.cell? ⟨w.heap.size + 1 + 1, 1, none⟩ = some (.int .i64 cc) ∧ W.cell? ⟨w.heap.size + 1 + 1, 2, none⟩ = some (.int .i64 cn) ∧ W.cell? ⟨w.heap.size + 1 + 1, 3, none⟩ = some (.string cv) ∧ W.cell? ⟨w.heap.size + 1 + 1, 4, none⟩ = some (.bool cd) → W.heap[i]? = some (.cells #[.string xk, .int .i64 xc, .int .i64 xn, .string xv, .bool xd] 34 (0, 0)) → K0 ((?act2 : Nat → Act) i) W)) => ?main2) ?keyproof2
  case main2 =>
    refine wp_region_held_drew (S := fun W => Below w.heap.size w W ∧ W.cell? ⟨w.heap.size, 0, none⟩ = some (.string ak) ∧ W.cell? ⟨w.heap.size, 1, none⟩ = some (.int .i64 ac) ∧ W.cell? ⟨w.heap.size, 2, none⟩ = some (.int .i64 an) ∧ W.cell? ⟨w.heap.size, 3, none⟩ = some (.string av) ∧ W.cell? ⟨w.heap.size, 4, none⟩ = some (.bool ad) ∧ W.cell? ⟨w.heap.size + 1, 0, none⟩ = some (.string bk) ∧ W.cell? ⟨w.heap.size + 1, 1, none⟩ = some (.int .i64 bc) ∧ W.cell? ⟨w.heap.size + 1, 2, none⟩ = some (.int .i64 bn) ∧ W.cell? ⟨w.heap.size + 1, 3, none⟩ = some (.string bv) ∧ W.cell? ⟨w.heap.size + 1, 4, none⟩ = some (.bool bd) ∧ W.cell? ⟨w.heap.size + 1 + 1, 0, none⟩ = some (.string ck) ∧ W.cell? ⟨w.heap.size + 1 + 1, 1, none⟩ = some (.int .i64 cc) ∧ W.cell? ⟨w.heap.size + 1 + 1, 2, none⟩ = some (.int .i64 cn) ∧ W.cell? ⟨w.heap.size + 1 + 1, 3, none⟩ = some (.string cv) ∧ W.cell? ⟨w.heap.size + 1 + 1, 4, none⟩ = some (.bool cd)) (by kernel_rfl) ⟨hHeld0.1.drew, hHeld0.2⟩ (fun hHeld => ?_)
    refine wpAnyH_take (i := 0) (v := ?_) rfl (by kernel_rfl) (by kernel_rfl) (by kernel_rfl) (fun _ _ _ h => h) (Or.inl ⟨by rfl, ?_⟩) (by assumption) ?_
    rotate_left
    · intro w hSw
      go_simp
      try with_reducible rfl
    simp only [Act.put, List.getElem_toArray, List.getElem_cons_zero, List.setIfInBounds_toArray, List.set_cons_zero, List.set_cons_succ]
    refine wpAnyH_take (i := 1) (v := ?_) rfl (by kernel_rfl) (by kernel_rfl) (by kernel_rfl) (fun _ _ _ h => h) (Or.inl ⟨by rfl, ?_⟩) (by assumption) ?_
    rotate_left
    · intro w hSw
      go_simp
      try with_reducible rfl
    simp only [Act.put, List.getElem_toArray, List.getElem_cons_zero, List.getElem_cons_succ, List.setIfInBounds_toArray, List.set_cons_zero, List.set_cons_succ]
    refine wpAnyH_take (i := 3) (v := ?_) rfl (by kernel_rfl) (by kernel_rfl) (by kernel_rfl) (fun _ _ _ h => h) (Or.inl ⟨by rfl, ?_⟩) (by assumption) ?_
    rotate_left
    · intro w hSw
      go_simp
      try with_reducible rfl
    simp only [Act.put, List.getElem_toArray, List.getElem_cons_zero, List.getElem_cons_succ, List.setIfInBounds_toArray, List.set_cons_zero, List.set_cons_succ]
    refine wpAnyH_ready (rs := [2, 5]) (by kernel_rfl) (by simp) ?_
    refine AllReadyH.cons rfl (fun K hK => ?_) (AllReadyH.cons rfl (fun K hK => ?_) AllReadyH.nil)
    · go_simp
      refine (B1.out _).mono ?_
      rintro e w4 ⟨rfl, bb⟩
      refine hK.out _ _ (abc_keep hHeld bb) (fun hHeld => ?_)
      clear hK K
      clear bb
      refine wpAnyH_ready (rs := [4, 5]) (by kernel_rfl) (by simp) ?_
      refine AllReadyH.cons rfl (fun K hK => ?_) (AllReadyH.cons rfl (fun K hK => ?_) AllReadyH.nil)
      · go_simp
        refine (B4.out _).mono ?_
        rintro e w5 ⟨rfl, bb⟩
        refine hK.out _ _ (abc_keep hHeld bb) (fun hHeld => ?_)
        clear hK K
        clear bb
        refine wpAnyH_ready (rs := [5]) (by kernel_rfl) (by simp) ?_
        refine AllReadyH.cons rfl (fun K hK => ?_) AllReadyH.nil
        go_simp
        have hHeld1 := hHeld
        have hA : Below w.heap.size w (w5.alloc (.cells #[.string ⟨#[]⟩, .int .i64 0, .int .i64 0, .string ⟨#[]⟩, .bool false] 34)) ∧ (w5.alloc (.cells #[.string ⟨#[]⟩, .int .i64 0, .int .i64 0, .string ⟨#[]⟩, .bool false] 34)).cell? ⟨w.heap.size, 0, none⟩ = some (.string ak) ∧ (w5.alloc (.cells #[.string ⟨#[]⟩, .int .i64 0, .int .i64 0, .string ⟨#[]⟩, .bool false] 34)).cell? ⟨w.heap.size, 1, none⟩ = some (.int .i64 ac) ∧ (w5.alloc (.cells #[.string ⟨#[]⟩, .int .i64 0, .int .i64 0, .string ⟨#[]⟩, .bool false] 34)).cell? ⟨w.heap.size, 2, none⟩ = some (.int .i64 an) ∧ (w5.alloc (.cells #[.string ⟨#[]⟩, .int .i64 0, .int .i64 0, .string ⟨#[]⟩, .bool false] 34)).cell? ⟨w.heap.size, 3, none⟩ = some (.string av) ∧ (w5.alloc (.cells #[.string ⟨#[]⟩, .int .i64 0, .int .i64 0, .string ⟨#[]⟩, .bool false] 34)).cell? ⟨w.heap.size, 4, none⟩ = some (.bool ad) ∧ (w5.alloc (.cells #[.string ⟨#[]⟩, .int .i64 0, .int .i64 0, .string ⟨#[]⟩, .bool false] 34)).cell? ⟨w.heap.size + 1, 0, none⟩ = some (.string bk) ∧ (w5.alloc (.cells #[.string ⟨#[]⟩, .int .i64 0, .int .i64 0, .string ⟨#[]⟩, .bool false] 34)).cell? ⟨w.heap.size + 1, 1, none⟩ = some (.int .i64 bc) ∧ (w5.alloc (.cells #[.string ⟨#[]⟩, .int .i64 0, .int .i64 0, .string ⟨#[]⟩, .bool false] 34)).cell? ⟨w.heap.size + 1, 2, none⟩ = some (.int .i64 bn) ∧ (w5.alloc (.cells #[.string ⟨#[]⟩, .int .i64 0, .int .i64 0, .string ⟨#[]⟩, .bool false] 34)).cell? ⟨w.heap.size + 1, 3, none⟩ = some (.string bv) ∧ (w5.alloc (.cells #[.string ⟨#[]⟩, .int .i64 0, .int .i64 0, .string ⟨#[]⟩, .bool false] 34)).cell? ⟨w.heap.size + 1, 4, none⟩ = some (.bool bd) ∧ (w5.alloc (.cells #[.string ⟨#[]⟩, .int .i64 0, .int .i64 0, .string ⟨#[]⟩, .bool false] 34)).cell? ⟨w.heap.size + 1 + 1, 0, none⟩ = some (.string ck) ∧ (w5.alloc (.cells #[.string ⟨#[]⟩, .int .i64 0, .int .i64 0, .string ⟨#[]⟩, .bool false] 34)).cell? ⟨w.heap.size + 1 + 1, 1, none⟩ = some (.int .i64 cc) ∧ (w5.alloc (.cells #[.string ⟨#[]⟩, .int .i64 0, .int .i64 0, .string ⟨#[]⟩, .bool false] 34)).cell? ⟨w.heap.size + 1 + 1, 2, none⟩ = some (.int .i64 cn) ∧ (w5.alloc (.cells #[.string ⟨#[]⟩, .int .i64 0, .int .i64 0, .string ⟨#[]⟩, .bool false] 34)).cell? ⟨w.heap.size + 1 + 1, 3, none⟩ = some (.string cv) ∧ (w5.alloc (.cells #[.string ⟨#[]⟩, .int .i64 0, .int .i64 0, .string ⟨#[]⟩, .bool false] 34)).cell? ⟨w.heap.size + 1 + 1, 4, none⟩ = some (.bool cd) := abc_keep hHeld (bnew w5 _)
        refine hK.out _ _ hA (fun hHeld => ?_)
        clear hK K hA
        have kX : (w5.alloc (.cells #[.string ⟨#[]⟩, .int .i64 0, .int .i64 0, .string ⟨#[]⟩, .bool false] 34)).heap[w5.heap.size]? = some (.cells #[.string ⟨#[]⟩, .int .i64 0, .int .i64 0, .string ⟨#[]⟩, .bool false] 34 (0, 0)) := heap_alloc_new w5 _
        have bX : Below w5.heap.size w5 (w5.alloc (.cells #[.string ⟨#[]⟩, .int .i64 0, .int .i64 0, .string ⟨#[]⟩, .bool false] 34)) := (bnew w5 _)
        obtain ⟨i, hi⟩ : ∃ i, w5.heap.size = i := ⟨_, rfl⟩
        rw [hi] at kX
        rw [hi]
        have HI := aside hi
        clear hi
        refine wpAnyH_ready (rs := [6]) (by kernel_rfl) (by simp) ?_
        refine AllReadyH.cons rfl (fun K hK => ?_) AllReadyH.nil
        obtain ⟨⟨s0, s1, s2, s3, s4⟩, f0, f1, f2, f3, f4⟩ := box5 kX
        have KX := aside kX
        have BX := aside bX
        clear kX bX
        go_simp
        refine hK.out _ _ (abc_keep hHeld1 (set5 BX.out (by have := HI.out; omega) _ _ _ _ _)) (fun hHeld => ?_)
        refine wpAnyH_done (by kernel_rfl) ?_ _
        exact key.out i _ hHeld (set5_blk KX.out _ _ _ _ _)
      · go_simp
        have hHeld1 := hHeld
        have hA : Below w.heap.size w (w4.alloc (.cells #[.string ⟨#[]⟩, .int .i64 0, .int .i64 0, .string ⟨#[]⟩, .bool false] 34)) ∧ (w4.alloc (.cells #[.string ⟨#[]⟩, .int .i64 0, .int .i64 0, .string ⟨#[]⟩, .bool false] 34)).cell? ⟨w.heap.size, 0, none⟩ = some (.string ak) ∧ (w4.alloc (.cells #[.string ⟨#[]⟩, .int .i64 0, .int .i64 0, .string ⟨#[]⟩, .bool false] 34)).cell? ⟨w.heap.size, 1, none⟩ = some (.int .i64 ac) ∧ (w4.alloc (.cells #[.string ⟨#[]⟩, .int .i64 0, .int .i64 0, .string ⟨#[]⟩, .bool false] 34)).cell? ⟨w.heap.size, 2, none⟩ = some (.int .i64 an) ∧ (w4.alloc (.cells #[.string ⟨#[]⟩, .int .i64 0, .int .i64 0, .string ⟨#[]⟩, .bool false] 34)).cell? ⟨w.heap.size, 3, none⟩ = some (.string av) ∧ (w4.alloc (.cells #[.string ⟨#[]⟩, .int .i64 0, .int .i64 0, .string ⟨#[]⟩, .bool false] 34)).cell? ⟨w.heap.size, 4, none⟩ = some (.bool ad) ∧ (w4.alloc (.cells #[.string ⟨#[]⟩, .int .i64 0, .int .i64 0, .string ⟨#[]⟩, .bool false] 34)).cell? ⟨w.heap.size + 1, 0, none⟩ = some (.string bk) ∧ (w4.alloc (.cells #[.string ⟨#[]⟩, .int .i64 0, .int .i64 0, .string ⟨#[]⟩, .bool false] 34)).cell? ⟨w.heap.size + 1, 1, none⟩ = some (.int .i64 bc) ∧ (w4.alloc (.cells #[.string ⟨#[]⟩, .int .i64 0, .int .i64 0, .string ⟨#[]⟩, .bool false] 34)).cell? ⟨w.heap.size + 1, 2, none⟩ = some (.int .i64 bn) ∧ (w4.alloc (.cells #[.string ⟨#[]⟩, .int .i64 0, .int .i64 0, .string ⟨#[]⟩, .bool false] 34)).cell? ⟨w.heap.size + 1, 3, none⟩ = some (.string bv) ∧ (w4.alloc (.cells #[.string ⟨#[]⟩, .int .i64 0, .int .i64 0, .string ⟨#[]⟩, .bool false] 34)).cell? ⟨w.heap.size + 1, 4, none⟩ = some (.bool bd) ∧ (w4.alloc (.cells #[.string ⟨#[]⟩, .int .i64 0, .int .i64 0, .string ⟨#[]⟩, .bool false] 34)).cell? ⟨w.heap.size + 1 + 1, 0, none⟩ = some (.string ck) ∧ (w4.alloc (.cells #[.string ⟨#[]⟩, .int .i64 0, .int .i64 0, .string ⟨#[]⟩, .bool false] 34)).cell? ⟨w.heap.size + 1 + 1, 1, none⟩ = some (.int .i64 cc) ∧ (w4.alloc (.cells #[.string ⟨#[]⟩, .int .i64 0, .int .i64 0, .string ⟨#[]⟩, .bool false] 34)).cell? ⟨w.heap.size + 1 + 1, 2, none⟩ = some (.int .i64 cn) ∧ (w4.alloc (.cells #[.string ⟨#[]⟩, .int .i64 0, .int .i64 0, .string ⟨#[]⟩, .bool false] 34)).cell? ⟨w.heap.size + 1 + 1, 3, none⟩ = some (.string cv) ∧ (w4.alloc (.cells #[.string ⟨#[]⟩, .int .i64 0, .int .i64 0, .string ⟨#[]⟩, .bool false] 34)).cell? ⟨w.heap.size + 1 + 1, 4, none⟩ = some (.bool cd) := abc_keep hHeld (bnew w4 _)
        refine hK.out _ _ hA (fun hHeld => ?_)
        clear hK K hA
        have kX : (w4.alloc (.cells #[.string ⟨#[]⟩, .int .i64 0, .int .i64 0, .string ⟨#[]⟩, .bool false] 34)).heap[w4.heap.size]? = some (.cells #[.string ⟨#[]⟩, .int .i64 0, .int .i64 0, .string ⟨#[]⟩, .bool false] 34 (0, 0)) := heap_alloc_new w4 _
        have bX : Below w4.heap.size w4 (w4.alloc (.cells #[.string ⟨#[]⟩, .int .i64 0, .int .i64 0, .string ⟨#[]⟩, .bool false] 34)) := (bnew w4 _)
        obtain ⟨i, hi⟩ : ∃ i, w4.heap.size = i := ⟨_, rfl⟩
        rw [hi] at kX
        rw [hi]
        have HI := aside hi
        clear hi
        refine wpAnyH_ready (rs := [4]) (by kernel_rfl) (by simp) ?_
        refine AllReadyH.cons rfl (fun K hK => ?_) AllReadyH.nil
        go_simp
        refine (B4.out _).mono ?_
        rintro e w5 ⟨rfl, bb⟩
        refine hK.out _ _ (abc_keep hHeld bb) (fun hHeld => ?_)
        clear hK K
        replace kX := blk_keep kX bb
        replace bX := bthen bX bb
        clear bb
        refine wpAnyH_ready (rs := [6]) (by kernel_rfl) (by simp) ?_
        refine AllReadyH.cons rfl (fun K hK => ?_) AllReadyH.nil
        obtain ⟨⟨s0, s1, s2, s3, s4⟩, f0, f1, f2, f3, f4⟩ := box5 kX
        have KX := aside kX
        have BX := aside bX
        clear kX bX
        go_simp
        refine hK.out _ _ (abc_keep hHeld1 (set5 BX.out (by have := HI.out; omega) _ _ _ _ _)) (fun hHeld => ?_)
        refine wpAnyH_done (by kernel_rfl) ?_ _
        exact key.out i _ hHeld (set5_blk KX.out _ _ _ _ _)
    · go_simp
      have hA : Below w.heap.size w (w0.alloc (.cells #[.string ⟨#[]⟩, .int .i64 0, .int .i64 0, .string ⟨#[]⟩, .bool false] 34)).drew ∧ (w0.alloc (.cells #[.string ⟨#[]⟩, .int .i64 0, .int .i64 0, .string ⟨#[]⟩, .bool false] 34)).drew.cell? ⟨w.heap.size, 0, none⟩ = some (.string ak) ∧ (w0.alloc (.cells #[.string ⟨#[]⟩, .int .i64 0, .int .i64 0, .string ⟨#[]⟩, .bool false] 34)).drew.cell? ⟨w.heap.size, 1, none⟩ = some (.int .i64 ac) ∧ (w0.alloc (.cells #[.string ⟨#[]⟩, .int .i64 0, .int .i64 0, .string ⟨#[]⟩, .bool false] 34)).drew.cell? ⟨w.heap.size, 2, none⟩ = some (.int .i64 an) ∧ (w0.alloc (.cells #[.string ⟨#[]⟩, .int .i64 0, .int .i64 0, .string ⟨#[]⟩, .bool false] 34)).drew.cell? ⟨w.heap.size, 3, none⟩ = some (.string av) ∧ (w0.alloc (.cells #[.string ⟨#[]⟩, .int .i64 0, .int .i64 0, .string ⟨#[]⟩, .bool false] 34)).drew.cell? ⟨w.heap.size, 4, none⟩ = some (.bool ad) ∧ (w0.alloc (.cells #[.string ⟨#[]⟩, .int .i64 0, .int .i64 0, .string ⟨#[]⟩, .bool false] 34)).drew.cell? ⟨w.heap.size + 1, 0, none⟩ = some (.string bk) ∧ (w0.alloc (.cells #[.string ⟨#[]⟩, .int .i64 0, .int .i64 0, .string ⟨#[]⟩, .bool false] 34)).drew.cell? ⟨w.heap.size + 1, 1, none⟩ = some (.int .i64 bc) ∧ (w0.alloc (.cells #[.string ⟨#[]⟩, .int .i64 0, .int .i64 0, .string ⟨#[]⟩, .bool false] 34)).drew.cell? ⟨w.heap.size + 1, 2, none⟩ = some (.int .i64 bn) ∧ (w0.alloc (.cells #[.string ⟨#[]⟩, .int .i64 0, .int .i64 0, .string ⟨#[]⟩, .bool false] 34)).drew.cell? ⟨w.heap.size + 1, 3, none⟩ = some (.string bv) ∧ (w0.alloc (.cells #[.string ⟨#[]⟩, .int .i64 0, .int .i64 0, .string ⟨#[]⟩, .bool false] 34)).drew.cell? ⟨w.heap.size + 1, 4, none⟩ = some (.bool bd) ∧ (w0.alloc (.cells #[.string ⟨#[]⟩, .int .i64 0, .int .i64 0, .string ⟨#[]⟩, .bool false] 34)).drew.cell? ⟨w.heap.size + 1 + 1, 0, none⟩ = some (.string ck) ∧ (w0.alloc (.cells #[.string ⟨#[]⟩, .int .i64 0, .int .i64 0, .string ⟨#[]⟩, .bool false] 34)).drew.cell? ⟨w.heap.size + 1 + 1, 1, none⟩ = some (.int .i64 cc) ∧ (w0.alloc (.cells #[.string ⟨#[]⟩, .int .i64 0, .int .i64 0, .string ⟨#[]⟩, .bool false] 34)).drew.cell? ⟨w.heap.size + 1 + 1, 2, none⟩ = some (.int .i64 cn) ∧ (w0.alloc (.cells #[.string ⟨#[]⟩, .int .i64 0, .int .i64 0, .string ⟨#[]⟩, .bool false] 34)).drew.cell? ⟨w.heap.size + 1 + 1, 3, none⟩ = some (.string cv) ∧ (w0.alloc (.cells #[.string ⟨#[]⟩, .int .i64 0, .int .i64 0, .string ⟨#[]⟩, .bool false] 34)).drew.cell? ⟨w.heap.size + 1 + 1, 4, none⟩ = some (.bool cd) := abc_keep hHeld0 (bnew w0 _).drew
      refine hK.out _ _ hA (fun hHeld => ?_)
      clear hK K hA
      have kX : (w0.alloc (.cells #[.string ⟨#[]⟩, .int .i64 0, .int .i64 0, .string ⟨#[]⟩, .bool false] 34)).drew.heap[w0.heap.size]? = some (.cells #[.string ⟨#[]⟩, .int .i64 0, .int .i64 0, .string ⟨#[]⟩, .bool false] 34 (0, 0)) := heap_alloc_new w0 _
      have bX : Below w0.heap.size w0 (w0.alloc (.cells #[.string ⟨#[]⟩, .int .i64 0, .int .i64 0, .string ⟨#[]⟩, .bool false] 34)).drew := (bnew w0 _).drew
      obtain ⟨i, hi⟩ : ∃ i, w0.heap.size = i := ⟨_, rfl⟩
      rw [hi] at kX
      rw [hi]
      have HI := aside hi
      clear hi
      refine wpAnyH_ready (rs := [2]) (by kernel_rfl) (by simp) ?_
      refine AllReadyH.cons rfl (fun K hK => ?_) AllReadyH.nil
      go_simp
      refine (B1.out _).mono ?_
      rintro e w4 ⟨rfl, bb⟩
      refine hK.out _ _ (abc_keep hHeld bb) (fun hHeld => ?_)
      clear hK K
      replace kX := blk_keep kX bb
      replace bX := bthen bX bb
      clear bb
      refine wpAnyH_ready (rs := [4]) (by kernel_rfl) (by simp) ?_
      refine AllReadyH.cons rfl (fun K hK => ?_) AllReadyH.nil
      go_simp
      refine (B4.out _).mono ?_
      rintro e w5 ⟨rfl, bb⟩
      refine hK.out _ _ (abc_keep hHeld bb) (fun hHeld => ?_)
      clear hK K
      replace kX := blk_keep kX bb
      replace bX := bthen bX bb
      clear bb
      refine wpAnyH_ready (rs := [6]) (by kernel_rfl) (by simp) ?_
      refine AllReadyH.cons rfl (fun K hK => ?_) AllReadyH.nil
      obtain ⟨⟨s0, s1, s2, s3, s4⟩, f0, f1, f2, f3, f4⟩ := box5 kX
      have KX := aside kX
      have BX := aside bX
      clear kX bX
      go_simp
      refine hK.out _ _ (abc_keep hHeld0 (set5 BX.out (by have := HI.out; omega) _ _ _ _ _)) (fun hHeld => ?_)
      refine wpAnyH_done (by kernel_rfl) ?_ _
      exact key.out i _ hHeld (set5_blk KX.out _ _ _ _ _)
  case keyproof2 =>
    refine aside ?_
    intro ix W hHeld kX
    refine hK0 _ _ ?_
    obtain ⟨⟨s0, s1, s2, s3, s4⟩, -⟩ := box5 kX
    clear hK0 kX hHeld0
    obtain ⟨hb, h0, h1, h2, h3, h4, h5, h6, h7, h8, h9, h10, h11, h12, h13, h14⟩ := hHeld
    have hHeld0 : Below w.heap.size w W ∧ W.cell? ⟨w.heap.size, 0, none⟩ = some (.string ak) ∧ W.cell? ⟨w.heap.size, 1, none⟩ = some (.int .i64 ac) ∧ W.cell? ⟨w.heap.size, 2, none⟩ = some (.int .i64 an) ∧ W.cell? ⟨w.heap.size, 3, none⟩ = some (.string av) ∧ W.cell? ⟨w.heap.size, 4, none⟩ = some (.bool ad) ∧ W.cell? ⟨w.heap.size + 1, 0, none⟩ = some (.string bk) ∧ W.cell? ⟨w.heap.size + 1, 1, none⟩ = some (.int .i64 bc) ∧ W.cell? ⟨w.heap.size + 1, 2, none⟩ = some (.int .i64 bn) ∧ W.cell? ⟨w.heap.size + 1, 3, none⟩ = some (.string bv) ∧ W.cell? ⟨w.heap.size + 1, 4, none⟩ = some (.bool bd) ∧ W.cell? ⟨w.heap.size + 1 + 1, 0, none⟩ = some (.string ck) ∧ W.cell? ⟨w.heap.size + 1 + 1, 1, none⟩ = some (.int .i64 cc) ∧ W.cell? ⟨w.heap.size + 1 + 1, 2, none⟩ = some (.int .i64 cn) ∧ W.cell? ⟨w.heap.size + 1 + 1, 3, none⟩ = some (.string cv) ∧ W.cell? ⟨w.heap.size + 1 + 1, 4, none⟩ = some (.bool cd) ∧ W.cell? ⟨ix, 0, none⟩ = some (.string xk) ∧ W.cell? ⟨ix, 1, none⟩ = some (.int .i64 xc) ∧ W.cell? ⟨ix, 2, none⟩ = some (.int .i64 xn) ∧ W.cell? ⟨ix, 3, none⟩ = some (.string xv) ∧ W.cell? ⟨ix, 4, none⟩ = some (.bool xd) := ⟨hb, h0, h1, h2, h3, h4, h5, h6, h7, h8, h9, h10, h11, h12, h13, h14, s0, s1, s2, s3, s4⟩
    clear hb h0 h1 h2 h3 h4 h5 h6 h7 h8 h9 h10 h11 h12 h13 h14 s0 s1 s2 s3 s4
    generalize hw1 : W = w10 at *
    clear hw1
    go_wp2_with fail
    rename_i K0 hK0
    refine (fun (key : Hid (∀ (i : Nat) (W : World), Below w.heap.size w W ∧ W.cell? ⟨w.heap.size, 0, none⟩ = some (.string ak) ∧ W.cell? ⟨w.heap.size, 1, none⟩ = some (.int .i64 ac) ∧ W.cell? ⟨w.heap.size, 2, none⟩ = some (.int .i64 an) ∧ W.cell? ⟨w.heap.size, 3, none⟩ = some (.string av) ∧ W.cell? ⟨w.heap.size, 4, none⟩ = some (.bool ad) ∧ W.cell? ⟨w.heap.size + 1, 0, none⟩ = some (.string bk) ∧ W.cell? ⟨w.heap.size + 1, 1, none⟩ = some (.int .i64 bc) ∧ W.cell? ⟨w.heap.size + 1, 2, none⟩ = some (.int .i64 bn) ∧ W.cell? ⟨w.heap.size + 1, 3, none⟩ = some (.string bv) ∧ W.cell? ⟨w.heap.size + 1, 4, none⟩ = some (.bool bd) ∧ W.cell? ⟨w.heap.size + 1 + 1, 0, none⟩ = some (.string ck) ∧ W.cell? ⟨w.heap.size + 1 + 1, 1, none⟩ = some (.int .i64 cc) ∧ W.cell? ⟨w.heap.size + 1 + 1, 2, none⟩ = some (.int .i64 cn) ∧ W.cell? ⟨w.heap.size + 1 + 1, 3, none⟩ = some (.string cv) ∧ W.cell? ⟨w.heap.size + 1 + 1, 4, none⟩ = some (.bool cd) ∧ W.cell? ⟨ix, 0, none⟩ = some (.string xk) ∧ W.cell? ⟨ix, 1, none⟩ = some (.int .i64 xc) ∧ W.cell? ⟨ix, 2, none⟩ = some (.int .i64 xn) ∧ W.cell? ⟨ix, 3, none⟩ = some (.string xv) ∧ W.cell? ⟨ix, 4, none⟩ = some (.bool xd) → W.heap[i]? = some (.cells #[.string xk, .int .i64 xc, .int .i64 xn, .string xv, .bool xd] 34 (0, 0)) → K0 ((?act4 : Nat → Act) i) W)) => ?main4) ?keyproof4
    case main4 =>
      refine wp_region_held_drew (S := fun W => Below w.heap.size w W ∧ W.cell? ⟨w.heap.size, 0, none⟩ = some (.string ak) ∧ W.cell? ⟨w.heap.size, 1, none⟩ = some (.int .i64 ac) ∧ W.cell? ⟨w.heap.size, 2, none⟩ = some (.int .i64 an) ∧ W.cell? ⟨w.heap.size, 3, none⟩ = some (.string av) ∧ W.cell? ⟨w.heap.size, 4, none⟩ = some (.bool ad) ∧ W.cell? ⟨w.heap.size + 1, 0, none⟩ = some (.string bk) ∧ W.cell? ⟨w.heap.size + 1, 1, none⟩ = some (.int .i64 bc) ∧ W.cell? ⟨w.heap.size + 1, 2, none⟩ = some (.int .i64 bn) ∧ W.cell? ⟨w.heap.size + 1, 3, none⟩ = some (.string bv) ∧ W.cell? ⟨w.heap.size + 1, 4, none⟩ = some (.bool bd) ∧ W.cell? ⟨w.heap.size + 1 + 1, 0, none⟩ = some (.string ck) ∧ W.cell? ⟨w.heap.size + 1 + 1, 1, none⟩ = some (.int .i64 cc) ∧ W.cell? ⟨w.heap.size + 1 + 1, 2, none⟩ = some (.int .i64 cn) ∧ W.cell? ⟨w.heap.size + 1 + 1, 3, none⟩ = some (.string cv) ∧ W.cell? ⟨w.heap.size + 1 + 1, 4, none⟩ = some (.bool cd) ∧ W.cell? ⟨ix, 0, none⟩ = some (.string xk) ∧ W.cell? ⟨ix, 1, none⟩ = some (.int .i64 xc) ∧ W.cell? ⟨ix, 2, none⟩ = some (.int .i64 xn) ∧ W.cell? ⟨ix, 3, none⟩ = some (.string xv) ∧ W.cell? ⟨ix, 4, none⟩ = some (.bool xd)) (by kernel_rfl) ⟨hHeld0.1.drew, hHeld0.2⟩ (fun hHeld => ?_)
      refine wpAnyH_take (i := 0) (v := ?_) rfl (by kernel_rfl) (by kernel_rfl) (by kernel_rfl) (fun _ _ _ h => h) (Or.inl ⟨by rfl, ?_⟩) (by assumption) ?_
      rotate_left
      · intro w hSw
        go_simp
        try with_reducible rfl
      simp only [Act.put, List.getElem_toArray, List.getElem_cons_zero, List.setIfInBounds_toArray, List.set_cons_zero, List.set_cons_succ]
      refine wpAnyH_take (i := 1) (v := ?_) rfl (by kernel_rfl) (by kernel_rfl) (by kernel_rfl) (fun _ _ _ h => h) (Or.inl ⟨by rfl, ?_⟩) (by assumption) ?_
      rotate_left
      · intro w hSw
        go_simp
        try with_reducible rfl
      simp only [Act.put, List.getElem_toArray, List.getElem_cons_zero, List.getElem_cons_succ, List.setIfInBounds_toArray, List.set_cons_zero, List.set_cons_succ]
      refine wpAnyH_take (i := 2) (v := ?_) rfl (by kernel_rfl) (by kernel_rfl) (by kernel_rfl) (fun _ _ _ h => h) (Or.inl ⟨by rfl, ?_⟩) (by assumption) ?_
      rotate_left
      · intro w hSw
        go_simp
        try with_reducible rfl
      simp only [Act.put, List.getElem_toArray, List.getElem_cons_zero, List.getElem_cons_succ, List.setIfInBounds_toArray, List.set_cons_zero, List.set_cons_succ]
      refine wpAnyH_ready (rs := [3, 5]) (by kernel_rfl) (by simp) ?_
      refine AllReadyH.cons rfl (fun K hK => ?_) (AllReadyH.cons rfl (fun K hK => ?_) AllReadyH.nil)
      · go_simp
        refine (B2.out _).mono ?_
        rintro e w4 ⟨rfl, bb⟩
        refine hK.out _ _ (x1_keep hHeld bb) (fun hHeld => ?_)
        clear hK K
        clear bb
        refine wpAnyH_ready (rs := [4, 5]) (by kernel_rfl) (by simp) ?_
        refine AllReadyH.cons rfl (fun K hK => ?_) (AllReadyH.cons rfl (fun K hK => ?_) AllReadyH.nil)
        · go_simp
          refine (B5.out _).mono ?_
          rintro e w5 ⟨rfl, bb⟩
          refine hK.out _ _ (x1_keep hHeld bb) (fun hHeld => ?_)
          clear hK K
          clear bb
          refine wpAnyH_ready (rs := [5]) (by kernel_rfl) (by simp) ?_
          refine AllReadyH.cons rfl (fun K hK => ?_) AllReadyH.nil
          go_simp
          have hHeld1 := hHeld
          have hA : Below w.heap.size w (w5.alloc (.cells #[.string ⟨#[]⟩, .int .i64 0, .int .i64 0, .string ⟨#[]⟩, .bool false] 34)) ∧ (w5.alloc (.cells #[.string ⟨#[]⟩, .int .i64 0, .int .i64 0, .string ⟨#[]⟩, .bool false] 34)).cell? ⟨w.heap.size, 0, none⟩ = some (.string ak) ∧ (w5.alloc (.cells #[.string ⟨#[]⟩, .int .i64 0, .int .i64 0, .string ⟨#[]⟩, .bool false] 34)).cell? ⟨w.heap.size, 1, none⟩ = some (.int .i64 ac) ∧ (w5.alloc (.cells #[.string ⟨#[]⟩, .int .i64 0, .int .i64 0, .string ⟨#[]⟩, .bool false] 34)).cell? ⟨w.heap.size, 2, none⟩ = some (.int .i64 an) ∧ (w5.alloc (.cells #[.string ⟨#[]⟩, .int .i64 0, .int .i64 0, .string ⟨#[]⟩, .bool false] 34)).cell? ⟨w.heap.size, 3, none⟩ = some (.string av) ∧ (w5.alloc (.cells #[.string ⟨#[]⟩, .int .i64 0, .int .i64 0, .string ⟨#[]⟩, .bool false] 34)).cell? ⟨w.heap.size, 4, none⟩ = some (.bool ad) ∧ (w5.alloc (.cells #[.string ⟨#[]⟩, .int .i64 0, .int .i64 0, .string ⟨#[]⟩, .bool false] 34)).cell? ⟨w.heap.size + 1, 0, none⟩ = some (.string bk) ∧ (w5.alloc (.cells #[.string ⟨#[]⟩, .int .i64 0, .int .i64 0, .string ⟨#[]⟩, .bool false] 34)).cell? ⟨w.heap.size + 1, 1, none⟩ = some (.int .i64 bc) ∧ (w5.alloc (.cells #[.string ⟨#[]⟩, .int .i64 0, .int .i64 0, .string ⟨#[]⟩, .bool false] 34)).cell? ⟨w.heap.size + 1, 2, none⟩ = some (.int .i64 bn) ∧ (w5.alloc (.cells #[.string ⟨#[]⟩, .int .i64 0, .int .i64 0, .string ⟨#[]⟩, .bool false] 34)).cell? ⟨w.heap.size + 1, 3, none⟩ = some (.string bv) ∧ (w5.alloc (.cells #[.string ⟨#[]⟩, .int .i64 0, .int .i64 0, .string ⟨#[]⟩, .bool false] 34)).cell? ⟨w.heap.size + 1, 4, none⟩ = some (.bool bd) ∧ (w5.alloc (.cells #[.string ⟨#[]⟩, .int .i64 0, .int .i64 0, .string ⟨#[]⟩, .bool false] 34)).cell? ⟨w.heap.size + 1 + 1, 0, none⟩ = some (.string ck) ∧ (w5.alloc (.cells #[.string ⟨#[]⟩, .int .i64 0, .int .i64 0, .string ⟨#[]⟩, .bool false] 34)).cell? ⟨w.heap.size + 1 + 1, 1, none⟩ = some (.int .i64 cc) ∧ (w5.alloc (.cells #[.string ⟨#[]⟩, .int .i64 0, .int .i64 0, .string ⟨#[]⟩, .bool false] 34)).cell? ⟨w.heap.size + 1 + 1, 2, none⟩ = some (.int .i64 cn) ∧ (w5.alloc (.cells #[.string ⟨#[]⟩, .int .i64 0, .int .i64 0, .string ⟨#[]⟩, .bool false] 34)).cell? ⟨w.heap.size + 1 + 1, 3, none⟩ = some (.string cv) ∧ (w5.alloc (.cells #[.string ⟨#[]⟩, .int .i64 0, .int .i64 0, .string ⟨#[]⟩, .bool false] 34)).cell? ⟨w.heap.size + 1 + 1, 4, none⟩ = some (.bool cd) ∧ (w5.alloc (.cells #[.string ⟨#[]⟩, .int .i64 0, .int .i64 0, .string ⟨#[]⟩, .bool false] 34)).cell? ⟨ix, 0, none⟩ = some (.string xk) ∧ (w5.alloc (.cells #[.string ⟨#[]⟩, .int .i64 0, .int .i64 0, .string ⟨#[]⟩, .bool false] 34)).cell? ⟨ix, 1, none⟩ = some (.int .i64 xc) ∧ (w5.alloc (.cells #[.string ⟨#[]⟩, .int .i64 0, .int .i64 0, .string ⟨#[]⟩, .bool false] 34)).cell? ⟨ix, 2, none⟩ = some (.int .i64 xn) ∧ (w5.alloc (.cells #[.string ⟨#[]⟩, .int .i64 0, .int .i64 0, .string ⟨#[]⟩, .bool false] 34)).cell? ⟨ix, 3, none⟩ = some (.string xv) ∧ (w5.alloc (.cells #[.string ⟨#[]⟩, .int .i64 0, .int .i64 0, .string ⟨#[]⟩, .bool false] 34)).cell? ⟨ix, 4, none⟩ = some (.bool xd) := x1_keep hHeld (bnew w5 _)
          refine hK.out _ _ hA (fun hHeld => ?_)
          clear hK K hA
          have kX : (w5.alloc (.cells #[.string ⟨#[]⟩, .int .i64 0, .int .i64 0, .string ⟨#[]⟩, .bool false] 34)).heap[w5.heap.size]? = some (.cells #[.string ⟨#[]⟩, .int .i64 0, .int .i64 0, .string ⟨#[]⟩, .bool false] 34 (0, 0)) := heap_alloc_new w5 _
          have bX : Below w5.heap.size w5 (w5.alloc (.cells #[.string ⟨#[]⟩, .int .i64 0, .int .i64 0, .string ⟨#[]⟩, .bool false] 34)) := (bnew w5 _)
          obtain ⟨i, hi⟩ : ∃ i, w5.heap.size = i := ⟨_, rfl⟩
          rw [hi] at kX
          rw [hi]
          have HI := aside hi
          clear hi
          refine wpAnyH_ready (rs := [6]) (by kernel_rfl) (by simp) ?_
          refine AllReadyH.cons rfl (fun K hK => ?_) AllReadyH.nil
          obtain ⟨⟨s0, s1, s2, s3, s4⟩, f0, f1, f2, f3, f4⟩ := box5 kX
          have KX := aside kX
          have BX := aside bX
          clear kX bX
          go_simp
          refine hK.out _ _ (x1_keep hHeld1 (set5 BX.out (by have := HI.out; omega) _ _ _ _ _)) (fun hHeld => ?_)
          refine wpAnyH_done (by kernel_rfl) ?_ _
          exact key.out i _ hHeld (set5_blk KX.out _ _ _ _ _)
        · go_simp
          have hHeld1 := hHeld
          have hA : Below w.heap.size w (w4.alloc (.cells #[.string ⟨#[]⟩, .int .i64 0, .int .i64 0, .string ⟨#[]⟩, .bool false] 34)) ∧ (w4.alloc (.cells #[.string ⟨#[]⟩, .int .i64 0, .int .i64 0, .string ⟨#[]⟩, .bool false] 34)).cell? ⟨w.heap.size, 0, none⟩ = some (.string ak) ∧ (w4.alloc (.cells #[.string ⟨#[]⟩, .int .i64 0, .int .i64 0, .string ⟨#[]⟩, .bool false] 34)).cell? ⟨w.heap.size, 1, none⟩ = some (.int .i64 ac) ∧ (w4.alloc (.cells #[.string ⟨#[]⟩, .int .i64 0, .int .i64 0, .string ⟨#[]⟩, .bool false] 34)).cell? ⟨w.heap.size, 2, none⟩ = some (.int .i64 an) ∧ (w4.alloc (.cells #[.string ⟨#[]⟩, .int .i64 0, .int .i64 0, .string ⟨#[]⟩, .bool false] 34)).cell? ⟨w.heap.size, 3, none⟩ = some (.string av) ∧ (w4.alloc (.cells #[.string ⟨#[]⟩, .int .i64 0, .int .i64 0, .string ⟨#[]⟩, .bool false] 34)).cell? ⟨w.heap.size, 4, none⟩ = some (.bool ad) ∧ (w4.alloc (.cells #[.string ⟨#[]⟩, .int .i64 0, .int .i64 0, .string ⟨#[]⟩, .bool false] 34)).cell? ⟨w.heap.size + 1, 0, none⟩ = some (.string bk) ∧ (w4.alloc (.cells #[.string ⟨#[]⟩, .int .i64 0, .int .i64 0, .string ⟨#[]⟩, .bool false] 34)).cell? ⟨w.heap.size + 1, 1, none⟩ = some (.int .i64 bc) ∧ (w4.alloc (.cells #[.string ⟨#[]⟩, .int .i64 0, .int .i64 0, .string ⟨#[]⟩, .bool false] 34)).cell? ⟨w.heap.size + 1, 2, none⟩ = some (.int .i64 bn) ∧ (w4.alloc (.cells #[.string ⟨#[]⟩, .int .i64 0, .int .i64 0, .string ⟨#[]⟩, .bool false] 34)).cell? ⟨w.heap.size + 1, 3, none⟩ = some (.string bv) ∧ (w4.alloc (.cells #[.string ⟨#[]⟩, .int .i64 0, .int .i64 0, .string ⟨#[]⟩, .bool false] 34)).cell? ⟨w.heap.size + 1, 4, none⟩ = some (.bool bd) ∧ (w4.alloc (.cells #[.string ⟨#[]⟩, .int .i64 0, .int .i64 0, .string ⟨#[]⟩, .bool false] 34)).cell? ⟨w.heap.size + 1 + 1, 0, none⟩ = some (.string ck) ∧ (w4.alloc (.cells #[.string ⟨#[]⟩, .int .i64 0, .int .i64 0, .string ⟨#[]⟩, .bool false] 34)).cell? ⟨w.heap.size + 1 + 1, 1, none⟩ = some (.int .i64 cc) ∧ (w4.alloc (.cells #[.string ⟨#[]⟩, .int .i64 0, .int .i64 0, .string ⟨#[]⟩, .bool false] 34)).cell? ⟨w.heap.size + 1 + 1, 2, none⟩ = some (.int .i64 cn) ∧ (w4.alloc (.cells #[.string ⟨#[]⟩, .int .i64 0, .int .i64 0, .string ⟨#[]⟩, .bool false] 34)).cell? ⟨w.heap.size + 1 + 1, 3, none⟩ = some (.string cv) ∧ (w4.alloc (.cells #[.string ⟨#[]⟩, .int .i64 0, .int .i64 0, .string ⟨#[]⟩, .bool false] 34)).cell? ⟨w.heap.size + 1 + 1, 4, none⟩ = some (.bool cd) ∧ (w4.alloc (.cells #[.string ⟨#[]⟩, .int .i64 0, .int .i64 0, .string ⟨#[]⟩, .bool false] 34)).cell? ⟨ix, 0, none⟩ = some (.string xk) ∧ (w4.alloc (.cells #[.string ⟨#[]⟩, .int .i64 0, .int .i64 0, .string ⟨#[]⟩, .bool false] 34)).cell? ⟨ix, 1, none⟩ = some (.int .i64 xc) ∧ (w4.alloc (.cells #[.string ⟨#[]⟩, .int .i64 0, .int .i64 0, .string ⟨#[]⟩, .bool false] 34)).cell? ⟨ix, 2, none⟩ = some (.int .i64 xn) ∧ (w4.alloc (.cells #[.string ⟨#[]⟩, .int .i64 0, .int .i64 0, .string ⟨#[]⟩, .bool false] 34)).cell? ⟨ix, 3, none⟩ = some (.string xv) ∧ (w4.alloc (.cells #[.string ⟨#[]⟩, .int .i64 0, .int .i64 0, .string ⟨#[]⟩, .bool false] 34)).cell? ⟨ix, 4, none⟩ = some (.bool xd) := x1_keep hHeld (bnew w4 _)
          refine hK.out _ _ hA (fun hHeld => ?_)
          clear hK K hA
          have kX : (w4.alloc (.cells #[.string ⟨#[]⟩, .int .i64 0, .int .i64 0, .string ⟨#[]⟩, .bool false] 34)).heap[w4.heap.size]? = some (.cells #[.string ⟨#[]⟩, .int .i64 0, .int .i64 0, .string ⟨#[]⟩, .bool false] 34 (0, 0)) := heap_alloc_new w4 _
          have bX : Below w4.heap.size w4 (w4.alloc (.cells #[.string ⟨#[]⟩, .int .i64 0, .int .i64 0, .string ⟨#[]⟩, .bool false] 34)) := (bnew w4 _)
          obtain ⟨i, hi⟩ : ∃ i, w4.heap.size = i := ⟨_, rfl⟩
          rw [hi] at kX
          rw [hi]
          have HI := aside hi
          clear hi
          refine wpAnyH_ready (rs := [4]) (by kernel_rfl) (by simp) ?_
          refine AllReadyH.cons rfl (fun K hK => ?_) AllReadyH.nil
          go_simp
          refine (B5.out _).mono ?_
          rintro e w5 ⟨rfl, bb⟩
          refine hK.out _ _ (x1_keep hHeld bb) (fun hHeld => ?_)
          clear hK K
          replace kX := blk_keep kX bb
          replace bX := bthen bX bb
          clear bb
          refine wpAnyH_ready (rs := [6]) (by kernel_rfl) (by simp) ?_
          refine AllReadyH.cons rfl (fun K hK => ?_) AllReadyH.nil
          obtain ⟨⟨s0, s1, s2, s3, s4⟩, f0, f1, f2, f3, f4⟩ := box5 kX
          have KX := aside kX
          have BX := aside bX
          clear kX bX
          go_simp
          refine hK.out _ _ (x1_keep hHeld1 (set5 BX.out (by have := HI.out; omega) _ _ _ _ _)) (fun hHeld => ?_)
          refine wpAnyH_done (by kernel_rfl) ?_ _
          exact key.out i _ hHeld (set5_blk KX.out _ _ _ _ _)
      · go_simp
        have hA : Below w.heap.size w (w10.alloc (.cells #[.string ⟨#[]⟩, .int .i64 0, .int .i64 0, .string ⟨#[]⟩, .bool false] 34)).drew ∧ (w10.alloc (.cells #[.string ⟨#[]⟩, .int .i64 0, .int .i64 0, .string ⟨#[]⟩, .bool false] 34)).drew.cell? ⟨w.heap.size, 0, none⟩ = some (.string ak) ∧ (w10.alloc (.cells #[.string ⟨#[]⟩, .int .i64 0, .int .i64 0, .string ⟨#[]⟩, .bool false] 34)).drew.cell? ⟨w.heap.size, 1, none⟩ = some (.int .i64 ac) ∧ (w10.alloc (.cells #[.string ⟨#[]⟩, .int .i64 0, .int .i64 0, .string ⟨#[]⟩, .bool false] 34)).drew.cell? ⟨w.heap.size, 2, none⟩ = some (.int .i64 an) ∧ (w10.alloc (.cells #[.string ⟨#[]⟩, .int .i64 0, .int .i64 0, .string ⟨#[]⟩, .bool false] 34)).drew.cell? ⟨w.heap.size, 3, none⟩ = some (.string av) ∧ (w10.alloc (.cells #[.string ⟨#[]⟩, .int .i64 0, .int .i64 0, .string ⟨#[]⟩, .bool false] 34)).drew.cell? ⟨w.heap.size, 4, none⟩ = some (.bool ad) ∧ (w10.alloc (.cells #[.string ⟨#[]⟩, .int .i64 0, .int .i64 0, .string ⟨#[]⟩, .bool false] 34)).drew.cell? ⟨w.heap.size + 1, 0, none⟩ = some (.string bk) ∧ (w10.alloc (.cells #[.string ⟨#[]⟩, .int .i64 0, .int .i64 0, .string ⟨#[]⟩, .bool false] 34)).drew.cell? ⟨w.heap.size + 1, 1, none⟩ = some (.int .i64 bc) ∧ (w10.alloc (.cells #[.string ⟨#[]⟩, .int .i64 0, .int .i64 0, .string ⟨#[]⟩, .bool false] 34)).drew.cell? ⟨w.heap.size + 1, 2, none⟩ = some (.int .i64 bn) ∧ (w10.alloc (.cells #[.string ⟨#[]⟩, .int .i64 0, .int .i64 0, .string ⟨#[]⟩, .bool false] 34)).drew.cell? ⟨w.heap.size + 1, 3, none⟩ = some (.string bv) ∧ (w10.alloc (.cells #[.string ⟨#[]⟩, .int .i64 0, .int .i64 0, .string ⟨#[]⟩, .bool false] 34)).drew.cell? ⟨w.heap.size + 1, 4, none⟩ = some (.bool bd) ∧ (w10.alloc (.cells #[.string ⟨#[]⟩, .int .i64 0, .int .i64 0, .string ⟨#[]⟩, .bool false] 34)).drew.cell? ⟨w.heap.size + 1 + 1, 0, none⟩ = some (.string ck) ∧ (w10.alloc (.cells #[.string ⟨#[]⟩, .int .i64 0, .int .i64 0, .string ⟨#[]⟩, .bool false] 34)).drew.cell? ⟨w.heap.size + 1 + 1, 1, none⟩ = some (.int .i64 cc) ∧ (w10.alloc (.cells #[.string ⟨#[]⟩, .int .i64 0, .int .i64 0, .string ⟨#[]⟩, .bool false] 34)).drew.cell? ⟨w.heap.size + 1 + 1, 2, none⟩ = some (.int .i64 cn) ∧ (w10.alloc (.cells #[.string ⟨#[]⟩, .int .i64 0, .int .i64 0, .string ⟨#[]⟩, .bool false] 34)).drew.cell? ⟨w.heap.size + 1 + 1, 3, none⟩ = some (.string cv) ∧ (w10.alloc (.cells #[.string ⟨#[]⟩, .int .i64 0, .int .i64 0, .string ⟨#[]⟩, .bool false] 34)).drew.cell? ⟨w.heap.size + 1 + 1, 4, none⟩ = some (.bool cd) ∧ (w10.alloc (.cells #[.string ⟨#[]⟩, .int .i64 0, .int .i64 0, .string ⟨#[]⟩, .bool false] 34)).drew.cell? ⟨ix, 0, none⟩ = some (.string xk) ∧ (w10.alloc (.cells #[.string ⟨#[]⟩, .int .i64 0, .int .i64 0, .string ⟨#[]⟩, .bool false] 34)).drew.cell? ⟨ix, 1, none⟩ = some (.int .i64 xc) ∧ (w10.alloc (.cells #[.string ⟨#[]⟩, .int .i64 0, .int .i64 0, .string ⟨#[]⟩, .bool false] 34)).drew.cell? ⟨ix, 2, none⟩ = some (.int .i64 xn) ∧ (w10.alloc (.cells #[.string ⟨#[]⟩, .int .i64 0, .int .i64 0, .string ⟨#[]⟩, .bool false] 34)).drew.cell? ⟨ix, 3, none⟩ = some (.string xv) ∧ (w10.alloc (.cells #[.string ⟨#[]⟩, .int .i64 0, .int .i64 0, .string ⟨#[]⟩, .bool false] 34)).drew.cell? ⟨ix, 4, none⟩ = some (.bool xd) := x1_keep hHeld0 (bnew w10 _).drew
        refine hK.out _ _ hA (fun hHeld => ?_)
        clear hK K hA
        have kX : (w10.alloc (.cells #[.string ⟨#[]⟩, .int .i64 0, .int .i64 0, .string ⟨#[]⟩, .bool false] 34)).drew.heap[w10.heap.size]? = some (.cells #[.string ⟨#[]⟩, .int .i64 0, .int .i64 0, .string ⟨#[]⟩, .bool false] 34 (0, 0)) := heap_alloc_new w10 _
        have bX : Below w10.heap.size w10 (w10.alloc (.cells #[.string ⟨#[]⟩, .int .i64 0, .int .i64 0, .string ⟨#[]⟩, .bool false] 34)).drew := (bnew w10 _).drew
        obtain ⟨i, hi⟩ : ∃ i, w10.heap.size = i := ⟨_, rfl⟩
        rw [hi] at kX
        rw [hi]
        have HI := aside hi
        clear hi
        refine wpAnyH_ready (rs := [3]) (by kernel_rfl) (by simp) ?_
        refine AllReadyH.cons rfl (fun K hK => ?_) AllReadyH.nil
        go_simp
        refine (B2.out _).mono ?_
        rintro e w4 ⟨rfl, bb⟩
        refine hK.out _ _ (x1_keep hHeld bb) (fun hHeld => ?_)
        clear hK K
        replace kX := blk_keep kX bb
        replace bX := bthen bX bb
        clear bb
        refine wpAnyH_ready (rs := [4]) (by kernel_rfl) (by simp) ?_
        refine AllReadyH.cons rfl (fun K hK => ?_) AllReadyH.nil
        go_simp
        refine (B5.out _).mono ?_
        rintro e w5 ⟨rfl, bb⟩
        refine hK.out _ _ (x1_keep hHeld bb) (fun hHeld => ?_)
        clear hK K
        replace kX := blk_keep kX bb
        replace bX := bthen bX bb
        clear bb
        refine wpAnyH_ready (rs := [6]) (by kernel_rfl) (by simp) ?_
        refine AllReadyH.cons rfl (fun K hK => ?_) AllReadyH.nil
        obtain ⟨⟨s0, s1, s2, s3, s4⟩, f0, f1, f2, f3, f4⟩ := box5 kX
        have KX := aside kX
        have BX := aside bX
        clear kX bX
        go_simp
        refine hK.out _ _ (x1_keep hHeld0 (set5 BX.out (by have := HI.out; omega) _ _ _ _ _)) (fun hHeld => ?_)
        refine wpAnyH_done (by kernel_rfl) ?_ _
        exact key.out i _ hHeld (set5_blk KX.out _ _ _ _ _)
    case keyproof4 =>
      refine aside ?_
      intro iy W hHeld kX
      refine hK0 _ _ ?_
      obtain ⟨⟨s0, s1, s2, s3, s4⟩, -⟩ := box5 kX
      clear hK0 kX hHeld0
      obtain ⟨hb, h0, h1, h2, h3, h4, h5, h6, h7, h8, h9, h10, h11, h12, h13, h14, h15, h16, h17, h18, h19⟩ := hHeld
      have hHeld0 : Below w.heap.size w W ∧ W.cell? ⟨w.heap.size, 0, none⟩ = some (.string ak) ∧ W.cell? ⟨w.heap.size, 1, none⟩ = some (.int .i64 ac) ∧ W.cell? ⟨w.heap.size, 2, none⟩ = some (.int .i64 an) ∧ W.cell? ⟨w.heap.size, 3, none⟩ = some (.string av) ∧ W.cell? ⟨w.heap.size, 4, none⟩ = some (.bool ad) ∧ W.cell? ⟨w.heap.size + 1, 0, none⟩ = some (.string bk) ∧ W.cell? ⟨w.heap.size + 1, 1, none⟩ = some (.int .i64 bc) ∧ W.cell? ⟨w.heap.size + 1, 2, none⟩ = some (.int .i64 bn) ∧ W.cell? ⟨w.heap.size + 1, 3, none⟩ = some (.string bv) ∧ W.cell? ⟨w.heap.size + 1, 4, none⟩ = some (.bool bd) ∧ W.cell? ⟨w.heap.size + 1 + 1, 0, none⟩ = some (.string ck) ∧ W.cell? ⟨w.heap.size + 1 + 1, 1, none⟩ = some (.int .i64 cc) ∧ W.cell? ⟨w.heap.size + 1 + 1, 2, none⟩ = some (.int .i64 cn) ∧ W.cell? ⟨w.heap.size + 1 + 1, 3, none⟩ = some (.string cv) ∧ W.cell? ⟨w.heap.size + 1 + 1, 4, none⟩ = some (.bool cd) ∧ W.cell? ⟨ix, 0, none⟩ = some (.string xk) ∧ W.cell? ⟨ix, 1, none⟩ = some (.int .i64 xc) ∧ W.cell? ⟨ix, 2, none⟩ = some (.int .i64 xn) ∧ W.cell? ⟨ix, 3, none⟩ = some (.string xv) ∧ W.cell? ⟨ix, 4, none⟩ = some (.bool xd) ∧ W.cell? ⟨iy, 0, none⟩ = some (.string xk) ∧ W.cell? ⟨iy, 1, none⟩ = some (.int .i64 xc) ∧ W.cell? ⟨iy, 2, none⟩ = some (.int .i64 xn) ∧ W.cell? ⟨iy, 3, none⟩ = some (.string xv) ∧ W.cell? ⟨iy, 4, none⟩ = some (.bool xd) := ⟨hb, h0, h1, h2, h3, h4, h5, h6, h7, h8, h9, h10, h11, h12, h13, h14, h15, h16, h17, h18, h19, s0, s1, s2, s3, s4⟩
      clear hb h0 h1 h2 h3 h4 h5 h6 h7 h8 h9 h10 h11 h12 h13 h14 h15 h16 h17 h18 h19 s0 s1 s2 s3 s4
      generalize hw1 : W = w11 at *
      clear hw1
      go_wp2_with fail
      rename_i K0 hK0
      refine (fun (key : Hid (∀ (i : Nat) (W : World), Below w.heap.size w W ∧ W.cell? ⟨w.heap.size, 0, none⟩ = some (.string ak) ∧ W.cell? ⟨w.heap.size, 1, none⟩ = some (.int .i64 ac) ∧ W.cell? ⟨w.heap.size, 2, none⟩ = some (.int .i64 an) ∧ W.cell? ⟨w.heap.size, 3, none⟩ = some (.string av) ∧ W.cell? ⟨w.heap.size, 4, none⟩ = some (.bool ad) ∧ W.cell? ⟨w.heap.size + 1, 0, none⟩ = some (.string bk) ∧ W.cell? ⟨w.heap.size + 1, 1, none⟩ = some (.int .i64 bc) ∧ W.cell? ⟨w.heap.size + 1, 2, none⟩ = some (.int .i64 bn) ∧ W.cell? ⟨w.heap.size + 1, 3, none⟩ = some (.string bv) ∧ W.cell? ⟨w.heap.size + 1, 4, none⟩ = some (.bool bd) ∧ W.cell? ⟨w.heap.size + 1 + 1, 0, none⟩ = some (.string ck) ∧ W.cell? ⟨w.heap.size + 1 + 1, 1, none⟩ = some (.int .i64 cc) ∧ W.cell? ⟨w.heap.size + 1 + 1, 2, none⟩ = some (.int .i64 cn) ∧ W.cell? ⟨w.heap.size + 1 + 1, 3, none⟩ = some (.string cv) ∧ W.cell? ⟨w.heap.size + 1 + 1, 4, none⟩ = some (.bool cd) ∧ W.cell? ⟨ix, 0, none⟩ = some (.string xk) ∧ W.cell? ⟨ix, 1, none⟩ = some (.int .i64 xc) ∧ W.cell? ⟨ix, 2, none⟩ = some (.int .i64 xn) ∧ W.cell? ⟨ix, 3, none⟩ = some (.string xv) ∧ W.cell? ⟨ix, 4, none⟩ = some (.bool xd) ∧ W.cell? ⟨iy, 0, none⟩ = some (.string xk) ∧ W.cell? ⟨iy, 1, none⟩ = some (.int .i64 xc) ∧ W.cell? ⟨iy, 2, none⟩ = some (.int .i64 xn) ∧ W.cell? ⟨iy, 3, none⟩ = some (.string xv) ∧ W.cell? ⟨iy, 4, none⟩ = some (.bool xd) → W.heap[i]? = some (.cells #[.string zk, .int .i64 zc, .int .i64 zn, .string zv, .bool zd] 34 (0, 0)) → K0 ((?act6 : Nat → Act) i) W)) => ?main6) ?keyproof6
      case main6 =>
        refine wp_region_held_drew (S := fun W => Below w.heap.size w W ∧ W.cell? ⟨w.heap.size, 0, none⟩ = some (.string ak) ∧ W.cell? ⟨w.heap.size, 1, none⟩ = some (.int .i64 ac) ∧ W.cell? ⟨w.heap.size, 2, none⟩ = some (.int .i64 an) ∧ W.cell? ⟨w.heap.size, 3, none⟩ = some (.string av) ∧ W.cell? ⟨w.heap.size, 4, none⟩ = some (.bool ad) ∧ W.cell? ⟨w.heap.size + 1, 0, none⟩ = some (.string bk) ∧ W.cell? ⟨w.heap.size + 1, 1, none⟩ = some (.int .i64 bc) ∧ W.cell? ⟨w.heap.size + 1, 2, none⟩ = some (.int .i64 bn) ∧ W.cell? ⟨w.heap.size + 1, 3, none⟩ = some (.string bv) ∧ W.cell? ⟨w.heap.size + 1, 4, none⟩ = some (.bool bd) ∧ W.cell? ⟨w.heap.size + 1 + 1, 0, none⟩ = some (.string ck) ∧ W.cell? ⟨w.heap.size + 1 + 1, 1, none⟩ = some (.int .i64 cc) ∧ W.cell? ⟨w.heap.size + 1 + 1, 2, none⟩ = some (.int .i64 cn) ∧ W.cell? ⟨w.heap.size + 1 + 1, 3, none⟩ = some (.string cv) ∧ W.cell? ⟨w.heap.size + 1 + 1, 4, none⟩ = some (.bool cd) ∧ W.cell? ⟨ix, 0, none⟩ = some (.string xk) ∧ W.cell? ⟨ix, 1, none⟩ = some (.int .i64 xc) ∧ W.cell? ⟨ix, 2, none⟩ = some (.int .i64 xn) ∧ W.cell? ⟨ix, 3, none⟩ = some (.string xv) ∧ W.cell? ⟨ix, 4, none⟩ = some (.bool xd) ∧ W.cell? ⟨iy, 0, none⟩ = some (.string xk) ∧ W.cell? ⟨iy, 1, none⟩ = some (.int .i64 xc) ∧ W.cell? ⟨iy, 2, none⟩ = some (.int .i64 xn) ∧ W.cell? ⟨iy, 3, none⟩ = some (.string xv) ∧ W.cell? ⟨iy, 4, none⟩ = some (.bool xd)) (by kernel_rfl) ⟨hHeld0.1.drew, hHeld0.2⟩ (fun hHeld => ?_)
        refine wpAnyH_take (i := 0) (v := ?_) rfl (by kernel_rfl) (by kernel_rfl) (by kernel_rfl) (fun _ _ _ h => h) (Or.inl ⟨by rfl, ?_⟩) (by assumption) ?_
        rotate_left
        · intro w hSw
          go_simp
          try with_reducible rfl
        simp only [Act.put, List.getElem_toArray, List.getElem_cons_zero, List.setIfInBounds_toArray, List.set_cons_zero, List.set_cons_succ]
        refine wpAnyH_take (i := 1) (v := ?_) rfl (by kernel_rfl) (by kernel_rfl) (by kernel_rfl) (fun _ _ _ h => h) (Or.inl ⟨by rfl, ?_⟩) (by assumption) ?_
        rotate_left
        · intro w hSw
          go_simp
          try with_reducible rfl
        simp only [Act.put, List.getElem_toArray, List.getElem_cons_zero, List.getElem_cons_succ, List.setIfInBounds_toArray, List.set_cons_zero, List.set_cons_succ]
        refine wpAnyH_take (i := 2) (v := ?_) rfl (by kernel_rfl) (by kernel_rfl) (by kernel_rfl) (fun _ _ _ h => h) (Or.inl ⟨by rfl, ?_⟩) (by assumption) ?_
        rotate_left
        · intro w hSw
          go_simp
          try with_reducible rfl
        simp only [Act.put, List.getElem_toArray, List.getElem_cons_zero, List.getElem_cons_succ, List.setIfInBounds_toArray, List.set_cons_zero, List.set_cons_succ]
        refine wpAnyH_ready (rs := [3, 5]) (by kernel_rfl) (by simp) ?_
        refine AllReadyH.cons rfl (fun K hK => ?_) (AllReadyH.cons rfl (fun K hK => ?_) AllReadyH.nil)
        · go_simp
          refine (B3.out _).mono ?_
          rintro e w4 ⟨rfl, bb⟩
          refine hK.out _ _ (x2_keep hHeld bb) (fun hHeld => ?_)
          clear hK K
          clear bb
          refine wpAnyH_ready (rs := [4, 5]) (by kernel_rfl) (by simp) ?_
          refine AllReadyH.cons rfl (fun K hK => ?_) (AllReadyH.cons rfl (fun K hK => ?_) AllReadyH.nil)
          · go_simp
            refine (B6.out _).mono ?_
            rintro e w5 ⟨rfl, bb⟩
            refine hK.out _ _ (x2_keep hHeld bb) (fun hHeld => ?_)
            clear hK K
            clear bb
            refine wpAnyH_ready (rs := [5]) (by kernel_rfl) (by simp) ?_
            refine AllReadyH.cons rfl (fun K hK => ?_) AllReadyH.nil
            go_simp
            have hHeld1 := hHeld
            have hA : Below w.heap.size w (w5.alloc (.cells #[.string ⟨#[]⟩, .int .i64 0, .int .i64 0, .string ⟨#[]⟩, .bool false] 34)) ∧ (w5.alloc (.cells #[.string ⟨#[]⟩, .int .i64 0, .int .i64 0, .string ⟨#[]⟩, .bool false] 34)).cell? ⟨w.heap.size, 0, none⟩ = some (.string ak) ∧ (w5.alloc (.cells #[.string ⟨#[]⟩, .int .i64 0, .int .i64 0, .string ⟨#[]⟩, .bool false] 34)).cell? ⟨w.heap.size, 1, none⟩ = some (.int .i64 ac) ∧ (w5.alloc (.cells #[.string ⟨#[]⟩, .int .i64 0, .int .i64 0, .string ⟨#[]⟩, .bool false] 34)).cell? ⟨w.heap.size, 2, none⟩ = some (.int .i64 an) ∧ (w5.alloc (.cells #[.string ⟨#[]⟩, .int .i64 0, .int .i64 0, .string ⟨#[]⟩, .bool false] 34)).cell? ⟨w.heap.size, 3, none⟩ = some (.string av) ∧ (w5.alloc (.cells #[.string ⟨#[]⟩, .int .i64 0, .int .i64 0, .string ⟨#[]⟩, .bool false] 34)).cell? ⟨w.heap.size, 4, none⟩ = some (.bool ad) ∧ (w5.alloc (.cells #[.string ⟨#[]⟩, .int .i64 0, .int .i64 0, .string ⟨#[]⟩, .bool false] 34)).cell? ⟨w.heap.size + 1, 0, none⟩ = some (.string bk) ∧ (w5.alloc (.cells #[.string ⟨#[]⟩, .int .i64 0, .int .i64 0, .string ⟨#[]⟩, .bool false] 34)).cell? ⟨w.heap.size + 1, 1, none⟩ = some (.int .i64 bc) ∧ (w5.alloc (.cells #[.string ⟨#[]⟩, .int .i64 0, .int .i64 0, .string ⟨#[]⟩, .bool false] 34)).cell? ⟨w.heap.size + 1, 2, none⟩ = some (.int .i64 bn) ∧ (w5.alloc (.cells #[.string ⟨#[]⟩, .int .i64 0, .int .i64 0, .string ⟨#[]⟩, .bool false] 34)).cell? ⟨w.heap.size + 1, 3, none⟩ = some (.string bv) ∧ (w5.alloc (.cells #[.string ⟨#[]⟩, .int .i64 0, .int .i64 0, .string ⟨#[]⟩, .bool false] 34)).cell? ⟨w.heap.size + 1, 4, none⟩ = some (.bool bd) ∧ (w5.alloc (.cells #[.string ⟨#[]⟩, .int .i64 0, .int .i64 0, .string ⟨#[]⟩, .bool false] 34)).cell? ⟨w.heap.size + 1 + 1, 0, none⟩ = some (.string ck) ∧ (w5.alloc (.cells #[.string ⟨#[]⟩, .int .i64 0, .int .i64 0, .string ⟨#[]⟩, .bool false] 34)).cell? ⟨w.heap.size + 1 + 1, 1, none⟩ = some (.int .i64 cc) ∧ (w5.alloc (.cells #[.string ⟨#[]⟩, .int .i64 0, .int .i64 0, .string ⟨#[]⟩, .bool false] 34)).cell? ⟨w.heap.size + 1 + 1, 2, none⟩ = some (.int .i64 cn) ∧ (w5.alloc (.cells #[.string ⟨#[]⟩, .int .i64 0, .int .i64 0, .string ⟨#[]⟩, .bool false] 34)).cell? ⟨w.heap.size + 1 + 1, 3, none⟩ = some (.string cv) ∧ (w5.alloc (.cells #[.string ⟨#[]⟩, .int .i64 0, .int .i64 0, .string ⟨#[]⟩, .bool false] 34)).cell? ⟨w.heap.size + 1 + 1, 4, none⟩ = some (.bool cd) ∧ (w5.alloc (.cells #[.string ⟨#[]⟩, .int .i64 0, .int .i64 0, .string ⟨#[]⟩, .bool false] 34)).cell? ⟨ix, 0, none⟩ = some (.string xk) ∧ (w5.alloc (.cells #[.string ⟨#[]⟩, .int .i64 0, .int .i64 0, .string ⟨#[]⟩, .bool false] 34)).cell? ⟨ix, 1, none⟩ = some (.int .i64 xc) ∧ (w5.alloc (.cells #[.string ⟨#[]⟩, .int .i64 0, .int .i64 0, .string ⟨#[]⟩, .bool false] 34)).cell? ⟨ix, 2, none⟩ = some (.int .i64 xn) ∧ (w5.alloc (.cells #[.string ⟨#[]⟩, .int .i64 0, .int .i64 0, .string ⟨#[]⟩, .bool false] 34)).cell? ⟨ix, 3, none⟩ = some (.string xv) ∧ (w5.alloc (.cells #[.string ⟨#[]⟩, .int .i64 0, .int .i64 0, .string ⟨#[]⟩, .bool false] 34)).cell? ⟨ix, 4, none⟩ = some (.bool xd) ∧ (w5.alloc (.cells #[.string ⟨#[]⟩, .int .i64 0, .int .i64 0, .string ⟨#[]⟩, .bool false] 34)).cell? ⟨iy, 0, none⟩ = some (.string xk) ∧ (w5.alloc (.cells #[.string ⟨#[]⟩, .int .i64 0, .int .i64 0, .string ⟨#[]⟩, .bool false] 34)).cell? ⟨iy, 1, none⟩ = some (.int .i64 xc) ∧ (w5.alloc (.cells #[.string ⟨#[]⟩, .int .i64 0, .int .i64 0, .string ⟨#[]⟩, .bool false] 34)).cell? ⟨iy, 2, none⟩ = some (.int .i64 xn) ∧ (w5.alloc (.cells #[.string ⟨#[]⟩, .int .i64 0, .int .i64 0, .string ⟨#[]⟩, .bool false] 34)).cell? ⟨iy, 3, none⟩ = some (.string xv) ∧ (w5.alloc (.cells #[.string ⟨#[]⟩, .int .i64 0, .int .i64 0, .string ⟨#[]⟩, .bool false] 34)).cell? ⟨iy, 4, none⟩ = some (.bool xd) := x2_keep hHeld (bnew w5 _)
            refine hK.out _ _ hA (fun hHeld => ?_)
            clear hK K hA
            have kX : (w5.alloc (.cells #[.string ⟨#[]⟩, .int .i64 0, .int .i64 0, .string ⟨#[]⟩, .bool false] 34)).heap[w5.heap.size]? = some (.cells #[.string ⟨#[]⟩, .int .i64 0, .int .i64 0, .string ⟨#[]⟩, .bool false] 34 (0, 0)) := heap_alloc_new w5 _
            have bX : Below w5.heap.size w5 (w5.alloc (.cells #[.string ⟨#[]⟩, .int .i64 0, .int .i64 0, .string ⟨#[]⟩, .bool false] 34)) := (bnew w5 _)
            obtain ⟨i, hi⟩ : ∃ i, w5.heap.size = i := ⟨_, rfl⟩
            rw [hi] at kX
            rw [hi]
            have HI := aside hi
            clear hi
            refine wpAnyH_ready (rs := [6]) (by kernel_rfl) (by simp) ?_
            refine AllReadyH.cons rfl (fun K hK => ?_) AllReadyH.nil
            obtain ⟨⟨s0, s1, s2, s3, s4⟩, f0, f1, f2, f3, f4⟩ := box5 kX
            have KX := aside kX
            have BX := aside bX
            clear kX bX
            go_simp
            refine hK.out _ _ (x2_keep hHeld1 (set5 BX.out (by have := HI.out; omega) _ _ _ _ _)) (fun hHeld => ?_)
            refine wpAnyH_done (by kernel_rfl) ?_ _
            exact key.out i _ hHeld (set5_blk KX.out _ _ _ _ _)
          · go_simp
            have hHeld1 := hHeld
            have hA : Below w.heap.size w (w4.alloc (.cells #[.string ⟨#[]⟩, .int .i64 0, .int .i64 0, .string ⟨#[]⟩, .bool false] 34)) ∧ (w4.alloc (.cells #[.string ⟨#[]⟩, .int .i64 0, .int .i64 0, .string ⟨#[]⟩, .bool false] 34)).cell? ⟨w.heap.size, 0, none⟩ = some (.string ak) ∧ (w4.alloc (.cells #[.string ⟨#[]⟩, .int .i64 0, .int .i64 0, .string ⟨#[]⟩, .bool false] 34)).cell? ⟨w.heap.size, 1, none⟩ = some (.int .i64 ac) ∧ (w4.alloc (.cells #[.string ⟨#[]⟩, .int .i64 0, .int .i64 0, .string ⟨#[]⟩, .bool false] 34)).cell? ⟨w.heap.size, 2, none⟩ = some (.int .i64 an) ∧ (w4.alloc (.cells #[.string ⟨#[]⟩, .int .i64 0, .int .i64 0, .string ⟨#[]⟩, .bool false] 34)).cell? ⟨w.heap.size, 3, none⟩ = some (.string av) ∧ (w4.alloc (.cells #[.string ⟨#[]⟩, .int .i64 0, .int .i64 0, .string ⟨#[]⟩, .bool false] 34)).cell? ⟨w.heap.size, 4, none⟩ = some (.bool ad) ∧ (w4.alloc (.cells #[.string ⟨#[]⟩, .int .i64 0, .int .i64 0, .string ⟨#[]⟩, .bool false] 34)).cell? ⟨w.heap.size + 1, 0, none⟩ = some (.string bk) ∧ (w4.alloc (.cells #[.string ⟨#[]⟩, .int .i64 0, .int .i64 0, .string ⟨#[]⟩, .bool false] 34)).cell? ⟨w.heap.size + 1, 1, none⟩ = some (.int .i64 bc) ∧ (w4.alloc (.cells #[.string ⟨#[]⟩, .int .i64 0, .int .i64 0, .string ⟨#[]⟩, .bool false] 34)).cell? ⟨w.heap.size + 1, 2, none⟩ = some (.int .i64 bn) ∧ (w4.alloc (.cells #[.string ⟨#[]⟩, .int .i64 0, .int .i64 0, .string ⟨#[]⟩, .bool false] 34)).cell? ⟨w.heap.size + 1, 3, none⟩ = some (.string bv) ∧ (w4.alloc (.cells #[.string ⟨#[]⟩, .int .i64 0, .int .i64 0, .string ⟨#[]⟩, .bool false] 34)).cell? ⟨w.heap.size + 1, 4, none⟩ = some (.bool bd) ∧ (w4.alloc (.cells #[.string ⟨#[]⟩, .int .i64 0, .int .i64 0, .string ⟨#[]⟩, .bool false] 34)).cell? ⟨w.heap.size + 1 + 1, 0, none⟩ = some (.string ck) ∧ (w4.alloc (.cells #[.string ⟨#[]⟩, .int .i64 0, .int .i64 0, .string ⟨#[]⟩, .bool false] 34)).cell? ⟨w.heap.size + 1 + 1, 1, none⟩ = some (.int .i64 cc) ∧ (w4.alloc (.cells #[.string ⟨#[]⟩, .int .i64 0, .int .i64 0, .string ⟨#[]⟩, .bool false] 34)).cell? ⟨w.heap.size + 1 + 1, 2, none⟩ = some (.int .i64 cn) ∧ (w4.alloc (.cells #[.string ⟨#[]⟩, .int .i64 0, .int .i64 0, .string ⟨#[]⟩, .bool false] 34)).cell? ⟨w.heap.size + 1 + 1, 3, none⟩ = some (.string cv) ∧ (w4.alloc (.cells #[.string ⟨#[]⟩, .int .i64 0, .int .i64 0, .string ⟨#[]⟩, .bool false] 34)).cell? ⟨w.heap.size + 1 + 1, 4, none⟩ = some (.bool cd) ∧ (w4.alloc (.cells #[.string ⟨#[]⟩, .int .i64 0, .int .i64 0, .string ⟨#[]⟩, .bool false] 34)).cell? ⟨ix, 0, none⟩ = some (.string xk) ∧ (w4.alloc (.cells #[.string ⟨#[]⟩, .int .i64 0, .int .i64 0, .string ⟨#[]⟩, .bool false] 34)).cell? ⟨ix, 1, none⟩ = some (.int .i64 xc) ∧ (w4.alloc (.cells #[.string ⟨#[]⟩, .int .i64 0, .int .i64 0, .string ⟨#[]⟩, .bool false] 34)).cell? ⟨ix, 2, none⟩ = some (.int .i64 xn) ∧ (w4.alloc (.cells #[.string ⟨#[]⟩, .int .i64 0, .int .i64 0, .string ⟨#[]⟩, .bool false] 34)).cell? ⟨ix, 3, none⟩ = some (.string xv) ∧ (w4.alloc (.cells #[.string ⟨#[]⟩, .int .i64 0, .int .i64 0, .string ⟨#[]⟩, .bool false] 34)).cell? ⟨ix, 4, none⟩ = some (.bool xd) ∧ (w4.alloc (.cells #[.string ⟨#[]⟩, .int .i64 0, .int .i64 0, .string ⟨#[]⟩, .bool false] 34)).cell? ⟨iy, 0, none⟩ = some (.string xk) ∧ (w4.alloc (.cells #[.string ⟨#[]⟩, .int .i64 0, .int .i64 0, .string ⟨#[]⟩, .bool false] 34)).cell? ⟨iy, 1, none⟩ = some (.int .i64 xc) ∧ (w4.alloc (.cells #[.string ⟨#[]⟩, .int .i64 0, .int .i64 0, .string ⟨#[]⟩, .bool false] 34)).cell? ⟨iy, 2, none⟩ = some (.int .i64 xn) ∧ (w4.alloc (.cells #[.string ⟨#[]⟩, .int .i64 0, .int .i64 0, .string ⟨#[]⟩, .bool false] 34)).cell? ⟨iy, 3, none⟩ = some (.string xv) ∧ (w4.alloc (.cells #[.string ⟨#[]⟩, .int .i64 0, .int .i64 0, .string ⟨#[]⟩, .bool false] 34)).cell? ⟨iy, 4, none⟩ = some (.bool xd) := x2_keep hHeld (bnew w4 _)
            refine hK.out _ _ hA (fun hHeld => ?_)
            clear hK K hA
            have kX : (w4.alloc (.cells #[.string ⟨#[]⟩, .int .i64 0, .int .i64 0, .string ⟨#[]⟩, .bool false] 34)).heap[w4.heap.size]? = some (.cells #[.string ⟨#[]⟩, .int .i64 0, .int .i64 0, .string ⟨#[]⟩, .bool false] 34 (0, 0)) := heap_alloc_new w4 _
            have bX : Below w4.heap.size w4 (w4.alloc (.cells #[.string ⟨#[]⟩, .int .i64 0, .int .i64 0, .string ⟨#[]⟩, .bool false] 34)) := (bnew w4 _)
            obtain ⟨i, hi⟩ : ∃ i, w4.heap.size = i := ⟨_, rfl⟩
            rw [hi] at kX
            rw [hi]
            have HI := aside hi
            clear hi
            refine wpAnyH_ready (rs := [4]) (by kernel_rfl) (by simp) ?_
            refine AllReadyH.cons rfl (fun K hK => ?_) AllReadyH.nil
            go_simp
            refine (B6.out _).mono ?_
            rintro e w5 ⟨rfl, bb⟩
            refine hK.out _ _ (x2_keep hHeld bb) (fun hHeld => ?_)
            clear hK K
            replace kX := blk_keep kX bb
            replace bX := bthen bX bb
            clear bb
            refine wpAnyH_ready (rs := [6]) (by kernel_rfl) (by simp) ?_
            refine AllReadyH.cons rfl (fun K hK => ?_) AllReadyH.nil
            obtain ⟨⟨s0, s1, s2, s3, s4⟩, f0, f1, f2, f3, f4⟩ := box5 kX
            have KX := aside kX
            have BX := aside bX
            clear kX bX
            go_simp
            refine hK.out _ _ (x2_keep hHeld1 (set5 BX.out (by have := HI.out; omega) _ _ _ _ _)) (fun hHeld => ?_)
            refine wpAnyH_done (by kernel_rfl) ?_ _
            exact key.out i _ hHeld (set5_blk KX.out _ _ _ _ _)
        · go_simp
          have hA : Below w.heap.size w (w11.alloc (.cells #[.string ⟨#[]⟩, .int .i64 0, .int .i64 0, .string ⟨#[]⟩, .bool false] 34)).drew ∧ (w11.alloc (.cells #[.string ⟨#[]⟩, .int .i64 0, .int .i64 0, .string ⟨#[]⟩, .bool false] 34)).drew.cell? ⟨w.heap.size, 0, none⟩ = some (.string ak) ∧ (w11.alloc (.cells #[.string ⟨#[]⟩, .int .i64 0, .int .i64 0, .string ⟨#[]⟩, .bool false] 34)).drew.cell? ⟨w.heap.size, 1, none⟩ = some (.int .i64 ac) ∧ (w11.alloc (.cells #[.string ⟨#[]⟩, .int .i64 0, .int .i64 0, .string ⟨#[]⟩, .bool false] 34)).drew.cell? ⟨w.heap.size, 2, none⟩ = some (.int .i64 an) ∧ (w11.alloc (.cells #[.string ⟨#[]⟩, .int .i64 0, .int .i64 0, .string ⟨#[]⟩, .bool false] 34)).drew.cell? ⟨w.heap.size, 3, none⟩ = some (.string av) ∧ (w11.alloc (.cells #[.string ⟨#[]⟩, .int .i64 0, .int .i64 0, .string ⟨#[]⟩, .bool false] 34)).drew.cell? ⟨w.heap.size, 4, none⟩ = some (.bool ad) ∧ (w11.alloc (.cells #[.string ⟨#[]⟩, .int .i64 0, .int .i64 0, .string ⟨#[]⟩, .bool false] 34)).drew.cell? ⟨w.heap.size + 1, 0, none⟩ = some (.string bk) ∧ (w11.alloc (.cells #[.string ⟨#[]⟩, .int .i64 0, .int .i64 0, .string ⟨#[]⟩, .bool false] 34)).drew.cell? ⟨w.heap.size + 1, 1, none⟩ = some (.int .i64 bc) ∧ (w11.alloc (.cells #[.string ⟨#[]⟩, .int .i64 0, .int .i64 0, .string ⟨#[]⟩, .bool false] 34)).drew.cell? ⟨w.heap.size + 1, 2, none⟩ = some (.int .i64 bn) ∧ (w11.alloc (.cells #[.string ⟨#[]⟩, .int .i64 0, .int .i64 0, .string ⟨#[]⟩, .bool false] 34)).drew.cell? ⟨w.heap.size + 1, 3, none⟩ = some (.string bv) ∧ (w11.alloc (.cells #[.string ⟨#[]⟩, .int .i64 0, .int .i64 0, .string ⟨#[]⟩, .bool false] 34)).drew.cell? ⟨w.heap.size + 1, 4, none⟩ = some (.bool bd) ∧ (w11.alloc (.cells #[.string ⟨#[]⟩, .int .i64 0, .int .i64 0, .string ⟨#[]⟩, .bool false] 34)).drew.cell? ⟨w.heap.size + 1 + 1, 0, none⟩ = some (.string ck) ∧ (w11.alloc (.cells #[.string ⟨#[]⟩, .int .i64 0, .int .i64 0, .string ⟨#[]⟩, .bool false] 34)).drew.cell? ⟨w.heap.size + 1 + 1, 1, none⟩ = some (.int .i64 cc) ∧ (w11.alloc (.cells #[.string ⟨#[]⟩, .int .i64 0, .int .i64 0, .string ⟨#[]⟩, .bool false] 34)).drew.cell? ⟨w.heap.size + 1 + 1, 2, none⟩ = some (.int .i64 cn) ∧ (w11.alloc (.cells #[.string ⟨#[]⟩, .int .i64 0, .int .i64 0, .string ⟨#[]⟩, .bool false] 34)).drew.cell? ⟨w.heap.size + 1 + 1, 3, none⟩ = some (.string cv) ∧ (w11.alloc (.cells #[.string ⟨#[]⟩, .int .i64 0, .int .i64 0, .string ⟨#[]⟩, .bool false] 34)).drew.cell? ⟨w.heap.size + 1 + 1, 4, none⟩ = some (.bool cd) ∧ (w11.alloc (.cells #[.string ⟨#[]⟩, .int .i64 0, .int .i64 0, .string ⟨#[]⟩, .bool false] 34)).drew.cell? ⟨ix, 0, none⟩ = some (.string xk) ∧ (w11.alloc (.cells #[.string ⟨#[]⟩, .int .i64 0, .int .i64 0, .string ⟨#[]⟩, .bool false] 34)).drew.cell? ⟨ix, 1, none⟩ = some (.int .i64 xc) ∧ (w11.alloc (.cells #[.string ⟨#[]⟩, .int .i64 0, .int .i64 0, .string ⟨#[]⟩, .bool false] 34)).drew.cell? ⟨ix, 2, none⟩ = some (.int .i64 xn) ∧ (w11.alloc (.cells #[.string ⟨#[]⟩, .int .i64 0, .int .i64 0, .string ⟨#[]⟩, .bool false] 34)).drew.cell? ⟨ix, 3, none⟩ = some (.string xv) ∧ (w11.alloc (.cells #[.string ⟨#[]⟩, .int .i64 0, .int .i64 0, .string ⟨#[]⟩, .bool false] 34)).drew.cell? ⟨ix, 4, none⟩ = some (.bool xd) ∧ (w11.alloc (.cells #[.string ⟨#[]⟩, .int .i64 0, .int .i64 0, .string ⟨#[]⟩, .bool false] 34)).drew.cell? ⟨iy, 0, none⟩ = some (.string xk) ∧ (w11.alloc (.cells #[.string ⟨#[]⟩, .int .i64 0, .int .i64 0, .string ⟨#[]⟩, .bool false] 34)).drew.cell? ⟨iy, 1, none⟩ = some (.int .i64 xc) ∧ (w11.alloc (.cells #[.string ⟨#[]⟩, .int .i64 0, .int .i64 0, .string ⟨#[]⟩, .bool false] 34)).drew.cell? ⟨iy, 2, none⟩ = some (.int .i64 xn) ∧ (w11.alloc (.cells #[.string ⟨#[]⟩, .int .i64 0, .int .i64 0, .string ⟨#[]⟩, .bool false] 34)).drew.cell? ⟨iy, 3, none⟩ = some (.string xv) ∧ (w11.alloc (.cells #[.string ⟨#[]⟩, .int .i64 0, .int .i64 0, .string ⟨#[]⟩, .bool false] 34)).drew.cell? ⟨iy, 4, none⟩ = some (.bool xd) := x2_keep hHeld0 (bnew w11 _).drew
          refine hK.out _ _ hA (fun hHeld => ?_)
          clear hK K hA
          have kX : (w11.alloc (.cells #[.string ⟨#[]⟩, .int .i64 0, .int .i64 0, .string ⟨#[]⟩, .bool false] 34)).drew.heap[w11.heap.size]? = some (.cells #[.string ⟨#[]⟩, .int .i64 0, .int .i64 0, .string ⟨#[]⟩, .bool false] 34 (0, 0)) := heap_alloc_new w11 _
          have bX : Below w11.heap.size w11 (w11.alloc (.cells #[.string ⟨#[]⟩, .int .i64 0, .int .i64 0, .string ⟨#[]⟩, .bool false] 34)).drew := (bnew w11 _).drew
          obtain ⟨i, hi⟩ : ∃ i, w11.heap.size = i := ⟨_, rfl⟩
          rw [hi] at kX
          rw [hi]
          have HI := aside hi
          clear hi
          refine wpAnyH_ready (rs := [3]) (by kernel_rfl) (by simp) ?_
          refine AllReadyH.cons rfl (fun K hK => ?_) AllReadyH.nil
          go_simp
          refine (B3.out _).mono ?_
          rintro e w4 ⟨rfl, bb⟩
          refine hK.out _ _ (x2_keep hHeld bb) (fun hHeld => ?_)
          clear hK K
          replace kX := blk_keep kX bb
          replace bX := bthen bX bb
          clear bb
          refine wpAnyH_ready (rs := [4]) (by kernel_rfl) (by simp) ?_
          refine AllReadyH.cons rfl (fun K hK => ?_) AllReadyH.nil
          go_simp
          refine (B6.out _).mono ?_
          rintro e w5 ⟨rfl, bb⟩
          refine hK.out _ _ (x2_keep hHeld bb) (fun hHeld => ?_)
          clear hK K
          replace kX := blk_keep kX bb
          replace bX := bthen bX bb
          clear bb
          refine wpAnyH_ready (rs := [6]) (by kernel_rfl) (by simp) ?_
          refine AllReadyH.cons rfl (fun K hK => ?_) AllReadyH.nil
          obtain ⟨⟨s0, s1, s2, s3, s4⟩, f0, f1, f2, f3, f4⟩ := box5 kX
          have KX := aside kX
          have BX := aside bX
          clear kX bX
          go_simp
          refine hK.out _ _ (x2_keep hHeld0 (set5 BX.out (by have := HI.out; omega) _ _ _ _ _)) (fun hHeld => ?_)
          refine wpAnyH_done (by kernel_rfl) ?_ _
          exact key.out i _ hHeld (set5_blk KX.out _ _ _ _ _)
      case keyproof6 =>
        refine aside ?_
        intro iz W hHeld kX
        refine hK0 _ _ ?_
        obtain ⟨⟨s0, s1, s2, s3, s4⟩, -⟩ := box5 kX
        clear hK0 kX hHeld0
        obtain ⟨hb, h0, h1, h2, h3, h4, h5, h6, h7, h8, h9, h10, h11, h12, h13, h14, h15, h16, h17, h18, h19, h20, h21, h22, h23, h24⟩ := hHeld
        have hHeld0 : Below w.heap.size w W ∧ W.cell? ⟨w.heap.size, 0, none⟩ = some (.string ak) ∧ W.cell? ⟨w.heap.size, 1, none⟩ = some (.int .i64 ac) ∧ W.cell? ⟨w.heap.size, 2, none⟩ = some (.int .i64 an) ∧ W.cell? ⟨w.heap.size, 3, none⟩ = some (.string av) ∧ W.cell? ⟨w.heap.size, 4, none⟩ = some (.bool ad) ∧ W.cell? ⟨w.heap.size + 1, 0, none⟩ = some (.string bk) ∧ W.cell? ⟨w.heap.size + 1, 1, none⟩ = some (.int .i64 bc) ∧ W.cell? ⟨w.heap.size + 1, 2, none⟩ = some (.int .i64 bn) ∧ W.cell? ⟨w.heap.size + 1, 3, none⟩ = some (.string bv) ∧ W.cell? ⟨w.heap.size + 1, 4, none⟩ = some (.bool bd) ∧ W.cell? ⟨w.heap.size + 1 + 1, 0, none⟩ = some (.string ck) ∧ W.cell? ⟨w.heap.size + 1 + 1, 1, none⟩ = some (.int .i64 cc) ∧ W.cell? ⟨w.heap.size + 1 + 1, 2, none⟩ = some (.int .i64 cn) ∧ W.cell? ⟨w.heap.size + 1 + 1, 3, none⟩ = some (.string cv) ∧ W.cell? ⟨w.heap.size + 1 + 1, 4, none⟩ = some (.bool cd) ∧ W.cell? ⟨ix, 0, none⟩ = some (.string xk) ∧ W.cell? ⟨ix, 1, none⟩ = some (.int .i64 xc) ∧ W.cell? ⟨ix, 2, none⟩ = some (.int .i64 xn) ∧ W.cell? ⟨ix, 3, none⟩ = some (.string xv) ∧ W.cell? ⟨ix, 4, none⟩ = some (.bool xd) ∧ W.cell? ⟨iy, 0, none⟩ = some (.string xk) ∧ W.cell? ⟨iy, 1, none⟩ = some (.int .i64 xc) ∧ W.cell? ⟨iy, 2, none⟩ = some (.int .i64 xn) ∧ W.cell? ⟨iy, 3, none⟩ = some (.string xv) ∧ W.cell? ⟨iy, 4, none⟩ = some (.bool xd) ∧ W.cell? ⟨iz, 0, none⟩ = some (.string zk) ∧ W.cell? ⟨iz, 1, none⟩ = some (.int .i64 zc) ∧ W.cell? ⟨iz, 2, none⟩ = some (.int .i64 zn) ∧ W.cell? ⟨iz, 3, none⟩ = some (.string zv) ∧ W.cell? ⟨iz, 4, none⟩ = some (.bool zd) := ⟨hb, h0, h1, h2, h3, h4, h5, h6, h7, h8, h9, h10, h11, h12, h13, h14, h15, h16, h17, h18, h19, h20, h21, h22, h23, h24, s0, s1, s2, s3, s4⟩
        clear hb h0 h1 h2 h3 h4 h5 h6 h7 h8 h9 h10 h11 h12 h13 h14 h15 h16 h17 h18 h19 h20 h21 h22 h23 h24 s0 s1 s2 s3 s4
        generalize hw1 : W = w12 at *
        clear hw1
        have hH := aside hHeld0
        obtain ⟨hb, h0, h1, h2, h3, h4, h5, h6, h7, h8, h9, h10, h11, h12, h13, h14, h15, h16, h17, h18, h19, h20, h21, h22, h23, h24, h25, h26, h27, h28, h29⟩ := hHeld0
        by_cases e1 : ac = bc ∧ an = bn
        · have t1 := fun w => ver_at (w := w) (ver_yes e1)
          clear e1
          go_wp2_with fail
          go_ret
          exact ⟨rfl, hb⟩
        have t1 := fun w => ver_at (w := w) (ver_no e1)
        by_cases e2 : bc = cc ∧ bn = cn
        · have t2 := fun w => ver_at (w := w) (ver_yes e2)
          clear e1 e2
          go_wp2_with fail
          go_ret
          exact ⟨rfl, hb⟩
        have t2 := fun w => ver_at (w := w) (ver_no e2)
        by_cases e3 : ac = cc ∧ an = cn
        · have t3 := fun w => ver_at (w := w) (ver_yes e3)
          clear e1 e2 e3
          go_wp2_with fail
          go_ret
          exact ⟨rfl, hb⟩
        have t3 := fun w => ver_at (w := w) (ver_no e3)
        have hz := HV.out e1 e2 e3
        simp only [En.mk.injEq] at hz
        obtain ⟨rfl, rfl, rfl, rfl, rfl⟩ := hz
        clear e1 e2 e3
        go_wp2_with fail
        refine (N3.out _).mono ?_
        rintro e w20 ⟨rfl, b20⟩
        have hH1 := aside (x3_keep hH.out b20)
        clear h0 h1 h2 h3 h4 h5 h6 h7 h8 h9 h10 h11 h12 h13 h14 h15 h16 h17 h18 h19 h20 h21 h22 h23 h24 h25 h26 h27 h28 h29 hb t1 t2 t3
        obtain ⟨hb, h0, h1, h2, h3, h4, h5, h6, h7, h8, h9, h10, h11, h12, h13, h14, h15, h16, h17, h18, h19, h20, h21, h22, h23, h24, h25, h26, h27, h28, h29⟩ := hH1.out
        go_wp2_with fail
        refine (N4.out _).mono ?_
        rintro e w21 ⟨rfl, b21⟩
        have hH2 := aside (x3_keep hH1.out b21)
        clear h0 h1 h2 h3 h4 h5 h6 h7 h8 h9 h10 h11 h12 h13 h14 h15 h16 h17 h18 h19 h20 h21 h22 h23 h24 h25 h26 h27 h28 h29 hb
        obtain ⟨hb, h0, h1, h2, h3, h4, h5, h6, h7, h8, h9, h10, h11, h12, h13, h14, h15, h16, h17, h18, h19, h20, h21, h22, h23, h24, h25, h26, h27, h28, h29⟩ := hH2.out
        go_wp2_with fail
        refine (N5.out _).mono ?_
        rintro e w22 ⟨rfl, b22⟩
        have hb2 := bthen hb b22
        clear b22
        go_wp2
        go_ret
        exact ⟨rfl, hb2⟩

theorem best_walk (ak : ByteArray) (ac an : Int) (av : ByteArray) (ad : Bool) (bk : ByteArray) (bc bn : Int) (bv : ByteArray) (bd : Bool) (ck : ByteArray) (cc cn : Int) (cv : ByteArray) (cd : Bool) (w : World) :
    Calls Try.prog 7 #[.agg #[.string ak, .int .i64 ac, .int .i64 an, .string av, .bool ad], .agg #[.string bk, .int .i64 bc, .int .i64 bn, .string bv, .bool bd], .agg #[.string ck, .int .i64 cc, .int .i64 cn, .string cv, .bool cd]] w fun e w' => e = .returned (.bool true) ∧ Below w.heap.size w w' := by
  by_cases h1 : (1073741824 : Int) < ak.size ∨ (1073741824 : Int) < av.size
  · exact best_long1 _ _ _ _ _ _ _ _ _ _ _ _ _ _ _ w h1
  by_cases h2 : (1073741824 : Int) < bk.size ∨ (1073741824 : Int) < bv.size
  · exact best_long2 _ _ _ _ _ _ _ _ _ _ _ _ _ _ _ w (fun e => h1 (.inl e)) (fun e => h1 (.inr e)) h2
  by_cases h3 : (1073741824 : Int) < ck.size ∨ (1073741824 : Int) < cv.size
  · exact best_long3 _ _ _ _ _ _ _ _ _ _ _ _ _ _ _ w (fun e => h1 (.inl e)) (fun e => h1 (.inr e)) (fun e => h2 (.inl e)) (fun e => h2 (.inr e)) h3
  have hT := best_top ⟨ak, ac, an, av, ad⟩ ⟨bk, bc, bn, bv, bd⟩ ⟨ck, cc, cn, cv, cd⟩
  exact best_core ak ac an av ad bk bc bn bv bd ck cc cn cv cd _ _ _ _ _ _ _ _ _ _ _ _ _ _ _ _ _ _ _ _ _ _ _ _ _ w (fun e => h1 (.inl e)) (fun e => h1 (.inr e)) (fun e => h2 (.inl e)) (fun e => h2 (.inr e)) (fun e => h3 (.inl e)) (fun e => h3 (.inr e))
    (rfl : En.best ⟨ak, ac, an, av, ad⟩ ⟨bk, bc, bn, bv, bd⟩ = _) (rfl : En.best ⟨bk, bc, bn, bv, bd⟩ ⟨ck, cc, cn, cv, cd⟩ = _) (rfl : En.best ⟨bk, bc, bn, bv, bd⟩ ⟨ak, ac, an, av, ad⟩ = _) (rfl : En.best (En.best ⟨ak, ac, an, av, ad⟩ ⟨bk, bc, bn, bv, bd⟩) ⟨ck, cc, cn, cv, cd⟩ = _) (best_assoc ⟨ak, ac, an, av, ad⟩ ⟨bk, bc, bn, bv, bd⟩ ⟨ck, cc, cn, cv, cd⟩).symm (rfl : En.best ⟨ck, cc, cn, cv, cd⟩ (En.best ⟨bk, bc, bn, bv, bd⟩ ⟨ak, ac, an, av, ad⟩) = _)
    hT.1 hT.2.1 hT.2.2 (fun e1 e2 e3 => best_turn ⟨ak, ac, an, av, ad⟩ ⟨bk, bc, bn, bv, bd⟩ ⟨ck, cc, cn, cv, cd⟩ e1 e2 e3)

end Go.Proofs.Ytnjbglnkhgholaa
