/-
  Meters: a new one, its Join, how often it did.
-/
import Derived.Test.YtccfhegckdmanaaTaJoin
namespace Go.Proofs.Ytccfhegckdmanaa
open Go.RowKit
set_option linter.unusedVariables false

set_option maxHeartbeats 1600000 in
theorem newMeter_any (w : World) :
    Calls Try.prog 15 #[] w fun e w' => e = .returned (.pointer (some ⟨w.heap.size, 0, none⟩)) ∧ w' = w.alloc (.cells #[.int .i64 0] 45) := by
  go_enter Try.func15, Try.ntmps15
  go_wp2
  go_ret
  exact ⟨rfl, rfl⟩

set_option maxHeartbeats 1600000 in
theorem joins_any {w : World} {b : Nat} {j : Int} (h : w.heap[b]? = some (.cells #[.int .i64 j] 45 (0, 0))) :
    Calls Try.prog 17 #[.pointer (some ⟨b, 0, none⟩)] w fun e w' => e = .returned (.int .i64 j) ∧ w' = w := by
  have c := cell_one h
  clear h
  go_enter Try.func17, Try.ntmps17
  go_wp2
  go_ret
  exact ⟨rfl, rfl⟩

set_option maxHeartbeats 1600000 in
set_option maxRecDepth 100000 in
theorem mjoin_at {w : World} {g : Nat} {j r n a b m c d s x y : Int} (hr : IntKind.i64.wrap (j + 1) = r) (hs : IntKind.i64.wrap (n + m) = s) (hx : IntKind.u64.wrap (a + c) = x) (hy : IntKind.u64.wrap (b + d) = y) (h : w.heap[g]? = some (.cells #[.int .i64 j] 45 (0, 0))) :
    Calls Try.prog 16 #[.pointer (some ⟨g, 0, none⟩), .agg #[.int .i64 n, .int .u64 a, .int .u64 b], .agg #[.int .i64 m, .int .u64 c, .int .u64 d]] w fun e w' => e = .returned (.agg #[.int .i64 s, .int .u64 x, .int .u64 y]) ∧ w'.heap[g]? = some (.cells #[.int .i64 r] 45 (0, 0)) ∧ Keeps (fun k => k = g) w w' := by
  have J := aside (j3_st w n a b m c d)
  have hlt := (Array.getElem?_eq_some_iff.1 h).1
  have H := aside (blk_on h (j3_st w n a b m c d).below)
  have c0 := cell_one H.out
  have z0 := frozen_one H.out
  have CJ := aside (fun W => join_at hs hx hy W)
  clear h hs hx hy
  go_enter Try.func16, Try.ntmps16
  go_wp2_with fail
  have G := aside (heap_setCell_same _ g 0 _ _ (.int .i64 r) H.out)
  have G2 := aside ((heap_setCell_other _ ⟨g, 0, none⟩ (w.heap.size + 1 + 1) (.int .i64 r) (by dsimp only; omega)).trans J.out.b2)
  have KK := aside (Keeps.setCell (S := fun k => k = g) (Keeps.of_below J.out.below _) (p := ⟨g, 0, none⟩) (fun _ => rfl) (.int .i64 r))
  generalize World.setCell (((w.alloc (.cells #[.int .i64 n, .int .u64 a, .int .u64 b] 26)).alloc (.cells #[.int .i64 m, .int .u64 c, .int .u64 d] 26)).alloc (.cells #[.int .i64 0, .int .u64 0, .int .u64 0] 26)) ⟨g, 0, none⟩ (.int .i64 r) = V at *
  clear J H c0 z0
  refine (CJ.out _).mono ?_
  rintro e w1 ⟨rfl, b1⟩
  have G' := aside (blk_on G.out b1)
  have G2' := aside (blk_on G2.out b1)
  have K1 := aside (KK.out.trans (Keeps.of_below b1 _))
  clear b1 G G2 KK
  obtain ⟨s0, s1, s2, z0, z1, z2⟩ := tri G2'.out
  go_wp2
  refine bodyPost_ret (v := .agg #[.int .i64 s, .int .u64 x, .int .u64 y]) (by simp [results, Try.results16, go_sem, s0, s1, s2]) rfl ⟨rfl, ?_, ?_⟩
  · rw [heap_setCell_other _ _ _ _ (by dsimp only; omega), heap_setCell_other _ _ _ _ (by dsimp only; omega), heap_setCell_other _ _ _ _ (by dsimp only; omega)]
    exact G'.out
  · exact ((K1.out.setCell (by intro h; simp at h; omega) _).setCell (by intro h; simp at h; omega) _).setCell (by intro h; simp at h; omega) _

end Go.Proofs.Ytccfhegckdmanaa
