/-
  The law ItemChecks, walked: it returns true at every entry.
-/
import Derived.Test.YtnjbglnkhgholaaIBest
namespace Go.Proofs.Ytnjbglnkhgholaa
open Go.RowKit

theorem ent_keep {w W W' : World} {i : Nat} {k v : ByteArray} {c n : Int} {d : Bool} (h : Below w.heap.size w W ∧ W.cell? ⟨i, 0, none⟩ = some (.string k) ∧ W.cell? ⟨i, 1, none⟩ = some (.int .i64 c) ∧ W.cell? ⟨i, 2, none⟩ = some (.int .i64 n) ∧ W.cell? ⟨i, 3, none⟩ = some (.string v) ∧ W.cell? ⟨i, 4, none⟩ = some (.bool d)) (bb : Below W.heap.size W W') :
    Below w.heap.size w W' ∧ W'.cell? ⟨i, 0, none⟩ = some (.string k) ∧ W'.cell? ⟨i, 1, none⟩ = some (.int .i64 c) ∧ W'.cell? ⟨i, 2, none⟩ = some (.int .i64 n) ∧ W'.cell? ⟨i, 3, none⟩ = some (.string v) ∧ W'.cell? ⟨i, 4, none⟩ = some (.bool d) := by
  obtain ⟨h, h0, h1, h2, h3, h4⟩ := h
  exact ⟨bthen h bb, cell_on h0 bb, cell_on h1 bb, cell_on h2 bb, cell_on h3 bb, cell_on h4 bb⟩

set_option maxRecDepth 100000 in
set_option maxHeartbeats 1600000 in
theorem ichecks_walk (k : ByteArray) (c n : Int) (v : ByteArray) (d : Bool) (w : World) :
    Calls Try.prog 6 #[.agg #[.string k, .int .i64 c, .int .i64 n, .string v, .bool d]] w fun e w' => e = .returned (.bool true) ∧ Below w.heap.size w w' := by
  obtain ⟨q, hq⟩ : ∃ q, En.chk ⟨k, c, n, v, d⟩ = q := ⟨_, rfl⟩
  have C1 := aside (fun w => check_at hq w)
  have C2 := aside (fun w => checkRef_at hq w)
  clear hq
  by_cases h : (1073741824 : Int) < k.size ∨ (1073741824 : Int) < v.size
  · have C0 := aside (fun w => long_yes k c n v d w h)
    clear h
    go_enter Try.func6, Try.ntmps6
    go_wp2_with fail
    refine (C0.out _).mono ?_
    rintro e w1 ⟨rfl, b1⟩
    have b0 := bthen (bnew w _) b1
    clear b1
    go_wp2
    go_ret
    exact ⟨rfl, b0⟩
  · have C0 := aside (fun w => long_no k c n v d w (fun e => h (.inl e)) (fun e => h (.inr e)))
    clear h
    go_enter Try.func6, Try.ntmps6
    go_wp2_with fail
    refine (C0.out _).mono ?_
    rintro e w1 ⟨rfl, b1⟩
    have kA := blk_keep (heap_alloc_new w (.cells #[.string k, .int .i64 c, .int .i64 n, .string v, .bool d] 34)) b1
    have b0 := bthen (bnew w _) b1
    obtain ⟨⟨r0, r1, r2, r3, r4⟩, -⟩ := box5 kA
    have S0 : Hid (Below w.heap.size w w1.drew ∧ w1.drew.cell? ⟨w.heap.size, 0, none⟩ = some (.string k) ∧ w1.drew.cell? ⟨w.heap.size, 1, none⟩ = some (.int .i64 c) ∧ w1.drew.cell? ⟨w.heap.size, 2, none⟩ = some (.int .i64 n) ∧ w1.drew.cell? ⟨w.heap.size, 3, none⟩ = some (.string v) ∧ w1.drew.cell? ⟨w.heap.size, 4, none⟩ = some (.bool d)) := ⟨b0.drew, r0, r1, r2, r3, r4⟩
    clear b1 kA
    go_wp2_with fail
    go_region_held3 (fun W => Below w.heap.size w W ∧ W.cell? ⟨w.heap.size, 0, none⟩ = some (.string k) ∧ W.cell? ⟨w.heap.size, 1, none⟩ = some (.int .i64 c) ∧ W.cell? ⟨w.heap.size, 2, none⟩ = some (.int .i64 n) ∧ W.cell? ⟨w.heap.size, 3, none⟩ = some (.string v) ∧ W.cell? ⟨w.heap.size, 4, none⟩ = some (.bool d)) (first | (exact ent_keep (by assumption) bb) | (exact S0.out) | assumption | go_keep)
      (first | (go_at_call 16; refine (C1.out _).mono ?_; rintro e w3 ⟨rfl, bb⟩) | (go_at_call 17; refine (C2.out _).mono ?_; rintro e w4 ⟨rfl, bb⟩))
    all_goals
      go_wp2
      go_ret
      rename_i hh
      exact ⟨rfl, hh.1⟩

end Go.Proofs.Ytnjbglnkhgholaa
