/-
  The law ItemRises, walked: it returns true at every clock and every list of nodes.
-/
import Derived.Test.YtnjbglnkhgholaaLNext
namespace Go.Proofs.Ytnjbglnkhgholaa
open Go.RowKit

/-- A list of whole numbers that came in. -/
def IntsIn (w : World) (a : Option Addr) (len cap : Nat) (z : Nat → Int) : Prop :=
  len ≤ cap ∧ cap ≤ maxLen ∧ (len = 0 ∨ ∃ b off, a = some ⟨b, off, none⟩ ∧ b < w.heap.size ∧ ∀ i, i < len → w.cell? ⟨b, off + i, none⟩ = some (.int .i64 (z i)))

/-- The loop: at i, with the clock c and the last version in its block. -/
def RisesRel (w : World) (bl len : Nat) (c i : Value) (wr : World) : Prop :=
  ∃ (k : Nat) (cl lc ln : Int), i = .int .i64 (k : Int) ∧ k ≤ len ∧ c = .int .i64 cl ∧ wr.heap[bl]? = some (.cells #[.int .i64 lc, .int .i64 ln] 24 (0, 0)) ∧ (lc ≤ 0 ∨ lc ≤ cl) ∧ Below w.heap.size w wr

theorem box2 {w : World} {i : Nat} {a b : Value} {T : TypeId} (h : w.heap[i]? = some (.cells #[a, b] T (0, 0))) :
    (w.cell? ⟨i, 0, none⟩ = some a ∧ w.cell? ⟨i, 1, none⟩ = some b) ∧ w.frozen? ⟨i, 0, none⟩ = false ∧ w.frozen? ⟨i, 1, none⟩ = false :=
  ⟨⟨by rw [cell_of_row _ _ 0 _ _ _ h]; rfl, by rw [cell_of_row _ _ 1 _ _ _ h]; rfl⟩, frozen_of_row _ _ 0 _ _ h, frozen_of_row _ _ 1 _ _ h⟩

set_option maxRecDepth 100000 in
set_option maxHeartbeats 6400000 in
theorem rises_walk (clock : Int) (a : Option Addr) (len cap : Nat) (z : Nat → Int) (w : World) (h : IntsIn w a len cap z) :
    Calls Try.prog 3 #[.int .i64 clock, .slice a len cap] w fun e w' => e = .returned (.bool true) ∧ Below w.heap.size w w' := by
  obtain ⟨hlc, hcm, hh⟩ := h
  unfold maxLen at hcm
  by_cases hL : (1048576 : Int) < (len : Int)
  · go_enter Try.func3, Try.ntmps3
    go_wp2
    go_ret
    exact ⟨rfl, Below.refl _ _⟩
  have h0 := heap_alloc_new w (.cells #[.int .i64 0, .int .i64 0] 24)
  have b0 := bnew w (.cells #[.int .i64 0, .int .i64 0] 24)
  have HH := aside hh
  have H0 := aside h0
  clear hh h0
  go_enter Try.func3, Try.ntmps3
  go_wp2
  go_loopw [0, 6] (fun c i wr => RisesRel w w.heap.size len c i wr) (fun _ i _ => len - (intOf i).toNat)
  case atStart => exact ⟨0, clock, 0, 0, rfl, Nat.zero_le _, rfl, H0.out, by omega, b0⟩
  case round =>
    obtain ⟨k, cl, lc, ln, rfl, hk, rfl, hbl, hle, hbel⟩ := hrel
    by_cases hlt : (k : Int) < (len : Int)
    · rcases HH.out with h | ⟨b, off, rfl, hb, hc⟩
      · omega
      · have c0 := (hbel.cell (p := ⟨b, off + k, none⟩) hb).trans (hc k (by omega))
        have hk0 : (0 : Int) ≤ (k : Int) := by omega
        generalize z k = node at *
        obtain ⟨cn, nn, en, hN, hcase⟩ : ∃ cn nn en, Vs.nx cl node = (cn, nn, en) ∧ ((en ≠ 0) ∨ (en = 0 ∧ cn = cl + 1 ∧ 0 ≤ cl ∧ Vs.chk cn nn = 0)) := by
          rcases nx_cases cl node with h | h | ⟨h, h1, h2, h3, h4⟩
          · exact ⟨_, _, _, h, .inl (by decide)⟩
          · exact ⟨_, _, _, h, .inl (by decide)⟩
          · exact ⟨_, _, _, h, .inr ⟨rfl, rfl, h1, chk_ok (by omega) (by omega) (by omega) (by omega)⟩⟩
        have C1 := aside (fun w => next_at hN w)
        have C2 := aside (fun w => nextRef_at hN w)
        have HL := aside hle
        have HB := aside hbl
        have HC := aside hcase
        clear hN hle hbl hcase H0 b0 hc
        go_wp2_with fail
        refine (C1.out _).mono ?_
        rintro e w1 ⟨rfl, b1⟩
        have c1 := cell_on (cell_on c0 b1) (bnew w1 (.cells #[.int .i64 cn, .int .i64 nn] 24))
        have hbl1 := blk_keep (blk_keep HB.out b1) (bnew w1 (.cells #[.int .i64 cn, .int .i64 nn] 24))
        have n1 := heap_alloc_new w1 (.cells #[.int .i64 cn, .int .i64 nn] 24)
        have bel1 := bthen (bthen hbel b1) (bnew w1 (.cells #[.int .i64 cn, .int .i64 nn] 24))
        have NE := aside (show w1.heap.size ≠ w.heap.size from by have := (Array.getElem?_eq_some_iff.1 (blk_keep HB.out b1)).1; omega)
        clear hbel b1 HB c0
        have HB := aside hbl1
        have HN1 := aside n1
        clear hbl1 n1
        go_wp2_with fail
        refine (C2.out _).mono ?_
        rintro e w2 ⟨rfl, b2⟩
        have bN := bthen b2 (bnew w2 (.cells #[.int .i64 cn, .int .i64 nn] 24))
        have hbl2 := blk_keep HB.out bN
        have n2 := blk_keep HN1.out bN
        have m2 := heap_alloc_new w2 (.cells #[.int .i64 cn, .int .i64 nn] 24)
        have bel2 := bthen bel1 bN
        clear bel1 bN b2 HB HN1 c1
        obtain ⟨⟨l0, l1⟩, f0, f1⟩ := box2 hbl2
        obtain ⟨⟨o1, o2⟩, -⟩ := box2 n2
        obtain ⟨⟨o3, o4⟩, -⟩ := box2 m2
        have HB := aside hbl2
        have HN2 := aside n2
        clear hbl2 n2 m2
        rcases HC.out with hE | ⟨hE, hcn, hcl, hX⟩
        · have he : (en != 0) = true := by simp [hE]
          clear hE HN2 HC
          go_wp2
          go_roundw
          case rel => exact ⟨k + 1, cl, lc, ln, by go_num, by omega, rfl, HB.out, HL.out, bel2⟩
          case measure => simp [intOf]; omega
        · subst hE
          have hgt : lc < cn := by have := HL.out; omega
          have C3 := aside (fun w => compare_at (cmp_gt hgt nn ln) w)
          have C4 := aside (fun w => checkVersion_at hX w)
          have HCN := aside hcn
          clear hgt hX hcn hcl HC HL
          go_wp2_with fail
          refine (C3.out _).mono ?_
          rintro e w3 ⟨rfl, b3⟩
          clear l0 l1 f0 f1 o1 o2 o3 o4
          have HB3 := aside (blk_keep HB.out b3)
          have HN3 := aside (blk_keep HN2.out b3)
          have bel3 := bthen bel2 b3
          obtain ⟨⟨o1, o2⟩, -⟩ := box2 HN3.out
          clear b3 HB HN2 bel2
          go_wp2_with fail
          refine (C4.out _).mono ?_
          rintro e w4 ⟨rfl, b4⟩
          clear o1 o2
          have HB4 := aside (blk_keep HB3.out b4)
          have n4 := blk_keep HN3.out b4
          have bel4 := bthen bel3 b4
          have ne : w1.heap.size ≠ w.heap.size := fun e => NE.out e
          obtain ⟨⟨o1, o2⟩, -⟩ := box2 n4
          obtain ⟨⟨l0, l1⟩, f0, f1⟩ := box2 HB4.out
          clear b4 HB3 HN3 bel3 n4
          go_wp2
          go_roundw
          case rel =>
            refine ⟨k + 1, cn, cn, nn, by go_num, by omega, rfl, ?_, .inr (Int.le_refl _), ?_⟩
            · have h0 := heap_setCell_same w4 w.heap.size 0 _ _ (.int .i64 cn) HB4.out
              exact heap_setCell_same _ w.heap.size 1 _ _ (.int .i64 nn) h0
            · exact (bel4.setCell (p := ⟨w.heap.size, 0, none⟩) (Nat.le_refl _) _).setCell (p := ⟨w.heap.size, 1, none⟩) (Nat.le_refl _) _
          case measure => simp [intOf]; omega
    · go_wp2
      go_ret
      exact ⟨rfl, hbel⟩

end Go.Proofs.Ytnjbglnkhgholaa
