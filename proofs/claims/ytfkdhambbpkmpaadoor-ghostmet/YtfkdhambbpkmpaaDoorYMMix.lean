/-
  The table of lanes in memory; one word mixed into both lanes.
-/
import Derived.Test.YtfkdhambbpkmpaaDoorYMBase
namespace Go.Proofs.YtfkdhambbpkmpaaDoor
open Go.RowKit
set_option linter.unusedVariables false
/-- The table of lanes, cell for cell. -/
structure Lanes (w : World) : Prop where
  c0 : w.cell? ⟨0, 0, none⟩ = some (.int .u64 2611923443488327891)
  c1 : w.cell? ⟨0, 1, none⟩ = some (.int .u64 11400714819323198485)
  c2 : w.cell? ⟨0, 2, none⟩ = some (.int .u64 29)
  c3 : w.cell? ⟨0, 3, none⟩ = some (.int .u64 1376283091369227076)
  c4 : w.cell? ⟨0, 4, none⟩ = some (.int .u64 14029467366897019727)
  c5 : w.cell? ⟨0, 5, none⟩ = some (.int .u64 32)

theorem Lanes.keep {w w' : World} (h : Lanes w) (b : Below w.heap.size w w') : Lanes w' :=
  ⟨cell_in h.c0 b, cell_in h.c1 b, cell_in h.c2 b, cell_in h.c3 b, cell_in h.c4 b, cell_in h.c5 b⟩

theorem Lanes.pos {w : World} (h : Lanes w) : 0 < w.heap.size := World.block_lt_of_cell? w _ h.c0

/-- The memory in the loop over a sum's elements. -/
def mix2 (w : World) (x0 x1 r0 r1 : Int) : World :=
  (w.alloc (.cells #[.int .u64 x0, .int .u64 x1] 38)).alloc (.cells #[.int .u64 r0, .int .u64 r1] 38)

theorem mix2_below (w : World) (x0 x1 r0 r1 : Int) : Below w.heap.size w (mix2 w x0 x1 r0 r1) := (bnew w _).alloc (by simp) _

def MixRel (w : World) (a0 a1 s0 s1 : Int) (i : Value) (wr : World) : Prop :=
  (i = .int .i64 0 ∧ wr = mix2 w a0 a1 0 0) ∨ (i = .int .i64 1 ∧ wr = (mix2 w s0 a1 0 0).drew.drew) ∨ (i = .int .i64 2 ∧ wr = (mix2 w s0 s1 0 0).drew.drew.drew.drew)

/-- One word mixed into a lane. -/
def mixI (f : Int) (s : Nat) (x u : Int) : Int :=
  bits .xor .u64 (IntKind.u64.wrap (bits .xor .u64 x u * f)) (IntKind.u64.wrap (bits .xor .u64 x u * f) / 2 ^ s)

set_option maxHeartbeats 1600000 in
set_option maxRecDepth 100000 in
theorem mixed_any (a0 a1 u : Int) (w : World) (L : Lanes w) :
    Calls Tryd.prog 66 #[.agg #[.int .u64 a0, .int .u64 a1], .int .u64 u] w fun e w' => e = .returned (.agg #[.int .u64 (mixI 11400714819323198485 29 a0 u), .int .u64 (mixI 14029467366897019727 32 a1 u)]) ∧ Below w.heap.size w w' := by
  have h0 := L.pos
  obtain ⟨c0, c1, c2, c3, c4, c5⟩ := L
  go_enter Tryd.func66, Tryd.ntmps66
  go_wp2
  go_loopw [6] (fun i wr => MixRel w a0 a1 (mixI 11400714819323198485 29 a0 u) (mixI 14029467366897019727 32 a1 u) i wr) (fun i _ => 2 - (intOf i).toNat)
  case atStart => exact .inl ⟨rfl, rfl⟩
  case round =>
    obtain ⟨rfl, rfl⟩ | ⟨rfl, rfl⟩ | ⟨rfl, rfl⟩ := hrel
    · unfold mix2
      go_wp2
      go_region
      go_wp2
      go_region
      go_wp2
      go_roundw
      case rel => exact .inr (.inl ⟨rfl, rfl⟩)
      case measure => simp [intOf]
    · unfold mix2
      go_wp2
      go_region
      go_wp2
      go_region
      go_wp2
      go_roundw
      case rel => exact .inr (.inr ⟨rfl, rfl⟩)
      case measure => simp [intOf]
    · unfold mix2
      go_wp2
      exact bodyPost_ret (v := .agg #[.int .u64 (mixI 11400714819323198485 29 a0 u), .int .u64 (mixI 14029467366897019727 32 a1 u)]) (by simp [results, Tryd.results66, go_sem]) rfl ⟨rfl, (mix2_below w _ _ _ _).drew.drew.drew.drew⟩

end Go.Proofs.YtfkdhambbpkmpaaDoor
