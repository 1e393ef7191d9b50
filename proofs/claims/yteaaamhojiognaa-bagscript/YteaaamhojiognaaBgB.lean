/-
  A bag in memory; New, has, isNode, Len, Lost, front, Clone, apart.
-/
import Derived.Test.YteaaamhojiognaaBgA
namespace Go.Proofs.Yteaaamhojiognaa
open Go.RowKit
set_option linter.unusedVariables false

/-- A bag of the code's in memory: its block, its frames' slice, its numbers, its packets. -/
structure BagAt (w : World) (B b : Nat) (v : Value) (room last lost : Nat) (l : List Pk) : Prop where
  bx : w.heap[b]? = some (.cells #[.int .i64 (room : Int), v, .int .i64 (last : Int), .int .i64 (lost : Int)] 60 (0, 0))
  ge : B ≤ b
  row : w.ownsRow B 39 4 v l.length (pkCells l)
  dat : ∀ p ∈ l, Dat B w p
  le : l.length ≤ room
  r1 : 1 ≤ room
  r2 : room ≤ 512
theorem BagAt.on {w w' : World} {B b : Nat} {v : Value} {room last lost : Nat} {l : List Pk} (h : BagAt w B b v room last lost l) (k : Below w.heap.size w w') : BagAt w' B b v room last lost l :=
  ⟨blk_on h.bx k, h.ge, own_on h.row k, fun p hp => (h.dat p hp).on k, h.le, h.r1, h.r2⟩
theorem BagAt.keep {S : Nat → Prop} {w w' : World} {B b : Nat} {v : Value} {room last lost : Nat} {l : List Pk} (h : BagAt w B b v room last lost l) (k : Keeps S w w') (h1 : ¬ S b) (h2 : ∀ j, v.ownBlock = some j → ¬ S j) (h3 : ∀ p ∈ l, ∀ j, (Value.slice p.da p.dl p.dc).ownBlock = some j → ¬ S j) : BagAt w' B b v room last lost l :=
  ⟨blk_keep h.bx k h1, h.ge, ownsRow_keep h.row k h2, fun p hp => (h.dat p hp).keep k (h3 p hp), h.le, h.r1, h.r2⟩
theorem BagAt.cells {w : World} {B b : Nat} {v : Value} {room last lost : Nat} {l : List Pk} (h : BagAt w B b v room last lost l) : w.cell? ⟨b, 0, none⟩ = some (.int .i64 (room : Int)) ∧ w.cell? ⟨b, 1, none⟩ = some v ∧ w.cell? ⟨b, 2, none⟩ = some (.int .i64 (last : Int)) ∧ w.cell? ⟨b, 3, none⟩ = some (.int .i64 (lost : Int)) := by
  have := h.bx
  simp [World.cell?, this]
theorem BagAt.frozen {w : World} {B b : Nat} {v : Value} {room last lost : Nat} {l : List Pk} (h : BagAt w B b v room last lost l) (i : Nat) : w.frozen? ⟨b, i, none⟩ = false := frozen_of_row w b i _ _ h.bx
/-- The blocks that a call on a bag may turn. -/
def BgS (b : Nat) (v : Value) : Nat → Prop := fun k => k = b ∨ v.ownBlock = some k
theorem BagAt.row_not {w : World} {B b : Nat} {v : Value} {room last lost : Nat} {l : List Pk} (h : BagAt w B b v room last lost l) : ¬ v.ownBlock = some b := own_typed h.row h.bx (by decide)
theorem BagAt.dat_not {w : World} {B b : Nat} {v : Value} {room last lost : Nat} {l : List Pk} (h : BagAt w B b v room last lost l) {C : Nat} {p : Pk} (hp : Dat C w p) : ∀ j, (Value.slice p.da p.dl p.dc).ownBlock = some j → ¬ BgS b v j := fun j hj hs => by
  rcases hs with rfl | hs
  · exact own_typed hp.1 h.bx (by decide) hj
  · exact own_apart hp.1 h.row (by decide) hs hj
/-- Such a call is below what the bag's blocks begin at. -/
theorem BagAt.below {w w' : World} {B b : Nat} {v : Value} {room last lost : Nat} {l : List Pk} (h : BagAt w B b v room last lost l) (k : Keeps (BgS b v) w w') (hB : B ≤ w.heap.size) : Below B w w' :=
  k.below hB (fun j hj hs => by
    rcases hs with rfl | hs
    · exact absurd h.ge (by omega)
    · have := h.row.lt j hs; omega)

set_option maxHeartbeats 3200000 in
theorem bnew_bad (room : Int) (hr : room < 1 ∨ 512 < room) (w : World) : Calls Try.prog 8 #[.int .i64 room] w fun e w' => e = .returned (.tuple #[.pointer none, .int .i64 1]) ∧ Below w.heap.size w w' := by
  go_enter Try.func8, Try.ntmps8
  by_cases h1 : room < 1
  · go_wp2
    go_ret2
    exact ⟨rfl, Below.refl _ _⟩
  · have h2 : (512 : Int) < room := by omega
    go_wp2
    go_ret2
    exact ⟨rfl, Below.refl _ _⟩
set_option maxHeartbeats 3200000 in
theorem bnew_ok (room : Nat) (h1 : 1 ≤ room) (h2 : room ≤ 512) (w : World) : Calls Try.prog 8 #[.int .i64 (room : Int)] w fun e w' => ∃ b, e = .returned (.tuple #[.pointer (some ⟨b, 0, none⟩), .int .i64 0]) ∧ BagAt w' w.heap.size b (.slice none 0 0) room 0 0 [] ∧ Below w.heap.size w w' := by
  have h3 : ¬ ((room : Int) < 1) := by omega
  have h4 : ¬ ((512 : Int) < (room : Int)) := by omega
  have K := aside (heap_alloc_new w (.cells #[.int .i64 (room : Int), .slice none 0 0, .int .i64 0, .int .i64 0] 60))
  have R1 := aside h1
  have R2 := aside h2
  clear h1 h2
  go_enter Try.func8, Try.ntmps8
  go_wp2
  go_ret2
  exact ⟨_, rfl, ⟨K.out, Nat.le_refl _, ⟨rfl, .inl ⟨rfl, rfl⟩⟩, fun p hp => (by cases hp), Nat.zero_le _, R1.out, R2.out⟩, bnew w _⟩

theorem isnode_yes (n : Int) (h0 : 0 ≤ n) (h8 : n < 8) (w : World) : Calls Try.prog 27 #[.int .i64 n] w fun e w' => e = .returned (.bool true) ∧ w' = w := by
  have h1 : n ≥ 0 := h0
  go_enter Try.func27, Try.ntmps27
  go_wp2
  go_ret
  exact ⟨rfl, rfl⟩
theorem isnode_no (n : Int) (h : n < 0 ∨ 8 ≤ n) (w : World) : Calls Try.prog 27 #[.int .i64 n] w fun e w' => e = .returned (.bool false) ∧ w' = w := by
  by_cases h0 : 0 ≤ n
  · have h8 : ¬ n < 8 := by omega
    clear h
    go_enter Try.func27, Try.ntmps27
    go_wp2
    go_ret
    exact ⟨rfl, rfl⟩
  · clear h
    go_enter Try.func27, Try.ntmps27
    go_wp2
    go_ret
    exact ⟨rfl, rfl⟩
theorem blen_any {w : World} {B b : Nat} {v : Value} {room last lost : Nat} {l : List Pk} (h : BagAt w B b v room last lost l) : Calls Try.prog 23 #[.pointer (some ⟨b, 0, none⟩)] w fun e w' => e = .returned (.int .i64 (l.length : Int)) ∧ w' = w := by
  obtain ⟨c0, c1, c2, c3⟩ := h.cells
  obtain ⟨a, c, rfl, -⟩ := own_slice h.row
  clear h c0 c2 c3
  generalize l.length = n at *
  go_enter Try.func23, Try.ntmps23
  go_wp2
  go_ret
  exact ⟨rfl, rfl⟩
theorem blost_any {w : World} {B b : Nat} {v : Value} {room last lost : Nat} {l : List Pk} (h : BagAt w B b v room last lost l) : Calls Try.prog 25 #[.pointer (some ⟨b, 0, none⟩)] w fun e w' => e = .returned (.int .i64 (lost : Int)) ∧ w' = w := by
  obtain ⟨c0, c1, c2, c3⟩ := h.cells
  clear h c0 c1 c2
  go_enter Try.func25, Try.ntmps25
  go_wp2
  go_ret
  exact ⟨rfl, rfl⟩
theorem bhas_yes {w : World} {B b : Nat} {v : Value} {room last lost : Nat} {l : List Pk} (h : BagAt w B b v room last lost l) (i : Int) (h0 : 0 ≤ i) (hi : i < (l.length : Int)) : Calls Try.prog 30 #[.pointer (some ⟨b, 0, none⟩), .int .i64 i] w fun e w' => e = .returned (.bool true) ∧ w' = w := by
  obtain ⟨c0, c1, c2, c3⟩ := h.cells
  obtain ⟨a, c, rfl, -⟩ := own_slice h.row
  clear h c0 c2 c3
  generalize l.length = n at *
  go_enter Try.func30, Try.ntmps30
  go_wp2
  go_ret
  exact ⟨rfl, rfl⟩
theorem bhas_no {w : World} {B b : Nat} {v : Value} {room last lost : Nat} {l : List Pk} (h : BagAt w B b v room last lost l) (i : Int) (hi : i < 0 ∨ (l.length : Int) ≤ i) : Calls Try.prog 30 #[.pointer (some ⟨b, 0, none⟩), .int .i64 i] w fun e w' => e = .returned (.bool false) ∧ w' = w := by
  obtain ⟨c0, c1, c2, c3⟩ := h.cells
  obtain ⟨a, c, rfl, -⟩ := own_slice h.row
  clear h c0 c2 c3
  generalize l.length = n at *
  by_cases h0 : 0 ≤ i
  · have h9 : ¬ i < (n : Int) := by omega
    clear hi
    go_enter Try.func30, Try.ntmps30
    go_wp2
    go_ret
    exact ⟨rfl, rfl⟩
  · clear hi
    go_enter Try.func30, Try.ntmps30
    go_wp2
    go_ret
    exact ⟨rfl, rfl⟩
/-- The first i packets, with no room behind them. -/
theorem bfront_any {w : World} {B b : Nat} {v : Value} {room last lost : Nat} {l : List Pk} (h : BagAt w B b v room last lost l) (i : Nat) (hi : i ≤ l.length) : Calls Try.prog 33 #[.pointer (some ⟨b, 0, none⟩), .int .i64 (i : Int)] w fun e w' => (∃ a c, v = .slice a l.length c ∧ e = .returned (.slice a i i) ∧ PkIn w a i i (l.take i)) ∧ w' = w := by
  obtain ⟨c0, c1, c2, c3⟩ := h.cells
  have hrow := h.row
  obtain ⟨a, c, rfl, hc1, hc2, hf⟩ := own_slice h.row
  have FIN := aside (show PkIn w a i i (l.take i) from by
    obtain ⟨p1, p2, p3, p4⟩ := PkIn.of_own hrow
    refine ⟨by rw [List.length_take]; omega, Nat.le_refl _, by omega, ?_⟩
    rcases p4 with ⟨q1, q2, q3⟩ | ⟨b', o', q1, q2, q3⟩
    · exact .inl ⟨q1, by omega, by omega⟩
    · exact .inr ⟨b', o', q1, q2, fun j u hj => q3 j u (pkCells_take l i j u hj)⟩)
  clear h hrow c0 c2 c3
  have hmx : (c : Int) ≤ 9223372036854775807 := by unfold maxLen at hc2; omega
  obtain ⟨n, hn⟩ : ∃ n, l.length = n := ⟨_, rfl⟩
  rw [hn] at c1 hi hc1 hf ⊢
  clear hn
  have h1 : (0 : Int) ≤ (i : Int) := by omega
  have h2 : (i : Int) ≤ (c : Int) := by omega
  go_enter Try.func33, Try.ntmps33
  go_wp2
  go_ret
  exact ⟨⟨_, _, rfl, rfl, FIN.out⟩, rfl⟩
end Go.Proofs.Yteaaamhojiognaa
