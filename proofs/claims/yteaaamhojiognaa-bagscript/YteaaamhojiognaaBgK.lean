/-
  The document's bag in memory: New, Len, Lost.
-/
import Derived.Test.YteaaamhojiognaaBgX
import Derived.Lib.ConvBytes
namespace Go.Proofs.Yteaaamhojiognaa
open Go.RowKit
set_option linter.unusedVariables false

/-- A packet's bytes, in a row of their own that may bear a mark. -/
def DatR (B : Nat) (w : World) (p : Pk) : Prop := ByIn w p.da p.dl p.dc p.L ∧ p.dl ≤ 65536 ∧ ∃ g cur fr, p.da = some ⟨g, 0, none⟩ ∧ B ≤ g ∧ w.heap[g]? = some (.cells cur 5 fr)
theorem DatR.on {B : Nat} {w w' : World} {p : Pk} (h : DatR B w p) (b : Below w.heap.size w w') : DatR B w' p := by
  obtain ⟨h1, h2, g, cur, fr, h3, h4, h5⟩ := h
  exact ⟨h1.on b, h2, g, cur, fr, h3, h4, blk_on h5 b⟩
theorem DatR.low {B B' : Nat} {w : World} {p : Pk} (h : DatR B w p) (hb : B' ≤ B) : DatR B' w p := by
  obtain ⟨h1, h2, g, cur, fr, h3, h4, h5⟩ := h
  exact ⟨h1, h2, g, cur, fr, h3, Nat.le_trans hb h4, h5⟩
theorem DatR.keep {B : Nat} {S : Nat → Prop} {w w' : World} {p : Pk} (h : DatR B w p) (k : Keeps S w w') (hS : ∀ x, p.da = some x → ¬ S x.block) : DatR B w' p := by
  obtain ⟨⟨a1, a2, a3, a4⟩, h2, g, cur, fr, h3, h4, h5⟩ := h
  have hn := hS _ h3
  refine ⟨⟨a1, a2, a3, ?_⟩, h2, g, cur, fr, h3, h4, blk_keep h5 k hn⟩
  rcases a4 with h | ⟨x, hx, hc⟩
  · exact .inl h
  · refine .inr ⟨x, hx, fun j u hj => ?_⟩
    rw [h3] at hx
    injection hx with hx
    subst hx
    rw [Addr.add_lit] at *
    rw [k.cell (p := ⟨g, 0 + j, none⟩) (lt_of_blk h5) hn]
    have := hc j u hj
    rw [Addr.add_lit] at this
    exact this
theorem DatR.typed {B : Nat} {w : World} {p : Pk} (h : DatR B w p) {i : Nat} {cs : Array Value} {T : TypeId} (hi : w.heap[i]? = some (.cells cs T (0, 0))) (hT : T ≠ 5) : ∀ x, p.da = some x → ¬ x.block = i := by
  obtain ⟨h1, h2, g, cur, fr, h3, h4, h5⟩ := h
  rintro x hx rfl
  rw [h3] at hx
  injection hx with hx
  subst hx
  rw [h5] at hi
  simp only [Option.some.injEq, Obj.cells.injEq] at hi
  exact hT hi.2.1.symm
theorem DatR.row {B C : Nat} {w : World} {p : Pk} (h : DatR B w p) {e : TypeId} {s n : Nat} {v : Value} {xs : List Value} (ho : w.ownsRow C e s v n xs) (hT : e ≠ 5) : ∀ x, p.da = some x → ¬ v.ownBlock = some x.block := by
  intro x hx hv
  rcases ho.2 with ⟨h2, _⟩ | ⟨g, cap, cur, h2, h3, h4, h5⟩
  · rw [h2] at hv; cases hv
  · rw [h2] at hv
    have e1 : g = x.block := by simpa [Value.ownBlock] using hv
    exact h.typed h4 hT x hx e1.symm

/-- A bag of the document's in memory. -/
structure RBag (w : World) (B b : Nat) (v : Value) (room last lost : Nat) (l : List Pk) : Prop where
  bx : w.heap[b]? = some (.cells #[.int .i64 (room : Int), .int .i64 (last : Int), .int .i64 (lost : Int), v] 62 (0, 0))
  ge : B ≤ b
  row : w.ownsRow B 39 4 v l.length (pkCells l)
  dat : ∀ p ∈ l, DatR B w p
  le : l.length ≤ room
  r1 : 1 ≤ room
  r2 : room ≤ 512
section
variable {w w' : World} {B b : Nat} {v : Value} {room last lost : Nat} {l : List Pk}
theorem RBag.on (h : RBag w B b v room last lost l) (k : Below w.heap.size w w') : RBag w' B b v room last lost l :=
  ⟨blk_on h.bx k, h.ge, own_on h.row k, fun p hp => (h.dat p hp).on k, h.le, h.r1, h.r2⟩
theorem RBag.keep {S : Nat → Prop} (h : RBag w B b v room last lost l) (k : Keeps S w w') (h1 : ¬ S b) (h2 : ∀ j, v.ownBlock = some j → ¬ S j) (h3 : ∀ p ∈ l, ∀ x, p.da = some x → ¬ S x.block) : RBag w' B b v room last lost l :=
  ⟨blk_keep h.bx k h1, h.ge, ownsRow_keep h.row k h2, fun p hp => (h.dat p hp).keep k (h3 p hp), h.le, h.r1, h.r2⟩
theorem RBag.cells (h : RBag w B b v room last lost l) : w.cell? ⟨b, 0, none⟩ = some (.int .i64 (room : Int)) ∧ w.cell? ⟨b, 1, none⟩ = some (.int .i64 (last : Int)) ∧ w.cell? ⟨b, 2, none⟩ = some (.int .i64 (lost : Int)) ∧ w.cell? ⟨b, 3, none⟩ = some v := by
  have := h.bx
  simp [World.cell?, this]
theorem RBag.frozen (h : RBag w B b v room last lost l) (i : Nat) : w.frozen? ⟨b, i, none⟩ = false := frozen_of_row w b i _ _ h.bx
theorem RBag.row_not (h : RBag w B b v room last lost l) : ¬ v.ownBlock = some b := own_typed h.row h.bx (by decide)
theorem RBag.dat_not (h : RBag w B b v room last lost l) {C : Nat} {p : Pk} (hp : DatR C w p) : ∀ x, p.da = some x → ¬ BgS b v x.block := fun x hx hs => by
  rcases hs with e | hs
  · exact hp.typed h.bx (by decide) x hx e
  · exact hp.row h.row (by decide) x hx hs
theorem RBag.below (h : RBag w B b v room last lost l) (k : Keeps (BgS b v) w w') (hB : B ≤ w.heap.size) : Below B w w' :=
  k.below hB (fun j hj hs => by
    rcases hs with rfl | hs
    · exact absurd h.ge (by omega)
    · have := h.row.lt j hs; omega)
end

set_option maxHeartbeats 3200000 in
theorem rnew_bad (room : Int) (hr : room < 1 ∨ 512 < room) (w : World) : Calls Try.prog 9 #[.int .i64 room] w fun e w' => e = .returned (.tuple #[.pointer none, .int .i64 1]) ∧ Below w.heap.size w w' := by
  go_enter Try.func9, Try.ntmps9
  by_cases h1 : room < 1
  · go_wp2
    go_ret2
    exact ⟨rfl, Below.refl _ _⟩
  · have h2 : (512 : Int) < room := by omega
    go_wp2
    go_ret2
    exact ⟨rfl, Below.refl _ _⟩
set_option maxHeartbeats 3200000 in
theorem rnew_ok (room : Nat) (h1 : 1 ≤ room) (h2 : room ≤ 512) (w : World) : Calls Try.prog 9 #[.int .i64 (room : Int)] w fun e w' => ∃ b, e = .returned (.tuple #[.pointer (some ⟨b, 0, none⟩), .int .i64 0]) ∧ RBag w' w.heap.size b (.slice none 0 0) room 0 0 [] ∧ Below w.heap.size w w' := by
  have h3 : ¬ ((room : Int) < 1) := by omega
  have h4 : ¬ ((512 : Int) < (room : Int)) := by omega
  have K := aside (heap_alloc_new w (.cells #[.int .i64 (room : Int), .int .i64 0, .int .i64 0, .slice none 0 0] 62))
  have R1 := aside h1
  have R2 := aside h2
  clear h1 h2
  go_enter Try.func9, Try.ntmps9
  go_wp2
  go_ret2
  exact ⟨_, rfl, ⟨K.out, Nat.le_refl _, ⟨rfl, .inl ⟨rfl, rfl⟩⟩, fun p hp => (by cases hp), Nat.zero_le _, R1.out, R2.out⟩, bnew w _⟩
theorem rlen_any {w : World} {B b : Nat} {v : Value} {room last lost : Nat} {l : List Pk} (h : RBag w B b v room last lost l) : Calls Try.prog 24 #[.pointer (some ⟨b, 0, none⟩)] w fun e w' => e = .returned (.int .i64 (l.length : Int)) ∧ w' = w := by
  obtain ⟨c0, c1, c2, c3⟩ := h.cells
  obtain ⟨a, c, rfl, -⟩ := own_slice h.row
  clear h c0 c1 c2
  generalize l.length = n at *
  go_enter Try.func24, Try.ntmps24
  go_wp2
  go_ret
  exact ⟨rfl, rfl⟩
theorem rlost_any {w : World} {B b : Nat} {v : Value} {room last lost : Nat} {l : List Pk} (h : RBag w B b v room last lost l) : Calls Try.prog 26 #[.pointer (some ⟨b, 0, none⟩)] w fun e w' => e = .returned (.int .i64 (lost : Int)) ∧ w' = w := by
  obtain ⟨c0, c1, c2, c3⟩ := h.cells
  clear h c0 c1 c3
  go_enter Try.func26, Try.ntmps26
  go_wp2
  go_ret
  exact ⟨rfl, rfl⟩
/-- New bytes of a text. -/
theorem byIn_made (w : World) (L : List UInt8) (hl : L.length ≤ 65536) : ByIn (Lib.bytesWorld w 5 ⟨L.toArray⟩) (some ⟨w.heap.size, 0, none⟩) L.length (grownCap w L.length 0 5) L ∧ Below w.heap.size w (Lib.bytesWorld w 5 ⟨L.toArray⟩) ∧ ∃ cur fr, (Lib.bytesWorld w 5 ⟨L.toArray⟩).heap[w.heap.size]? = some (.cells cur 5 fr) := by
  have hsz : ByteArray.size ⟨L.toArray⟩ = L.length := by show (L.toArray).size = _; simp
  refine ⟨⟨rfl, grownCap_ge w _ 0 _, grownCap_le_maxLen w _ 0 _ (by unfold maxLen; omega), .inr ⟨_, rfl, fun j u hj => ?_⟩⟩, ⟨rfl, rfl, rfl, by rw [Lib.bytesWorld_size]; omega, fun k hk => Lib.bytesWorld_at_old w _ _ k hk⟩, _, _, Lib.bytesWorld_at_new w _ _⟩
  have hjl : j < L.length := by
    have := (List.getElem?_eq_some_iff.1 hj).1
    rw [Lib.byteCells_length] at this
    exact this
  rw [Addr.add_lit, Nat.zero_add, Lib.bytesWorld_cell w _ _ j (by rw [hsz]; exact hjl)]
  simp only [Lib.byteCells, List.getElem?_map, List.getElem?_eq_getElem hjl, Option.map_some, Option.some.injEq] at hj
  rw [← hj]
  simp [List.getD, hjl]
end Go.Proofs.Yteaaamhojiognaa
