/-
  The document's ghost in memory: New, Written, Held.
-/
import Derived.Test.YtfkdhambbpkmpaaGvP
namespace Go.Proofs.Ytfkdhambbpkmpaa
open Go.RowKit
set_option linter.unusedVariables false

/-- The document's ghost: all that was written, in a row, and what every node held. -/
structure Rh (w : World) (B q : Nat) (va : Value) (L : List En) (H : Nat → Hd) : Prop where
  bx : w.heap[q]? = some (.cells #[va, (H 0).v, (H 1).v, (H 2).v, (H 3).v, (H 4).v, (H 5).v, (H 6).v, (H 7).v] 53 (0, 0))
  qB : B ≤ q
  all : w.ownsRow B 31 5 va L.length (entCells L)
  chk : ∀ e ∈ L, e.chk = 0
  held : ∀ i, i < 8 → w.ownsRow B 31 5 (H i).v (H i).n (entCells (H i).l)
  maps : ∀ i, i < 8 → MapL (H i).l
  sz : ∀ i, i < 8 → (H i).n ≤ 1073741824
  ap : ∀ i, i < 8 → ∀ j, (H i).v.ownBlock = some j → ¬ va.ownBlock = some j
theorem Rh.cellH {w : World} {B q : Nat} {va : Value} {L : List En} {H : Nat → Hd} (h : Rh w B q va L H) : ∀ i, i < 8 → w.cell? ⟨q, 1 + i, none⟩ = some (H i).v := fun i hi => by
  rw [cell_of_row _ _ (1 + i) _ _ _ h.bx]
  match i, hi with
  | 0, _ => rfl
  | 1, _ => rfl
  | 2, _ => rfl
  | 3, _ => rfl
  | 4, _ => rfl
  | 5, _ => rfl
  | 6, _ => rfl
  | 7, _ => rfl
theorem Rh.keep {S : Nat → Prop} {w : World} {B q : Nat} {va : Value} {L : List En} {H : Nat → Hd} {w' : World} (h : Rh w B q va L H) (k : Keeps S w w') (h1 : ¬ S q) (h2 : ∀ j, va.ownBlock = some j → ¬ S j) (h3 : ∀ i, i < 8 → ∀ j, (H i).v.ownBlock = some j → ¬ S j) : Rh w' B q va L H :=
  ⟨blk_keep h.bx k h1, h.qB, ownsRow_keep h.all k h2, h.chk, fun i hi => ownsRow_keep (h.held i hi) k (h3 i hi), h.maps, h.sz, h.ap⟩
theorem Rh.on {w : World} {B q : Nat} {va : Value} {L : List En} {H : Nat → Hd} {w' : World} (h : Rh w B q va L H) (k : Below w.heap.size w w') : Rh w' B q va L H :=
  ⟨blk_on h.bx k, h.qB, own_on h.all k, h.chk, fun i hi => own_on (h.held i hi) k, h.maps, h.sz, h.ap⟩
theorem chkKeys {L : List En} (h : ∀ e ∈ L, e.chk = 0) : KeysOk L := fun e he => by have := (chk_pos (h e he)).2.1; omega
/-- An entry of the row, cell by cell. -/
theorem Rh.row {w : World} {B q : Nat} {va : Value} {L : List En} {H : Nat → Hd} (h : Rh w B q va L H) {j : Nat} {x : En} (hx : L[j]? = some x) : ∃ g c, va = .slice (some ⟨g, 0, none⟩) L.length c ∧ (w.cell? ⟨g, j * 5, none⟩ = some (.string x.k) ∧ w.cell? ⟨g, j * 5 + 1, none⟩ = some (.int .i64 x.c) ∧ w.cell? ⟨g, j * 5 + 2, none⟩ = some (.int .i64 x.n) ∧ w.cell? ⟨g, j * 5 + 3, none⟩ = some (.string x.v) ∧ w.cell? ⟨g, j * 5 + 4, none⟩ = some (.bool x.d)) := by
  have hj : j < L.length := (List.getElem?_eq_some_iff.1 hx).1
  obtain ⟨a, c, rfl, -, -, ⟨-, h0, -⟩ | ⟨g, rfl, -⟩⟩ := own_slice h.all
  · omega
  · obtain ⟨T, hT, hTl, -⟩ := entsG_of h.all (chkKeys h.chk)
    have hq : T j = x := by
      have h1 := firstE_get T hj
      rw [hTl, hx] at h1
      injection h1 with h1
      exact h1.symm
    have h5 := ents_five hT hj hq
    simp only [Nat.zero_add] at h5
    exact ⟨g, c, rfl, h5⟩
set_option maxHeartbeats 3200000 in
theorem rhnew_any (w : World) : Calls Try.prog 7 #[] w fun e w' => ∃ q, e = .returned (.pointer (some ⟨q, 0, none⟩)) ∧ Rh w' w.heap.size q (.slice none 0 0) [] (fun _ => hd0) ∧ Below w.heap.size w w' := by
  go_enter Try.func7, Try.ntmps7
  go_wp2
  go_ret
  have b2 := bnew w (.cells #[.slice none 0 0, hd0.v, hd0.v, hd0.v, hd0.v, hd0.v, hd0.v, hd0.v, hd0.v] 53)
  have k2 := heap_alloc_new w (.cells #[.slice none 0 0, hd0.v, hd0.v, hd0.v, hd0.v, hd0.v, hd0.v, hd0.v, hd0.v] 53)
  exact ⟨_, rfl, ⟨by simpa [hd0, Hd.v] using k2, Nat.le_refl _, ⟨rfl, .inl ⟨rfl, rfl⟩⟩, fun e he => (by cases he), fun i hi => ⟨rfl, .inl ⟨rfl, rfl⟩⟩, fun i hi => MapL.nil, fun i hi => Nat.zero_le _, fun i hi j hj => (by cases hj)⟩, b2⟩
end Go.Proofs.Ytfkdhambbpkmpaa
