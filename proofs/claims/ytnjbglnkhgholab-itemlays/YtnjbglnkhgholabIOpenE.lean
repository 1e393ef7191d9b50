/-
  A list of entries that came in: from its reading to its entries.
-/
import Derived.Test.YtnjbglnkhgholabIOpen
import Derived.Test.YtnjbglnkhgholabITwo
namespace Go.Proofs.Ytnjbglnkhgholab
open Go.ChangeShapes Go.WideShapes Go.ChangeAt Go.RowKit
set_option linter.unusedVariables false

set_option maxHeartbeats 1000000 in
theorem ents_open {H : Type} {enc : TypeId × Value → H} {W : World} {fuel : Nat} {a : Option Addr} {len cap : Nat} {d : DataW H} {ps : List MemPlace}
    (hf : DataW.trod enc Try.prog W 0 (fun _ => true) true fuel 37 [.slice a len cap] = some (d, ps)) : ∃ T, EntsIn W a len cap T := by
  rcases Deep.open_slice Try.underlying37 hf with ⟨hcs, _⟩ | ⟨x, l, c, m, n, D, Pl, hcs, hb, hl, hm, hmm, hx, hel⟩
  · simp only [List.cons.injEq, Value.slice.injEq, and_true] at hcs
    obtain ⟨rfl, rfl, rfl⟩ := hcs
    exact ⟨fun _ => ⟨ByteArray.empty, 0, 0, ByteArray.empty, false⟩, Nat.le_refl _, Nat.zero_le _, .inl rfl⟩
  · simp only [List.cons.injEq, Value.slice.injEq, and_true] at hcs
    obtain ⟨rfl, rfl, rfl⟩ := hcs
    simp only [if_true] at hmm
    subst hmm
    rw [cellsEnt] at hel
    have each : ∀ i, i < len → ∃ t : En, W.cell? (x.add (i * 5)) = some (.string t.k) ∧ W.cell? (x.add (i * 5 + 1)) = some (.int .i64 t.c) ∧ W.cell? (x.add (i * 5 + 2)) = some (.int .i64 t.n) ∧ W.cell? (x.add (i * 5 + 3)) = some (.string t.v) ∧ W.cell? (x.add (i * 5 + 4)) = some (.bool t.d) := by
      intro i hi
      obtain ⟨cs', h1, h2⟩ := hel i (by omega)
      obtain ⟨_, hlen, hcell⟩ := World.cells?_some h1
      match cs', hlen with
      | [v0, v1, v2, v3, v4], _ =>
        obtain ⟨k, c, n, v, d, rfl, rfl, rfl, rfl, rfl, _⟩ := ent_cells h2
        have c0 := hcell 0 (by omega)
        have c1 := hcell 1 (by omega)
        have c2 := hcell 2 (by omega)
        have c3 := hcell 3 (by omega)
        have c4 := hcell 4 (by omega)
        rw [Deep.add_add] at c0 c1 c2 c3 c4
        exact ⟨⟨k, c, n, v, d⟩, by simpa using c0, by simpa using c1, by simpa using c2, by simpa using c3, by simpa using c4⟩
    by_cases h0 : len = 0
    · exact ⟨fun _ => ⟨ByteArray.empty, 0, 0, ByteArray.empty, false⟩, hl, hm, .inl h0⟩
    · letI : Inhabited En := ⟨⟨ByteArray.empty, 0, 0, ByteArray.empty, false⟩⟩
      obtain ⟨T, hT⟩ := Deep.choose_lt each
      have hc0 := (hT 0 (by omega)).1
      obtain ⟨blk, off, spot⟩ := x
      have hspot : spot = none := by
        have := World.cell?_spot hc0
        simpa [Addr.add] using this
      subst hspot
      have hblk : blk < W.heap.size := by
        have := World.block_lt_of_cell? W _ hc0
        simpa [Addr.add] using this
      have hadd : ∀ j, (⟨blk, off, none⟩ : Addr).add j = ⟨blk, off + j, none⟩ := by intro j; unfold Addr.add; split <;> simp_all
      refine ⟨T, hl, hm, .inr ⟨blk, off, rfl, hblk, fun i hi => ?_⟩⟩
      have h5 := hT i hi
      simp only [hadd] at h5
      simpa only [Nat.add_assoc] using h5

end Go.Proofs.Ytnjbglnkhgholab
