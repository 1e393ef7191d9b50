/-
  Lists of tallies and of bools that came in: from their reading to plain data.
-/
import Derived.Test.YtccfhegckdmanaaTaOpen
import Derived.Test.YtccfhegckdmanaaTaLists
namespace Go.Proofs.Ytccfhegckdmanaa
open Go.ChangeShapes Go.WideShapes Go.ChangeAt Go.RowKit
set_option linter.unusedVariables false

variable {H : Type} {enc : TypeId × Value → H} {W : World}

set_option maxHeartbeats 1000000 in
theorem tals_open {fuel : Nat} {a : Option Addr} {len cap : Nat} {d : DataW H} {ps : List MemPlace}
    (hf : DataW.trod enc Try.prog W 0 (fun _ => true) true fuel 35 [.slice a len cap] = some (d, ps)) :
    ∃ T, TalsIn W a len cap T := by
  rcases Deep.open_slice Try.underlying35 hf with ⟨hcs, _⟩ | ⟨x, l, c, m, n, D, Pl, hcs, hb, hl, hm, hmm, hx, hel⟩
  · simp only [List.cons.injEq, Value.slice.injEq, and_true] at hcs
    obtain ⟨rfl, rfl, rfl⟩ := hcs
    exact ⟨fun _ => ⟨0, 0, 0⟩, Nat.le_refl _, Nat.zero_le _, .inl rfl⟩
  · simp only [List.cons.injEq, Value.slice.injEq, and_true] at hcs
    obtain ⟨rfl, rfl, rfl⟩ := hcs
    simp only [if_true] at hmm
    subst hmm
    rw [cellsTal] at hel
    have each : ∀ i, i < len → ∃ t : Tl, W.cell? (x.add (i * 3)) = some (.int .i64 t.n) ∧ W.cell? (x.add (i * 3 + 1)) = some (.int .u64 t.a) ∧ W.cell? (x.add (i * 3 + 2)) = some (.int .u64 t.b) := by
      intro i hi
      obtain ⟨cs', h1, h2⟩ := hel i (by omega)
      obtain ⟨_, hlen, hcell⟩ := World.cells?_some h1
      match cs', hlen with
      | [v0, v1, v2], _ =>
        obtain ⟨n, a, b, rfl, rfl, rfl, -⟩ := tal_cells h2
        have c0 := hcell 0 (by omega)
        have c1 := hcell 1 (by omega)
        have c2 := hcell 2 (by omega)
        rw [Deep.add_add] at c0 c1 c2
        exact ⟨⟨n, a, b⟩, by simpa using c0, by simpa using c1, by simpa using c2⟩
    by_cases h0 : len = 0
    · exact ⟨fun _ => ⟨0, 0, 0⟩, hl, hm, .inl h0⟩
    · letI : Inhabited Tl := ⟨⟨0, 0, 0⟩⟩
      obtain ⟨T, hT⟩ := Deep.choose_lt each
      have hc0 := (hT 0 (by omega)).1
      obtain ⟨blk, off, spot⟩ := x
      have hspot : spot = none := by
        have := World.cell?_spot hc0
        simpa [Addr.add] using this
      subst hspot
      have hblk : blk < W.heap.size := by
        have := World.block_lt_of_cell? W _ hc0
        simpa [Addr.add] using this
      have hadd : ∀ j, (⟨blk, off, none⟩ : Addr).add j = ⟨blk, off + j, none⟩ := by intro j; unfold Addr.add; split <;> simp_all
      refine ⟨T, hl, hm, .inr ⟨blk, off, rfl, hblk, fun i hi => ?_⟩⟩
      have h5 := hT i hi
      simp only [hadd] at h5
      simpa only [Nat.add_assoc] using h5

set_option maxHeartbeats 1000000 in
theorem bools_open {fuel : Nat} {a : Option Addr} {len cap : Nat} {d : DataW H} {ps : List MemPlace}
    (hf : DataW.trod enc Try.prog W 0 (fun _ => true) true fuel 36 [.slice a len cap] = some (d, ps)) :
    ∃ T, BoolsIn W a len cap T := by
  rcases Deep.open_slice Try.underlying36 hf with ⟨hcs, _⟩ | ⟨x, l, c, m, n, D, Pl, hcs, hb, hl, hm, hmm, hx, hel⟩
  · simp only [List.cons.injEq, Value.slice.injEq, and_true] at hcs
    obtain ⟨rfl, rfl, rfl⟩ := hcs
    exact ⟨fun _ => false, Nat.le_refl _, Nat.zero_le _, .inl rfl⟩
  · simp only [List.cons.injEq, Value.slice.injEq, and_true] at hcs
    obtain ⟨rfl, rfl, rfl⟩ := hcs
    simp only [if_true] at hmm
    subst hmm
    rw [cellsBool] at hel
    have each : ∀ i, i < len → ∃ t : Bool, W.cell? (x.add i) = some (.bool t) := by
      intro i hi
      obtain ⟨cs', h1, h2⟩ := hel i (by omega)
      obtain ⟨_, hlen, hcell⟩ := World.cells?_some h1
      match cs', hlen with
      | [v0], _ =>
        obtain ⟨t, e0, _⟩ := DataW.trod_bool Try.underlying4 h2
        simp only [List.cons.injEq, and_true] at e0
        subst e0
        have c0 := hcell 0 (by omega)
        rw [Deep.add_add] at c0
        exact ⟨t, by simpa using c0⟩
    by_cases h0 : len = 0
    · exact ⟨fun _ => false, hl, hm, .inl h0⟩
    · obtain ⟨T, hT⟩ := Deep.choose_lt each
      have hc0 := hT 0 (by omega)
      obtain ⟨blk, off, spot⟩ := x
      have hspot : spot = none := by
        have := World.cell?_spot hc0
        simpa [Addr.add] using this
      subst hspot
      have hblk : blk < W.heap.size := by
        have := World.block_lt_of_cell? W _ hc0
        simpa [Addr.add] using this
      have hadd : ∀ j, (⟨blk, off, none⟩ : Addr).add j = ⟨blk, off + j, none⟩ := by intro j; unfold Addr.add; split <;> simp_all
      refine ⟨T, hl, hm, .inr ⟨blk, off, rfl, hblk, fun i hi => ?_⟩⟩
      have h5 := hT i hi
      simpa only [hadd] using h5

end Go.Proofs.Ytccfhegckdmanaa
