/-
  From the reading of a slice of ranges, or of texts, and the form's own reach, to what the walks are told.
-/
import Derived.Test.YtidajlnaehhkkaaSOpen
import Derived.Test.YtidajlnaehhkkaaSCut
import Derived.SizedLaws
import Derived.Deep.Slices
namespace Go.Proofs.Ytidajlnaehhkkaa
open Go.ChangeShapes Go.WideShapes Go.ChangeAt Go.RowKit
set_option linter.unusedVariables false

theorem laidOut : laidOutB Try.prog = true := by kernel_rfl
theorem bytesRg : Try.prog.bytesOf 23 = 40 := by kernel_rfl
theorem cellsStr : Try.prog.cellsOf 9 = 1 := by kernel_rfl
theorem cellsBool : Try.prog.cellsOf 4 = 1 := by kernel_rfl

set_option maxHeartbeats 1000000 in
theorem rgs_open {H : Type} {enc : TypeId × Value → H} {W : World} {fuel : Nat} {a : Option Addr} {len cap : Nat} {d : DataW H} {ps : List MemPlace}
    (hf : DataW.trod enc Try.prog W 0 (fun _ => true) true fuel 34 [.slice a len cap] = some (d, ps)) (hz : ∀ n ∈ d.weights Try.prog 34, n ≤ reachBytes) : ∃ T, RgsIn W.heap.size W a len cap T ∧ len * 40 ≤ 140737488351232 ∧ ((a = none ∧ len = 0 ∧ cap = 0) ∨ ∃ x, a = some x) := by
  rcases Deep.open_slice Try.underlying34 hf with ⟨hcs, _⟩ | ⟨x, l, c, m, n, D, Pl, hcs, hb, hl, hm, hmm, hx, hel⟩
  · simp only [List.cons.injEq, Value.slice.injEq, and_true] at hcs
    obtain ⟨rfl, rfl, rfl⟩ := hcs
    exact ⟨fun _ => ⟨ByteArray.empty, ByteArray.empty, false⟩, ⟨Nat.le_refl _, by omega, .inl rfl⟩, by omega, .inl ⟨rfl, rfl, rfl⟩⟩
  · simp only [List.cons.injEq, Value.slice.injEq, and_true] at hcs
    obtain ⟨rfl, rfl, rfl⟩ := hcs
    simp only [Prod.mk.injEq] at hx
    have hd := hx.1
    simp only [if_true] at hmm
    subst hmm
    rw [cellsRg] at hel
    have each : ∀ i, i < len → ∃ t : Rg, W.cell? (x.add (i * 3)) = some (.string t.lo) ∧ W.cell? (x.add (i * 3 + 1)) = some (.string t.hi) ∧ W.cell? (x.add (i * 3 + 2)) = some (.bool t.op) := by
      intro i hi
      obtain ⟨cs', h1, h2⟩ := hel i (by omega)
      obtain ⟨_, hlen, hcell⟩ := World.cells?_some h1
      obtain ⟨xs, k, hk, hxy, _, hxl, hfs⟩ := DataW.trod_struct Try.underlying23 h2
      match xs, hxl, cs', hlen with
      | [y0, y1, y2], _, [v0, v1, v2], _ =>
        have g0 := hfs 0 _ rfl
        have g1 := hfs 1 _ rfl
        have g2 := hfs 2 _ rfl
        simp [cellsStr, cellsBool] at g0 g1 g2
        obtain ⟨a0, e0, f0, w0⟩ := DataW.trod_string Try.underlying9 g0
        obtain ⟨a1, e1, f1, w1⟩ := DataW.trod_string Try.underlying9 g1
        obtain ⟨a2, e2, f2⟩ := DataW.trod_bool Try.underlying4 g2
        simp only [List.cons.injEq, and_true] at e0 e1 e2
        subst e0 e1 e2 f0 f1 f2
        have c0 := hcell 0 (by omega)
        have c1 := hcell 1 (by omega)
        have c2 := hcell 2 (by omega)
        rw [Deep.add_add] at c0 c1 c2
        exact ⟨⟨a0, a1, a2⟩, by simpa using c0, by simpa using c1, by simpa using c2⟩
    have hbytes : len * 40 ≤ 140737488351232 := by
      have hw := hz _ (by rw [hd]; simp only [DataW.weights, Try.underlying34]; exact List.mem_cons_self)
      rw [bytesRg] at hw
      simp only [List.length_map, List.length_range] at hw
      have e : reachBytes = 140737488351232 := rfl
      omega
    by_cases h0 : len = 0
    · exact ⟨fun _ => ⟨ByteArray.empty, ByteArray.empty, false⟩, ⟨hl, by omega, .inl h0⟩, hbytes, .inr ⟨_, rfl⟩⟩
    · letI : Inhabited Rg := ⟨⟨ByteArray.empty, ByteArray.empty, false⟩⟩
      obtain ⟨T, hT⟩ := Deep.choose_lt each
      have hc0 := (hT 0 (by omega)).1
      obtain ⟨blk, off, spot⟩ := x
      have hspot : spot = none := by
        have := World.cell?_spot hc0
        simpa [Addr.add] using this
      subst hspot
      have hblk : blk < W.heap.size := by
        have := World.block_lt_of_cell? W _ hc0
        simpa [Addr.add] using this
      have hadd : ∀ j, (⟨blk, off, none⟩ : Addr).add j = ⟨blk, off + j, none⟩ := by intro j; unfold Addr.add; split <;> simp_all
      refine ⟨T, ⟨hl, by omega, .inr ⟨blk, off, rfl, hblk, fun i hi => ?_⟩⟩, hbytes, .inr ⟨_, rfl⟩⟩
      have h5 := hT i hi
      simp only [hadd] at h5
      simpa only [Nat.add_assoc] using h5

end Go.Proofs.Ytidajlnaehhkkaa
