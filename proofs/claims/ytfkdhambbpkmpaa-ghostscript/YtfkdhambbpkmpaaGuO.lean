/-
  Lists of lists of entries that came in.
-/
import Derived.Test.YtfkdhambbpkmpaaMgOpen
namespace Go.Proofs.Ytfkdhambbpkmpaa
open Go.ChangeShapes Go.WideShapes Go.ChangeAt Go.RowKit
set_option linter.unusedVariables false
variable {H : Type} {enc : TypeId × Value → H} {W : World}

/-- A list that came in: where it lies, and its entries. -/
structure Ll where
  a : Option Addr
  n : Nat
  c : Nat
  T : Nat → En
def LlIn (w : World) (t : Ll) : Prop := EntsIn w t.a t.n t.c t.T ∧ ((t.a = none ∧ t.n = 0 ∧ t.c = 0) ∨ ∃ y, t.a = some y)
def LlsIn (w : World) (a : Option Addr) (len cap : Nat) (T : Nat → Ll) : Prop :=
  len ≤ cap ∧ cap ≤ maxLen ∧ (len = 0 ∨ ∃ b off, a = some ⟨b, off, none⟩ ∧ b < w.heap.size ∧ ∀ i, i < len → w.cell? ⟨b, off + i, none⟩ = some (.slice (T i).a (T i).n (T i).c) ∧ LlIn w (T i))
theorem LlsIn.keep {w w' : World} {a : Option Addr} {len cap : Nat} {T : Nat → Ll} (h : LlsIn w a len cap T) (k : Below w.heap.size w w') : LlsIn w' a len cap T := by
  obtain ⟨h1, h2, h3⟩ := h
  refine ⟨h1, h2, ?_⟩
  rcases h3 with h3 | ⟨b, off, h4, h5, h6⟩
  · exact .inl h3
  · exact .inr ⟨b, off, h4, Nat.lt_of_lt_of_le h5 k.size, fun i hi => ⟨cell_in (h6 i hi).1 k, (h6 i hi).2.1.keep k, (h6 i hi).2.2⟩⟩
theorem cellsLl : Try.prog.cellsOf 32 = 1 := by kernel_rfl
theorem lst1 {α : Type} {l : List α} (h : l.length = 1) : ∃ v0, l = [v0] := by
  match l, h with
  | [v0], _ => exact ⟨v0, rfl⟩
set_option maxHeartbeats 2000000 in
theorem lls_open {fuel : Nat} {a : Option Addr} {len cap : Nat} {d : DataW H} {ps : List MemPlace}
    (hf : DataW.trod enc Try.prog W 0 (fun _ => true) true fuel 38 [.slice a len cap] = some (d, ps)) (hz : ∀ n ∈ d.weights Try.prog 38, n ≤ reachBytes) :
    ∃ T, LlsIn W a len cap T := by
  rcases Deep.open_slice Try.underlying38 hf with ⟨hcs, _⟩ | ⟨x, l, c, m, n, D, Pl, hcs, hb, hl, hm, hmm, hx, hel⟩
  · simp only [List.cons.injEq, Value.slice.injEq, and_true] at hcs
    obtain ⟨rfl, rfl, rfl⟩ := hcs
    exact ⟨fun _ => ⟨none, 0, 0, fun _ => ⟨ByteArray.empty, 0, 0, ByteArray.empty, false⟩⟩, Nat.le_refl _, Nat.zero_le _, .inl rfl⟩
  · simp only [List.cons.injEq, Value.slice.injEq, and_true] at hcs
    obtain ⟨rfl, rfl, rfl⟩ := hcs
    simp only [Prod.mk.injEq] at hx
    have hd := hx.1
    simp only [if_true] at hmm
    subst hmm
    rw [cellsLl] at hel
    have each : ∀ i, i < len → ∃ t : Ll, W.cell? (x.add i) = some (.slice t.a t.n t.c) ∧ LlIn W t := by
      intro i hi
      obtain ⟨cs', h1, h2⟩ := hel i (by omega)
      obtain ⟨_, hlen, hcell⟩ := World.cells?_some h1
      obtain ⟨v0, rfl⟩ := lst1 hlen
      have c0 := hcell 0 (by omega)
      rw [Deep.add_add] at c0
      obtain ⟨a', l', c', rfl⟩ : ∃ a' l' c', v0 = .slice a' l' c' := by
        rcases Deep.open_slice Try.underlying32 h2 with ⟨e, _⟩ | ⟨x', l', c', m', n', D', Pl', e, -⟩
        · simp only [List.cons.injEq, and_true] at e
          exact ⟨_, _, _, e⟩
        · simp only [List.cons.injEq, and_true] at e
          exact ⟨_, _, _, e⟩
      obtain ⟨T, hT, hform, -⟩ := ents_open h2 (fun m' hm' => hz m' (by
        rw [hd]
        simp only [DataW.weights, Try.underlying38]
        exact List.mem_cons_of_mem _ (List.mem_append_left _ (weights_all (d := D i) (List.mem_map.2 ⟨i, List.mem_range.2 hi, rfl⟩) _ hm'))))
      exact ⟨⟨a', l', c', T⟩, by simpa using c0, hT, hform⟩
    by_cases h0 : len = 0
    · exact ⟨fun _ => ⟨none, 0, 0, fun _ => ⟨ByteArray.empty, 0, 0, ByteArray.empty, false⟩⟩, hl, hm, .inl h0⟩
    · letI : Inhabited Ll := ⟨⟨none, 0, 0, fun _ => ⟨ByteArray.empty, 0, 0, ByteArray.empty, false⟩⟩⟩
      obtain ⟨T, hT⟩ := Deep.choose_lt each
      have hc0 := (hT 0 (by omega)).1
      obtain ⟨blk, off, spot⟩ := x
      have hspot : spot = none := by
        have := World.cell?_spot hc0
        simpa [Addr.add] using this
      subst hspot
      have hblk : blk < W.heap.size := by
        have := World.block_lt_of_cell? W _ hc0
        simpa [Addr.add] using this
      have hadd : ∀ j, (⟨blk, off, none⟩ : Addr).add j = ⟨blk, off + j, none⟩ := by intro j; unfold Addr.add; split <;> simp_all
      refine ⟨T, hl, hm, .inr ⟨blk, off, rfl, hblk, fun i hi => ⟨?_, (hT i hi).2⟩⟩⟩
      have h5 := (hT i hi).1
      rw [hadd] at h5
      exact h5
end Go.Proofs.Ytfkdhambbpkmpaa
