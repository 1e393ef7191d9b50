/-
  Names that came in.
-/
import Derived.Test.YtoajgacofmodoaaTmO
import Derived.Test.YtoajgacofmodoaaYMem
namespace Go.Proofs.Ytoajgacofmodoaa
open Go.ChangeShapes Go.WideShapes Go.ChangeAt Go.RowKit
set_option linter.unusedVariables false

structure Nr where
  o : Int
  l : Int
  n : Int

/-- Its numbers are numbers. -/
def NrOk (t : Nr) : Prop := (-9223372036854775808 ≤ t.o ∧ t.o ≤ 9223372036854775807) ∧ (-9223372036854775808 ≤ t.l ∧ t.l ≤ 9223372036854775807) ∧ (-9223372036854775808 ≤ t.n ∧ t.n ≤ 9223372036854775807)
/-- The cells of one. -/
def NrAt (w : World) (b off : Nat) (t : Nr) : Prop :=
  w.cell? ⟨b, off, none⟩ = some (.int .i64 t.o) ∧ w.cell? ⟨b, off + 1, none⟩ = some (.int .i64 t.l) ∧ w.cell? ⟨b, off + 2, none⟩ = some (.int .i64 t.n)

/-- A list of such. -/
def Nrs (w : World) (a : Option Addr) (len cap : Nat) (T : Nat → Nr) : Prop :=
  len ≤ cap ∧ cap ≤ maxLen ∧ len * 24 ≤ 140737488351232 ∧ (len = 0 ∨ ∃ b off, a = some ⟨b, off, none⟩ ∧ b < w.heap.size ∧ ∀ i, i < len → NrAt w b (off + i * 3) (T i))

theorem NrAt.keep {w w' : World} {b off : Nat} {t : Nr} (h : NrAt w b off t) (k : Below w.heap.size w w') : NrAt w' b off t := by
  obtain ⟨c0, c1, c2⟩ := h
  exact ⟨cell_in c0 k, cell_in c1 k, cell_in c2 k⟩

theorem Nrs.keep {w w' : World} {a : Option Addr} {len cap : Nat} {T : Nat → Nr} (h : Nrs w a len cap T) (k : Below w.heap.size w w') : Nrs w' a len cap T := by
  obtain ⟨h1, h2, h3, h4⟩ := h
  refine ⟨h1, h2, h3, ?_⟩
  rcases h4 with h4 | ⟨bb, off, rfl, hb, hc⟩
  · exact .inl h4
  · exact .inr ⟨bb, off, rfl, by have := k.size; omega, fun i hi => (hc i hi).keep k⟩

theorem cellsNr : Try.prog.cellsOf 29 = 3 := by kernel_rfl
theorem bytesNr : Try.prog.bytesOf 29 = 24 := by kernel_rfl
theorem cellsNri : Try.prog.cellsOf 3 = 1 := by kernel_rfl
theorem cellsNrs : Try.prog.cellsOf 9 = 1 := by kernel_rfl
theorem cellsNrb : Try.prog.cellsOf 4 = 1 := by kernel_rfl

variable {H : Type} {enc : TypeId × Value → H} {W : World}

set_option maxRecDepth 100000 in
set_option maxHeartbeats 2000000 in
theorem Nr_cells {b0 : Nat} {sp : Nat → Bool} {held : Bool} {fuel : Nat} {v0 v1 v2 : Value} {z : DataW H × List MemPlace} (h : DataW.trod enc Try.prog W b0 sp held fuel 29 [v0, v1, v2] = some z) :
    ∃ t : Nr, v0 = .int .i64 t.o ∧ v1 = .int .i64 t.l ∧ v2 = .int .i64 t.n ∧ NrOk t := by
  obtain ⟨xs1, m1, hm1, hxy1, _, hxl1, hfs1⟩ := DataW.trod_struct Try.underlying29 h
  match xs1, hxl1 with
  | [y1_0, y1_1, y1_2], _ =>
    have g1_0 := hfs1 0 _ rfl
    have g1_1 := hfs1 1 _ rfl
    have g1_2 := hfs1 2 _ rfl
    simp [cellsNri] at g1_0 g1_1 g1_2
    obtain ⟨q1_0, e1_0, f1_0, w1_0⟩ := DataW.trod_int Try.underlying3 g1_0
    obtain ⟨q1_1, e1_1, f1_1, w1_1⟩ := DataW.trod_int Try.underlying3 g1_1
    obtain ⟨q1_2, e1_2, f1_2, w1_2⟩ := DataW.trod_int Try.underlying3 g1_2
    simp only [List.cons.injEq, and_true] at e1_0 e1_1 e1_2
    exact ⟨⟨q1_0, q1_1, q1_2⟩, e1_0, e1_1, e1_2, ⟨bounds_i64 w1_0, bounds_i64 w1_1, bounds_i64 w1_2⟩⟩

def Nr0 : Nr := ⟨0, 0, 0⟩

set_option maxHeartbeats 1000000 in
theorem Nrs_open {fuel : Nat} {a : Option Addr} {len cap : Nat} {d : DataW H} {ps : List MemPlace}
    (hf : DataW.trod enc Try.prog W 0 (fun _ => true) true fuel 22 [.slice a len cap] = some (d, ps)) (hz : ∀ n ∈ d.weights Try.prog 22, n ≤ reachBytes) :
    ∃ T, Nrs W a len cap T ∧ ∀ i, i < len → NrOk (T i) := by
  rcases Deep.open_slice Try.underlying22 hf with ⟨hcs, _⟩ | ⟨x, l, c, m, n, D, Pl, hcs, hb, hl, hm, hmm, hx, hel⟩
  · simp only [List.cons.injEq, Value.slice.injEq, and_true] at hcs
    obtain ⟨rfl, rfl, rfl⟩ := hcs
    exact ⟨fun _ => Nr0, ⟨Nat.le_refl _, Nat.zero_le _, by omega, .inl rfl⟩, fun i hi => by omega⟩
  · simp only [List.cons.injEq, Value.slice.injEq, and_true] at hcs
    obtain ⟨rfl, rfl, rfl⟩ := hcs
    simp only [Prod.mk.injEq] at hx
    have hd := hx.1
    simp only [if_true] at hmm
    subst hmm
    rw [cellsNr] at hel
    have hbytes : len * 24 ≤ 140737488351232 := by
      have h1 := hz _ (by rw [hd]; simp only [DataW.weights, Try.underlying22]; exact List.mem_cons_self)
      rw [bytesNr] at h1
      simp only [List.length_map, List.length_range] at h1
      have : reachBytes = 140737488351232 := by decide
      omega
    have each : ∀ i, i < len → ∃ t : Nr, (W.cell? (x.add (i * 3)) = some (.int .i64 t.o) ∧ W.cell? (x.add (i * 3 + 1)) = some (.int .i64 t.l) ∧ W.cell? (x.add (i * 3 + 2)) = some (.int .i64 t.n)) ∧ NrOk t := by
      intro i hi
      obtain ⟨cs', h1, h2⟩ := hel i (by omega)
      obtain ⟨_, hlen, hcell⟩ := World.cells?_some h1
      match cs', hlen with
      | [v0, v1, v2], _ =>
        obtain ⟨t, rfl, rfl, rfl, hok⟩ := Nr_cells h2
        have c0 := hcell 0 (by omega)
        have c1 := hcell 1 (by omega)
        have c2 := hcell 2 (by omega)
        rw [Deep.add_add] at c0 c1 c2
        exact ⟨t, ⟨by simpa using c0, by simpa using c1, by simpa using c2⟩, hok⟩
    by_cases h0 : len = 0
    · exact ⟨fun _ => Nr0, ⟨hl, hm, by omega, .inl h0⟩, fun i hi => by omega⟩
    · letI : Inhabited Nr := ⟨Nr0⟩
      obtain ⟨T, hT⟩ := Deep.choose_lt each
      have hc0 := (hT 0 (by omega)).1.1
      obtain ⟨blk, off, spot⟩ := x
      have hspot : spot = none := by
        have := World.cell?_spot hc0
        simpa [Addr.add] using this
      subst hspot
      have hblk : blk < W.heap.size := by
        have := World.block_lt_of_cell? W _ hc0
        simpa [Addr.add] using this
      have hadd : ∀ j, (⟨blk, off, none⟩ : Addr).add j = ⟨blk, off + j, none⟩ := by intro j; unfold Addr.add; split <;> simp_all
      refine ⟨T, ⟨hl, hm, by omega, .inr ⟨blk, off, rfl, hblk, fun i hi => ?_⟩⟩, fun i hi => (hT i hi).2⟩
      have h5 := (hT i hi).1
      simp only [hadd] at h5
      simpa only [Nat.add_assoc, NrAt] using h5

end Go.Proofs.Ytoajgacofmodoaa
