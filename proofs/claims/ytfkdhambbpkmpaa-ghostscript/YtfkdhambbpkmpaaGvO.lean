/-
  The calls of two ghosts that came in.
-/
import Derived.Test.YtfkdhambbpkmpaaGuO
namespace Go.Proofs.Ytfkdhambbpkmpaa
open Go.ChangeShapes Go.WideShapes Go.ChangeAt Go.RowKit
set_option linter.unusedVariables false
variable {H : Type} {enc : TypeId × Value → H} {W : World}

/-- A call: its kind, its node, its entry, its list, of which ghost. -/
structure Gop where
  kind : Int
  node : Int
  e : En
  l : Ll
  snd : Bool
def gop0 : Gop := ⟨0, 0, ⟨ByteArray.empty, 0, 0, ByteArray.empty, false⟩, ⟨none, 0, 0, fun _ => ⟨ByteArray.empty, 0, 0, ByteArray.empty, false⟩⟩, false⟩
def Gop.In (w : World) (t : Gop) : Prop := LlIn w t.l ∧ t.e.k.size ≤ 140737488351232 ∧ ((-9223372036854775808 ≤ t.e.c ∧ t.e.c ≤ 9223372036854775807) ∧ (-9223372036854775808 ≤ t.e.n ∧ t.e.n ≤ 9223372036854775807))
def GopAt (w : World) (b o : Nat) (t : Gop) : Prop := w.cell? (⟨b, o, none⟩) = some (.int .i64 t.kind) ∧ w.cell? (⟨b, o + 1, none⟩) = some (.int .i64 t.node) ∧ w.cell? (⟨b, o + 2, none⟩) = some (.string t.e.k) ∧ w.cell? (⟨b, o + 3, none⟩) = some (.int .i64 t.e.c) ∧ w.cell? (⟨b, o + 4, none⟩) = some (.int .i64 t.e.n) ∧ w.cell? (⟨b, o + 5, none⟩) = some (.string t.e.v) ∧ w.cell? (⟨b, o + 6, none⟩) = some (.bool t.e.d) ∧ w.cell? (⟨b, o + 7, none⟩) = some (.slice t.l.a t.l.n t.l.c) ∧ w.cell? (⟨b, o + 8, none⟩) = some (.bool t.snd)
def GopsIn (w : World) (a : Option Addr) (len cap : Nat) (T : Nat → Gop) : Prop :=
  len ≤ cap ∧ cap ≤ maxLen ∧ (len = 0 ∨ ∃ b off, a = some ⟨b, off, none⟩ ∧ b < w.heap.size ∧ ∀ i, i < len → GopAt w b (off + i * 9) (T i) ∧ (T i).In w)
theorem Gop.In.keep {w w' : World} {t : Gop} (h : t.In w) (k : Below w.heap.size w w') : t.In w' := ⟨⟨h.1.1.keep k, h.1.2⟩, h.2⟩
theorem GopAt.keep {w w' : World} {b o : Nat} {t : Gop} (h : GopAt w b o t) (k : Below w.heap.size w w') : GopAt w' b o t := by
  obtain ⟨h0, h1, h2, h3, h4, h5, h6, h7, h8⟩ := h
  exact ⟨cell_in h0 k, cell_in h1 k, cell_in h2 k, cell_in h3 k, cell_in h4 k, cell_in h5 k, cell_in h6 k, cell_in h7 k, cell_in h8 k⟩
theorem GopsIn.keep {w w' : World} {a : Option Addr} {len cap : Nat} {T : Nat → Gop} (h : GopsIn w a len cap T) (k : Below w.heap.size w w') : GopsIn w' a len cap T := by
  obtain ⟨h1, h2, h3⟩ := h
  refine ⟨h1, h2, ?_⟩
  rcases h3 with h3 | ⟨b, off, h4, h5, h6⟩
  · exact .inl h3
  · exact .inr ⟨b, off, h4, Nat.lt_of_lt_of_le h5 k.size, fun i hi => ⟨(h6 i hi).1.keep k, (h6 i hi).2.keep k⟩⟩
theorem cellsGop : Try.prog.cellsOf 34 = 9 := by kernel_rfl
theorem lst9 {α : Type} {l : List α} (h : l.length = 9) : ∃ v0 v1 v2 v3 v4 v5 v6 v7 v8, l = [v0, v1, v2, v3, v4, v5, v6, v7, v8] := by
  match l, h with
  | [v0, v1, v2, v3, v4, v5, v6, v7, v8], _ => exact ⟨v0, v1, v2, v3, v4, v5, v6, v7, v8, rfl⟩
set_option maxRecDepth 100000 in
set_option maxHeartbeats 2000000 in
theorem gop_cells {fuel : Nat} {v0 v1 v2 v3 v4 v5 v6 v7 v8 : Value} {z : DataW H × List MemPlace} (h : DataW.trod enc Try.prog W 0 (fun _ => true) true fuel 34 [v0, v1, v2, v3, v4, v5, v6, v7, v8] = some z) (hz : ∀ n ∈ z.1.weights Try.prog 34, n ≤ reachBytes) :
    ∃ t : Gop, v0 = .int .i64 t.kind ∧ v1 = .int .i64 t.node ∧ v2 = .string t.e.k ∧ v3 = .int .i64 t.e.c ∧ v4 = .int .i64 t.e.n ∧ v5 = .string t.e.v ∧ v6 = .bool t.e.d ∧ v7 = .slice t.l.a t.l.n t.l.c ∧ v8 = .bool t.snd ∧ t.In W := by
  obtain ⟨xs1, m1, hm1, hxy1, hxx1, hxl1, hfs1⟩ := DataW.trod_struct Try.underlying34 h
  match xs1, hxl1 with
  | [y0, y1, y2, y3, y4], _ =>
    have g0 := hfs1 0 _ rfl
    have g1 := hfs1 1 _ rfl
    have g2 := hfs1 2 _ rfl
    have g3 := hfs1 3 _ rfl
    have g4 := hfs1 4 _ rfl
    simp [cellsInt, cellsEnt, cellsLl, cellsBool] at g0 g1 g2 g3 g4
    obtain ⟨q0, e0, -, -⟩ := DataW.trod_int Try.underlying3 g0
    obtain ⟨q1, e1, -, -⟩ := DataW.trod_int Try.underlying3 g1
    obtain ⟨d, e8, -⟩ := DataW.trod_bool Try.underlying4 g4
    obtain ⟨k, c, n, v, dd, rfl, rfl, rfl, rfl, rfl, hbn, -, -, hdi⟩ := ent_cells g2
    have hks := ent_size hdi (fun m' hm' => hz m' (by rw [hxy1]; simp [DataW.weights, Try.underlying34, DataW.weightsEach, hm']))
    simp only [List.cons.injEq, and_true] at e0 e1 e8
    obtain ⟨a', l', c', rfl⟩ : ∃ a' l' c', v7 = .slice a' l' c' := by
      rcases Deep.open_slice Try.underlying32 g3 with ⟨e, _⟩ | ⟨x', l', c', m', n', D', Pl', e, -⟩
      · simp only [List.cons.injEq, and_true] at e
        exact ⟨_, _, _, e⟩
      · simp only [List.cons.injEq, and_true] at e
        exact ⟨_, _, _, e⟩
    obtain ⟨T, hT, hform, -⟩ := ents_open (enc := enc) (d := y3.1) (ps := y3.2) g3 (fun n hn => hz n (by rw [hxy1]; simp [DataW.weights, Try.underlying34, DataW.weightsEach, hn]))
    exact ⟨⟨q0, q1, ⟨k, c, n, v, dd⟩, ⟨a', l', c', T⟩, d⟩, e0, e1, rfl, rfl, rfl, rfl, rfl, rfl, e8, ⟨hT, hform⟩, hks, hbn⟩
set_option maxHeartbeats 2000000 in
theorem gops_open {fuel : Nat} {a : Option Addr} {len cap : Nat} {d : DataW H} {ps : List MemPlace}
    (hf : DataW.trod enc Try.prog W 0 (fun _ => true) true fuel 22 [.slice a len cap] = some (d, ps)) (hz : ∀ n ∈ d.weights Try.prog 22, n ≤ reachBytes) :
    ∃ T, GopsIn W a len cap T := by
  rcases Deep.open_slice Try.underlying22 hf with ⟨hcs, _⟩ | ⟨x, l, c, m, n, D, Pl, hcs, hb, hl, hm, hmm, hx, hel⟩
  · simp only [List.cons.injEq, Value.slice.injEq, and_true] at hcs
    obtain ⟨rfl, rfl, rfl⟩ := hcs
    exact ⟨fun _ => gop0, Nat.le_refl _, Nat.zero_le _, .inl rfl⟩
  · simp only [List.cons.injEq, Value.slice.injEq, and_true] at hcs
    obtain ⟨rfl, rfl, rfl⟩ := hcs
    simp only [Prod.mk.injEq] at hx
    have hd := hx.1
    simp only [if_true] at hmm
    subst hmm
    rw [cellsGop] at hel
    have each : ∀ i, i < len → ∃ t : Gop, (W.cell? (x.add (i * 9)) = some (.int .i64 t.kind) ∧ W.cell? (x.add (i * 9 + 1)) = some (.int .i64 t.node) ∧ W.cell? (x.add (i * 9 + 2)) = some (.string t.e.k) ∧ W.cell? (x.add (i * 9 + 3)) = some (.int .i64 t.e.c) ∧ W.cell? (x.add (i * 9 + 4)) = some (.int .i64 t.e.n) ∧ W.cell? (x.add (i * 9 + 5)) = some (.string t.e.v) ∧ W.cell? (x.add (i * 9 + 6)) = some (.bool t.e.d) ∧ W.cell? (x.add (i * 9 + 7)) = some (.slice t.l.a t.l.n t.l.c) ∧ W.cell? (x.add (i * 9 + 8)) = some (.bool t.snd)) ∧ t.In W := by
      intro i hi
      obtain ⟨cs', h1, h2⟩ := hel i (by omega)
      obtain ⟨_, hlen, hcell⟩ := World.cells?_some h1
      obtain ⟨v0, v1, v2, v3, v4, v5, v6, v7, v8, rfl⟩ := lst9 hlen
      obtain ⟨t, rfl, rfl, rfl, rfl, rfl, rfl, rfl, rfl, rfl, hok⟩ := gop_cells h2 (fun m' hm' => hz m' (by
        rw [hd]
        simp only [DataW.weights, Try.underlying22]
        exact List.mem_cons_of_mem _ (List.mem_append_left _ (weights_all (d := D i) (List.mem_map.2 ⟨i, List.mem_range.2 hi, rfl⟩) _ hm'))))
      have c0 := hcell 0 (by omega)
      have c1 := hcell 1 (by omega)
      have c2 := hcell 2 (by omega)
      have c3 := hcell 3 (by omega)
      have c4 := hcell 4 (by omega)
      have c5 := hcell 5 (by omega)
      have c6 := hcell 6 (by omega)
      have c7 := hcell 7 (by omega)
      have c8 := hcell 8 (by omega)
      rw [Deep.add_add] at c0 c1 c2 c3 c4 c5 c6 c7 c8
      exact ⟨t, ⟨by simpa using c0, by simpa using c1, by simpa using c2, by simpa using c3, by simpa using c4, by simpa using c5, by simpa using c6, by simpa using c7, by simpa using c8⟩, hok⟩
    by_cases h0 : len = 0
    · exact ⟨fun _ => gop0, hl, hm, .inl h0⟩
    · letI : Inhabited Gop := ⟨gop0⟩
      obtain ⟨T, hT⟩ := Deep.choose_lt each
      have hc0 := (hT 0 (by omega)).1.1
      obtain ⟨blk, off, spot⟩ := x
      have hspot : spot = none := by
        have := World.cell?_spot hc0
        simpa [Addr.add] using this
      subst hspot
      have hblk : blk < W.heap.size := by
        have := World.block_lt_of_cell? W _ hc0
        simpa [Addr.add] using this
      have hadd : ∀ j, (⟨blk, off, none⟩ : Addr).add j = ⟨blk, off + j, none⟩ := by intro j; unfold Addr.add; split <;> simp_all
      refine ⟨T, hl, hm, .inr ⟨blk, off, rfl, hblk, fun i hi => ⟨?_, (hT i hi).2⟩⟩⟩
      have h5 := (hT i hi).1
      simp only [hadd] at h5
      simpa only [Nat.add_assoc, GopAt] using h5
end Go.Proofs.Ytfkdhambbpkmpaa
