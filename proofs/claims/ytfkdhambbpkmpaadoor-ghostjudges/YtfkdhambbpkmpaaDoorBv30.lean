/-
  Entries and lists of entries that came in: from their reading to plain entries, with their sizes.
  A Config that came in.
-/
import Derived.Test.YtfkdhambbpkmpaaDoorBv1
import Derived.Test.YtfkdhambbpkmpaaDoorBv2
namespace Go.Proofs.YtfkdhambbpkmpaaDoor
open Go.ChangeShapes Go.WideShapes Go.ChangeAt Go.RowKit
set_option linter.unusedVariables false
variable {H : Type} {enc : TypeId × Value → H} {W : World}
set_option maxRecDepth 100000 in
/-- An entry's five cells, from their reading. -/
theorem ent_cells {b0 : Nat} {sp : Nat → Bool} {held : Bool} {fuel : Nat} {v0 v1 v2 v3 v4 : Value} {x : DataW H × List MemPlace} (h : DataW.trod enc Tryd.prog W b0 sp held fuel 55 [v0, v1, v2, v3, v4] = some x) :
    ∃ (k : ByteArray) (c n : Int) (v : ByteArray) (d : Bool), v0 = .string k ∧ v1 = .int .i64 c ∧ v2 = .int .i64 n ∧ v3 = .string v ∧ v4 = .bool d ∧
      ((-9223372036854775808 ≤ c ∧ c ≤ 9223372036854775807) ∧ (-9223372036854775808 ≤ n ∧ n ≤ 9223372036854775807)) ∧ k.size ≤ maxLen ∧ v.size ≤ maxLen ∧
      x.1 = .agg [.lit (.string k.data.toList), .agg [.lit (.int .i64 c), .lit (.int .i64 n)], .lit (.string v.data.toList), .lit (.bool d)] := by
  obtain ⟨y0, y1, y2, y3, m, rfl, _, h0, h1, h2, h3⟩ := Joins.trod_struct4 Tryd.underlying55 h
  simp [cellsStr, cellsBool, cellsVer] at h0 h1 h2 h3
  obtain ⟨z0, z1, m', rfl, _, g0, g1⟩ := trod_struct2 Tryd.underlying53 h1
  simp [cellsInt] at g0 g1
  obtain ⟨k, e0, rfl, w0⟩ := DataW.trod_string Tryd.underlying9 h0
  obtain ⟨c, e1, rfl, w1⟩ := DataW.trod_int Tryd.underlying3 g0
  obtain ⟨n, e2, rfl, w2⟩ := DataW.trod_int Tryd.underlying3 g1
  obtain ⟨v, e3, rfl, w3⟩ := DataW.trod_string Tryd.underlying9 h2
  obtain ⟨d, e4, rfl⟩ := DataW.trod_bool Tryd.underlying4 h3
  simp only [List.cons.injEq, and_true] at e0 e1 e2 e3 e4
  exact ⟨k, c, n, v, d, e0, e1, e2, e3, e4, ⟨bounds_i64 w1, bounds_i64 w2⟩, w0, w3, rfl⟩
set_option maxRecDepth 100000 in
/-- An entry's key is of a size that memory has. -/
theorem ent_size {d : DataW H} {k v : ByteArray} {c n : Int} {b : Bool} (hd : d = .agg [.lit (.string k.data.toList), .agg [.lit (.int .i64 c), .lit (.int .i64 n)], .lit (.string v.data.toList), .lit (.bool b)])
    (hz : ∀ m ∈ d.weights Tryd.prog 55, m ≤ reachBytes) : k.size ≤ 140737488351232 := by
  have := hz k.data.toList.length (by rw [hd]; simp [DataW.weights, Tryd.underlying55, DataW.weightsEach])
  have e : k.data.toList.length = k.size := by show k.data.toList.length = k.data.size; simp
  rw [e] at this
  exact this
theorem weights_all {P : Program} {e : TypeId} : ∀ {ds : List (DataW H)} {d : DataW H}, d ∈ ds → ∀ n ∈ d.weights P e, n ∈ DataW.weightsAll P e ds
  | d0 :: r, d, hd, n, hn => by
    simp only [DataW.weightsAll, List.mem_append]
    rcases List.mem_cons.1 hd with rfl | hd
    · exact Or.inl hn
    · exact Or.inr (weights_all hd n hn)
  | [], _, hd, _, _ => by simp at hd
set_option maxHeartbeats 1000000 in
theorem ents_open {fuel : Nat} {a : Option Addr} {len cap : Nat} {d : DataW H} {ps : List MemPlace}
    (hf : DataW.trod enc Tryd.prog W 0 (fun _ => true) true fuel 22 [.slice a len cap] = some (d, ps)) (hz : ∀ n ∈ d.weights Tryd.prog 22, n ≤ reachBytes) :
    ∃ T, EntsIn W a len cap T ∧ ((a = none ∧ len = 0 ∧ cap = 0) ∨ ∃ y, a = some y) ∧ len * 56 ≤ 140737488351232 := by
  rcases Deep.open_slice Tryd.underlying22 hf with ⟨hcs, _⟩ | ⟨x, l, c, m, n, D, Pl, hcs, hb, hl, hm, hmm, hx, hel⟩
  · simp only [List.cons.injEq, Value.slice.injEq, and_true] at hcs
    obtain ⟨rfl, rfl, rfl⟩ := hcs
    exact ⟨fun _ => ⟨ByteArray.empty, 0, 0, ByteArray.empty, false⟩, ⟨Nat.le_refl _, Nat.zero_le _, .inl rfl⟩, .inl ⟨rfl, rfl, rfl⟩, by omega⟩
  · simp only [List.cons.injEq, Value.slice.injEq, and_true] at hcs
    obtain ⟨rfl, rfl, rfl⟩ := hcs
    simp only [Prod.mk.injEq] at hx
    have hd := hx.1
    simp only [if_true] at hmm
    subst hmm
    rw [cellsEnt] at hel
    have hbytes : len * 56 ≤ 140737488351232 := by
      have h1 := hz _ (by rw [hd]; simp only [DataW.weights, Tryd.underlying22]; exact List.mem_cons_self)
      rw [bytesEnt] at h1
      simp only [List.length_map, List.length_range] at h1
      have : reachBytes = 140737488351232 := by decide
      omega
    have each : ∀ i, i < len → ∃ t : En, (W.cell? (x.add (i * 5)) = some (.string t.k) ∧ W.cell? (x.add (i * 5 + 1)) = some (.int .i64 t.c) ∧ W.cell? (x.add (i * 5 + 2)) = some (.int .i64 t.n) ∧ W.cell? (x.add (i * 5 + 3)) = some (.string t.v) ∧ W.cell? (x.add (i * 5 + 4)) = some (.bool t.d)) ∧ t.k.size ≤ 140737488351232 := by
      intro i hi
      obtain ⟨cs', h1, h2⟩ := hel i (by omega)
      obtain ⟨_, hlen, hcell⟩ := World.cells?_some h1
      match cs', hlen with
      | [v0, v1, v2, v3, v4], _ =>
        obtain ⟨k, c, n, v, d', rfl, rfl, rfl, rfl, rfl, _, _, _, hdi⟩ := ent_cells h2
        have c0 := hcell 0 (by omega)
        have c1 := hcell 1 (by omega)
        have c2 := hcell 2 (by omega)
        have c3 := hcell 3 (by omega)
        have c4 := hcell 4 (by omega)
        rw [Deep.add_add] at c0 c1 c2 c3 c4
        refine ⟨⟨k, c, n, v, d'⟩, ⟨by simpa using c0, by simpa using c1, by simpa using c2, by simpa using c3, by simpa using c4⟩, ?_⟩
        refine ent_size hdi (fun m' hm' => hz m' ?_)
        rw [hd]
        simp only [DataW.weights, Tryd.underlying22]
        exact List.mem_cons_of_mem _ (List.mem_append_left _ (weights_all (d := D i) (List.mem_map.2 ⟨i, List.mem_range.2 hi, rfl⟩) _ hm'))
    by_cases h0 : len = 0
    · exact ⟨fun _ => ⟨ByteArray.empty, 0, 0, ByteArray.empty, false⟩, ⟨hl, hm, .inl h0⟩, .inr ⟨_, rfl⟩, hbytes⟩
    · letI : Inhabited En := ⟨⟨ByteArray.empty, 0, 0, ByteArray.empty, false⟩⟩
      obtain ⟨T, hT⟩ := Deep.choose_lt each
      have hc0 := (hT 0 (by omega)).1.1
      obtain ⟨blk, off, spot⟩ := x
      have hspot : spot = none := by
        have := World.cell?_spot hc0
        simpa [Addr.add] using this
      subst hspot
      have hblk : blk < W.heap.size := by
        have := World.block_lt_of_cell? W _ hc0
        simpa [Addr.add] using this
      have hadd : ∀ j, (⟨blk, off, none⟩ : Addr).add j = ⟨blk, off + j, none⟩ := by intro j; unfold Addr.add; split <;> simp_all
      refine ⟨T, ⟨hl, hm, .inr ⟨blk, off, rfl, hblk, fun i hi => ⟨?_, (hT i hi).2⟩⟩⟩, .inr ⟨_, rfl⟩, hbytes⟩
      have h5 := (hT i hi).1
      simp only [hadd] at h5
      simpa only [Nat.add_assoc] using h5
end Go.Proofs.YtfkdhambbpkmpaaDoor
namespace Go.Proofs.YtfkdhambbpkmpaaDoor
open Go.ChangeShapes Go.WideShapes Go.ChangeAt Go.RowKit
set_option linter.unusedVariables false
variable {H : Type} {enc : TypeId × Value → H} {W : World}
theorem cellsCfg : Tryd.prog.cellsOf 44 = 4 := by kernel_rfl
set_option maxRecDepth 100000 in
theorem open_cfg {b0 : Nat} {sp : Nat → Bool} {held : Bool} {v : Value} {d : DataW H} {p : List MemPlace} (hv : Value.okWide Tryd.prog W .any b0 44 v) (h : DataW.Trod enc Tryd.prog W 0 sp held 44 v d p) :
    ∃ (a l n r : Int), v = .agg #[.int .i64 a, .int .i64 l, .int .i64 n, .int .i64 r] := by
  obtain ⟨c0, c1, c2, c3, y0, y1, y2, y3, m, rfl, rfl, rfl, hy0, hy1, hy2, hy3⟩ := Joins.open_agg4 Tryd.underlying44 (by kernel_rfl) cellsCfg hv h
  obtain ⟨a, e0, -, w0⟩ := DataW.trod_int Tryd.underlying3 hy0
  obtain ⟨l, e1, -, w1⟩ := DataW.trod_int Tryd.underlying3 hy1
  obtain ⟨n, e2, -, w2⟩ := DataW.trod_int Tryd.underlying3 hy2
  obtain ⟨r, e3, -, w3⟩ := DataW.trod_int Tryd.underlying3 hy3
  simp only [List.cons.injEq, and_true] at e0 e1 e2 e3
  subst e0 e1 e2 e3
  exact ⟨a, l, n, r, rfl⟩
end Go.Proofs.YtfkdhambbpkmpaaDoor
