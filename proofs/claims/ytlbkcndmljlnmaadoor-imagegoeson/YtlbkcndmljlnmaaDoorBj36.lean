/-
  The steps of a script over two stores, that came in; among; lists of bools.
-/
import Derived.Test.YtlbkcndmljlnmaaDoorBj1
import Derived.Test.YtlbkcndmljlnmaaDoorBj34
namespace Go.Proofs.YtlbkcndmljlnmaaDoor
open Go.ChangeShapes Go.WideShapes Go.ChangeAt Go.RowKit
set_option linter.unusedVariables false
structure OpG where
  kind : Int
  key : ByteArray
  val : ByteArray
  ek : ByteArray
  ec : Int
  en : Int
  ev : ByteArray
  ed : Bool
  lo : ByteArray
  hi : ByteArray
  op : Bool
/-- The cells of one. -/
def OpGAt (w : World) (b off : Nat) (t : OpG) : Prop :=
  w.cell? ⟨b, off, none⟩ = some (.int .i64 t.kind) ∧ w.cell? ⟨b, off + 1, none⟩ = some (.string t.key) ∧ w.cell? ⟨b, off + 2, none⟩ = some (.string t.val) ∧ w.cell? ⟨b, off + 3, none⟩ = some (.string t.ek) ∧ w.cell? ⟨b, off + 4, none⟩ = some (.int .i64 t.ec) ∧ w.cell? ⟨b, off + 5, none⟩ = some (.int .i64 t.en) ∧ w.cell? ⟨b, off + 6, none⟩ = some (.string t.ev) ∧ w.cell? ⟨b, off + 7, none⟩ = some (.bool t.ed) ∧ w.cell? ⟨b, off + 8, none⟩ = some (.string t.lo) ∧ w.cell? ⟨b, off + 9, none⟩ = some (.string t.hi) ∧ w.cell? ⟨b, off + 10, none⟩ = some (.bool t.op)
/-- A list of such. -/
def OpGs (w : World) (a : Option Addr) (len cap : Nat) (T : Nat → OpG) : Prop :=
  len ≤ cap ∧ cap ≤ maxLen ∧ len * 136 ≤ 140737488351232 ∧ (len = 0 ∨ ∃ b off, a = some ⟨b, off, none⟩ ∧ b < w.heap.size ∧ ∀ i, i < len → OpGAt w b (off + i * 11) (T i))
theorem OpGAt.keep {w w' : World} {b off : Nat} {t : OpG} (h : OpGAt w b off t) (k : Below w.heap.size w w') : OpGAt w' b off t := by
  obtain ⟨c0, c1, c2, c3, c4, c5, c6, c7, c8, c9, c10⟩ := h
  exact ⟨cell_in c0 k, cell_in c1 k, cell_in c2 k, cell_in c3 k, cell_in c4 k, cell_in c5 k, cell_in c6 k, cell_in c7 k, cell_in c8 k, cell_in c9 k, cell_in c10 k⟩
theorem OpGs.keep {w w' : World} {a : Option Addr} {len cap : Nat} {T : Nat → OpG} (h : OpGs w a len cap T) (k : Below w.heap.size w w') : OpGs w' a len cap T := by
  obtain ⟨h1, h2, h3, h4⟩ := h
  refine ⟨h1, h2, h3, ?_⟩
  rcases h4 with h4 | ⟨bb, off, rfl, hb, hc⟩
  · exact .inl h4
  · exact .inr ⟨bb, off, rfl, by have := k.size; omega, fun i hi => (hc i hi).keep k⟩
theorem cellsOpG : Tryd.prog.cellsOf 53 = 11 := by kernel_rfl
theorem bytesOpG : Tryd.prog.bytesOf 53 = 136 := by kernel_rfl
theorem cellsOpG0 : Tryd.prog.cellsOf 42 = 2 := by kernel_rfl
theorem cellsOpG1 : Tryd.prog.cellsOf 44 = 5 := by kernel_rfl
theorem cellsOpG2 : Tryd.prog.cellsOf 51 = 3 := by kernel_rfl
theorem cellsOpGi : Tryd.prog.cellsOf 3 = 1 := by kernel_rfl
theorem cellsOpGs : Tryd.prog.cellsOf 9 = 1 := by kernel_rfl
theorem cellsOpGb : Tryd.prog.cellsOf 4 = 1 := by kernel_rfl
variable {H : Type} {enc : TypeId × Value → H} {W : World}
set_option maxRecDepth 100000 in
set_option maxHeartbeats 2000000 in
theorem OpG_cells {b0 : Nat} {sp : Nat → Bool} {held : Bool} {fuel : Nat} {v0 v1 v2 v3 v4 v5 v6 v7 v8 v9 v10 : Value} {z : DataW H × List MemPlace} (h : DataW.trod enc Tryd.prog W b0 sp held fuel 53 [v0, v1, v2, v3, v4, v5, v6, v7, v8, v9, v10] = some z) :
    ∃ t : OpG, v0 = .int .i64 t.kind ∧ v1 = .string t.key ∧ v2 = .string t.val ∧ v3 = .string t.ek ∧ v4 = .int .i64 t.ec ∧ v5 = .int .i64 t.en ∧ v6 = .string t.ev ∧ v7 = .bool t.ed ∧ v8 = .string t.lo ∧ v9 = .string t.hi ∧ v10 = .bool t.op := by
  obtain ⟨xs1, m1, hm1, hxy1, _, hxl1, hfs1⟩ := DataW.trod_struct Tryd.underlying53 h
  match xs1, hxl1 with
  | [y1_0, y1_1, y1_2, y1_3, y1_4], _ =>
    have g1_0 := hfs1 0 _ rfl
    have g1_1 := hfs1 1 _ rfl
    have g1_2 := hfs1 2 _ rfl
    have g1_3 := hfs1 3 _ rfl
    have g1_4 := hfs1 4 _ rfl
    simp [cellsOpGi, cellsOpGs, cellsOpG1, cellsOpG2] at g1_0 g1_1 g1_2 g1_3 g1_4
    obtain ⟨q1_0, e1_0, f1_0, w1_0⟩ := DataW.trod_int Tryd.underlying3 g1_0
    obtain ⟨q1_1, e1_1, f1_1, w1_1⟩ := DataW.trod_string Tryd.underlying9 g1_1
    obtain ⟨q1_2, e1_2, f1_2, w1_2⟩ := DataW.trod_string Tryd.underlying9 g1_2
    obtain ⟨xs2, m2, hm2, hxy2, _, hxl2, hfs2⟩ := DataW.trod_struct Tryd.underlying44 g1_3
    match xs2, hxl2 with
    | [y2_0, y2_1, y2_2, y2_3], _ =>
      have g2_0 := hfs2 0 _ rfl
      have g2_1 := hfs2 1 _ rfl
      have g2_2 := hfs2 2 _ rfl
      have g2_3 := hfs2 3 _ rfl
      simp [cellsOpGs, cellsOpG0, cellsOpGb] at g2_0 g2_1 g2_2 g2_3
      obtain ⟨q2_0, e2_0, f2_0, w2_0⟩ := DataW.trod_string Tryd.underlying9 g2_0
      obtain ⟨xs3, m3, hm3, hxy3, _, hxl3, hfs3⟩ := DataW.trod_struct Tryd.underlying42 g2_1
      match xs3, hxl3 with
      | [y3_0, y3_1], _ =>
        have g3_0 := hfs3 0 _ rfl
        have g3_1 := hfs3 1 _ rfl
        simp [cellsOpGi] at g3_0 g3_1
        obtain ⟨q3_0, e3_0, f3_0, w3_0⟩ := DataW.trod_int Tryd.underlying3 g3_0
        obtain ⟨q3_1, e3_1, f3_1, w3_1⟩ := DataW.trod_int Tryd.underlying3 g3_1
        obtain ⟨q2_2, e2_2, f2_2, w2_2⟩ := DataW.trod_string Tryd.underlying9 g2_2
        obtain ⟨q2_3, e2_3, f2_3⟩ := DataW.trod_bool Tryd.underlying4 g2_3
        obtain ⟨xs4, m4, hm4, hxy4, _, hxl4, hfs4⟩ := DataW.trod_struct Tryd.underlying51 g1_4
        match xs4, hxl4 with
        | [y4_0, y4_1, y4_2], _ =>
          have g4_0 := hfs4 0 _ rfl
          have g4_1 := hfs4 1 _ rfl
          have g4_2 := hfs4 2 _ rfl
          simp [cellsOpGs, cellsOpGb] at g4_0 g4_1 g4_2
          obtain ⟨q4_0, e4_0, f4_0, w4_0⟩ := DataW.trod_string Tryd.underlying9 g4_0
          obtain ⟨q4_1, e4_1, f4_1, w4_1⟩ := DataW.trod_string Tryd.underlying9 g4_1
          obtain ⟨q4_2, e4_2, f4_2⟩ := DataW.trod_bool Tryd.underlying4 g4_2
          simp only [List.cons.injEq, and_true] at e1_0 e1_1 e1_2 e2_0 e3_0 e3_1 e2_2 e2_3 e4_0 e4_1 e4_2
          exact ⟨⟨q1_0, q1_1, q1_2, q2_0, q3_0, q3_1, q2_2, q2_3, q4_0, q4_1, q4_2⟩, e1_0, e1_1, e1_2, e2_0, e3_0, e3_1, e2_2, e2_3, e4_0, e4_1, e4_2⟩
def OpG0 : OpG := ⟨0, ⟨#[]⟩, ⟨#[]⟩, ⟨#[]⟩, 0, 0, ⟨#[]⟩, false, ⟨#[]⟩, ⟨#[]⟩, false⟩
set_option maxHeartbeats 1000000 in
theorem OpGs_open {fuel : Nat} {a : Option Addr} {len cap : Nat} {d : DataW H} {ps : List MemPlace}
    (hf : DataW.trod enc Tryd.prog W 0 (fun _ => true) true fuel 47 [.slice a len cap] = some (d, ps)) (hz : ∀ n ∈ d.weights Tryd.prog 47, n ≤ reachBytes) :
    ∃ T, OpGs W a len cap T := by
  rcases Deep.open_slice Tryd.underlying47 hf with ⟨hcs, _⟩ | ⟨x, l, c, m, n, D, Pl, hcs, hb, hl, hm, hmm, hx, hel⟩
  · simp only [List.cons.injEq, Value.slice.injEq, and_true] at hcs
    obtain ⟨rfl, rfl, rfl⟩ := hcs
    exact ⟨fun _ => OpG0, Nat.le_refl _, Nat.zero_le _, by omega, .inl rfl⟩
  · simp only [List.cons.injEq, Value.slice.injEq, and_true] at hcs
    obtain ⟨rfl, rfl, rfl⟩ := hcs
    simp only [Prod.mk.injEq] at hx
    have hd := hx.1
    simp only [if_true] at hmm
    subst hmm
    rw [cellsOpG] at hel
    have hbytes : len * 136 ≤ 140737488351232 := by
      have h1 := hz _ (by rw [hd]; simp only [DataW.weights, Tryd.underlying47]; exact List.mem_cons_self)
      rw [bytesOpG] at h1
      simp only [List.length_map, List.length_range] at h1
      have : reachBytes = 140737488351232 := by decide
      omega
    have each : ∀ i, i < len → ∃ t : OpG, (W.cell? (x.add (i * 11)) = some (.int .i64 t.kind) ∧ W.cell? (x.add (i * 11 + 1)) = some (.string t.key) ∧ W.cell? (x.add (i * 11 + 2)) = some (.string t.val) ∧ W.cell? (x.add (i * 11 + 3)) = some (.string t.ek) ∧ W.cell? (x.add (i * 11 + 4)) = some (.int .i64 t.ec) ∧ W.cell? (x.add (i * 11 + 5)) = some (.int .i64 t.en) ∧ W.cell? (x.add (i * 11 + 6)) = some (.string t.ev) ∧ W.cell? (x.add (i * 11 + 7)) = some (.bool t.ed) ∧ W.cell? (x.add (i * 11 + 8)) = some (.string t.lo) ∧ W.cell? (x.add (i * 11 + 9)) = some (.string t.hi) ∧ W.cell? (x.add (i * 11 + 10)) = some (.bool t.op)) := by
      intro i hi
      obtain ⟨cs', h1, h2⟩ := hel i (by omega)
      obtain ⟨_, hlen, hcell⟩ := World.cells?_some h1
      match cs', hlen with
      | [v0, v1, v2, v3, v4, v5, v6, v7, v8, v9, v10], _ =>
        obtain ⟨t, rfl, rfl, rfl, rfl, rfl, rfl, rfl, rfl, rfl, rfl, rfl⟩ := OpG_cells h2
        have c0 := hcell 0 (by omega)
        have c1 := hcell 1 (by omega)
        have c2 := hcell 2 (by omega)
        have c3 := hcell 3 (by omega)
        have c4 := hcell 4 (by omega)
        have c5 := hcell 5 (by omega)
        have c6 := hcell 6 (by omega)
        have c7 := hcell 7 (by omega)
        have c8 := hcell 8 (by omega)
        have c9 := hcell 9 (by omega)
        have c10 := hcell 10 (by omega)
        rw [Deep.add_add] at c0 c1 c2 c3 c4 c5 c6 c7 c8 c9 c10
        exact ⟨t, by simpa using c0, by simpa using c1, by simpa using c2, by simpa using c3, by simpa using c4, by simpa using c5, by simpa using c6, by simpa using c7, by simpa using c8, by simpa using c9, by simpa using c10⟩
    by_cases h0 : len = 0
    · exact ⟨fun _ => OpG0, hl, hm, by omega, .inl h0⟩
    · letI : Inhabited OpG := ⟨OpG0⟩
      obtain ⟨T, hT⟩ := Deep.choose_lt each
      have hc0 := (hT 0 (by omega)).1
      obtain ⟨blk, off, spot⟩ := x
      have hspot : spot = none := by
        have := World.cell?_spot hc0
        simpa [Addr.add] using this
      subst hspot
      have hblk : blk < W.heap.size := by
        have := World.block_lt_of_cell? W _ hc0
        simpa [Addr.add] using this
      have hadd : ∀ j, (⟨blk, off, none⟩ : Addr).add j = ⟨blk, off + j, none⟩ := by intro j; unfold Addr.add; split <;> simp_all
      refine ⟨T, hl, hm, by omega, .inr ⟨blk, off, rfl, hblk, fun i hi => ?_⟩⟩
      have h5 := hT i hi
      simp only [hadd] at h5
      simpa only [Nat.add_assoc, OpGAt] using h5
/-- The place among n. -/
def amg (p n : Int) : Int := if p.tmod n < 0 then p.tmod n + n else p.tmod n
theorem amg_lt (p : Int) {m : Nat} (hm : 0 < m) : ∃ k : Nat, amg p (m : Int) = (k : Int) ∧ k < m := by
  have hlo : -(m : Int) < p.tmod m := by
    have := Int.lt_tmod_of_pos p (show (0 : Int) < m by omega)
    omega
  have hhi : p.tmod m < (m : Int) := Int.tmod_lt_of_pos p (by omega)
  unfold amg
  split
  · exact ⟨(p.tmod m + m).toNat, by omega, by omega⟩
  · exact ⟨(p.tmod m).toNat, by omega, by omega⟩
set_option maxHeartbeats 1600000 in
theorem among11 (p : Int) (m : Nat) (w : World) (hm : 0 < m) (hx : (m : Int) ≤ 9223372036854775807) :
    Calls Tryd.prog 16 #[.int .i64 p, .int .i64 (m : Int)] w fun e w' => e = .returned (.int .i64 (amg p (m : Int))) ∧ w' = w := by
  have h1 : ¬ (m : Int) < 1 := by omega
  have hne : (m : Int) ≠ 0 := by omega
  have hlo : -(m : Int) < p.tmod m := by
    have := Int.lt_tmod_of_pos p (show (0 : Int) < m by omega)
    omega
  have hhi : p.tmod m < (m : Int) := Int.tmod_lt_of_pos p (by omega)
  have hnm : ¬ (m : Int) = -1 := by omega
  unfold amg
  generalize hr : p.tmod m = r at *
  by_cases hneg : r < 0
  · have hw : IntKind.i64.wrap (r + (m : Int)) = r + (m : Int) := by rw [IntKind.wrap_i64]; omega
    rw [if_pos hneg]
    go_enter Tryd.func16, Tryd.ntmps16
    go_wp2
    go_ret
    exact ⟨rfl, rfl⟩
  · rw [if_neg hneg]
    go_enter Tryd.func16, Tryd.ntmps16
    go_wp2
    go_ret
    exact ⟨rfl, rfl⟩
/-- A list of bools that came in. -/
def BoolsIn (w : World) (a : Option Addr) (len cap : Nat) (z : Nat → Bool) : Prop :=
  len ≤ cap ∧ cap ≤ maxLen ∧ (len = 0 ∨ ∃ b off, a = some ⟨b, off, none⟩ ∧ b < w.heap.size ∧ ∀ i, i < len → w.cell? ⟨b, off + i, none⟩ = some (.bool (z i)))
section
variable {H : Type} {enc : TypeId × Value → H} {W : World}
set_option maxHeartbeats 1000000 in
theorem bools_open {fuel : Nat} {a : Option Addr} {len cap : Nat} {d : DataW H} {ps : List MemPlace}
    (hf : DataW.trod enc Tryd.prog W 0 (fun _ => true) true fuel 48 [.slice a len cap] = some (d, ps)) :
    ∃ T, BoolsIn W a len cap T := by
  rcases Deep.open_slice Tryd.underlying48 hf with ⟨hcs, _⟩ | ⟨x, l, c, m, n, D, Pl, hcs, hb, hl, hm, hmm, hx, hel⟩
  · simp only [List.cons.injEq, Value.slice.injEq, and_true] at hcs
    obtain ⟨rfl, rfl, rfl⟩ := hcs
    exact ⟨fun _ => false, Nat.le_refl _, Nat.zero_le _, .inl rfl⟩
  · simp only [List.cons.injEq, Value.slice.injEq, and_true] at hcs
    obtain ⟨rfl, rfl, rfl⟩ := hcs
    simp only [if_true] at hmm
    subst hmm
    rw [cellsBool] at hel
    have each : ∀ i, i < len → ∃ t : Bool, W.cell? (x.add i) = some (.bool t) := by
      intro i hi
      obtain ⟨cs', h1, h2⟩ := hel i (by omega)
      obtain ⟨_, hlen, hcell⟩ := World.cells?_some h1
      match cs', hlen with
      | [v0], _ =>
        obtain ⟨t, e0, _⟩ := DataW.trod_bool Tryd.underlying4 h2
        simp only [List.cons.injEq, and_true] at e0
        subst e0
        have c0 := hcell 0 (by omega)
        rw [Deep.add_add] at c0
        exact ⟨t, by simpa using c0⟩
    by_cases h0 : len = 0
    · exact ⟨fun _ => false, hl, hm, .inl h0⟩
    · obtain ⟨T, hT⟩ := Deep.choose_lt each
      have hc0 := hT 0 (by omega)
      obtain ⟨blk, off, spot⟩ := x
      have hspot : spot = none := by
        have := World.cell?_spot hc0
        simpa [Addr.add] using this
      subst hspot
      have hblk : blk < W.heap.size := by
        have := World.block_lt_of_cell? W _ hc0
        simpa [Addr.add] using this
      have hadd : ∀ j, (⟨blk, off, none⟩ : Addr).add j = ⟨blk, off + j, none⟩ := by intro j; unfold Addr.add; split <;> simp_all
      refine ⟨T, hl, hm, .inr ⟨blk, off, rfl, hblk, fun i hi => ?_⟩⟩
      have h5 := hT i hi
      simpa only [hadd] using h5
end
theorem BoolsIn.keepI {w w' : World} {a : Option Addr} {len cap : Nat} {z : Nat → Bool} (h : BoolsIn w a len cap z) (b : Below w.heap.size w w') : BoolsIn w' a len cap z := by
  obtain ⟨h1, h2, h3⟩ := h
  rcases h3 with h3 | ⟨bb, off, rfl, hb, hc⟩
  · exact ⟨h1, h2, .inl h3⟩
  · exact ⟨h1, h2, .inr ⟨bb, off, rfl, by have := b.size; omega, fun i hi => cell_in (hc i hi) b⟩⟩
end Go.Proofs.YtlbkcndmljlnmaaDoor
