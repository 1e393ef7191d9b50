/-
  Arguments of these laws, from their reading to plain steps, rows, pairs and numbers.
-/
import Derived.Test.YtnlmlhoddchgbaaTrRowsIn
import Derived.ProofKit
import Derived.OpenShut
import Derived.ShutString
import Derived.SizedLaws
import Derived.HandedShaped
import Derived.Lib.SmallJoins
import Derived.Deep.Slices
import Derived.Deep.CondSized
import Derived.ChangeOld
namespace Go.Proofs.Ytnlmlhoddchgbaa
open Go.ChangeShapes Go.WideShapes Go.ChangeAt Go.RowKit
set_option linter.unusedVariables false

theorem own : ownKnob Try.prog.godebug = none := by kernel_rfl
theorem laidOut : laidOutB Try.prog = true := by kernel_rfl
theorem cellsInt : Try.prog.cellsOf 3 = 1 := by kernel_rfl
theorem cellsStr : Try.prog.cellsOf 9 = 1 := by kernel_rfl
theorem cellsU64 : Try.prog.cellsOf 26 = 1 := by kernel_rfl
theorem cellsMap : Try.prog.cellsOf 28 = 2 := by kernel_rfl

variable {H : Type} {enc : TypeId × Value → H} {W : World}

theorem mp_of {x y : Int} (hx : 0 ≤ x ∧ x ≤ 18446744073709551615) (hy : 0 ≤ y ∧ y ≤ 18446744073709551615) : ∃ m : Mp, m.a = x ∧ m.b = y := by
  refine ⟨⟨UInt64.ofNat x.toNat, UInt64.ofNat y.toNat⟩, ?_, ?_⟩
  · unfold Mp.a
    rw [UInt64.toNat_ofNat_of_lt' (by simp only [UInt64.size]; omega)]; omega
  · unfold Mp.b
    rw [UInt64.toNat_ofNat_of_lt' (by simp only [UInt64.size]; omega)]; omega

theorem cellsOp : Try.prog.cellsOf 30 = 8 := by kernel_rfl
theorem bytesOp : Try.prog.bytesOf 30 = 72 := by kernel_rfl

set_option maxRecDepth 100000 in
set_option maxHeartbeats 1000000 in
theorem op_cells {b0 : Nat} {sp : Nat → Bool} {held : Bool} {fuel : Nat} {v0 v1 v2 v3 v4 v5 v6 v7 : Value} {z : DataW H × List MemPlace} (h : DataW.trod enc Try.prog W b0 sp held fuel 30 [v0, v1, v2, v3, v4, v5, v6, v7] = some z) :
    ∃ (kind : Int) (tree : Int) (i' : Int) (j : Int) (v : Int) (key : ByteArray) (s : Mp), v0 = .int .i64 kind ∧ v1 = .int .i64 tree ∧ v2 = .int .i64 i' ∧ v3 = .int .i64 j ∧ v4 = .int .i64 v ∧ v5 = .string key ∧ v6 = .int .u64 s.a ∧ v7 = .int .u64 s.b ∧ I64 kind ∧ I64 tree ∧ I64 i' ∧ I64 j ∧ I64 v := by
  obtain ⟨xs, m, hm, hxy, _, hxl, hfs⟩ := DataW.trod_struct Try.underlying30 h
  match xs, hxl with
  | [y0, y1, y2, y3, y4, y5, y6], _ =>
    have g0 := hfs 0 _ rfl
    have g1 := hfs 1 _ rfl
    have g2 := hfs 2 _ rfl
    have g3 := hfs 3 _ rfl
    have g4 := hfs 4 _ rfl
    have g5 := hfs 5 _ rfl
    have g6 := hfs 6 _ rfl
    simp [cellsInt, cellsStr, cellsMap] at g0 g1 g2 g3 g4 g5 g6
    obtain ⟨q0, e0, f0, w0⟩ := DataW.trod_int Try.underlying3 g0
    obtain ⟨q1, e1, f1, w1⟩ := DataW.trod_int Try.underlying3 g1
    obtain ⟨q2, e2, f2, w2⟩ := DataW.trod_int Try.underlying3 g2
    obtain ⟨q3, e3, f3, w3⟩ := DataW.trod_int Try.underlying3 g3
    obtain ⟨q4, e4, f4, w4⟩ := DataW.trod_int Try.underlying3 g4
    obtain ⟨q5, e5, f5, w5⟩ := DataW.trod_string Try.underlying9 g5
    obtain ⟨z0, z1, m', _, _, u0, u1⟩ := trod_struct2 Try.underlying28 g6
    simp [cellsU64] at u0 u1
    obtain ⟨a0, ea, fa, wa⟩ := DataW.trod_int Try.underlying26 u0
    obtain ⟨a1, eb, fb, wb⟩ := DataW.trod_int Try.underlying26 u1
    obtain ⟨mm, ma, mb⟩ := mp_of (bounds_u64 wa) (bounds_u64 wb)
    simp only [List.cons.injEq, and_true] at e0 e1 e2 e3 e4 e5 ea eb
    exact ⟨q0, q1, q2, q3, q4, q5, mm, e0, e1, e2, e3, e4, e5, ea.trans (by rw [ma]), eb.trans (by rw [mb]), bounds_i64 w0, bounds_i64 w1, bounds_i64 w2, bounds_i64 w3, bounds_i64 w4⟩

set_option maxHeartbeats 1000000 in
theorem ops_open {fuel : Nat} {a : Option Addr} {len cap : Nat} {d : DataW H} {ps : List MemPlace}
    (hf : DataW.trod enc Try.prog W 0 (fun _ => true) true fuel 22 [.slice a len cap] = some (d, ps)) (hz : ∀ n ∈ d.weights Try.prog 22, n ≤ reachBytes) :
    ∃ T, OpsIn W a len cap T := by
  rcases Deep.open_slice Try.underlying22 hf with ⟨hcs, _⟩ | ⟨x, l, c, m, n, D, Pl, hcs, hb, hl, hm, hmm, hx, hel⟩
  · simp only [List.cons.injEq, Value.slice.injEq, and_true] at hcs
    obtain ⟨rfl, rfl, rfl⟩ := hcs
    exact ⟨fun _ => ⟨0, 0, 0, 0, 0, ⟨#[]⟩, mZero⟩, Nat.le_refl _, Nat.zero_le _, by omega, .inl rfl⟩
  · simp only [List.cons.injEq, Value.slice.injEq, and_true] at hcs
    obtain ⟨rfl, rfl, rfl⟩ := hcs
    simp only [Prod.mk.injEq] at hx
    have hd := hx.1
    simp only [if_true] at hmm
    subst hmm
    rw [cellsOp] at hel
    have hbytes : len * 72 ≤ 140737488351232 := by
      have h1 := hz _ (by rw [hd]; simp only [DataW.weights, Try.underlying22]; exact List.mem_cons_self)
      rw [bytesOp] at h1
      simp only [List.length_map, List.length_range] at h1
      have : reachBytes = 140737488351232 := by decide
      omega
    have each : ∀ i, i < len → ∃ t : OpR, (W.cell? (x.add (i * 8)) = some (.int .i64 t.kind) ∧ W.cell? (x.add (i * 8 + 1)) = some (.int .i64 t.tree) ∧ W.cell? (x.add (i * 8 + 2)) = some (.int .i64 t.i) ∧ W.cell? (x.add (i * 8 + 3)) = some (.int .i64 t.j) ∧ W.cell? (x.add (i * 8 + 4)) = some (.int .i64 t.v) ∧ W.cell? (x.add (i * 8 + 5)) = some (.string t.key) ∧ W.cell? (x.add (i * 8 + 6)) = some (.int .u64 t.s.a) ∧ W.cell? (x.add (i * 8 + 7)) = some (.int .u64 t.s.b)) ∧ OpOk t := by
      intro i hi
      obtain ⟨cs', h1, h2⟩ := hel i (by omega)
      obtain ⟨_, hlen, hcell⟩ := World.cells?_some h1
      match cs', hlen with
      | [v0, v1, v2, v3, v4, v5, v6, v7], _ =>
        obtain ⟨kind, tree, i', j, v, key, s, rfl, rfl, rfl, rfl, rfl, rfl, rfl, rfl, o0, o1, o2, o3, o4⟩ := op_cells h2
        have c0 := hcell 0 (by omega)
        have c1 := hcell 1 (by omega)
        have c2 := hcell 2 (by omega)
        have c3 := hcell 3 (by omega)
        have c4 := hcell 4 (by omega)
        have c5 := hcell 5 (by omega)
        have c6 := hcell 6 (by omega)
        have c7 := hcell 7 (by omega)
        rw [Deep.add_add] at c0 c1 c2 c3 c4 c5 c6 c7
        exact ⟨⟨kind, tree, i', j, v, key, s⟩, ⟨by simpa using c0, by simpa using c1, by simpa using c2, by simpa using c3, by simpa using c4, by simpa using c5, by simpa using c6, by simpa using c7⟩, ⟨o0, o1, o2, o3, o4⟩⟩
    by_cases h0 : len = 0
    · exact ⟨fun _ => ⟨0, 0, 0, 0, 0, ⟨#[]⟩, mZero⟩, hl, hm, by omega, .inl h0⟩
    · letI : Inhabited OpR := ⟨⟨0, 0, 0, 0, 0, ⟨#[]⟩, mZero⟩⟩
      obtain ⟨T, hT⟩ := Deep.choose_lt each
      have hc0 := (hT 0 (by omega)).1.1
      obtain ⟨blk, off, spot⟩ := x
      have hspot : spot = none := by
        have := World.cell?_spot hc0
        simpa [Addr.add] using this
      subst hspot
      have hblk : blk < W.heap.size := by
        have := World.block_lt_of_cell? W _ hc0
        simpa [Addr.add] using this
      have hadd : ∀ j, (⟨blk, off, none⟩ : Addr).add j = ⟨blk, off + j, none⟩ := by intro j; unfold Addr.add; split <;> simp_all
      refine ⟨T, hl, hm, by omega, .inr ⟨blk, off, rfl, hblk, fun i hi => ?_⟩⟩
      have h5 := hT i hi
      simp only [hadd] at h5
      simpa only [Nat.add_assoc, OpAt] using h5

theorem cellsRow : Try.prog.cellsOf 64 = 4 := by kernel_rfl
theorem bytesRow : Try.prog.bytesOf 64 = 40 := by kernel_rfl

set_option maxRecDepth 100000 in
set_option maxHeartbeats 1000000 in
theorem row_cells {b0 : Nat} {sp : Nat → Bool} {held : Bool} {fuel : Nat} {v0 v1 v2 v3 : Value} {z : DataW H × List MemPlace} (h : DataW.trod enc Try.prog W b0 sp held fuel 64 [v0, v1, v2, v3] = some z) :
    ∃ (key : ByteArray) (v : Int) (s : Mp), v0 = .string key ∧ v1 = .int .i64 v ∧ v2 = .int .u64 s.a ∧ v3 = .int .u64 s.b ∧ I64 v := by
  obtain ⟨xs, m, hm, hxy, _, hxl, hfs⟩ := DataW.trod_struct Try.underlying64 h
  match xs, hxl with
  | [y0, y1, y2], _ =>
    have g0 := hfs 0 _ rfl
    have g1 := hfs 1 _ rfl
    have g2 := hfs 2 _ rfl
    simp [cellsInt, cellsStr, cellsMap] at g0 g1 g2
    obtain ⟨q0, e0, f0, w0⟩ := DataW.trod_string Try.underlying9 g0
    obtain ⟨q1, e1, f1, w1⟩ := DataW.trod_int Try.underlying3 g1
    obtain ⟨z0, z1, m', _, _, u0, u1⟩ := trod_struct2 Try.underlying28 g2
    simp [cellsU64] at u0 u1
    obtain ⟨a0, ea, fa, wa⟩ := DataW.trod_int Try.underlying26 u0
    obtain ⟨a1, eb, fb, wb⟩ := DataW.trod_int Try.underlying26 u1
    obtain ⟨mm, ma, mb⟩ := mp_of (bounds_u64 wa) (bounds_u64 wb)
    simp only [List.cons.injEq, and_true] at e0 e1 ea eb
    exact ⟨q0, q1, mm, e0, e1, ea.trans (by rw [ma]), eb.trans (by rw [mb]), bounds_i64 w1⟩

set_option maxHeartbeats 1000000 in
theorem rows_open {fuel : Nat} {a : Option Addr} {len cap : Nat} {d : DataW H} {ps : List MemPlace}
    (hf : DataW.trod enc Try.prog W 0 (fun _ => true) true fuel 58 [.slice a len cap] = some (d, ps)) (hz : ∀ n ∈ d.weights Try.prog 58, n ≤ reachBytes) :
    ∃ T, RowsIn6 W a len cap T := by
  rcases Deep.open_slice Try.underlying58 hf with ⟨hcs, _⟩ | ⟨x, l, c, m, n, D, Pl, hcs, hb, hl, hm, hmm, hx, hel⟩
  · simp only [List.cons.injEq, Value.slice.injEq, and_true] at hcs
    obtain ⟨rfl, rfl, rfl⟩ := hcs
    exact ⟨fun _ => ⟨⟨#[]⟩, 0, mZero⟩, Nat.le_refl _, Nat.zero_le _, by omega, .inl rfl⟩
  · simp only [List.cons.injEq, Value.slice.injEq, and_true] at hcs
    obtain ⟨rfl, rfl, rfl⟩ := hcs
    simp only [Prod.mk.injEq] at hx
    have hd := hx.1
    simp only [if_true] at hmm
    subst hmm
    rw [cellsRow] at hel
    have hbytes : len * 40 ≤ 140737488351232 := by
      have h1 := hz _ (by rw [hd]; simp only [DataW.weights, Try.underlying58]; exact List.mem_cons_self)
      rw [bytesRow] at h1
      simp only [List.length_map, List.length_range] at h1
      have : reachBytes = 140737488351232 := by decide
      omega
    have each : ∀ i, i < len → ∃ t : RowR, (W.cell? (x.add (i * 4)) = some (.string t.key) ∧ W.cell? (x.add (i * 4 + 1)) = some (.int .i64 t.v) ∧ W.cell? (x.add (i * 4 + 2)) = some (.int .u64 t.s.a) ∧ W.cell? (x.add (i * 4 + 3)) = some (.int .u64 t.s.b)) ∧ I64 t.v := by
      intro i hi
      obtain ⟨cs', h1, h2⟩ := hel i (by omega)
      obtain ⟨_, hlen, hcell⟩ := World.cells?_some h1
      match cs', hlen with
      | [v0, v1, v2, v3], _ =>
        obtain ⟨key, v, s, rfl, rfl, rfl, rfl, o0⟩ := row_cells h2
        have c0 := hcell 0 (by omega)
        have c1 := hcell 1 (by omega)
        have c2 := hcell 2 (by omega)
        have c3 := hcell 3 (by omega)
        rw [Deep.add_add] at c0 c1 c2 c3
        exact ⟨⟨key, v, s⟩, ⟨by simpa using c0, by simpa using c1, by simpa using c2, by simpa using c3⟩, o0⟩
    by_cases h0 : len = 0
    · exact ⟨fun _ => ⟨⟨#[]⟩, 0, mZero⟩, hl, hm, by omega, .inl h0⟩
    · letI : Inhabited RowR := ⟨⟨⟨#[]⟩, 0, mZero⟩⟩
      obtain ⟨T, hT⟩ := Deep.choose_lt each
      have hc0 := (hT 0 (by omega)).1.1
      obtain ⟨blk, off, spot⟩ := x
      have hspot : spot = none := by
        have := World.cell?_spot hc0
        simpa [Addr.add] using this
      subst hspot
      have hblk : blk < W.heap.size := by
        have := World.block_lt_of_cell? W _ hc0
        simpa [Addr.add] using this
      have hadd : ∀ j, (⟨blk, off, none⟩ : Addr).add j = ⟨blk, off + j, none⟩ := by intro j; unfold Addr.add; split <;> simp_all
      refine ⟨T, hl, hm, by omega, .inr ⟨blk, off, rfl, hblk, fun i hi => ?_⟩⟩
      have h5 := hT i hi
      simp only [hadd] at h5
      simpa only [Nat.add_assoc, RowAt] using h5

theorem cellsPair : Try.prog.cellsOf 68 = 2 := by kernel_rfl
theorem bytesPair : Try.prog.bytesOf 68 = 32 := by kernel_rfl

set_option maxRecDepth 100000 in
set_option maxHeartbeats 1000000 in
theorem pair_cells {b0 : Nat} {sp : Nat → Bool} {held : Bool} {fuel : Nat} {v0 v1 : Value} {z : DataW H × List MemPlace} (h : DataW.trod enc Try.prog W b0 sp held fuel 68 [v0, v1] = some z) :
    ∃ (key : ByteArray) (text : ByteArray), v0 = .string key ∧ v1 = .string text := by
  obtain ⟨xs, m, hm, hxy, _, hxl, hfs⟩ := DataW.trod_struct Try.underlying68 h
  match xs, hxl with
  | [y0, y1], _ =>
    have g0 := hfs 0 _ rfl
    have g1 := hfs 1 _ rfl
    simp [cellsStr] at g0 g1
    obtain ⟨q0, e0, f0, w0⟩ := DataW.trod_string Try.underlying9 g0
    obtain ⟨q1, e1, f1, w1⟩ := DataW.trod_string Try.underlying9 g1
    simp only [List.cons.injEq, and_true] at e0 e1
    exact ⟨q0, q1, e0, e1⟩

set_option maxHeartbeats 1000000 in
theorem pairs_open {fuel : Nat} {a : Option Addr} {len cap : Nat} {d : DataW H} {ps : List MemPlace}
    (hf : DataW.trod enc Try.prog W 0 (fun _ => true) true fuel 66 [.slice a len cap] = some (d, ps)) (hz : ∀ n ∈ d.weights Try.prog 66, n ≤ reachBytes) :
    ∃ T, PairsIn W a len cap T := by
  rcases Deep.open_slice Try.underlying66 hf with ⟨hcs, _⟩ | ⟨x, l, c, m, n, D, Pl, hcs, hb, hl, hm, hmm, hx, hel⟩
  · simp only [List.cons.injEq, Value.slice.injEq, and_true] at hcs
    obtain ⟨rfl, rfl, rfl⟩ := hcs
    exact ⟨fun _ => ⟨⟨#[]⟩, ⟨#[]⟩⟩, Nat.le_refl _, Nat.zero_le _, by omega, .inl rfl⟩
  · simp only [List.cons.injEq, Value.slice.injEq, and_true] at hcs
    obtain ⟨rfl, rfl, rfl⟩ := hcs
    simp only [Prod.mk.injEq] at hx
    have hd := hx.1
    simp only [if_true] at hmm
    subst hmm
    rw [cellsPair] at hel
    have hbytes : len * 32 ≤ 140737488351232 := by
      have h1 := hz _ (by rw [hd]; simp only [DataW.weights, Try.underlying66]; exact List.mem_cons_self)
      rw [bytesPair] at h1
      simp only [List.length_map, List.length_range] at h1
      have : reachBytes = 140737488351232 := by decide
      omega
    have each : ∀ i, i < len → ∃ t : PairR, (W.cell? (x.add (i * 2)) = some (.string t.key) ∧ W.cell? (x.add (i * 2 + 1)) = some (.string t.text)) := by
      intro i hi
      obtain ⟨cs', h1, h2⟩ := hel i (by omega)
      obtain ⟨_, hlen, hcell⟩ := World.cells?_some h1
      match cs', hlen with
      | [v0, v1], _ =>
        obtain ⟨key, text, rfl, rfl⟩ := pair_cells h2
        have c0 := hcell 0 (by omega)
        have c1 := hcell 1 (by omega)
        rw [Deep.add_add] at c0 c1
        exact ⟨⟨key, text⟩, ⟨by simpa using c0, by simpa using c1⟩⟩
    by_cases h0 : len = 0
    · exact ⟨fun _ => ⟨⟨#[]⟩, ⟨#[]⟩⟩, hl, hm, by omega, .inl h0⟩
    · letI : Inhabited PairR := ⟨⟨⟨#[]⟩, ⟨#[]⟩⟩⟩
      obtain ⟨T, hT⟩ := Deep.choose_lt each
      have hc0 := (hT 0 (by omega)).1
      obtain ⟨blk, off, spot⟩ := x
      have hspot : spot = none := by
        have := World.cell?_spot hc0
        simpa [Addr.add] using this
      subst hspot
      have hblk : blk < W.heap.size := by
        have := World.block_lt_of_cell? W _ hc0
        simpa [Addr.add] using this
      have hadd : ∀ j, (⟨blk, off, none⟩ : Addr).add j = ⟨blk, off + j, none⟩ := by intro j; unfold Addr.add; split <;> simp_all
      refine ⟨T, hl, hm, by omega, .inr ⟨blk, off, rfl, hblk, fun i hi => ?_⟩⟩
      have h5 := hT i hi
      simp only [hadd] at h5
      simpa only [Nat.add_assoc, PairAt] using h5

end Go.Proofs.Ytnlmlhoddchgbaa
