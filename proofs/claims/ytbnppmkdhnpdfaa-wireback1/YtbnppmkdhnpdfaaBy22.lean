/-
  Frames and lists of parts that came in.
-/
import Derived.Test.YtbnppmkdhnpdfaaBy21
import Derived.Test.YtbnppmkdhnpdfaaBy7
import Derived.Deep.Strs
import Derived.Deep.Slices
namespace Go.Proofs.Ytbnppmkdhnpdfaa
open Go.ChangeShapes Go.WideShapes Go.ChangeAt Go.RowKit
set_option linter.unusedVariables false
variable {H : Type} {enc : TypeId × Value → H} {W : World}
theorem cellsVer : Try.prog.cellsOf 48 = 2 := by kernel_rfl
theorem cellsEnt : Try.prog.cellsOf 50 = 5 := by kernel_rfl
theorem bytesEnt : Try.prog.bytesOf 50 = 56 := by kernel_rfl
set_option maxRecDepth 100000 in
/-- An entry's five cells, from their reading. -/
theorem ent_cells {b0 : Nat} {sp : Nat → Bool} {held : Bool} {fuel : Nat} {v0 v1 v2 v3 v4 : Value} {x : DataW H × List MemPlace} (h : DataW.trod enc Try.prog W b0 sp held fuel 50 [v0, v1, v2, v3, v4] = some x) :
    ∃ (k : ByteArray) (c n : Int) (v : ByteArray) (d : Bool), v0 = .string k ∧ v1 = .int .i64 c ∧ v2 = .int .i64 n ∧ v3 = .string v ∧ v4 = .bool d ∧
      ((-9223372036854775808 ≤ c ∧ c ≤ 9223372036854775807) ∧ (-9223372036854775808 ≤ n ∧ n ≤ 9223372036854775807)) ∧ k.size ≤ maxLen ∧ v.size ≤ maxLen ∧
      x.1 = .agg [.lit (.string k.data.toList), .agg [.lit (.int .i64 c), .lit (.int .i64 n)], .lit (.string v.data.toList), .lit (.bool d)] := by
  obtain ⟨y0, y1, y2, y3, m, rfl, _, h0, h1, h2, h3⟩ := Joins.trod_struct4 Try.underlying50 h
  simp [cellsStr, cellsBool, cellsVer] at h0 h1 h2 h3
  obtain ⟨z0, z1, m', rfl, _, g0, g1⟩ := trod_struct2 Try.underlying48 h1
  simp [cellsInt] at g0 g1
  obtain ⟨k, e0, rfl, w0⟩ := DataW.trod_string Try.underlying9 h0
  obtain ⟨c, e1, rfl, w1⟩ := DataW.trod_int Try.underlying3 g0
  obtain ⟨n, e2, rfl, w2⟩ := DataW.trod_int Try.underlying3 g1
  obtain ⟨v, e3, rfl, w3⟩ := DataW.trod_string Try.underlying9 h2
  obtain ⟨d, e4, rfl⟩ := DataW.trod_bool Try.underlying4 h3
  simp only [List.cons.injEq, and_true] at e0 e1 e2 e3 e4
  exact ⟨k, c, n, v, d, e0, e1, e2, e3, e4, ⟨bounds_i64 w1, bounds_i64 w2⟩, w0, w3, rfl⟩
set_option maxRecDepth 100000 in
/-- An entry's key is of a size that memory has. -/
theorem ent_size {d : DataW H} {k v : ByteArray} {c n : Int} {b : Bool} (hd : d = .agg [.lit (.string k.data.toList), .agg [.lit (.int .i64 c), .lit (.int .i64 n)], .lit (.string v.data.toList), .lit (.bool b)])
    (hz : ∀ m ∈ d.weights Try.prog 50, m ≤ reachBytes) : k.size ≤ 140737488351232 := by
  have := hz k.data.toList.length (by rw [hd]; simp [DataW.weights, Try.underlying50, DataW.weightsEach])
  have e : k.data.toList.length = k.size := by show k.data.toList.length = k.data.size; simp
  rw [e] at this
  exact this
theorem weights_all {P : Program} {e : TypeId} : ∀ {ds : List (DataW H)} {d : DataW H}, d ∈ ds → ∀ n ∈ d.weights P e, n ∈ DataW.weightsAll P e ds
  | d0 :: r, d, hd, n, hn => by
    simp only [DataW.weightsAll, List.mem_append]
    rcases List.mem_cons.1 hd with rfl | hd
    · exact Or.inl hn
    · exact Or.inr (weights_all hd n hn)
  | [], _, hd, _, _ => by simp at hd
set_option maxHeartbeats 1000000 in
theorem ents_open {fuel : Nat} {a : Option Addr} {len cap : Nat} {d : DataW H} {ps : List MemPlace}
    (hf : DataW.trod enc Try.prog W 0 (fun _ => true) true fuel 44 [.slice a len cap] = some (d, ps)) (hz : ∀ n ∈ d.weights Try.prog 44, n ≤ reachBytes) :
    ∃ T, EntsIn W a len cap T ∧ ((a = none ∧ len = 0 ∧ cap = 0) ∨ ∃ y, a = some y) ∧ len * 56 ≤ 140737488351232 := by
  rcases Deep.open_slice Try.underlying44 hf with ⟨hcs, _⟩ | ⟨x, l, c, m, n, D, Pl, hcs, hb, hl, hm, hmm, hx, hel⟩
  · simp only [List.cons.injEq, Value.slice.injEq, and_true] at hcs
    obtain ⟨rfl, rfl, rfl⟩ := hcs
    exact ⟨fun _ => ⟨ByteArray.empty, 0, 0, ByteArray.empty, false⟩, ⟨Nat.le_refl _, Nat.zero_le _, .inl rfl⟩, .inl ⟨rfl, rfl, rfl⟩, by omega⟩
  · simp only [List.cons.injEq, Value.slice.injEq, and_true] at hcs
    obtain ⟨rfl, rfl, rfl⟩ := hcs
    simp only [Prod.mk.injEq] at hx
    have hd := hx.1
    simp only [if_true] at hmm
    subst hmm
    rw [cellsEnt] at hel
    have hbytes : len * 56 ≤ 140737488351232 := by
      have h1 := hz _ (by rw [hd]; simp only [DataW.weights, Try.underlying44]; exact List.mem_cons_self)
      rw [bytesEnt] at h1
      simp only [List.length_map, List.length_range] at h1
      have : reachBytes = 140737488351232 := by decide
      omega
    have each : ∀ i, i < len → ∃ t : En, (W.cell? (x.add (i * 5)) = some (.string t.k) ∧ W.cell? (x.add (i * 5 + 1)) = some (.int .i64 t.c) ∧ W.cell? (x.add (i * 5 + 2)) = some (.int .i64 t.n) ∧ W.cell? (x.add (i * 5 + 3)) = some (.string t.v) ∧ W.cell? (x.add (i * 5 + 4)) = some (.bool t.d)) ∧ t.k.size ≤ 140737488351232 := by
      intro i hi
      obtain ⟨cs', h1, h2⟩ := hel i (by omega)
      obtain ⟨_, hlen, hcell⟩ := World.cells?_some h1
      match cs', hlen with
      | [v0, v1, v2, v3, v4], _ =>
        obtain ⟨k, c, n, v, d', rfl, rfl, rfl, rfl, rfl, _, _, _, hdi⟩ := ent_cells h2
        have c0 := hcell 0 (by omega)
        have c1 := hcell 1 (by omega)
        have c2 := hcell 2 (by omega)
        have c3 := hcell 3 (by omega)
        have c4 := hcell 4 (by omega)
        rw [Deep.add_add] at c0 c1 c2 c3 c4
        refine ⟨⟨k, c, n, v, d'⟩, ⟨by simpa using c0, by simpa using c1, by simpa using c2, by simpa using c3, by simpa using c4⟩, ?_⟩
        refine ent_size hdi (fun m' hm' => hz m' ?_)
        rw [hd]
        simp only [DataW.weights, Try.underlying44]
        exact List.mem_cons_of_mem _ (List.mem_append_left _ (weights_all (d := D i) (List.mem_map.2 ⟨i, List.mem_range.2 hi, rfl⟩) _ hm'))
    by_cases h0 : len = 0
    · exact ⟨fun _ => ⟨ByteArray.empty, 0, 0, ByteArray.empty, false⟩, ⟨hl, hm, .inl h0⟩, .inr ⟨_, rfl⟩, hbytes⟩
    · letI : Inhabited En := ⟨⟨ByteArray.empty, 0, 0, ByteArray.empty, false⟩⟩
      obtain ⟨T, hT⟩ := Deep.choose_lt each
      have hc0 := (hT 0 (by omega)).1.1
      obtain ⟨blk, off, spot⟩ := x
      have hspot : spot = none := by
        have := World.cell?_spot hc0
        simpa [Addr.add] using this
      subst hspot
      have hblk : blk < W.heap.size := by
        have := World.block_lt_of_cell? W _ hc0
        simpa [Addr.add] using this
      have hadd : ∀ j, (⟨blk, off, none⟩ : Addr).add j = ⟨blk, off + j, none⟩ := by intro j; unfold Addr.add; split <;> simp_all
      refine ⟨T, ⟨hl, hm, .inr ⟨blk, off, rfl, hblk, fun i hi => ⟨?_, (hT i hi).2⟩⟩⟩, .inr ⟨_, rfl⟩, hbytes⟩
      have h5 := (hT i hi).1
      simp only [hadd] at h5
      simpa only [Nat.add_assoc] using h5
theorem cellsRgF : Try.prog.cellsOf 38 = 3 := by kernel_rfl
theorem cellsPart : Try.prog.cellsOf 46 = 8 := by kernel_rfl
theorem bytesPart : Try.prog.bytesOf 46 = 96 := by kernel_rfl
theorem cellsFrame : Try.prog.cellsOf 26 = 7 := by kernel_rfl
theorem cellsSlE : Try.prog.cellsOf 44 = 1 := by kernel_rfl
theorem cellsSlP : Try.prog.cellsOf 24 = 1 := by kernel_rfl
/-- What is known of the entries of a part that came in. -/
def Pm.Ok (W : World) (p : Pm) : Prop := p.In W ∧ ((p.ea = none ∧ p.el = 0 ∧ p.ec = 0) ∨ ∃ y, p.ea = some y) ∧ p.el * 56 ≤ 140737488351232 ∧ (0 ≤ p.s0 ∧ p.s0 < 18446744073709551616) ∧ 0 ≤ p.s1 ∧ p.s1 < 18446744073709551616
set_option maxRecDepth 100000 in
set_option maxHeartbeats 2000000 in
theorem part_cells {fuel : Nat} {v0 v1 v2 v3 v4 v5 v6 v7 : Value} {x : DataW H × List MemPlace} (h : DataW.trod enc Try.prog W 0 (fun _ => true) true fuel 46 [v0, v1, v2, v3, v4, v5, v6, v7] = some x) (hz : ∀ n ∈ x.1.weights Try.prog 46, n ≤ reachBytes) :
    ∃ p : Pm, v0 = .int .i64 p.kind ∧ v1 = .string p.lo ∧ v2 = .string p.hi ∧ v3 = .bool p.op ∧ v4 = .int .i64 p.cnt ∧ v5 = .int .u64 p.s0 ∧ v6 = .int .u64 p.s1 ∧ v7 = .slice p.ea p.el p.ec ∧ p.Ok W := by
  obtain ⟨y0, y1, y2, y3, m, rfl, _, h0, h1, h2, h3⟩ := Joins.trod_struct4 Try.underlying46 h
  simp [cellsInt, cellsRgF, cellsTal, cellsSlE] at h0 h1 h2 h3
  obtain ⟨kind, e0, -, -⟩ := DataW.trod_int Try.underlying3 h0
  obtain ⟨z0, z1, z2, m', rfl, _, g0, g1, g2⟩ := Deep.trod_struct3 Try.underlying38 h1
  simp [cellsStr, cellsBool] at g0 g1 g2
  obtain ⟨lo, e1, -, -⟩ := DataW.trod_string Try.underlying9 g0
  obtain ⟨hi, e2, -, -⟩ := DataW.trod_string Try.underlying9 g1
  obtain ⟨op, e3, -⟩ := DataW.trod_bool Try.underlying4 g2
  obtain ⟨cnt, s0, s1, rfl, rfl, rfl, -, u0, u1⟩ := tal_cells h2
  simp only [List.cons.injEq, and_true] at e0 e1 e2 e3
  obtain ⟨a, l, c, rfl⟩ : ∃ a l c, v7 = .slice a l c := by
    rcases Deep.open_slice Try.underlying44 h3 with ⟨hcs, _⟩ | ⟨x, l, c, m, n, D, Pl, hcs, _⟩
    · simp only [List.cons.injEq, and_true] at hcs
      exact ⟨_, _, _, hcs⟩
    · simp only [List.cons.injEq, and_true] at hcs
      exact ⟨_, _, _, hcs⟩
  obtain ⟨T, k1, k2, k3⟩ := ents_open (enc := enc) (d := y3.1) (ps := y3.2) h3 (fun n hn => hz n (by simp [DataW.weights, Try.underlying46, DataW.weightsEach, hn]))
  exact ⟨⟨kind, lo, hi, op, cnt, s0, s1, a, l, c, T⟩, e0, e1, e2, e3, rfl, rfl, rfl, rfl, k1, k2, k3, ⟨by dsimp only; omega, by dsimp only; omega⟩, by dsimp only; omega, by dsimp only; omega⟩
theorem lst8 {α : Type} {l : List α} (h : l.length = 8) : ∃ v0 v1 v2 v3 v4 v5 v6 v7, l = [v0, v1, v2, v3, v4, v5, v6, v7] := by
  match l, h with
  | [v0, v1, v2, v3, v4, v5, v6, v7], _ => exact ⟨v0, v1, v2, v3, v4, v5, v6, v7, rfl⟩
def pmZ : Pm := ⟨0, ⟨#[]⟩, ⟨#[]⟩, false, 0, 0, 0, none, 0, 0, fun _ => ⟨⟨#[]⟩, 0, 0, ⟨#[]⟩, false⟩⟩
set_option maxHeartbeats 2000000 in
theorem parts_open {fuel : Nat} {a : Option Addr} {len cap : Nat} {d : DataW H} {ps : List MemPlace}
    (hf : DataW.trod enc Try.prog W 0 (fun _ => true) true fuel 24 [.slice a len cap] = some (d, ps)) (hz : ∀ n ∈ d.weights Try.prog 24, n ≤ reachBytes) :
    ∃ P, PartsIn W a len cap P ∧ ((a = none ∧ len = 0 ∧ cap = 0) ∨ ∃ y, a = some y) ∧ len * 96 ≤ 140737488351232 ∧ ∀ i, i < len → (P i).Ok W := by
  rcases Deep.open_slice Try.underlying24 hf with ⟨hcs, _⟩ | ⟨x, l, c, m, n, D, Pl, hcs, hb, hl, hm, hmm, hx, hel⟩
  · simp only [List.cons.injEq, Value.slice.injEq, and_true] at hcs
    obtain ⟨rfl, rfl, rfl⟩ := hcs
    exact ⟨fun _ => pmZ, ⟨Nat.le_refl _, Nat.zero_le _, .inl rfl⟩, .inl ⟨rfl, rfl, rfl⟩, by omega, fun i hi => by omega⟩
  · simp only [List.cons.injEq, Value.slice.injEq, and_true] at hcs
    obtain ⟨rfl, rfl, rfl⟩ := hcs
    simp only [Prod.mk.injEq] at hx
    have hd := hx.1
    simp only [if_true] at hmm
    subst hmm
    rw [cellsPart] at hel
    have hbytes : len * 96 ≤ 140737488351232 := by
      have h1 := hz _ (by rw [hd]; simp only [DataW.weights, Try.underlying24]; exact List.mem_cons_self)
      rw [bytesPart] at h1
      simp only [List.length_map, List.length_range] at h1
      have : reachBytes = 140737488351232 := by decide
      omega
    have each : ∀ i, i < len → ∃ p : Pm, (W.cell? (x.add (i * 8)) = some (.int .i64 p.kind) ∧ W.cell? (x.add (i * 8 + 1)) = some (.string p.lo) ∧ W.cell? (x.add (i * 8 + 2)) = some (.string p.hi) ∧ W.cell? (x.add (i * 8 + 3)) = some (.bool p.op) ∧ W.cell? (x.add (i * 8 + 4)) = some (.int .i64 p.cnt) ∧ W.cell? (x.add (i * 8 + 5)) = some (.int .u64 p.s0) ∧ W.cell? (x.add (i * 8 + 6)) = some (.int .u64 p.s1) ∧ W.cell? (x.add (i * 8 + 7)) = some (.slice p.ea p.el p.ec)) ∧ p.Ok W := by
      intro i hi
      obtain ⟨cs', h1, h2⟩ := hel i (by omega)
      obtain ⟨_, hlen, hcell⟩ := World.cells?_some h1
      obtain ⟨v0, v1, v2, v3, v4, v5, v6, v7, rfl⟩ := lst8 hlen
      obtain ⟨p, rfl, rfl, rfl, rfl, rfl, rfl, rfl, rfl, hok⟩ := part_cells h2 (fun m' hm' => hz m' (by
        rw [hd]
        simp only [DataW.weights, Try.underlying24]
        exact List.mem_cons_of_mem _ (List.mem_append_left _ (weights_all (d := D i) (List.mem_map.2 ⟨i, List.mem_range.2 hi, rfl⟩) _ hm'))))
      have c0 := hcell 0 (by omega)
      have c1 := hcell 1 (by omega)
      have c2 := hcell 2 (by omega)
      have c3 := hcell 3 (by omega)
      have c4 := hcell 4 (by omega)
      have c5 := hcell 5 (by omega)
      have c6 := hcell 6 (by omega)
      have c7 := hcell 7 (by omega)
      rw [Deep.add_add] at c0 c1 c2 c3 c4 c5 c6 c7
      exact ⟨p, ⟨by simpa using c0, by simpa using c1, by simpa using c2, by simpa using c3, by simpa using c4, by simpa using c5, by simpa using c6, by simpa using c7⟩, hok⟩
    by_cases h0 : len = 0
    · exact ⟨fun _ => pmZ, ⟨hl, hm, .inl h0⟩, .inr ⟨_, rfl⟩, hbytes, fun i hi => by omega⟩
    · letI : Inhabited Pm := ⟨pmZ⟩
      obtain ⟨P, hP⟩ := Deep.choose_lt each
      have hc0 := (hP 0 (by omega)).1.1
      obtain ⟨blk, off, spot⟩ := x
      have hspot : spot = none := by
        have := World.cell?_spot hc0
        simpa [Addr.add] using this
      subst hspot
      have hblk : blk < W.heap.size := by
        have := World.block_lt_of_cell? W _ hc0
        simpa [Addr.add] using this
      have hadd : ∀ j, (⟨blk, off, none⟩ : Addr).add j = ⟨blk, off + j, none⟩ := by intro j; unfold Addr.add; split <;> simp_all
      refine ⟨P, ⟨hl, hm, .inr ⟨blk, off, rfl, hblk, fun i hi => ⟨?_, (hP i hi).2.1⟩⟩⟩, .inr ⟨_, rfl⟩, hbytes, fun i hi => (hP i hi).2⟩
      have h5 := (hP i hi).1
      simp only [hadd] at h5
      simpa only [Nat.add_assoc, PmAt] using h5
theorem array7 {α : Type} {cs : Array α} (h : cs.size = 7) : ∃ c0 c1 c2 c3 c4 c5 c6, cs = #[c0, c1, c2, c3, c4, c5, c6] := by
  obtain ⟨l⟩ := cs
  match l, h with
  | [c0, c1, c2, c3, c4, c5, c6], _ => exact ⟨c0, c1, c2, c3, c4, c5, c6, rfl⟩
def I64 (z : Int) : Prop := -9223372036854775808 ≤ z ∧ z ≤ 9223372036854775807
set_option maxRecDepth 100000 in
set_option maxHeartbeats 2000000 in
theorem open_frame {b0 : Nat} {v : Value} {d : DataW H} {p : List MemPlace} (hv : Value.okWide Try.prog W .any b0 26 v) (h : DataW.Trod enc Try.prog W 0 (fun _ => true) true 26 v d p) (hz : ∀ n ∈ d.weights Try.prog 26, n ≤ reachBytes) :
    ∃ (fr tz o l n tn : Int) (a : Option Addr) (len cap : Nat) (P : Nat → Pm), v = .agg #[.int .i64 fr, .int .i64 tz, .int .i64 o, .int .i64 l, .int .i64 n, .int .i64 tn, .slice a len cap] ∧ (I64 fr ∧ I64 tz ∧ I64 o ∧ I64 l ∧ I64 n ∧ I64 tn) ∧ PartsIn W a len cap P ∧ ((a = none ∧ len = 0 ∧ cap = 0) ∨ ∃ y, a = some y) ∧ len * 96 ≤ 140737488351232 ∧ ∀ i, i < len → (P i).Ok W := by
  obtain ⟨cs, rfl, hsz⟩ := okWide_struct Try.underlying26 hv
  obtain ⟨c0, c1, c2, c3, c4, c5, c6, rfl⟩ := array7 (hsz.trans cellsFrame)
  obtain ⟨fuel, hf⟩ := h
  have hf' : DataW.trod enc Try.prog W 0 (fun _ => true) true fuel 26 [c0, c1, c2, c3, c4, c5, c6] = some (d, p) := by simpa [Value.cells] using hf
  obtain ⟨xs, m, hm, hxy, hds, hxl, hfs⟩ := DataW.trod_struct Try.underlying26 hf'
  match xs, hxl with
  | [y0, y1, y2, y3, y4], _ =>
    have g0 := hfs 0 _ rfl
    have g1 := hfs 1 _ rfl
    have g2 := hfs 2 _ rfl
    have g3 := hfs 3 _ rfl
    have g4 := hfs 4 _ rfl
    simp [cellsInt, cellsName, cellsSlP] at g0 g1 g2 g3 g4
    obtain ⟨fr, e0, -, w0⟩ := DataW.trod_int Try.underlying3 g0
    obtain ⟨tz, e1, -, w1⟩ := DataW.trod_int Try.underlying3 g1
    obtain ⟨z0, z1, z2, m', rfl, _, n0, n1, n2⟩ := Deep.trod_struct3 Try.underlying23 g2
    simp [cellsInt] at n0 n1 n2
    obtain ⟨o, e2, -, w2⟩ := DataW.trod_int Try.underlying3 n0
    obtain ⟨l, e3, -, w3⟩ := DataW.trod_int Try.underlying3 n1
    obtain ⟨n, e4, -, w4⟩ := DataW.trod_int Try.underlying3 n2
    obtain ⟨tn, e5, -, w5⟩ := DataW.trod_int Try.underlying3 g3
    simp only [List.cons.injEq, and_true] at e0 e1 e2 e3 e4 e5
    subst e0 e1 e2 e3 e4 e5
    obtain ⟨a, len, cap, rfl⟩ : ∃ a l c, c6 = .slice a l c := by
      rcases Deep.open_slice Try.underlying24 g4 with ⟨hcs, _⟩ | ⟨x, l, c, m, n, D, Pl, hcs, _⟩
      · simp only [List.cons.injEq, and_true] at hcs
        exact ⟨_, _, _, hcs⟩
      · simp only [List.cons.injEq, and_true] at hcs
        exact ⟨_, _, _, hcs⟩
    simp only [Prod.mk.injEq] at hxy
    obtain ⟨P, k1, k2, k3, k4⟩ := parts_open (enc := enc) (d := y4.1) (ps := y4.2) g4 (fun n hn => hz n (by rw [hxy.1]; simp [DataW.weights, Try.underlying26, DataW.weightsEach, hn]))
    exact ⟨fr, tz, o, l, n, tn, a, len, cap, P, rfl, ⟨bounds_i64 w0, bounds_i64 w1, bounds_i64 w2, bounds_i64 w3, bounds_i64 w4, bounds_i64 w5⟩, k1, k2, k3, k4⟩
end Go.Proofs.Ytbnppmkdhnpdfaa
