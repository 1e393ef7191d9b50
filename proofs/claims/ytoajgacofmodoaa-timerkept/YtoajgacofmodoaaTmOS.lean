/-
  The steps of a script over timers, that came in.
-/
import Derived.Test.YtoajgacofmodoaaTmO
import Derived.Test.YtoajgacofmodoaaYMem
namespace Go.Proofs.Ytoajgacofmodoaa
open Go.ChangeShapes Go.WideShapes Go.ChangeAt Go.RowKit
set_option linter.unusedVariables false

structure Sop where
  kind : Int
  o : Int
  l : Int
  n : Int
  at_ : Int
  stop : Int
  sec : Bool

/-- Its numbers are numbers. -/
def SopOk (t : Sop) : Prop := (-9223372036854775808 ≤ t.kind ∧ t.kind ≤ 9223372036854775807) ∧ (-9223372036854775808 ≤ t.o ∧ t.o ≤ 9223372036854775807) ∧ (-9223372036854775808 ≤ t.l ∧ t.l ≤ 9223372036854775807) ∧ (-9223372036854775808 ≤ t.n ∧ t.n ≤ 9223372036854775807) ∧ (-9223372036854775808 ≤ t.at_ ∧ t.at_ ≤ 9223372036854775807) ∧ (-9223372036854775808 ≤ t.stop ∧ t.stop ≤ 9223372036854775807)
/-- The cells of one. -/
def SopAt (w : World) (b off : Nat) (t : Sop) : Prop :=
  w.cell? ⟨b, off, none⟩ = some (.int .i64 t.kind) ∧ w.cell? ⟨b, off + 1, none⟩ = some (.int .i64 t.o) ∧ w.cell? ⟨b, off + 2, none⟩ = some (.int .i64 t.l) ∧ w.cell? ⟨b, off + 3, none⟩ = some (.int .i64 t.n) ∧ w.cell? ⟨b, off + 4, none⟩ = some (.int .i64 t.at_) ∧ w.cell? ⟨b, off + 5, none⟩ = some (.int .i64 t.stop) ∧ w.cell? ⟨b, off + 6, none⟩ = some (.bool t.sec)

/-- A list of such. -/
def Sops (w : World) (a : Option Addr) (len cap : Nat) (T : Nat → Sop) : Prop :=
  len ≤ cap ∧ cap ≤ maxLen ∧ len * 56 ≤ 140737488351232 ∧ (len = 0 ∨ ∃ b off, a = some ⟨b, off, none⟩ ∧ b < w.heap.size ∧ ∀ i, i < len → SopAt w b (off + i * 7) (T i))

theorem SopAt.keep {w w' : World} {b off : Nat} {t : Sop} (h : SopAt w b off t) (k : Below w.heap.size w w') : SopAt w' b off t := by
  obtain ⟨c0, c1, c2, c3, c4, c5, c6⟩ := h
  exact ⟨cell_in c0 k, cell_in c1 k, cell_in c2 k, cell_in c3 k, cell_in c4 k, cell_in c5 k, cell_in c6 k⟩

theorem Sops.keep {w w' : World} {a : Option Addr} {len cap : Nat} {T : Nat → Sop} (h : Sops w a len cap T) (k : Below w.heap.size w w') : Sops w' a len cap T := by
  obtain ⟨h1, h2, h3, h4⟩ := h
  refine ⟨h1, h2, h3, ?_⟩
  rcases h4 with h4 | ⟨bb, off, rfl, hb, hc⟩
  · exact .inl h4
  · exact .inr ⟨bb, off, rfl, by have := k.size; omega, fun i hi => (hc i hi).keep k⟩

theorem cellsSop : Try.prog.cellsOf 43 = 7 := by kernel_rfl
theorem bytesSop : Try.prog.bytesOf 43 = 56 := by kernel_rfl
theorem cellsSop0 : Try.prog.cellsOf 29 = 3 := by kernel_rfl
theorem cellsSopi : Try.prog.cellsOf 3 = 1 := by kernel_rfl
theorem cellsSops : Try.prog.cellsOf 9 = 1 := by kernel_rfl
theorem cellsSopb : Try.prog.cellsOf 4 = 1 := by kernel_rfl

variable {H : Type} {enc : TypeId × Value → H} {W : World}

set_option maxRecDepth 100000 in
set_option maxHeartbeats 2000000 in
theorem Sop_cells {b0 : Nat} {sp : Nat → Bool} {held : Bool} {fuel : Nat} {v0 v1 v2 v3 v4 v5 v6 : Value} {z : DataW H × List MemPlace} (h : DataW.trod enc Try.prog W b0 sp held fuel 43 [v0, v1, v2, v3, v4, v5, v6] = some z) :
    ∃ t : Sop, v0 = .int .i64 t.kind ∧ v1 = .int .i64 t.o ∧ v2 = .int .i64 t.l ∧ v3 = .int .i64 t.n ∧ v4 = .int .i64 t.at_ ∧ v5 = .int .i64 t.stop ∧ v6 = .bool t.sec ∧ SopOk t := by
  obtain ⟨xs1, m1, hm1, hxy1, _, hxl1, hfs1⟩ := DataW.trod_struct Try.underlying43 h
  match xs1, hxl1 with
  | [y1_0, y1_1, y1_2, y1_3, y1_4], _ =>
    have g1_0 := hfs1 0 _ rfl
    have g1_1 := hfs1 1 _ rfl
    have g1_2 := hfs1 2 _ rfl
    have g1_3 := hfs1 3 _ rfl
    have g1_4 := hfs1 4 _ rfl
    simp [cellsSopi, cellsSop0, cellsSopb] at g1_0 g1_1 g1_2 g1_3 g1_4
    obtain ⟨q1_0, e1_0, f1_0, w1_0⟩ := DataW.trod_int Try.underlying3 g1_0
    obtain ⟨xs2, m2, hm2, hxy2, _, hxl2, hfs2⟩ := DataW.trod_struct Try.underlying29 g1_1
    match xs2, hxl2 with
    | [y2_0, y2_1, y2_2], _ =>
      have g2_0 := hfs2 0 _ rfl
      have g2_1 := hfs2 1 _ rfl
      have g2_2 := hfs2 2 _ rfl
      simp [cellsSopi] at g2_0 g2_1 g2_2
      obtain ⟨q2_0, e2_0, f2_0, w2_0⟩ := DataW.trod_int Try.underlying3 g2_0
      obtain ⟨q2_1, e2_1, f2_1, w2_1⟩ := DataW.trod_int Try.underlying3 g2_1
      obtain ⟨q2_2, e2_2, f2_2, w2_2⟩ := DataW.trod_int Try.underlying3 g2_2
      obtain ⟨q1_2, e1_2, f1_2, w1_2⟩ := DataW.trod_int Try.underlying3 g1_2
      obtain ⟨q1_3, e1_3, f1_3, w1_3⟩ := DataW.trod_int Try.underlying3 g1_3
      obtain ⟨q1_4, e1_4, f1_4⟩ := DataW.trod_bool Try.underlying4 g1_4
      simp only [List.cons.injEq, and_true] at e1_0 e2_0 e2_1 e2_2 e1_2 e1_3 e1_4
      exact ⟨⟨q1_0, q2_0, q2_1, q2_2, q1_2, q1_3, q1_4⟩, e1_0, e2_0, e2_1, e2_2, e1_2, e1_3, e1_4, ⟨bounds_i64 w1_0, bounds_i64 w2_0, bounds_i64 w2_1, bounds_i64 w2_2, bounds_i64 w1_2, bounds_i64 w1_3⟩⟩

def Sop0 : Sop := ⟨0, 0, 0, 0, 0, 0, false⟩

set_option maxHeartbeats 1000000 in
theorem Sops_open {fuel : Nat} {a : Option Addr} {len cap : Nat} {d : DataW H} {ps : List MemPlace}
    (hf : DataW.trod enc Try.prog W 0 (fun _ => true) true fuel 37 [.slice a len cap] = some (d, ps)) (hz : ∀ n ∈ d.weights Try.prog 37, n ≤ reachBytes) :
    ∃ T, Sops W a len cap T ∧ ∀ i, i < len → SopOk (T i) := by
  rcases Deep.open_slice Try.underlying37 hf with ⟨hcs, _⟩ | ⟨x, l, c, m, n, D, Pl, hcs, hb, hl, hm, hmm, hx, hel⟩
  · simp only [List.cons.injEq, Value.slice.injEq, and_true] at hcs
    obtain ⟨rfl, rfl, rfl⟩ := hcs
    exact ⟨fun _ => Sop0, ⟨Nat.le_refl _, Nat.zero_le _, by omega, .inl rfl⟩, fun i hi => by omega⟩
  · simp only [List.cons.injEq, Value.slice.injEq, and_true] at hcs
    obtain ⟨rfl, rfl, rfl⟩ := hcs
    simp only [Prod.mk.injEq] at hx
    have hd := hx.1
    simp only [if_true] at hmm
    subst hmm
    rw [cellsSop] at hel
    have hbytes : len * 56 ≤ 140737488351232 := by
      have h1 := hz _ (by rw [hd]; simp only [DataW.weights, Try.underlying37]; exact List.mem_cons_self)
      rw [bytesSop] at h1
      simp only [List.length_map, List.length_range] at h1
      have : reachBytes = 140737488351232 := by decide
      omega
    have each : ∀ i, i < len → ∃ t : Sop, (W.cell? (x.add (i * 7)) = some (.int .i64 t.kind) ∧ W.cell? (x.add (i * 7 + 1)) = some (.int .i64 t.o) ∧ W.cell? (x.add (i * 7 + 2)) = some (.int .i64 t.l) ∧ W.cell? (x.add (i * 7 + 3)) = some (.int .i64 t.n) ∧ W.cell? (x.add (i * 7 + 4)) = some (.int .i64 t.at_) ∧ W.cell? (x.add (i * 7 + 5)) = some (.int .i64 t.stop) ∧ W.cell? (x.add (i * 7 + 6)) = some (.bool t.sec)) ∧ SopOk t := by
      intro i hi
      obtain ⟨cs', h1, h2⟩ := hel i (by omega)
      obtain ⟨_, hlen, hcell⟩ := World.cells?_some h1
      match cs', hlen with
      | [v0, v1, v2, v3, v4, v5, v6], _ =>
        obtain ⟨t, rfl, rfl, rfl, rfl, rfl, rfl, rfl, hok⟩ := Sop_cells h2
        have c0 := hcell 0 (by omega)
        have c1 := hcell 1 (by omega)
        have c2 := hcell 2 (by omega)
        have c3 := hcell 3 (by omega)
        have c4 := hcell 4 (by omega)
        have c5 := hcell 5 (by omega)
        have c6 := hcell 6 (by omega)
        rw [Deep.add_add] at c0 c1 c2 c3 c4 c5 c6
        exact ⟨t, ⟨by simpa using c0, by simpa using c1, by simpa using c2, by simpa using c3, by simpa using c4, by simpa using c5, by simpa using c6⟩, hok⟩
    by_cases h0 : len = 0
    · exact ⟨fun _ => Sop0, ⟨hl, hm, by omega, .inl h0⟩, fun i hi => by omega⟩
    · letI : Inhabited Sop := ⟨Sop0⟩
      obtain ⟨T, hT⟩ := Deep.choose_lt each
      have hc0 := (hT 0 (by omega)).1.1
      obtain ⟨blk, off, spot⟩ := x
      have hspot : spot = none := by
        have := World.cell?_spot hc0
        simpa [Addr.add] using this
      subst hspot
      have hblk : blk < W.heap.size := by
        have := World.block_lt_of_cell? W _ hc0
        simpa [Addr.add] using this
      have hadd : ∀ j, (⟨blk, off, none⟩ : Addr).add j = ⟨blk, off + j, none⟩ := by intro j; unfold Addr.add; split <;> simp_all
      refine ⟨T, ⟨hl, hm, by omega, .inr ⟨blk, off, rfl, hblk, fun i hi => ?_⟩⟩, fun i hi => (hT i hi).2⟩
      have h5 := (hT i hi).1
      simp only [hadd] at h5
      simpa only [Nat.add_assoc, SopAt] using h5

end Go.Proofs.Ytoajgacofmodoaa
