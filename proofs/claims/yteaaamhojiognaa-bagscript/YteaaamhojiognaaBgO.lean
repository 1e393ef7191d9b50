/-
  The steps of a script over bags, that came in.
-/
import Derived.Test.YteaaamhojiognaaBgI
import Derived.Test.YteaaamhojiognaaRows
import Derived.ProofKit
import Derived.OpenShut
import Derived.ShutString
import Derived.SizedLaws
import Derived.HandedShaped
import Derived.Lib.SmallJoins
import Derived.Deep.Slices
import Derived.Deep.Strs
import Derived.Deep.CondSized
import Derived.ChangeOld
import Derived.LaidLaws
import Derived.FnData
namespace Go.Proofs.Yteaaamhojiognaa
open Go.ChangeShapes Go.WideShapes Go.ChangeAt Go.RowKit
set_option linter.unusedVariables false
theorem own : ownKnob Try.prog.godebug = none := by kernel_rfl
theorem laidOut : laidOutB Try.prog = true := by kernel_rfl

/-- A step. -/
structure Bo where
  kind : Int
  frm : Int
  dst : Int
  i : Int
  da : Option Addr
  dl : Nat
  dc : Nat
  L : List UInt8
/-- The cells of one, and its bytes. -/
def BoAt (w : World) (b off : Nat) (t : Bo) : Prop :=
  (w.cell? ⟨b, off, none⟩ = some (.int .i64 t.kind) ∧ w.cell? ⟨b, off + 1, none⟩ = some (.int .i64 t.frm) ∧ w.cell? ⟨b, off + 2, none⟩ = some (.int .i64 t.dst) ∧ w.cell? ⟨b, off + 3, none⟩ = some (.int .i64 t.i) ∧ w.cell? ⟨b, off + 4, none⟩ = some (.slice t.da t.dl t.dc))
/-- What is known of a step's bytes. -/
def Bo.In (w : World) (t : Bo) : Prop := ByIn w t.da t.dl t.dc t.L ∧ t.dl ≤ 140737488351232 ∧ (0 < t.dl → ∀ x, t.da = some x → x.block < w.heap.size)
/-- A list of such. -/
def Bos (w : World) (a : Option Addr) (len cap : Nat) (T : Nat → Bo) : Prop :=
  len ≤ cap ∧ cap ≤ maxLen ∧ len * 56 ≤ 140737488351232 ∧ (len = 0 ∨ ∃ b off, a = some ⟨b, off, none⟩ ∧ b < w.heap.size ∧ ∀ i, i < len → BoAt w b (off + i * 5) (T i) ∧ (T i).In w)

theorem cell_inB {w w' : World} {b k : Nat} {v : Value} (h : w.cell? ⟨b, k, none⟩ = some v) (bel : Below w.heap.size w w') : w'.cell? ⟨b, k, none⟩ = some v := by
  rw [bel.cell (p := ⟨b, k, none⟩) (World.block_lt_of_cell? w _ h)]
  exact h
theorem BoAt.keep {w w' : World} {b off : Nat} {t : Bo} (h : BoAt w b off t) (k : Below w.heap.size w w') : BoAt w' b off t := by
  obtain ⟨c0, c1, c2, c3, c4⟩ := h
  exact ⟨cell_inB c0 k, cell_inB c1 k, cell_inB c2 k, cell_inB c3 k, cell_inB c4 k⟩
theorem Bo.In.keep {w w' : World} {t : Bo} (h : t.In w) (k : Below w.heap.size w w') : t.In w' := ⟨h.1.on k, h.2.1, fun h0 x hx => Nat.lt_of_lt_of_le (h.2.2 h0 x hx) k.size⟩
theorem Bos.keep {w w' : World} {a : Option Addr} {len cap : Nat} {T : Nat → Bo} (h : Bos w a len cap T) (k : Below w.heap.size w w') : Bos w' a len cap T := by
  obtain ⟨h1, h2, h3, h4⟩ := h
  refine ⟨h1, h2, h3, ?_⟩
  rcases h4 with h4 | ⟨bb, off, rfl, hb, hc⟩
  · exact .inl h4
  · exact .inr ⟨bb, off, rfl, by have := k.size; omega, fun i hi => ⟨(hc i hi).1.keep k, (hc i hi).2.keep k⟩⟩

theorem cellsBo : Try.prog.cellsOf 34 = 5 := by kernel_rfl
theorem bytesBo : Try.prog.bytesOf 34 = 56 := by kernel_rfl
theorem cellsBoi : Try.prog.cellsOf 3 = 1 := by kernel_rfl
theorem cellsBod : Try.prog.cellsOf 32 = 1 := by kernel_rfl
theorem bytesBod : Try.prog.bytesOf 5 = 1 := by kernel_rfl

/-- The bytes of such numbers. -/
def bytesOfB (zs : List Int) : List UInt8 := zs.map fun z => UInt8.ofNat z.toNat
theorem wf_u8B {z : Int} (h : (Lit.int .u8 z).wf = true) : 0 ≤ z ∧ z ≤ 255 := by
  simp [Lit.wf] at h
  first | exact h | omega
theorem byIn_nums {w : World} {x : Addr} {len cap : Nat} {zs : List Int} (hl : len ≤ cap) (hm : cap ≤ maxLen) (hz : zs.length = cap) (hc : ∀ i, i < zs.length → w.cell? (x.add i) = some (.int .u8 (zs.getD i 0))) (hw : ∀ n ∈ zs, (Lit.int .u8 n).wf = true) : ByIn w (some x) len cap (bytesOfB (zs.take len)) := by
  have hlen : (bytesOfB (zs.take len)).length = len := by unfold bytesOfB; rw [List.length_map, List.length_take]; omega
  refine ⟨hlen, hl, hm, .inr ⟨x, rfl, fun j u hj => ?_⟩⟩
  have hjl : j < len := by
    have := (List.getElem?_eq_some_iff.1 hj).1
    simpa [Lib.byteCells, hlen] using this
  have hjz : j < zs.length := by omega
  rw [hc j hjz]
  have hz' := wf_u8B (hw zs[j] (List.getElem_mem hjz))
  have e : (Lib.byteCells (bytesOfB (zs.take len)))[j]? = some (.int .u8 zs[j]) := by
    have e0 : (bytesOfB (zs.take len))[j]? = some (UInt8.ofNat (zs[j]).toNat) := by
      simp [bytesOfB, hjl, hjz]
    simp only [Lib.byteCells, List.getElem?_map, e0, Option.map_some]
    rw [UInt8.toNat_ofNat', Nat.mod_eq_of_lt (show (zs[j]).toNat < 2 ^ 8 from by omega)]
    congr 2
    omega
  rw [e] at hj
  rw [← hj]
  simp [hjz]

variable {H : Type} {enc : TypeId × Value → H} {W : World}
theorem weights_allB {P : Program} {e : TypeId} : ∀ {ds : List (DataW H)} {d : DataW H}, d ∈ ds → ∀ n ∈ d.weights P e, n ∈ DataW.weightsAll P e ds
  | d0 :: r, d, hd, n, hn => by
    simp only [DataW.weightsAll, List.mem_append]
    rcases List.mem_cons.1 hd with rfl | hd
    · exact Or.inl hn
    · exact Or.inr (weights_allB hd n hn)
  | [], _, hd, _, _ => by simp at hd

set_option maxRecDepth 100000 in
set_option maxHeartbeats 2000000 in
theorem bytes_open {fuel : Nat} {v : Value} {d : DataW H} {ps : List MemPlace} (hf : DataW.trod enc Try.prog W 0 (fun _ => true) true fuel 32 [v] = some (d, ps)) (hz : ∀ n ∈ d.weights Try.prog 32, n ≤ reachBytes) :
    ∃ a len cap L, v = .slice a len cap ∧ ByIn W a len cap L ∧ len ≤ 140737488351232 ∧ (0 < len → ∀ x, a = some x → x.block < W.heap.size) := by
  rcases open_ints Try.underlying32 Try.underlying5 (by kernel_rfl) hf with ⟨hcs, _⟩ | ⟨x, l, c, zs, hcs, _, hl, hm, hzl, hx, hcell, hwz⟩
  · simp only [List.cons.injEq, and_true] at hcs
    exact ⟨none, 0, 0, [], hcs, ⟨rfl, Nat.le_refl _, Nat.zero_le _, .inl ⟨rfl, rfl, rfl⟩⟩, by omega, fun _ x hx => by cases hx⟩
  · simp only [List.cons.injEq, and_true] at hcs
    simp only [if_true] at hzl
    refine ⟨some x, l, c, _, hcs, byIn_nums hl hm hzl hcell hwz, ?_, fun h0 y hy => ?_⟩
    · simp only [Prod.mk.injEq] at hx
      have hd := hx.1
      have h2 := hz _ (by rw [hd]; simp only [DataW.weights, Try.underlying32]; exact List.mem_cons_self)
      rw [bytesBod] at h2
      simp only [lits, List.length_map, List.length_take, List.length_drop] at h2
      have : reachBytes = 140737488351232 := by decide
      omega
    · injection hy with hy
      subst hy
      have h2 := World.block_lt_of_cell? W _ (hcell 0 (by omega))
      have e : (x.add 0).block = x.block := by unfold Addr.add; split <;> rfl
      rw [e] at h2
      exact h2

set_option maxRecDepth 100000 in
set_option maxHeartbeats 2000000 in
theorem bo_cells {fuel : Nat} {v0 v1 v2 v3 v4 : Value} {z : DataW H × List MemPlace} (h : DataW.trod enc Try.prog W 0 (fun _ => true) true fuel 34 [v0, v1, v2, v3, v4] = some z) (hz : ∀ n ∈ z.1.weights Try.prog 34, n ≤ reachBytes) :
    ∃ t : Bo, v0 = .int .i64 t.kind ∧ v1 = .int .i64 t.frm ∧ v2 = .int .i64 t.dst ∧ v3 = .int .i64 t.i ∧ v4 = .slice t.da t.dl t.dc ∧ t.In W := by
  obtain ⟨xs1, m1, hm1, hxy1, hxx1, hxl1, hfs1⟩ := DataW.trod_struct Try.underlying34 h
  match xs1, hxl1 with
  | [y0, y1, y2, y3, y4], _ =>
    have g0 := hfs1 0 _ rfl
    have g1 := hfs1 1 _ rfl
    have g2 := hfs1 2 _ rfl
    have g3 := hfs1 3 _ rfl
    have g4 := hfs1 4 _ rfl
    simp [cellsBoi, cellsBod] at g0 g1 g2 g3 g4
    obtain ⟨q0, e0, -, -⟩ := DataW.trod_int Try.underlying3 g0
    obtain ⟨q1, e1, -, -⟩ := DataW.trod_int Try.underlying3 g1
    obtain ⟨q2, e2, -, -⟩ := DataW.trod_int Try.underlying3 g2
    obtain ⟨q3, e3, -, -⟩ := DataW.trod_int Try.underlying3 g3
    simp only [List.cons.injEq, and_true] at e0 e1 e2 e3
    obtain ⟨a, len, cap, L, e4, k1, k2, k3⟩ := bytes_open (enc := enc) (d := y4.1) (ps := y4.2) g4 (fun n hn => hz n (by rw [hxy1]; simp [DataW.weights, Try.underlying34, DataW.weightsEach, hn]))
    exact ⟨⟨q0, q1, q2, q3, a, len, cap, L⟩, e0, e1, e2, e3, e4, k1, k2, k3⟩

def bo0 : Bo := ⟨0, 0, 0, 0, none, 0, 0, []⟩
theorem lst5 {α : Type} {l : List α} (h : l.length = 5) : ∃ v0 v1 v2 v3 v4, l = [v0, v1, v2, v3, v4] := by
  match l, h with
  | [v0, v1, v2, v3, v4], _ => exact ⟨v0, v1, v2, v3, v4, rfl⟩

set_option maxHeartbeats 2000000 in
theorem Bos_open {fuel : Nat} {a : Option Addr} {len cap : Nat} {d : DataW H} {ps : List MemPlace}
    (hf : DataW.trod enc Try.prog W 0 (fun _ => true) true fuel 22 [.slice a len cap] = some (d, ps)) (hz : ∀ n ∈ d.weights Try.prog 22, n ≤ reachBytes) :
    ∃ T, Bos W a len cap T := by
  rcases Deep.open_slice Try.underlying22 hf with ⟨hcs, _⟩ | ⟨x, l, c, m, n, D, Pl, hcs, hb, hl, hm, hmm, hx, hel⟩
  · simp only [List.cons.injEq, Value.slice.injEq, and_true] at hcs
    obtain ⟨rfl, rfl, rfl⟩ := hcs
    exact ⟨fun _ => bo0, Nat.le_refl _, Nat.zero_le _, by omega, .inl rfl⟩
  · simp only [List.cons.injEq, Value.slice.injEq, and_true] at hcs
    obtain ⟨rfl, rfl, rfl⟩ := hcs
    simp only [Prod.mk.injEq] at hx
    have hd := hx.1
    simp only [if_true] at hmm
    subst hmm
    rw [cellsBo] at hel
    have hbytes : len * 56 ≤ 140737488351232 := by
      have h1 := hz _ (by rw [hd]; simp only [DataW.weights, Try.underlying22]; exact List.mem_cons_self)
      rw [bytesBo] at h1
      simp only [List.length_map, List.length_range] at h1
      have : reachBytes = 140737488351232 := by decide
      omega
    have each : ∀ i, i < len → ∃ t : Bo, (W.cell? (x.add (i * 5)) = some (.int .i64 t.kind) ∧ W.cell? (x.add (i * 5 + 1)) = some (.int .i64 t.frm) ∧ W.cell? (x.add (i * 5 + 2)) = some (.int .i64 t.dst) ∧ W.cell? (x.add (i * 5 + 3)) = some (.int .i64 t.i) ∧ W.cell? (x.add (i * 5 + 4)) = some (.slice t.da t.dl t.dc)) ∧ t.In W := by
      intro i hi
      obtain ⟨cs', h1, h2⟩ := hel i (by omega)
      obtain ⟨_, hlen, hcell⟩ := World.cells?_some h1
      obtain ⟨v0, v1, v2, v3, v4, rfl⟩ := lst5 hlen
      obtain ⟨t, rfl, rfl, rfl, rfl, rfl, hok⟩ := bo_cells h2 (fun m' hm' => hz m' (by
        rw [hd]
        simp only [DataW.weights, Try.underlying22]
        exact List.mem_cons_of_mem _ (List.mem_append_left _ (weights_allB (d := D i) (List.mem_map.2 ⟨i, List.mem_range.2 hi, rfl⟩) _ hm'))))
      have c0 := hcell 0 (by omega)
      have c1 := hcell 1 (by omega)
      have c2 := hcell 2 (by omega)
      have c3 := hcell 3 (by omega)
      have c4 := hcell 4 (by omega)
      rw [Deep.add_add] at c0 c1 c2 c3 c4
      exact ⟨t, ⟨by simpa using c0, by simpa using c1, by simpa using c2, by simpa using c3, by simpa using c4⟩, hok⟩
    by_cases h0 : len = 0
    · exact ⟨fun _ => bo0, hl, hm, by omega, .inl h0⟩
    · letI : Inhabited Bo := ⟨bo0⟩
      obtain ⟨T, hT⟩ := Deep.choose_lt each
      have hc0 := (hT 0 (by omega)).1.1
      obtain ⟨blk, off, spot⟩ := x
      have hspot : spot = none := by
        have := World.cell?_spot hc0
        simpa [Addr.add] using this
      subst hspot
      have hblk : blk < W.heap.size := by
        have := World.block_lt_of_cell? W _ hc0
        simpa [Addr.add] using this
      have hadd : ∀ j, (⟨blk, off, none⟩ : Addr).add j = ⟨blk, off + j, none⟩ := by intro j; unfold Addr.add; split <;> simp_all
      refine ⟨T, hl, hm, by omega, .inr ⟨blk, off, rfl, hblk, fun i hi => ⟨?_, (hT i hi).2⟩⟩⟩
      have h5 := (hT i hi).1
      simp only [hadd] at h5
      simpa only [Nat.add_assoc, BoAt] using h5
end Go.Proofs.Yteaaamhojiognaa
