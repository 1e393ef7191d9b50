/-
  From the reading of a slice of steps, and the form's own reach, to what the walks are told (StepsAt).
-/
import Derived.Test.YtccbmppmnddkpaaSteps
import Derived.ProofKit
import Derived.OpenShut
import Derived.SizedLaws
import Derived.Deep.Slices
namespace Go.Proofs.Ytccbmppmnddkpaa
open Go.ChangeShapes Go.WideShapes Go.ChangeAt Go.RowKit
set_option linter.unusedVariables false

theorem cellsStep : Try.prog.cellsOf 34 = 5 := by kernel_rfl
theorem cellsInt : Try.prog.cellsOf 3 = 1 := by kernel_rfl
theorem cellsStr : Try.prog.cellsOf 9 = 1 := by kernel_rfl
theorem cellsU64 : Try.prog.cellsOf 32 = 1 := by kernel_rfl
theorem cellsBool : Try.prog.cellsOf 4 = 1 := by kernel_rfl

theorem weights_all {H : Type} {P : Program} {e : TypeId} : ∀ {ds : List (DataW H)} {d : DataW H}, d ∈ ds → ∀ n ∈ d.weights P e, n ∈ DataW.weightsAll P e ds
  | d0 :: r, d, hd, n, hn => by
    simp only [DataW.weightsAll, List.mem_append]
    rcases List.mem_cons.1 hd with rfl | hd
    · exact Or.inl hn
    · exact Or.inr (weights_all hd n hn)
  | [], _, hd, _, _ => by simp at hd

theorem addr_split (a : Addr) (i : Nat) : (a.add i).block = a.block := by unfold Addr.add; split <;> rfl

set_option maxHeartbeats 1000000 in
theorem steps_open {H : Type} {enc : TypeId × Value → H} {W : World} {fuel : Nat} {a : Option Addr} {len cap : Nat} {d : DataW H} {ps : List MemPlace}
    (hf : DataW.trod enc Try.prog W 0 (fun _ => true) true fuel 22 [.slice a len cap] = some (d, ps)) (hz : ∀ n ∈ d.weights Try.prog 22, n ≤ reachBytes) : ∃ T, StepsAt W a len cap T := by
  rcases Deep.open_slice Try.underlying22 hf with ⟨hcs, _⟩ | ⟨x, l, c, m, n, D, Pl, hcs, hb, hl, hm, hmm, hx, hel⟩
  · simp only [List.cons.injEq, Value.slice.injEq, and_true] at hcs
    obtain ⟨rfl, rfl, rfl⟩ := hcs
    exact ⟨fun _ => ⟨0, 0, ByteArray.empty, 0, false⟩, Nat.le_refl _, Nat.zero_le _, .inl rfl⟩
  · simp only [List.cons.injEq, Value.slice.injEq, and_true] at hcs
    obtain ⟨rfl, rfl, rfl⟩ := hcs
    simp only [Prod.mk.injEq] at hx
    have hd := hx.1
    simp only [if_true] at hmm
    subst hmm
    rw [cellsStep] at hel
    have each : ∀ i, i < len → ∃ t : Stp, (W.cell? (x.add (i * 5)) = some (.int .i64 t.kind) ∧ W.cell? (x.add (i * 5 + 1)) = some (.int .i64 t.n) ∧ W.cell? (x.add (i * 5 + 2)) = some (.string t.s) ∧ W.cell? (x.add (i * 5 + 3)) = some (.int .u64 (t.u : Int)) ∧ W.cell? (x.add (i * 5 + 4)) = some (.bool t.is)) ∧
        (-9223372036854775808 ≤ t.n ∧ t.n ≤ 9223372036854775807 ∧ t.s.size ≤ 140737488351232 ∧ t.u < 18446744073709551616) := by
      intro i hi
      obtain ⟨cs', h1, h2⟩ := hel i (by omega)
      obtain ⟨_, hlen, hcell⟩ := World.cells?_some h1
      obtain ⟨xs, k, hk, hxy, _, hxl, hfs⟩ := DataW.trod_struct Try.underlying34 h2
      match xs, hxl, cs', hlen with
      | [y0, y1, y2, y3, y4], _, [v0, v1, v2, v3, v4], _ =>
        have g0 := hfs 0 _ rfl
        have g1 := hfs 1 _ rfl
        have g2 := hfs 2 _ rfl
        have g3 := hfs 3 _ rfl
        have g4 := hfs 4 _ rfl
        simp [cellsInt, cellsStr, cellsU64, cellsBool] at g0 g1 g2 g3 g4
        obtain ⟨a0, e0, f0, w0⟩ := DataW.trod_int Try.underlying3 g0
        obtain ⟨a1, e1, f1, w1⟩ := DataW.trod_int Try.underlying3 g1
        obtain ⟨a2, e2, f2, w2⟩ := DataW.trod_string Try.underlying9 g2
        obtain ⟨a3, e3, f3, w3⟩ := DataW.trod_int Try.underlying32 g3
        obtain ⟨a4, e4, f4⟩ := DataW.trod_bool Try.underlying4 g4
        simp only [List.cons.injEq, and_true] at e0 e1 e2 e3 e4
        subst e0 e1 e2 e3 e4 f0 f1 f2 f3 f4
        have c0 := hcell 0 (by omega)
        have c1 := hcell 1 (by omega)
        have c2 := hcell 2 (by omega)
        have c3 := hcell 3 (by omega)
        have c4 := hcell 4 (by omega)
        rw [Deep.add_add] at c0 c1 c2 c3 c4
        have b1 := bounds_i64 w1
        have b3 := bounds_u64 w3
        have hdi : D i = .agg [.lit (.int .i64 a0), .lit (.int .i64 a1), .lit (.string a2.data.toList), .lit (.int .u64 a3), .lit (.bool a4)] := by
          simp only [Prod.mk.injEq] at hxy
          simpa using hxy.1
        have hs : a2.data.toList.length ≤ reachBytes := by
          apply hz
          rw [hd]
          simp only [DataW.weights, Try.underlying22]
          refine List.mem_cons_of_mem _ (List.mem_append_left _ (weights_all (d := D i) (List.mem_map.2 ⟨i, List.mem_range.2 hi, rfl⟩) _ ?_))
          rw [hdi]
          simp [DataW.weights, Try.underlying34, DataW.weightsEach]
        have hs' : a2.size ≤ 140737488351232 := by
          have e : a2.data.toList.length = a2.size := by show a2.data.toList.length = a2.data.size; simp
          rw [e] at hs
          exact hs
        refine ⟨⟨a0, a1, a2, a3.toNat, a4⟩, ⟨by simpa using c0, by simpa using c1, by simpa using c2, ?_, by simpa using c4⟩, b1.1, b1.2, hs', by simp only; omega⟩
        simp only
        rw [show ((a3.toNat : Nat) : Int) = a3 from by omega]
        simpa using c3
    by_cases h0 : len = 0
    · exact ⟨fun _ => ⟨0, 0, ByteArray.empty, 0, false⟩, hl, hm, .inl h0⟩
    · letI : Inhabited Stp := ⟨⟨0, 0, ByteArray.empty, 0, false⟩⟩
      obtain ⟨T, hT⟩ := Deep.choose_lt each
      have hc0 := (hT 0 (by omega)).1.1
      obtain ⟨blk, off, spot⟩ := x
      have hspot : spot = none := by
        have := World.cell?_spot hc0
        simpa [Addr.add] using this
      subst hspot
      have hblk : blk < W.heap.size := by
        have := World.block_lt_of_cell? W _ hc0
        simpa [Addr.add] using this
      have hadd : ∀ j, (⟨blk, off, none⟩ : Addr).add j = ⟨blk, off + j, none⟩ := by intro j; unfold Addr.add; split <;> simp_all
      refine ⟨T, hl, hm, .inr ⟨blk, off, rfl, hblk, fun i hi => ⟨?_, (hT i hi).2⟩⟩⟩
      have h5 := (hT i hi).1
      simp only [hadd] at h5
      simpa only [Nat.add_assoc] using h5

end Go.Proofs.Ytccbmppmnddkpaa
