/-
  Arguments of these laws, from their reading to plain ranges and lists of texts; texts owned and appended.
-/
import Derived.Test.YtagcenfjdjaaaaaCuOpen0
import Derived.Test.YtagcenfjdjaaaaaSSplit
import Derived.Laws.AppendOwnNone
namespace Go.Proofs.Ytagcenfjdjaaaaa
open Go.ChangeShapes Go.WideShapes Go.ChangeAt Go.RowKit
set_option linter.unusedVariables false

theorem cellsRg : Try.prog.cellsOf 23 = 3 := by kernel_rfl
theorem cellsStr : Try.prog.cellsOf 9 = 1 := by kernel_rfl
theorem bytesStr : Try.prog.bytesOf 9 = 16 := by kernel_rfl
theorem infoStr : (Try.prog.info? 9).map (fun i => (i.zero, i.size, i.bytes)) = some (some (.string ⟨#[]⟩), 1, 16) := by kernel_rfl
theorem infoStr_parts : ∃ i, Try.prog.info? 9 = some i ∧ i.zero = some (.string ⟨#[]⟩) ∧ i.size = 1 ∧ i.bytes = 16 := by
  have h := infoStr
  cases hi : Try.prog.info? 9 with
  | none => rw [hi] at h; cases h
  | some i =>
    rw [hi] at h
    simp only [Option.map_some, Option.some.injEq, Prod.mk.injEq] at h
    exact ⟨i, rfl, h.1, h.2.1, h.2.2⟩

set_option maxHeartbeats 1000000 in
theorem strs_open {H : Type} {enc : TypeId × Value → H} {W : World} {fuel : Nat} {a : Option Addr} {len cap : Nat} {d : DataW H} {ps : List MemPlace}
    (hf : DataW.trod enc Try.prog W 0 (fun _ => true) true fuel 24 [.slice a len cap] = some (d, ps)) (hz : ∀ n ∈ d.weights Try.prog 24, n ≤ reachBytes) : ∃ T, StrsIn W.heap.size W a len cap T ∧ len * 16 ≤ 140737488351232 ∧ ((a = none ∧ len = 0 ∧ cap = 0) ∨ ∃ x, a = some x) := by
  rcases Deep.open_slice Try.underlying24 hf with ⟨hcs, _⟩ | ⟨x, l, c, m, n, D, Pl, hcs, hb, hl, hm, hmm, hx, hel⟩
  · simp only [List.cons.injEq, Value.slice.injEq, and_true] at hcs
    obtain ⟨rfl, rfl, rfl⟩ := hcs
    exact ⟨fun _ => ByteArray.empty, ⟨Nat.le_refl _, by omega, .inl rfl⟩, by omega, .inl ⟨rfl, rfl, rfl⟩⟩
  · simp only [List.cons.injEq, Value.slice.injEq, and_true] at hcs
    obtain ⟨rfl, rfl, rfl⟩ := hcs
    simp only [Prod.mk.injEq] at hx
    have hd := hx.1
    simp only [if_true] at hmm
    subst hmm
    rw [cellsStr] at hel
    have each : ∀ i, i < len → ∃ t : ByteArray, W.cell? (x.add i) = some (.string t) := by
      intro i hi
      obtain ⟨cs', h1, h2⟩ := hel i (by omega)
      obtain ⟨_, hlen, hcell⟩ := World.cells?_some h1
      match cs', hlen with
      | [v0], _ =>
        obtain ⟨a0, e0, f0, w0⟩ := DataW.trod_string Try.underlying9 h2
        simp only [List.cons.injEq, and_true] at e0
        subst e0
        have c0 := hcell 0 (by omega)
        rw [Deep.add_add] at c0
        exact ⟨a0, by simpa using c0⟩
    have hbytes : len * 16 ≤ 140737488351232 := by
      have hw := hz _ (by rw [hd]; simp only [DataW.weights, Try.underlying24]; exact List.mem_cons_self)
      rw [bytesStr] at hw
      simp only [List.length_map, List.length_range] at hw
      have e : reachBytes = 140737488351232 := rfl
      omega
    by_cases h0 : len = 0
    · exact ⟨fun _ => ByteArray.empty, ⟨hl, by omega, .inl h0⟩, hbytes, .inr ⟨_, rfl⟩⟩
    · letI : Inhabited ByteArray := ⟨ByteArray.empty⟩
      obtain ⟨T, hT⟩ := Deep.choose_lt each
      have hc0 := (hT 0 (by omega))
      obtain ⟨blk, off, spot⟩ := x
      have hspot : spot = none := by
        have := World.cell?_spot hc0
        simpa [Addr.add] using this
      subst hspot
      have hblk : blk < W.heap.size := by
        have := World.block_lt_of_cell? W _ hc0
        simpa [Addr.add] using this
      have hadd : ∀ j, (⟨blk, off, none⟩ : Addr).add j = ⟨blk, off + j, none⟩ := by intro j; unfold Addr.add; split <;> simp_all
      refine ⟨T, ⟨hl, by omega, .inr ⟨blk, off, rfl, hblk, fun i hi => ?_⟩⟩, hbytes, .inr ⟨_, rfl⟩⟩
      have h5 := hT i hi
      simpa only [hadd] using h5

/-- Some texts as cells. -/
def strCells (bs : List ByteArray) : List Value := bs.map Value.string

/-- The first n texts of a list. -/
def strUpto (S : Nat → ByteArray) (n : Nat) : List ByteArray := (List.range n).map S

theorem strUpto_len (S : Nat → ByteArray) (n : Nat) : (strUpto S n).length = n := by simp [strUpto]

theorem strs_of_row {w : World} {B n₀ : Nat} {a : Option Addr} {n cap : Nat} {bs : List ByteArray} (h : w.ownsRow B 9 1 (.slice a n cap) n (strCells bs)) (hn : w.heap.size ≤ n₀) (hb : n * 16 ≤ 281474976710656) : StrsIn n₀ w a n cap (fun i => bs.getD i ByteArray.empty) := by
  obtain ⟨hl, ⟨h1, h2⟩ | ⟨g, cap', cur, h1, h2, h3, h4, h5, h6, h7⟩⟩ := h
  · cases h1; exact ⟨Nat.le_refl _, by omega, .inl rfl⟩
  · cases h1
    refine ⟨h4, hb, .inr ⟨g, 0, rfl, Nat.lt_of_lt_of_le (lies h3) hn, fun i hi => ?_⟩⟩
    have hcell : w.cell? ⟨g, 0 + i, none⟩ = cur[i]? := by
      simp [World.cell?, h3]
    rw [hcell]
    have e : (cur.toList.take (n * 1))[i]? = cur[i]? := by
      rw [List.getElem?_take, if_pos (by omega)]; simp
    rw [← e, h7]
    have hbl : bs.length = n := by simpa [strCells] using hl
    simp [strCells, List.getD, List.getElem?_eq_getElem (show i < bs.length by omega)]

theorem strs_cells {w : World} {n₀ : Nat} {y : Addr} {len cap : Nat} {S : Nat → ByteArray} (h : StrsIn n₀ w (some y) len cap S) : ∀ j u, (strCells (strUpto S len))[j]? = some u → w.cell? (y.add j) = some u := by
  intro j u hu
  obtain ⟨h1, h2, h3⟩ := h
  rcases h3 with h3 | ⟨b, off, e, hb, hc⟩
  · subst h3; simp [strCells, strUpto] at hu
  · cases e
    have hadd : ∀ j, (⟨b, off, none⟩ : Addr).add j = ⟨b, off + j, none⟩ := by intro j; unfold Addr.add; split <;> simp_all
    rw [hadd]
    have hj : j < len := by
      have := (List.getElem?_eq_some_iff.1 hu).1
      simpa [strCells, strUpto] using this
    rw [hc j hj]
    simp [strCells, strUpto, hj] at hu
    rw [hu]

/-- Texts appended to owned ones. -/
theorem append_strs {w : World} {ops : Array Oper} {rest : List Oper} {o : Oper} {act : Act} {Q : Exit → Act → World → Prop} (hgd : o.guard = none) (s x : Operand)
    (ho : o.op = .call { callee := .builtin .append, args := #[s, x], argTypes := #[24, 24] })
    (B : Nat) (v : Value) (n : Nat) (bs : List ByteArray) (hs : act.eval s = v) (hown : w.ownsRow B 9 1 v n (strCells bs))
    (a : Option Addr) (len cap : Nat) (S : Nat → ByteArray) (hx : act.eval x = .slice a len cap) (hL : StrsIn w.heap.size w a len cap S)
    (hform : (a = none ∧ len = 0 ∧ cap = 0) ∨ ∃ y, a = some y) (hlen : (n + len) * 16 ≤ 140737488355328) (hB : B ≤ w.heap.size)
    (h : ∀ a' cap' w', w'.ownsRow B 9 1 (.slice a' (n + len) cap') (n + len) (strCells (bs ++ strUpto S len)) → Below B w w' → wpList Try.prog ops Q rest (act.put o.dst (.slice a' (n + len) cap')) w') : wpList Try.prog ops Q (o :: rest) act w := by
  obtain ⟨i0, hi, hz0, hz1, hz2⟩ := infoStr_parts
  rcases hform with ⟨rfl, rfl, rfl⟩ | ⟨y, rfl⟩
  · refine wpList_append_own_none hgd s x _ ho B 9 i0 1 Try.underlying24 hi _ _ _ hs hown hx ?_
    have e : bs ++ strUpto S 0 = bs := by simp [strUpto]
    have h' := h
    rw [e] at h'
    obtain ⟨a', cap', rfl⟩ : ∃ a' cap', v = .slice a' n cap' := by
      rcases hown.2 with ⟨h1, h2⟩ | ⟨g, cap', cur, h1, _⟩
      · exact ⟨none, 0, by rw [h1, h2]⟩
      · exact ⟨_, _, h1⟩
    exact h' a' cap' w hown (Below.refl _ _)
  · have hone : ∀ u ∈ strCells (strUpto S len), u.oneCell' = true := by
      intro u hu
      simp only [strCells, List.mem_map] at hu
      obtain ⟨b, _, rfl⟩ := hu
      rfl
    refine wpList_append_own w hgd s x _ ho B 9 i0 (.string ⟨#[]⟩) 1 16 Try.underlying24 hi hz0 hz1 hz2 rfl (by decide) _ _ _ hs hown y len cap (strCells (strUpto S len)) hx (by simp [strCells, strUpto]) (strs_cells hL) hone (by unfold maxLen; omega) (by omega) hB ?_
    intro v' w' ho' hg _
    have hbel : Below B w w' := (Below.refl _ w).grown hg hB (fun k e => by
      rcases hown.2 with ⟨h1, _⟩ | ⟨g, cap', cur, h1, h2, _⟩
      · rw [h1] at e; cases e
      · rw [h1] at e; cases e; exact h2)
    have e : strCells bs ++ strCells (strUpto S len) = strCells (bs ++ strUpto S len) := by simp [strCells]
    rw [e] at ho'
    obtain ⟨a', cap', rfl⟩ : ∃ a' cap', v' = .slice a' (n + len) cap' := by
      rcases ho'.2 with ⟨h1, h2⟩ | ⟨g, cap', cur, h1, _⟩
      · exact ⟨none, 0, by rw [h1, h2]⟩
      · exact ⟨_, _, h1⟩
    exact h a' cap' w' ho' hbel


section
variable {H : Type} {enc : TypeId × Value → H} {W : World}

theorem open_rg {b0 : Nat} {sp : Nat → Bool} {held : Bool} {v : Value} {d : DataW H} {p : List MemPlace} (hv : Value.okWide Try.prog W .any b0 23 v) (h : DataW.Trod enc Try.prog W 0 sp held 23 v d p) :
    ∃ (lo hi : ByteArray) (op : Bool), v = .agg #[.string lo, .string hi, .bool op] ∧ d = .agg [.lit (.string lo.data.toList), .lit (.string hi.data.toList), .lit (.bool op)] ∧ p = [] ∧ lo.size ≤ maxLen ∧ hi.size ≤ maxLen := by
  obtain ⟨c0, c1, c2, y0, y1, y2, m, rfl, rfl, rfl, hy0, hy1, hy2⟩ := Joins.open_agg3 Try.underlying23 (by kernel_rfl) cellsRg hv h
  obtain ⟨lo, e0, rfl, w0⟩ := DataW.trod_string Try.underlying9 hy0
  obtain ⟨hi, e1, rfl, w1⟩ := DataW.trod_string Try.underlying9 hy1
  obtain ⟨op, e2, rfl⟩ := DataW.trod_bool Try.underlying4 hy2
  simp only [List.cons.injEq, and_true] at e0 e1 e2
  subst e0 e1 e2
  exact ⟨lo, hi, op, rfl, rfl, rfl, w0, w1⟩

theorem shut_rg {sp : Nat → Bool} {held : Bool} {lo hi : ByteArray} {op : Bool} (w0 : lo.size ≤ maxLen) (w1 : hi.size ≤ maxLen) :
    DataW.Trod enc Try.prog W 0 sp held 23 (.agg #[.string lo, .string hi, .bool op]) (.agg [.lit (.string lo.data.toList), .lit (.string hi.data.toList), .lit (.bool op)]) [] :=
  Joins.shut_agg3 (y0 := (.lit (.string lo.data.toList), [])) (y1 := (.lit (.string hi.data.toList), [])) (y2 := (.lit (.bool op), [])) Try.underlying23 (by kernel_rfl) cellsRg
    ⟨1, by simp [DataW.trod, Try.underlying9, w0]⟩ ⟨1, by simp [DataW.trod, Try.underlying9, w1]⟩ ⟨1, by simp [DataW.trod, Try.underlying4]⟩

end

end Go.Proofs.Ytagcenfjdjaaaaa
