/-
  A frame of its own spoilt: nothing below its memory is changed.
-/
import Derived.Test.YtoabncoigleiaaaBf9
import Derived.Test.YtoabncoigleiaaaBf10
namespace Go.Proofs.Ytoabncoigleiaaa
open Go.RowKit
set_option linter.unusedVariables false
theorem op_append_oneE {w : World} {o : Oper} {act : Act} {K : Act → World → Prop} {Q : Exit → Act → World → Prop} (s x : Operand)
    (ho : o.op = .call { callee := .builtin .append, args := #[s, x], argTypes := #[49, 49] })
    (B n g0 c0 : Nat) (xs : List Value) (hs : act.eval s = .slice (some ⟨g0, 0, none⟩) n c0) (hA : w.ownsRow B 55 5 (.slice (some ⟨g0, 0, none⟩) n c0) n xs) (b c : Nat) (cs : Array Value) (hx : act.eval x = .slice (some ⟨b, 0, none⟩) 1 c)
    (hb : w.heap[b]? = some (.cells cs 55 (0, 0))) (hl : cs.toList.length = 1 * 5) (h1c : ∀ u ∈ cs.toList, u.oneCell' = true) (hlen : (n + 1) * 56 ≤ 140737488351232) (hB : B ≤ w.heap.size)
    (h : ∀ g cap w', (∃ ys, w'.ownsRow B 55 5 (.slice (some ⟨g, 0, none⟩) (n + 1) cap) (n + 1) ys) → w.grownBy w' (some g0) → (g = g0 ∨ w.heap.size ≤ g) → K (act.put o.dst (.slice (some ⟨g, 0, none⟩) (n + 1) cap)) w') : o.wp Try.prog act w K Q := by
  obtain ⟨i0, hi, hz0, hz1, hz2⟩ := info_parts infoEnt
  have hc : ∀ j u, cs.toList[j]? = some u → w.cell? ((⟨b, 0, none⟩ : Addr).add j) = some u := World.news_of_block (cs := cs) (t := 55) (fr := (0, 0)) hb
  by_cases hroom : n + 1 ≤ c0
  · obtain ⟨w', hrun, r1, r2⟩ := run_append_fits (P := Try.prog) w B 49 o.type 55 i0 5 Try.underlying49 hi hz1 g0 n c0 xs hA ⟨b, 0, none⟩ 1 c cs.toList hl hc h1c hroom
    unfold Oper.wp
    simp [execOp, ho, resolve, invoke, builtin, hs, hx, hrun, Result.andThen]
    exact h g0 c0 w' ⟨_, r1⟩ r2 (.inl rfl)
  · have hl0 : xs.length = n * 5 := hA.1
    obtain ⟨v', w', hrun, r1, r2⟩ := run_append_arg_grows (P := Try.prog) w 49 o.type 55 i0 _ 5 56 Try.underlying49 hi hz0 hz1 hz2 rfl (by decide) ⟨g0, 0, none⟩ n c0 xs hl0 (fun j u hj => by
      have hjl : j < n * 5 := by rw [← hl0]; exact (List.getElem?_eq_some_iff.1 hj).1
      rw [Addr.add_lit, Nat.zero_add, hA.cellAt j (by omega)]
      exact hj) ⟨b, 0, none⟩ 1 c cs.toList hl hc (by omega) (by unfold maxLen; omega) (by omega)
    unfold Oper.wp
    simp [execOp, ho, resolve, invoke, builtin, hs, hx, hrun, Result.andThen]
    rcases r1.2 with ⟨h1, h2⟩ | ⟨g, cap', cur, rfl, hge, _⟩
    · omega
    · obtain ⟨k1, k2, k3, k4, k5⟩ := r2
      exact h g cap' w' ⟨_, own_low r1 hB⟩ ⟨k1, k2, k3, k4, fun k hk _ => k5 k hk (by simp)⟩ (.inr hge)
theorem op_append_oneP {w : World} {o : Oper} {act : Act} {K : Act → World → Prop} {Q : Exit → Act → World → Prop} (s x : Operand)
    (ho : o.op = .call { callee := .builtin .append, args := #[s, x], argTypes := #[24, 24] })
    (B n g0 c0 : Nat) (xs : List Value) (hs : act.eval s = .slice (some ⟨g0, 0, none⟩) n c0) (hA : w.ownsRow B 51 8 (.slice (some ⟨g0, 0, none⟩) n c0) n xs) (b c : Nat) (cs : Array Value) (hx : act.eval x = .slice (some ⟨b, 0, none⟩) 1 c)
    (hb : w.heap[b]? = some (.cells cs 51 (0, 0))) (hl : cs.toList.length = 1 * 8) (h1c : ∀ u ∈ cs.toList, u.oneCell' = true) (hlen : (n + 1) * 96 ≤ 140737488351232) (hB : B ≤ w.heap.size)
    (h : ∀ g cap w', (∃ ys, w'.ownsRow B 51 8 (.slice (some ⟨g, 0, none⟩) (n + 1) cap) (n + 1) ys) → w.grownBy w' (some g0) → (g = g0 ∨ w.heap.size ≤ g) → K (act.put o.dst (.slice (some ⟨g, 0, none⟩) (n + 1) cap)) w') : o.wp Try.prog act w K Q := by
  obtain ⟨i0, hi, hz0, hz1, hz2⟩ := info_parts infoPart
  have hc : ∀ j u, cs.toList[j]? = some u → w.cell? ((⟨b, 0, none⟩ : Addr).add j) = some u := World.news_of_block (cs := cs) (t := 51) (fr := (0, 0)) hb
  by_cases hroom : n + 1 ≤ c0
  · obtain ⟨w', hrun, r1, r2⟩ := run_append_fits (P := Try.prog) w B 24 o.type 51 i0 8 Try.underlying24 hi hz1 g0 n c0 xs hA ⟨b, 0, none⟩ 1 c cs.toList hl hc h1c hroom
    unfold Oper.wp
    simp [execOp, ho, resolve, invoke, builtin, hs, hx, hrun, Result.andThen]
    exact h g0 c0 w' ⟨_, r1⟩ r2 (.inl rfl)
  · have hl0 : xs.length = n * 8 := hA.1
    obtain ⟨v', w', hrun, r1, r2⟩ := run_append_arg_grows (P := Try.prog) w 24 o.type 51 i0 _ 8 96 Try.underlying24 hi hz0 hz1 hz2 rfl (by decide) ⟨g0, 0, none⟩ n c0 xs hl0 (fun j u hj => by
      have hjl : j < n * 8 := by rw [← hl0]; exact (List.getElem?_eq_some_iff.1 hj).1
      rw [Addr.add_lit, Nat.zero_add, hA.cellAt j (by omega)]
      exact hj) ⟨b, 0, none⟩ 1 c cs.toList hl hc (by omega) (by unfold maxLen; omega) (by omega)
    unfold Oper.wp
    simp [execOp, ho, resolve, invoke, builtin, hs, hx, hrun, Result.andThen]
    rcases r1.2 with ⟨h1, h2⟩ | ⟨g, cap', cur, rfl, hge, _⟩
    · omega
    · obtain ⟨k1, k2, k3, k4, k5⟩ := r2
      exact h g cap' w' ⟨_, own_low r1 hB⟩ ⟨k1, k2, k3, k4, fun k hk _ => k5 k hk (by simp)⟩ (.inr hge)
/-- A frame of its own in its box, as long as it is spoilt: E tells the lists of entries, from number i0 on. -/
structure SpW (w0 w : World) (B fb g n cp : Nat) (cs : Array Value) (E : Nat → Nat × Nat × Nat) (i0 : Nat) : Prop where
  box : w.heap[fb]? = some (.cells cs 26 (0, 0))
  low : Below B w0 w
  row : ∃ xs, w.ownsRow B 51 8 (.slice (some ⟨g, 0, none⟩) n cp) n xs
  cell : ∀ i, i0 ≤ i → i < n → w.cell? ⟨g, i * 8 + 7, none⟩ = some (.slice (some ⟨(E i).1, 0, none⟩) (E i).2.1 (E i).2.2)
  ent : ∀ i, i0 ≤ i → i < n → ∃ xs, w.ownsRow B 55 5 (.slice (some ⟨(E i).1, 0, none⟩) (E i).2.1 (E i).2.2) (E i).2.1 xs
  apart : ∀ i k, i < n → k < n → i ≠ k → (E i).1 ≠ (E k).1
section
variable {w0 w w' : World} {B fb g n cp i0 : Nat} {cs : Array Value} {E : Nat → Nat × Nat × Nat}
theorem SpW.lt (h : SpW w0 w B fb g n cp cs E i0) : B ≤ g ∧ g < w.heap.size := by obtain ⟨xs, hr⟩ := h.row; exact hr.lt g rfl
theorem SpW.on (h : SpW w0 w B fb g n cp cs E i0) (b : Below w.heap.size w w') : SpW w0 w' B fb g n cp cs E i0 :=
  ⟨blk_on h.box b, h.low.trans (b.mono (by have := h.lt; omega)), by obtain ⟨xs, hr⟩ := h.row; exact ⟨xs, own_on hr b⟩, fun i h1 h2 => cell_in (h.cell i h1 h2) b, fun i h1 h2 => by obtain ⟨xs, hr⟩ := h.ent i h1 h2; exact ⟨xs, own_on hr b⟩, h.apart⟩
theorem SpW.skip (h : SpW w0 w B fb g n cp cs E i0) {i1 : Nat} (hi : i0 ≤ i1) : SpW w0 w B fb g n cp cs E i1 :=
  ⟨h.box, h.low, h.row, fun i h1 h2 => h.cell i (by omega) h2, fun i h1 h2 => h.ent i (by omega) h2, h.apart⟩
theorem SpW.g_fb (h : SpW w0 w B fb g n cp cs E i0) : g ≠ fb := by obtain ⟨xs, hr⟩ := h.row; exact own_blk hr h.box (by decide)
theorem SpW.e_fb (h : SpW w0 w B fb g n cp cs E i0) {i : Nat} (h1 : i0 ≤ i) (h2 : i < n) : (E i).1 ≠ fb := by obtain ⟨xs, hr⟩ := h.ent i h1 h2; exact own_blk hr h.box (by decide)
theorem SpW.e_g (h : SpW w0 w B fb g n cp cs E i0) {i : Nat} (h1 : i0 ≤ i) (h2 : i < n) : (E i).1 ≠ g := by
  obtain ⟨xs, hr⟩ := h.ent i h1 h2
  obtain ⟨ys, hs⟩ := h.row
  intro e
  rw [e] at hr
  exact absurd (own_type hr hs) (by decide)
theorem SpW.at (h : SpW w0 w B fb g n cp cs E i0) {i k : Nat} (hi : i < n) (hk : k < 8) : (∃ u, w.cell? ⟨g, i * 8 + k, none⟩ = some u) ∧ w.frozen? ⟨g, i * 8 + k, none⟩ = false := by
  obtain ⟨xs, hr⟩ := h.row
  have hx : i * 8 + k < xs.length := by rw [hr.1]; omega
  exact ⟨⟨xs[i * 8 + k], by rw [hr.cellAt _ (by omega)]; exact List.getElem?_eq_getElem hx⟩, hr.frozenAt _⟩
theorem SpW.key (h : SpW w0 w B fb g n cp cs E i0) {i k : Nat} (h1 : i0 ≤ i) (h2 : i < n) (hk : k < (E i).2.1) : (∃ u, w.cell? ⟨(E i).1, k * 5, none⟩ = some u) ∧ w.frozen? ⟨(E i).1, k * 5, none⟩ = false := by
  obtain ⟨xs, hr⟩ := h.ent i h1 h2
  have hx : k * 5 < xs.length := by rw [hr.1]; omega
  exact ⟨⟨xs[k * 5], by rw [hr.cellAt _ (by omega)]; exact List.getElem?_eq_getElem hx⟩, hr.frozenAt _⟩
theorem SpW.setg (h : SpW w0 w B fb g n cp cs E i0) (i k : Nat) (hk : k < 7) (u : Value) : SpW w0 (w.setCell ⟨g, i * 8 + k, none⟩ u) B fb g n cp cs E i0 :=
  ⟨set_far1 h.box (fun e => h.g_fb e.symm) _ _, h.low.setCell (p := ⟨g, i * 8 + k, none⟩) h.lt.1 u, by obtain ⟨xs, hr⟩ := h.row; exact ⟨_, (hr.stored (i * 8 + k) u).1⟩,
    fun i' h1 h2 => by
      obtain ⟨xs, hr⟩ := h.row
      have hs := (hr.stored (i * 8 + k) u).1
      have hc := h.cell i' h1 h2
      rw [hr.cellAt _ (by omega)] at hc
      rw [hs.cellAt _ (by omega), List.getElem?_set_ne (by omega)]
      exact hc,
    fun i' h1 h2 => by obtain ⟨xs, hr⟩ := h.ent i' h1 h2; exact ⟨xs, own_apartF hr (fun e => h.e_g h1 h2 e.symm) u⟩, h.apart⟩
theorem SpW.sete (h : SpW w0 w B fb g n cp cs E i0) {i : Nat} (h1 : i0 ≤ i) (h2 : i < n) (k : Nat) (u : Value) : SpW w0 (w.setCell ⟨(E i).1, k, none⟩ u) B fb g n cp cs E i0 :=
  ⟨set_far1 h.box (fun e => h.e_fb h1 h2 e.symm) _ _, h.low.setCell (p := ⟨(E i).1, k, none⟩) (by obtain ⟨xs, hr⟩ := h.ent i h1 h2; exact (hr.lt _ rfl).1) u, by obtain ⟨xs, hr⟩ := h.row; exact ⟨_, own_apartF hr (h.e_g h1 h2) u⟩,
    fun i' h3 h4 => (World.cell?_setCell_far _ _ _ _ (h.e_g h1 h2)).trans (h.cell i' h3 h4),
    fun i' h3 h4 => by
      obtain ⟨xs, hr⟩ := h.ent i' h3 h4
      by_cases e : i = i'
      · subst e
        exact ⟨_, (hr.stored k u).1⟩
      · exact ⟨xs, own_apartF hr (h.apart i i' h2 h4 e) u⟩, h.apart⟩
theorem SpW.grown (h : SpW w0 w B fb g n cp cs E i0) {r : Nat} (hg : w.grownBy w' (some r)) (hr0 : B ≤ r) (h1 : fb ≠ r) (h2 : g ≠ r) (h3 : ∀ i, i0 ≤ i → i < n → (E i).1 ≠ r) : SpW w0 w' B fb g n cp cs E i0 :=
  ⟨blk_grown h.box hg h1, h.low.grown hg (by have := h.lt; omega) (fun k hk => by cases hk; exact hr0), by obtain ⟨xs, hr⟩ := h.row; exact ⟨xs, own_grown hr hg h2⟩,
    fun i h4 h5 => by
      obtain ⟨xs, hr⟩ := h.row
      have hc := h.cell i h4 h5
      rw [hr.cellAt _ (by omega)] at hc
      rw [(own_grown hr hg h2).cellAt _ (by omega)]
      exact hc,
    fun i h4 h5 => by obtain ⟨xs, hr⟩ := h.ent i h4 h5; exact ⟨xs, own_grown hr hg (h3 i h4 h5)⟩, h.apart⟩
end
/-- Where the lists of entries of a frame's parts lie. -/
def entsAt (P : Nat → Pm) (i : Nat) : Nat × Nat × Nat := ((match (P i).ea with | some a => a.block | none => 0), (P i).el, (P i).ec)
theorem OwnF.spoils {w0 w : World} {B fb g n cp : Nat} {cs : Array Value} {P : Nat → Pm} (h : OwnF w B g n cp P) (hb : w.heap[fb]? = some (.cells cs 26 (0, 0))) (hl : Below B w0 w) : SpW w0 w B fb g n cp cs (entsAt P) 0 :=
  ⟨hb, hl, ⟨_, h.row⟩, fun i _ hi => by
      obtain ⟨ge, k1, k2⟩ := h.ent i hi
      obtain ⟨-, -, -, -, -, -, -, c7⟩ := rowP_cells h.row (i := i) (by rw [firstP_len]; omega)
      rw [firstP_nth P hi] at c7
      unfold entsAt
      rw [c7, k1],
    fun i _ hi => by
      obtain ⟨ge, k1, k2⟩ := h.ent i hi
      unfold entsAt
      rw [k1]
      exact ⟨_, k2⟩,
    fun i k hi hk hne e => by
      obtain ⟨g1, k1, -⟩ := h.ent i hi
      obtain ⟨g2, k2, -⟩ := h.ent k hk
      unfold entsAt at e
      rw [k1, k2] at e
      exact h.apart i k hi hk hne (by rw [k1, k2, show g1 = g2 from e])⟩
set_option maxHeartbeats 6400000 in
set_option maxRecDepth 100000 in
theorem spoil_any (fr tz o l n tn : Int) (B g len cp : Nat) (P : Nat → Pm) (w : World) (h : OwnF w B g len cp P) (hz : len ≤ 536870912) (hel : ∀ i, i < len → (P i).el ≤ 536870912) :
    Calls Try.prog 15 #[.agg #[.int .i64 fr, .int .i64 tz, .int .i64 o, .int .i64 l, .int .i64 n, .int .i64 tn, .slice (some ⟨g, 0, none⟩) len cp]] w fun e w' => e = .returned (.tuple #[]) ∧ Below B w w' := by
  have HZ := aside hz
  have HEL := aside (show ∀ i, i < len → (entsAt P i).2.1 ≤ 536870912 from hel)
  have hmx : (len : Int) ≤ 9223372036854775807 := by omega
  have bn := bnew w (.cells #[.int .i64 fr, .int .i64 tz, .int .i64 o, .int .i64 l, .int .i64 n, .int .i64 tn, .slice (some ⟨g, 0, none⟩) len cp] 26)
  have SP0 := aside ((h.on bn).spoils (heap_alloc_new w (.cells #[.int .i64 fr, .int .i64 tz, .int .i64 o, .int .i64 l, .int .i64 n, .int .i64 tn, .slice (some ⟨g, 0, none⟩) len cp] 26)) (bn.mono (by have := h.lts.1; omega)))
  obtain ⟨E, hE⟩ : ∃ E, entsAt P = E := ⟨_, rfl⟩
  rw [hE] at HEL SP0
  clear hE h hz hel bn
  go_enter Try.func15, Try.ntmps15
  go_upto_region 1 with fail
  obtain ⟨fb, hfb⟩ : ∃ fb, w.heap.size = fb := ⟨_, rfl⟩
  rw [hfb] at SP0 ⊢
  clear hfb
  generalize w.alloc (.cells #[.int .i64 fr, .int .i64 tz, .int .i64 o, .int .i64 l, .int .i64 n, .int .i64 tn, .slice (some ⟨g, 0, none⟩) len cp] 26) = X0 at SP0 ⊢
  go_wp2
  go_loopw [2] (fun i wr => ∃ j : Nat, i = .int .i64 (j : Int) ∧ j ≤ len ∧ Hid (SpW w wr B fb g len cp #[.int .i64 fr, .int .i64 tz, .int .i64 o, .int .i64 l, .int .i64 n, .int .i64 tn, .slice (some ⟨g, 0, none⟩) len cp] E j)) (fun i _ => len - (intOf i).toNat)
  case atStart => exact ⟨0, rfl, Nat.zero_le _, SP0⟩
  case round =>
    clear SP0
    obtain ⟨j, rfl, hj, SP⟩ := hrel
    obtain ⟨f0, f1, f2, f3, f4, f5, f6⟩ := sep7 SP.out.box
    by_cases hlt : (j : Int) < (len : Int)
    · have hltn : j < len := by omega
      have hj0 : (0 : Int) ≤ (j : Int) := by omega
      have c7 := SP.out.cell j (Nat.le_refl _) hltn
      have hel := HEL.out j hltn
      obtain ⟨xe, hr⟩ := SP.out.ent j (Nat.le_refl _) hltn
      have hec := (row_max hr).1
      have hecm := (row_max hr).2
      unfold maxLen at hecm
      clear hr xe
      obtain ⟨q, hq⟩ : ∃ q, E j = q := ⟨_, rfl⟩
      have HQ := aside hq
      rw [hq] at c7 hel hec hecm
      clear hq
      obtain ⟨ge, el, ec⟩ := q
      dsimp only at c7 hel hec hecm
      have hem : (el : Int) ≤ 9223372036854775807 := by omega
      go_upto_region 4 with fail
      go_wp2
      clear f0 f1 f2 f3 f4 f5 f6 c7
      go_loopw [3] (fun k wr => ∃ m : Nat, k = .int .i64 (m : Int) ∧ m ≤ el ∧ Hid (SpW w wr B fb g len cp #[.int .i64 fr, .int .i64 tz, .int .i64 o, .int .i64 l, .int .i64 n, .int .i64 tn, .slice (some ⟨g, 0, none⟩) len cp] E j)) (fun k _ => el - (intOf k).toNat)
      case atStart => exact ⟨0, rfl, Nat.zero_le _, SP⟩
      case round =>
        clear SP
        obtain ⟨m, rfl, hm, SP⟩ := hrel
        obtain ⟨f0, f1, f2, f3, f4, f5, f6⟩ := sep7 SP.out.box
        have c7 := SP.out.cell j (Nat.le_refl _) hltn
        rw [HQ.out] at c7
        by_cases hlt2 : (m : Int) < (el : Int)
        · have hm0 : (0 : Int) ≤ (m : Int) := by omega
          have hky := SP.out.key (i := j) (k := m) (Nat.le_refl _) hltn (by rw [HQ.out]; exact (show m < el by omega))
          rw [HQ.out] at hky
          dsimp only at hky
          obtain ⟨⟨u, c0⟩, y0⟩ := hky
          have SN := aside (SP.out.sete (i := j) (Nat.le_refl _) hltn (m * 5) (.string ⟨#[115, 112, 111, 105, 108, 116]⟩))
          rw [HQ.out] at SN
          dsimp only at SN
          clear SP
          go_wp2
          go_roundw
          case rel => exact ⟨m + 1, by go_num, by omega, SN⟩
          case measure => simp [intOf]; omega
        · go_wp2
          clear f0 f1 f2 f3 f4 f5 f6 c7
          have OW0 := aside (SP.out.ent j (Nat.le_refl _) hltn)
          rw [HQ.out] at OW0
          have AP0 := aside (fun i (h1 : j + 1 ≤ i) (h2 : i < len) => (show (E i).1 ≠ ge from fun e => SP.out.apart i j h2 hltn (by omega) (by rw [e, HQ.out])))
          have SP1 := aside (SP.out.skip (Nat.le_succ j))
          clear SP
          go_loopw [4, 5] (fun vl k wr => ∃ m g2 c2 : Nat, vl = .slice (some ⟨g2, 0, none⟩) (el + m) c2 ∧ k = .int .i64 (m : Int) ∧ m ≤ 3 ∧ Hid (∃ xs, wr.ownsRow B 55 5 (.slice (some ⟨g2, 0, none⟩) (el + m) c2) (el + m) xs) ∧ Hid (∀ i, j + 1 ≤ i → i < len → (E i).1 ≠ g2) ∧ Hid (SpW w wr B fb g len cp #[.int .i64 fr, .int .i64 tz, .int .i64 o, .int .i64 l, .int .i64 n, .int .i64 tn, .slice (some ⟨g, 0, none⟩) len cp] E (j + 1))) (fun vl k _ => 3 - (intOf k).toNat)
          case atStart => exact ⟨0, ge, ec, rfl, rfl, by omega, OW0, AP0, SP1⟩
          case round =>
            clear OW0 AP0 SP1
            obtain ⟨m, g2, c2, rfl, rfl, hm3, OW, AP, SP⟩ := hrel
            by_cases hlt3 : (m : Int) < 3
            · have bn := bnew wr (.cells #[.string ⟨#[103, 114, 111, 119, 110]⟩, .int .i64 0, .int .i64 0, .string ⟨#[]⟩, .bool false] 55)
              have KN := aside (heap_alloc_new wr (.cells #[.string ⟨#[103, 114, 111, 119, 110]⟩, .int .i64 0, .int .i64 0, .string ⟨#[]⟩, .bool false] 55))
              have SPn := aside (SP.out.on bn)
              obtain ⟨xs, hown⟩ := OW.out
              have ON := aside (own_on hown bn)
              have HLT := aside (show g2 < wr.heap.size from (hown.lt g2 rfl).2)
              have HBL := aside (show B ≤ (wr.alloc (.cells #[.string ⟨#[103, 114, 111, 119, 110]⟩, .int .i64 0, .int .i64 0, .string ⟨#[]⟩, .bool false] 55)).heap.size from by have := SPn.out.lt; omega)
              clear hown bn OW SP
              go_wp2_with (at_builtin; refine wpList_plain rfl fun K hK => op_append_oneE _ _ rfl B (el + m) g2 c2 xs (by rfl) ON.out wr.heap.size 1 _ (by rfl) KN.out (by rfl) (by decide) (by omega) HBL.out ?_; intro g3 c3 w3 own3 gr3 hg3; refine hK _ _ ?_; refine Hid.out ?_)
              refine aside ?_
              have OW3 := aside own3
              have AP3 := aside (fun i (h1 : j + 1 ≤ i) (h2 : i < len) => (show (E i).1 ≠ g3 from fun e => by
                rcases hg3 with h | h
                · exact AP.out i h1 h2 (e.trans h)
                · obtain ⟨ys, hr⟩ := SPn.out.ent i h1 h2
                  have := (hr.lt (E i).1 rfl).2
                  omega))
              have SP3 := aside (SPn.out.grown gr3 (ON.out.lt g2 rfl).1 (fun e => own_blk ON.out SPn.out.box (by decide) e.symm) (fun e => by obtain ⟨ys, hr⟩ := SPn.out.row; rw [e] at hr; exact absurd (own_type ON.out hr) (by decide)) AP.out)
              clear own3 gr3 hg3 KN SPn ON HLT HBL AP
              go_wp2
              go_roundw
              case rel => exact ⟨m + 1, g3, c3, by first | rfl | (congr 1), by go_num, by omega, OW3, AP3, SP3⟩
              case measure => simp [intOf]; omega
            · obtain ⟨f0, f1, f2, f3, f4, f5, f6⟩ := sep7 SP.out.box
              obtain ⟨⟨u0, c0⟩, y0⟩ := SP.out.at (i := j) (k := 0) hltn (by omega)
              have SPa := aside (SP.out.setg j 0 (by omega) (.int .i64 79))
              obtain ⟨⟨u1, c1⟩, y1⟩ := SPa.out.at (i := j) (k := 1) hltn (by omega)
              obtain ⟨a0, a1, a2, a3, a4, a5, a6⟩ := sep7 SPa.out.box
              have SPb := aside (SPa.out.setg j 1 (by omega) (.string ⟨#[115, 112, 111, 105, 108, 116]⟩))
              clear OW AP SP SPa
              simp only [Nat.add_zero] at c0 y0 c1 y1 a0 a1 a2 a3 a4 a5 a6 SPb
              go_wp2
              go_roundw
              case rel => exact ⟨j + 1, by go_num, by omega, SPb⟩
              case measure => simp [intOf]; omega
    · have hjl : j = len := by omega
      subst hjl
      go_wp2
      clear f0 f1 f2 f3 f4 f5 f6
      have OW0 := aside SP.out.row
      have LW0 := aside SP.out.low
      have LB0 := aside (show B ≤ wr.heap.size from by have := SP.out.lt; omega)
      clear SP
      go_loopw [6, 7] (fun vl k wr => ∃ m g2 c2 : Nat, vl = .slice (some ⟨g2, 0, none⟩) (j + m) c2 ∧ k = .int .i64 (m : Int) ∧ m ≤ 3 ∧ Hid (∃ xs, wr.ownsRow B 51 8 (.slice (some ⟨g2, 0, none⟩) (j + m) c2) (j + m) xs) ∧ Hid (Below B w wr)) (fun vl k _ => 3 - (intOf k).toNat)
      case atStart => exact ⟨0, g, cp, rfl, rfl, by omega, OW0, LW0⟩
      case round =>
        clear OW0 LW0 LB0
        obtain ⟨m, g2, c2, rfl, rfl, hm3, OW, LW⟩ := hrel
        by_cases hlt3 : (m : Int) < 3
        · obtain ⟨xs, hown⟩ := OW.out
          have hlt4 := hown.lt g2 rfl
          have bn := bnew wr (.cells #[.int .i64 80, .string ⟨#[]⟩, .string ⟨#[]⟩, .bool false, .int .i64 0, .int .u64 0, .int .u64 0, .slice none 0 0] 51)
          have KN := aside (heap_alloc_new wr (.cells #[.int .i64 80, .string ⟨#[]⟩, .string ⟨#[]⟩, .bool false, .int .i64 0, .int .u64 0, .int .u64 0, .slice none 0 0] 51))
          have ON := aside (own_on hown bn)
          have LN := aside (LW.out.trans (bn.mono (show B ≤ wr.heap.size by omega)))
          have HBL := aside (show B ≤ (wr.alloc (.cells #[.int .i64 80, .string ⟨#[]⟩, .string ⟨#[]⟩, .bool false, .int .i64 0, .int .u64 0, .int .u64 0, .slice none 0 0] 51)).heap.size from by have := bn.size; omega)
          have HZ2 := HZ.out
          clear hown bn OW LW hlt4
          go_wp2_with (at_builtin; refine wpList_plain rfl fun K hK => op_append_oneP _ _ rfl B (j + m) g2 c2 xs (by rfl) ON.out wr.heap.size 1 _ (by rfl) KN.out (by rfl) (by decide) (by omega) HBL.out ?_; intro g3 c3 w3 own3 gr3 hg3; refine hK _ _ ?_; refine Hid.out ?_)
          refine aside ?_
          have OW3 := aside own3
          have LW3 := aside (LN.out.grown gr3 HBL.out (fun k hk => by cases hk; exact (ON.out.lt g2 rfl).1))
          clear own3 gr3 hg3 KN LN ON HBL HZ2
          go_wp2
          go_roundw
          case rel => exact ⟨m + 1, g3, c3, by first | rfl | (congr 1), by go_num, by omega, OW3, LW3⟩
          case measure => simp [intOf]; omega
        · go_wp2
          go_end0
          exact ⟨rfl, LW.out⟩
end Go.Proofs.Ytoabncoigleiaaa
