/-
  Lists of steps that a law keeps, cut at the front and grown; two bags side by side.
-/
import Derived.Test.YteaaamhojiognaaBgS
import Derived.ArgAppend
namespace Go.Proofs.Yteaaamhojiognaa
open Go.RowKit
set_option linter.unusedVariables false

def boV (t : Bo) : List Value := [.int .i64 t.kind, .int .i64 t.frm, .int .i64 t.dst, .int .i64 t.i, .slice t.da t.dl t.dc]
theorem boF : RowF boV 5 := ⟨fun _ => rfl, fun e u hu => by simp [boV] at hu; rcases hu with rfl | rfl | rfl | rfl | rfl <;> rfl, by decide⟩
theorem infoBo : (Try.prog.info? 34).map (fun i => (i.zero, i.size, i.bytes)) = some (some (.agg #[.int .i64 0, .int .i64 0, .int .i64 0, .int .i64 0, .slice none 0 0]), 5, 56) := by kernel_rfl

/-- A list of steps in memory that is ours, from B on; it may begin within its row. -/
structure WayAt (B : Nat) (W : World) (a : Option Addr) (n c : Nat) (l : List Bo) : Prop where
  len : l.length = n
  le : n ≤ c
  mx : c ≤ maxLen
  lies : (a = none ∧ n = 0 ∧ c = 0) ∨ ∃ g o cur, a = some ⟨g, o, none⟩ ∧ B ≤ g ∧ W.heap[g]? = some (.cells cur 34 (0, 0)) ∧ o + c * 5 ≤ cur.size ∧ ∀ j u, (rowC boV l)[j]? = some u → W.cell? ⟨g, o + j, none⟩ = some u
/-- The block that an append may turn. -/
def WayS (a : Option Addr) : Nat → Prop := fun k => ∃ x, a = some x ∧ x.block = k
theorem WayAt.keep {S : Nat → Prop} {B : Nat} {W W' : World} {a : Option Addr} {n c : Nat} {l : List Bo} (h : WayAt B W a n c l) (k : Keeps S W W') (hS : ∀ x, a = some x → ¬ S x.block) : WayAt B W' a n c l := by
  refine ⟨h.len, h.le, h.mx, ?_⟩
  rcases h.lies with h0 | ⟨g, o, cur, rfl, hb, hg, hs, hc⟩
  · exact .inl h0
  · have hn := hS _ rfl
    refine .inr ⟨g, o, cur, rfl, hb, blk_keep hg k hn, hs, fun j u hj => ?_⟩
    rw [k.cell (p := ⟨g, o + j, none⟩) (lt_of_blk hg) hn]
    exact hc j u hj
theorem WayAt.on {B : Nat} {W W' : World} {a : Option Addr} {n c : Nat} {l : List Bo} (h : WayAt B W a n c l) (b : Below W.heap.size W W') : WayAt B W' a n c l := by
  refine ⟨h.len, h.le, h.mx, ?_⟩
  rcases h.lies with h0 | ⟨g, o, cur, rfl, hb, hg, hs, hc⟩
  · exact .inl h0
  · exact .inr ⟨g, o, cur, rfl, hb, blk_on hg b, hs, fun j u hj => cell_inB (hc j u hj) b⟩
/-- Its block has its type. -/
theorem WayAt.typed {B : Nat} {W : World} {a : Option Addr} {n c : Nat} {l : List Bo} (h : WayAt B W a n c l) {i : Nat} {cs : Array Value} {T : TypeId} (hi : W.heap[i]? = some (.cells cs T (0, 0))) (hT : T ≠ 34) : ¬ WayS a i := by
  rintro ⟨x, hx, rfl⟩
  rcases h.lies with ⟨h0, -⟩ | ⟨g, o, cur, h1, hb, hg, -⟩
  · rw [h0] at hx; cases hx
  · rw [h1] at hx
    injection hx with hx
    subst hx
    rw [hg] at hi
    simp only [Option.some.injEq, Obj.cells.injEq] at hi
    exact hT hi.2.1.symm
theorem WayAt.ge {B : Nat} {W : World} {a : Option Addr} {n c : Nat} {l : List Bo} (h : WayAt B W a n c l) {k : Nat} (hk : WayS a k) : B ≤ k ∧ k < W.heap.size := by
  obtain ⟨x, hx, rfl⟩ := hk
  rcases h.lies with ⟨h0, -⟩ | ⟨g, o, cur, h1, hb, hg, -⟩
  · rw [h0] at hx; cases hx
  · rw [h1] at hx
    injection hx with hx
    subst hx
    exact ⟨hb, lt_of_blk hg⟩
theorem WayAt.of_own {B C : Nat} {W : World} {a : Option Addr} {n c : Nat} {l : List Bo} (h : W.ownsRow C 34 5 (.slice a n c) n (rowC boV l)) (hB : B ≤ C) : WayAt B W a n c l := by
  have hl := row_len boF h
  rcases h.2 with ⟨h1, h2⟩ | ⟨g, cap, cur, h1, h2, h3, h4, h5, h6, h7⟩
  · injection h1 with e1 e2 e3
    exact ⟨hl, by omega, by unfold maxLen; omega, .inl ⟨e1, e2, e3⟩⟩
  · injection h1 with e1 e2 e3
    subst e1 e3
    refine ⟨hl, h4, h5, .inr ⟨g, 0, cur, rfl, Nat.le_trans hB h2, h3, by omega, fun j u hj => ?_⟩⟩
    have hjl : j < (rowC boV l).length := (List.getElem?_eq_some_iff.1 hj).1
    rw [Nat.zero_add, h.cellAt j (by rw [h.1] at hjl; exact hjl)]
    exact hj
/-- The first one. -/
theorem WayAt.first {B : Nat} {W : World} {a : Option Addr} {n c : Nat} {e : Bo} {r : List Bo} (h : WayAt B W a n c (e :: r)) : ∃ g o, a = some ⟨g, o, none⟩ ∧ W.cell? ⟨g, o, none⟩ = some (.int .i64 e.kind) ∧ W.cell? ⟨g, o + 1, none⟩ = some (.int .i64 e.frm) ∧ W.cell? ⟨g, o + 2, none⟩ = some (.int .i64 e.dst) ∧ W.cell? ⟨g, o + 3, none⟩ = some (.int .i64 e.i) ∧ W.cell? ⟨g, o + 4, none⟩ = some (.slice e.da e.dl e.dc) := by
  have hl := h.len
  rcases h.lies with ⟨h0, h1, h2⟩ | ⟨g, o, cur, rfl, hb, hg, hs, hc⟩
  · rw [h1] at hl; simp at hl
  · exact ⟨g, o, rfl, hc 0 _ rfl, hc 1 _ rfl, hc 2 _ rfl, hc 3 _ rfl, hc 4 _ rfl⟩
set_option maxRecDepth 100000 in
/-- Cut at the front. -/
theorem WayAt.cut {B : Nat} {W : World} {a : Option Addr} {n c : Nat} {e : Bo} {r : List Bo} (h : WayAt B W a n c (e :: r)) :
    ∃ aT cT, (∀ W', (Instr.slice 22 (.slice a n c) (some (.int .i64 1)) none none).run Try.prog W' = .ok (.slice aT (n - 1) cT) W') ∧ ∀ W', Below W.heap.size W W' → WayAt B W' aT (n - 1) cT r := by
  have hl := h.len
  have hle := h.le
  have hmx := h.mx
  rw [List.length_cons] at hl
  have hmx2 : c ≤ 9223372036854775807 := by unfold maxLen at hmx; omega
  have g0 : (1 : Int) ≤ (n : Int) := by omega
  have g1 : (1 : Int) ≤ (c : Int) := by omega
  have g3 : (n : Int) ≤ (c : Int) := by omega
  rcases h.lies with ⟨h0, h1, h2⟩ | ⟨g, o, cur, rfl, hb, hg, hs, hc⟩
  · omega
  · have hc2 : ∀ j u, (rowC boV r)[j]? = some u → W.cell? ⟨g, o + 5 + j, none⟩ = some u := fun j u hj => by
      have := hc (5 + j) u (by
        simp only [rowC]
        rw [List.getElem?_append_right (by rw [boF.len]; omega), boF.len, Nat.add_sub_cancel_left]
        exact hj)
      rw [Nat.add_assoc]; exact this
    by_cases hcn : c = 1
    · refine ⟨some ⟨g, o, none⟩, c - 1, fun W' => ?_, fun W' b => ⟨by omega, by omega, by omega, .inr ⟨g, o, cur, rfl, hb, blk_on hg b, by omega, fun j u hj => ?_⟩⟩⟩
      · go_simp
      · have hr : r = [] := List.eq_nil_of_length_eq_zero (by omega)
        subst hr
        simp [rowC] at hj
    · refine ⟨some ⟨g, o + 5, none⟩, c - 1, fun W' => ?_, fun W' b => ⟨by omega, by omega, by omega, .inr ⟨g, o + 5, cur, rfl, hb, blk_on hg b, by omega, fun j u hj => cell_inB (hc2 j u hj) b⟩⟩⟩
      · go_simp
/-- One more at the end. -/
theorem op_append_way {B : Nat} {w : World} {o : Oper} {act : Act} {K : Act → World → Prop} {Q : Exit → Act → World → Prop} (s x : Operand)
    (ho : o.op = .call { callee := .builtin .append, args := #[s, x], argTypes := #[22, 22] })
    (a : Option Addr) (n c : Nat) (l : List Bo) (hs : act.eval s = .slice a n c) (hA : WayAt B w a n c l) (e : Bo) (q c1 : Nat) (hx : act.eval x = .slice (some ⟨q, 0, none⟩) 1 c1) (hq : w.heap[q]? = some (.cells #[.int .i64 e.kind, .int .i64 e.frm, .int .i64 e.dst, .int .i64 e.i, .slice e.da e.dl e.dc] 34 (0, 0)))
    (hn : n ≤ 1048576) (hB : B ≤ w.heap.size)
    (h : ∀ a' c' w', WayAt B w' a' (n + 1) c' (l ++ [e]) → Keeps (WayS a) w w' → K (act.put o.dst (.slice a' (n + 1) c')) w') : o.wp Try.prog act w K Q := by
  obtain ⟨i0, hi, hz0, hz1, hz2⟩ := info_parts infoBo
  have hnews : ∀ j u, (boV e)[j]? = some u → w.cell? ((⟨q, 0, none⟩ : Addr).add j) = some u := fun j u hj => by
    rw [Addr.add_lit, Nat.zero_add, cell_of_row _ _ j _ _ _ hq]
    simpa [boV] using hj
  have e1 : rowC boV (l ++ [e]) = rowC boV l ++ boV e := by rw [rowC_append]; simp [rowC]
  have hlen := hA.len
  have hle := hA.le
  have hmx := hA.mx
  rcases hA.lies with ⟨rfl, rfl, rfl⟩ | ⟨g, off, cur, rfl, hb, hg, hsz, hc⟩
  · obtain rfl : l = [] := List.eq_nil_of_length_eq_zero hlen
    obtain ⟨v', w', hr, h2, h3, h4⟩ := run_append_own (P := Try.prog) w w.heap.size 22 o.type 34 i0 _ 5 56 Try.underlying22 hi hz0 hz1 hz2 rfl (by decide) (.slice none 0 0) 0 [] ⟨rfl, .inl ⟨rfl, rfl⟩⟩ ⟨q, 0, none⟩ 1 c1 (boV e) rfl hnews (by intro u hu; exact boF.one e u hu) (by unfold maxLen; omega) (by omega) (Nat.le_refl _)
    unfold Oper.wp execOp
    simp only [ho, resolve, invoke, builtin, Sem.run_bind, Sem.run_pure, Result.andThen_ok, List.map_toArray, List.map_cons, List.map_nil, hs, hx, hr]
    obtain ⟨a', c', rfl, -⟩ := own_slice h2
    refine h a' c' w' (WayAt.of_own (C := w.heap.size) (by rw [e1]; exact h2) hB) (Keeps.of_below ((Below.refl _ w).grown h3 (Nat.le_refl _) (fun k e => by cases e)) _)
  · by_cases hroom : n + 1 ≤ c
    · have hcs : ∀ j, j < (boV e).length → (w.cell? ⟨g, off + n * 5 + j, none⟩).isSome = true := fun j hj => by
        rw [boF.len] at hj
        rw [cell_of_row _ _ _ _ _ _ hg]
        simp only [Array.getElem?_eq_getElem (show off + n * 5 + j < cur.size by omega), Option.isSome_some]
      have hr := run_append_room_cells (P := Try.prog) w 22 o.type 34 i0 Try.underlying22 hi g off n c ⟨q, 0, none⟩ 1 c1 (boV e) (by rw [hz1]; rfl) hnews (by intro u hu; exact boF.one e u hu) hroom (by rw [hz1]; exact hcs) (by intro j hj; exact frozen_of_row _ _ _ _ _ hg)
      rw [hz1] at hr
      unfold Oper.wp execOp
      simp only [ho, resolve, invoke, builtin, Sem.run_bind, Sem.run_pure, Result.andThen_ok, List.map_toArray, List.map_cons, List.map_nil, hs, hx, hr]
      have hin := World.cell?_setCells_in g (boV e) (off + n * 5) w hcs
      have hout := World.cell?_setCells_out g (boV e) (off + n * 5) w
      have hrl : (rowC boV l).length = n * 5 := by rw [rowC_length boF, hlen]
      have kk : Keeps (WayS (some ⟨g, off, none⟩)) w (w.setCells g (off + n * 5) (boV e)) := by
        simp only [boV, World.setCells]
        have hS : WayS (some ⟨g, off, none⟩) g := ⟨_, rfl, rfl⟩
        exact (((((Keeps.refl _ w).setCell (p := ⟨g, _, none⟩) (fun _ => hS) _).setCell (p := ⟨g, _, none⟩) (fun _ => hS) _).setCell (p := ⟨g, _, none⟩) (fun _ => hS) _).setCell (p := ⟨g, _, none⟩) (fun _ => hS) _).setCell (p := ⟨g, _, none⟩) (fun _ => hS) _
      have hg2 : ∃ cur', (w.setCells g (off + n * 5) (boV e)).heap[g]? = some (.cells cur' 34 (0, 0)) ∧ cur'.size = cur.size := by
        simp only [boV, World.setCells]
        exact ⟨_, set_inB _ _ (set_inB _ _ (set_inB _ _ (set_inB _ _ (set_inB _ _ hg)))), by simp⟩
      obtain ⟨cur', hg3, hsz3⟩ := hg2
      refine h (some ⟨g, off, none⟩) c _ ⟨by rw [List.length_append, hlen]; rfl, hroom, hmx, .inr ⟨g, off, cur', rfl, hb, hg3, by omega, fun j u hj => ?_⟩⟩ kk
      rw [e1] at hj
      by_cases hjl : j < n * 5
      · rw [List.getElem?_append_left (by omega)] at hj
        rw [hout ⟨g, off + j, none⟩ (fun _ _ => .inl (by show off + j < off + n * 5; omega))]
        exact hc j u hj
      · rw [List.getElem?_append_right (by omega), hrl] at hj
        have hj2 : j - n * 5 < (boV e).length := (List.getElem?_eq_some_iff.1 hj).1
        have := hin (j - n * 5) hj2
        rw [show off + n * 5 + (j - n * 5) = off + j from by omega] at this
        rw [this, ← hj, List.getElem?_eq_getElem hj2]
    · obtain ⟨v', w', hr, h2, h3⟩ := run_append_arg_grows (P := Try.prog) w 22 o.type 34 i0 _ 5 56 Try.underlying22 hi hz0 hz1 hz2 rfl (by decide) ⟨g, off, none⟩ n c (rowC boV l) (by rw [rowC_length boF, hlen]) (fun j u hj => by rw [Addr.add_lit]; exact hc j u hj) ⟨q, 0, none⟩ 1 c1 (boV e) rfl hnews (by omega) (by unfold maxLen; omega) (by omega)
      unfold Oper.wp execOp
      simp only [ho, resolve, invoke, builtin, Sem.run_bind, Sem.run_pure, Result.andThen_ok, List.map_toArray, List.map_cons, List.map_nil, hs, hx, hr]
      rw [← e1] at h2
      obtain ⟨a', c', rfl, -⟩ := own_slice h2
      exact h a' c' w' (WayAt.of_own h2 hB) (Keeps.of_below ((Below.refl _ w).grown h3 (Nat.le_refl _) (fun k e => by cases e)) _)

/-- Two bags that lie apart. -/
structure Two (w0 W : World) (b : Nat) (v : Value) (room last lost : Nat) (l : List Pk) (c : Nat) (vc : Value) (room2 last2 lost2 : Nat) (l2 : List Pk) : Prop where
  one : BSt w0 W b v room last lost l
  two : BSt w0 W c vc room2 last2 lost2 l2
  ne : b ≠ c
  rows : ∀ j, v.ownBlock = some j → ¬ vc.ownBlock = some j
theorem Two.swap {w0 W : World} {b : Nat} {v : Value} {room last lost : Nat} {l : List Pk} {c : Nat} {vc : Value} {room2 last2 lost2 : Nat} {l2 : List Pk} (h : Two w0 W b v room last lost l c vc room2 last2 lost2 l2) : Two w0 W c vc room2 last2 lost2 l2 b v room last lost l :=
  ⟨h.two, h.one, Ne.symm h.ne, fun j h1 h2 => h.rows j h2 h1⟩
theorem Two.on {w0 W W' : World} {b : Nat} {v : Value} {room last lost : Nat} {l : List Pk} {c : Nat} {vc : Value} {room2 last2 lost2 : Nat} {l2 : List Pk} (h : Two w0 W b v room last lost l c vc room2 last2 lost2 l2) (bb : Below W.heap.size W W') : Two w0 W' b v room last lost l c vc room2 last2 lost2 l2 :=
  ⟨h.one.on bb, h.two.on bb, h.ne, h.rows⟩
/-- A call on the first. -/
theorem Two.turn {w0 W W' : World} {b : Nat} {v v' : Value} {room last lost last' lost' : Nat} {l l' : List Pk} {c : Nat} {vc : Value} {room2 last2 lost2 : Nat} {l2 : List Pk} (h : Two w0 W b v room last lost l c vc room2 last2 lost2 l2) (kk : Keeps (BgS b v) W W') (h' : BagAt W' w0.heap.size b v' room last' lost' l') (hw : ∀ j, v'.ownBlock = some j → v.ownBlock = some j ∨ W.heap.size ≤ j) : Two w0 W' b v' room last' lost' l' c vc room2 last2 lost2 l2 := by
  refine ⟨h.one.turn kk h', ⟨h.two.bag.keep kk ?_ ?_ (fun p hp => h.one.bag.dat_not (h.two.bag.dat p hp)), h.two.bel.trans (h.one.bag.below kk h.one.bel.size)⟩, h.ne, fun j h1 h2 => ?_⟩
  · rintro (e | e)
    · exact h.ne e.symm
    · exact own_typed h.one.bag.row h.two.bag.bx (by decide) e
  · rintro j hj (e | e)
    · subst e; exact own_typed h.two.bag.row h.one.bag.bx (by decide) hj
    · exact h.rows j e hj
  · rcases hw j h1 with h3 | h3
    · exact h.rows j h3 h2
    · have := (h.two.bag.row.lt j h2).2; omega
/-- Both stay while a list of steps grows. -/
theorem BSt.way {w0 W W' : World} {b : Nat} {v : Value} {room last lost : Nat} {l : List Pk} (h : BSt w0 W b v room last lost l) {a : Option Addr} {n c : Nat} {q : List Bo} (hw : WayAt w0.heap.size W a n c q) (kk : Keeps (WayS a) W W') : BSt w0 W' b v room last lost l := by
  refine ⟨h.bag.keep kk (hw.typed h.bag.bx (by decide)) (fun j hj => ?_) (fun p hp j hj => ?_), h.bel.trans (kk.below h.bel.size (fun k hk hs => by have := (hw.ge hs).1; omega))⟩
  · rcases h.bag.row.2 with ⟨h2, _⟩ | ⟨g, cap, cur, h2, h3, h4, h5⟩
    · rw [h2] at hj; cases hj
    · rw [h2] at hj
      have e1 : g = j := by simpa [Value.ownBlock] using hj
      subst e1
      exact hw.typed h4 (by decide)
  · rcases (h.bag.dat p hp).1.2 with ⟨h2, _⟩ | ⟨g, cap, cur, h2, h3, h4, h5⟩
    · rw [h2] at hj; cases hj
    · rw [h2] at hj
      have e1 : g = j := by simpa [Value.ownBlock] using hj
      subst e1
      exact hw.typed h4 (by decide)
theorem Two.way {w0 W W' : World} {b : Nat} {v : Value} {room last lost : Nat} {l : List Pk} {c : Nat} {vc : Value} {room2 last2 lost2 : Nat} {l2 : List Pk} (h : Two w0 W b v room last lost l c vc room2 last2 lost2 l2) {a : Option Addr} {n cp : Nat} {q : List Bo} (hw : WayAt w0.heap.size W a n cp q) (kk : Keeps (WayS a) W W') : Two w0 W' b v room last lost l c vc room2 last2 lost2 l2 :=
  ⟨h.one.way hw kk, h.two.way hw kk, h.ne, h.rows⟩
/-- A list of steps stays while a bag is turned. -/
theorem WayAt.bag {w0 W W' : World} {b : Nat} {v : Value} {room last lost : Nat} {l : List Pk} {a : Option Addr} {n c : Nat} {q : List Bo} (hw : WayAt w0.heap.size W a n c q) (h : BagAt W w0.heap.size b v room last lost l) (kk : Keeps (BgS b v) W W') : WayAt w0.heap.size W' a n c q :=
  hw.keep kk (fun x hx hs => by
    have hS : WayS a x.block := ⟨x, hx, rfl⟩
    rcases hs with e | e
    · rw [e] at hS; exact hw.typed h.bx (by decide) hS
    · rcases h.row.2 with ⟨h2, _⟩ | ⟨g, cap, cur, h2, h3, h4, h5⟩
      · rw [h2] at e; cases e
      · rw [h2] at e
        have e1 : g = x.block := by simpa [Value.ownBlock] using e
        rw [← e1] at hS
        exact hw.typed h4 (by decide) hS)
end Go.Proofs.Yteaaamhojiognaa
