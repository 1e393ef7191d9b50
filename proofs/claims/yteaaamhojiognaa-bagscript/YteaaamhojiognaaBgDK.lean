/-
  add of the code's bag.
-/
import Derived.Test.YteaaamhojiognaaBgAP
namespace Go.Proofs.Yteaaamhojiognaa
open Go.RowKit
set_option linter.unusedVariables false

/-- The row lies where it lay, or is new: then nothing has turned but the bag's own block. -/
def StayB (w : World) (b : Nat) (v v' : Value) (w' : World) : Prop := v'.ownBlock = v.ownBlock ∨ ((∃ g, v'.ownBlock = some g ∧ w.heap.size ≤ g) ∧ Keeps (fun x => x = b) w w')
/-- What add does: no room, or one packet more. -/
def AddSayK (w : World) (B b : Nat) (v : Value) (room last lost : Nat) (l : List Pk) (frm dst : Int) (L : List UInt8) (e : Ending) (w' : World) : Prop :=
  (l.length = room ∧ e = .returned (.int .i64 0) ∧ BagAt w' B b v room last (lost + 1) l) ∨
  (l.length < room ∧ e = .returned (.int .i64 ((last : Int) + 1)) ∧ ∃ v' p', Pk.pl p' = ⟨((last : Int) + 1), frm, dst, L⟩ ∧ Dat w.heap.size w' p' ∧ BagAt w' B b v' room (last + 1) lost (l ++ [p']) ∧ StayB w b v v' w')

set_option maxHeartbeats 6400000 in
set_option maxRecDepth 100000 in
theorem badd_keep {w : World} {B b : Nat} {v : Value} {room last lost : Nat} {l : List Pk} (h : BagAt w B b v room last lost l) (p : Pk) (hp : ByIn w p.da p.dl p.dc p.L) (hl : p.dl ≤ 65536) (hfar : 0 < p.dl → ∀ x, p.da = some x → ¬ BgS b v x.block) (h2 : last ≤ 4611686018427387904) (h3 : lost ≤ 4611686018427387904) (hB : B ≤ w.heap.size) :
    Calls Try.prog 28 #[.pointer (some ⟨b, 0, none⟩), p.v] w fun e w' => Keeps (BgS b v) w w' ∧ AddSayK w B b v room last lost l p.frm p.dst p.L e w' := by
  obtain ⟨num, frm, dst, da, dl, dc, L⟩ := p
  unfold Pk.v
  dsimp only at hp hl ⊢
  obtain ⟨V, hV⟩ : ∃ V, w.alloc (.cells #[.int .i64 num, .int .i64 frm, .int .i64 dst, .slice da dl dc] 39) = V := ⟨_, rfl⟩
  have b1 := bnew w (.cells #[.int .i64 num, .int .i64 frm, .int .i64 dst, .slice da dl dc] 39)
  have k1 := heap_alloc_new w (.cells #[.int .i64 num, .int .i64 frm, .int .i64 dst, .slice da dl dc] 39)
  rw [hV] at b1 k1
  have B1 := aside b1
  have HB := aside (h.on b1)
  have HI := aside (hp.on b1)
  have HL := aside hl
  have HX := aside h2
  have HY := aside h3
  have HBS := aside hB
  have HBK := aside h
  obtain ⟨q1, hq1⟩ : ∃ q, w.heap.size = q := ⟨_, rfl⟩
  have HQ := aside hq1
  rw [hq1] at k1
  have K1 := aside k1
  obtain ⟨a, c, rfl, -⟩ := own_slice h.row
  have SX := aside (fun (W : World) (bb : Below V.heap.size V W) => (show W.cell? ⟨b, 1, none⟩ = some (.slice a l.length c) ∧ W.cell? ⟨b, 0, none⟩ = some (.int .i64 (room : Int)) from by
    obtain ⟨x0, x1, x2, x3⟩ := (HB.out.on bb).cells
    exact ⟨x1, x0⟩))
  obtain ⟨n, hn⟩ : ∃ n, l.length = n := ⟨_, rfl⟩
  have HN := aside hn
  rw [hn] at SX
  have hp0 := aside hp
  have hfar0 := aside (show 0 < dl → ∀ x, da = some x → ¬ BgS b (.slice a n c) x.block from by rw [← hn]; exact hfar)
  clear h hp hl hB b1 k1 h2 h3 hfar
  by_cases hful : n = room
  · subst hful
    have hbe : ((n : Int) == (n : Int)) = true := by simp
    go_enter Try.func28, Try.ntmps28
    go_upto_region 1 with fail
    try rw [hV]
    clear hV hq1
    refine wp_region_held_drew (S := fun W => W.cell? ⟨b, 1, none⟩ = some (.slice a n c) ∧ W.cell? ⟨b, 0, none⟩ = some (.int .i64 (n : Int))) (by kernel_rfl) (SX.out _ (Below.refl _ V).drew) (fun hHeld => ?_)
    refine wpAnyH_take (i := 0) (v := ?_) rfl (by kernel_rfl) (by kernel_rfl) (by kernel_rfl) (fun _ _ _ h => h) (Or.inl ⟨by rfl, ?_⟩) (by assumption) ?_
    rotate_left
    · intro w hSw
      go_simp
      try with_reducible rfl
    simp only [Act.put, List.getElem_toArray, List.getElem_cons_zero, List.setIfInBounds_toArray, List.set_cons_zero, List.set_cons_succ]
    refine wpAnyH_take (i := 1) (v := ?_) rfl (by kernel_rfl) (by kernel_rfl) (by kernel_rfl) (fun _ _ _ h => h) (Or.inl ⟨by rfl, ?_⟩) (by assumption) ?_
    rotate_left
    · intro w hSw
      go_simp
      try with_reducible rfl
    simp only [Act.put, List.getElem_toArray, List.getElem_cons_zero, List.getElem_cons_succ, List.setIfInBounds_toArray, List.set_cons_zero, List.set_cons_succ]
    refine wpAnyH_take (i := 2) (v := ?_) rfl (by kernel_rfl) (by kernel_rfl) (by kernel_rfl) (fun _ _ _ h => h) (Or.inl ⟨by rfl, ?_⟩) (by assumption) ?_
    rotate_left
    · intro w hSw
      go_simp
      try with_reducible rfl
    simp only [Act.put, List.getElem_toArray, List.getElem_cons_zero, List.getElem_cons_succ, List.setIfInBounds_toArray, List.set_cons_zero, List.set_cons_succ]
    refine wpAnyH_take (i := 3) (v := ?_) rfl (by kernel_rfl) (by kernel_rfl) (by kernel_rfl) (fun _ _ _ h => h) (Or.inl ⟨by rfl, ?_⟩) (by assumption) ?_
    rotate_left
    · intro w hSw
      go_simp
      try with_reducible rfl
    simp only [Act.put, List.getElem_toArray, List.getElem_cons_zero, List.getElem_cons_succ, List.setIfInBounds_toArray, List.set_cons_zero, List.set_cons_succ]
    refine wpAnyH_take (i := 4) (v := ?_) rfl (by kernel_rfl) (by kernel_rfl) (by kernel_rfl) (fun _ _ _ h => h) (Or.inl ⟨by rfl, ?_⟩) (by assumption) ?_
    rotate_left
    · intro w hSw
      go_simp
      try with_reducible rfl
    simp only [Act.put, List.getElem_toArray, List.getElem_cons_zero, List.getElem_cons_succ, List.setIfInBounds_toArray, List.set_cons_zero, List.set_cons_succ]
    refine wpAnyH_take (i := 5) (v := ?_) rfl (by kernel_rfl) (by kernel_rfl) (by kernel_rfl) (fun _ _ _ h => h) (Or.inl ⟨by rfl, ?_⟩) (by assumption) ?_
    rotate_left
    · intro w hSw
      go_simp
      try with_reducible rfl
    simp only [Act.put, List.getElem_toArray, List.getElem_cons_zero, List.getElem_cons_succ, List.setIfInBounds_toArray, List.set_cons_zero, List.set_cons_succ]
    refine wpAnyH_take (i := 6) (v := ?_) rfl (by kernel_rfl) (by kernel_rfl) (by kernel_rfl) (fun _ _ _ h => h) (Or.inl ⟨by rfl, ?_⟩) (by assumption) ?_
    rotate_left
    · intro w hSw
      go_simp
      try with_reducible rfl
    simp only [Act.put, List.getElem_toArray, List.getElem_cons_zero, List.getElem_cons_succ, List.setIfInBounds_toArray, List.set_cons_zero, List.set_cons_succ]
    refine wpAnyH_take (i := 7) (v := ?_) rfl (by kernel_rfl) (by kernel_rfl) (by kernel_rfl) (fun _ _ _ h => h) (Or.inl ⟨by rfl, ?_⟩) (by assumption) ?_
    rotate_left
    · intro w hSw
      go_simp
      try with_reducible rfl
    simp only [Act.put, List.getElem_toArray, List.getElem_cons_zero, List.getElem_cons_succ, List.setIfInBounds_toArray, List.set_cons_zero, List.set_cons_succ]
    refine wpAnyH_take (i := 8) (v := ?_) rfl (by kernel_rfl) (by kernel_rfl) (by kernel_rfl) (fun _ _ _ h => h) (Or.inl ⟨by rfl, ?_⟩) (by assumption) ?_
    rotate_left
    · intro w hSw
      go_simp
      try with_reducible rfl
    simp only [Act.put, List.getElem_toArray, List.getElem_cons_zero, List.getElem_cons_succ, List.setIfInBounds_toArray, List.set_cons_zero, List.set_cons_succ]
    refine wpAnyH_take (i := 9) (v := .bool true) rfl (by kernel_rfl) (by kernel_rfl) (by kernel_rfl) (fun _ _ _ h => h) (Or.inl ⟨by rfl, ?_⟩) (by assumption) ?_
    · intro w hSw
      go_simp
      try first | with_reducible rfl | omega
    simp only [Act.put, List.getElem_toArray, List.getElem_cons_zero, List.getElem_cons_succ, List.setIfInBounds_toArray, List.set_cons_zero, List.set_cons_succ]
    refine wpAnyH_done (by kernel_rfl) ?_ _
    have HB2 := aside (HB.out.on (Below.refl _ V).drew)
    have B2 := aside (show Below w.heap.size w V.drew from B1.out.drew)
    generalize V.drew = X at HB2 B2 hHeld ⊢
    obtain ⟨x0, x1, x2, x3⟩ := HB2.out.cells
    have f3 := HB2.out.frozen 3
    have hw : IntKind.i64.wrap ((lost : Int) + 1) = (lost : Int) + 1 := by have := HY.out; simp only [IntKind.wrap_i64]; omega
    have FIN := aside (show BagAt (X.setCell ⟨b, 3, none⟩ (.int .i64 ((lost : Int) + 1))) B b (.slice a n c) n last (lost + 1) l from by
      have k0 : Keeps (fun x => x = b) X (X.setCell ⟨b, 3, none⟩ (.int .i64 ((lost : Int) + 1))) := (Keeps.refl (fun x => x = b) X).setCell (p := ⟨b, 3, none⟩) (fun _ => rfl) _
      have h0 := HB2.out
      have e0 := HN.out
      refine ⟨?_, h0.ge, ?_, fun p hp => (h0.dat p hp).keep k0 (fun j hj e => by subst e; exact own_typed (h0.dat p hp).1 h0.bx (by decide) hj), h0.le, h0.r1, h0.r2⟩
      · have := bag_set (k := 3) h0.bx (.int .i64 ((lost : Int) + 1))
        rw [e0] at this
        simpa using this
      · have h9 := ownsRow_keep h0.row k0 (fun j hj e => by subst e; exact h0.row_not hj)
        rw [e0] at h9 ⊢
        exact h9)
    have KK := aside (show Keeps (BgS b (.slice a n c)) w (X.setCell ⟨b, 3, none⟩ (.int .i64 ((lost : Int) + 1))) from (Keeps.of_below B2.out _).setCell (p := ⟨b, 3, none⟩) (fun _ => .inl rfl) _)
    clear HB2 hHeld
    go_wp2
    go_ret
    exact ⟨by rw [HN.out]; exact KK.out, .inl ⟨HN.out, rfl, by rw [HN.out]; exact FIN.out⟩⟩
  · have hbe : ((n : Int) == (room : Int)) = false := by simp; omega
    have HF := aside hful
    clear hful
    go_enter Try.func28, Try.ntmps28
    go_upto_region 1 with fail
    try rw [hV]
    clear hV hq1
    refine wp_region_held_drew (S := fun W => W.cell? ⟨b, 1, none⟩ = some (.slice a n c) ∧ W.cell? ⟨b, 0, none⟩ = some (.int .i64 (room : Int))) (by kernel_rfl) (SX.out _ (Below.refl _ V).drew) (fun hHeld => ?_)
    refine wpAnyH_take (i := 0) (v := ?_) rfl (by kernel_rfl) (by kernel_rfl) (by kernel_rfl) (fun _ _ _ h => h) (Or.inl ⟨by rfl, ?_⟩) (by assumption) ?_
    rotate_left
    · intro w hSw
      go_simp
      try with_reducible rfl
    simp only [Act.put, List.getElem_toArray, List.getElem_cons_zero, List.setIfInBounds_toArray, List.set_cons_zero, List.set_cons_succ]
    refine wpAnyH_take (i := 1) (v := ?_) rfl (by kernel_rfl) (by kernel_rfl) (by kernel_rfl) (fun _ _ _ h => h) (Or.inl ⟨by rfl, ?_⟩) (by assumption) ?_
    rotate_left
    · intro w hSw
      go_simp
      try with_reducible rfl
    simp only [Act.put, List.getElem_toArray, List.getElem_cons_zero, List.getElem_cons_succ, List.setIfInBounds_toArray, List.set_cons_zero, List.set_cons_succ]
    refine wpAnyH_take (i := 2) (v := ?_) rfl (by kernel_rfl) (by kernel_rfl) (by kernel_rfl) (fun _ _ _ h => h) (Or.inl ⟨by rfl, ?_⟩) (by assumption) ?_
    rotate_left
    · intro w hSw
      go_simp
      try with_reducible rfl
    simp only [Act.put, List.getElem_toArray, List.getElem_cons_zero, List.getElem_cons_succ, List.setIfInBounds_toArray, List.set_cons_zero, List.set_cons_succ]
    refine wpAnyH_take (i := 3) (v := ?_) rfl (by kernel_rfl) (by kernel_rfl) (by kernel_rfl) (fun _ _ _ h => h) (Or.inl ⟨by rfl, ?_⟩) (by assumption) ?_
    rotate_left
    · intro w hSw
      go_simp
      try with_reducible rfl
    simp only [Act.put, List.getElem_toArray, List.getElem_cons_zero, List.getElem_cons_succ, List.setIfInBounds_toArray, List.set_cons_zero, List.set_cons_succ]
    refine wpAnyH_take (i := 4) (v := ?_) rfl (by kernel_rfl) (by kernel_rfl) (by kernel_rfl) (fun _ _ _ h => h) (Or.inl ⟨by rfl, ?_⟩) (by assumption) ?_
    rotate_left
    · intro w hSw
      go_simp
      try with_reducible rfl
    simp only [Act.put, List.getElem_toArray, List.getElem_cons_zero, List.getElem_cons_succ, List.setIfInBounds_toArray, List.set_cons_zero, List.set_cons_succ]
    refine wpAnyH_take (i := 5) (v := ?_) rfl (by kernel_rfl) (by kernel_rfl) (by kernel_rfl) (fun _ _ _ h => h) (Or.inl ⟨by rfl, ?_⟩) (by assumption) ?_
    rotate_left
    · intro w hSw
      go_simp
      try with_reducible rfl
    simp only [Act.put, List.getElem_toArray, List.getElem_cons_zero, List.getElem_cons_succ, List.setIfInBounds_toArray, List.set_cons_zero, List.set_cons_succ]
    refine wpAnyH_take (i := 6) (v := ?_) rfl (by kernel_rfl) (by kernel_rfl) (by kernel_rfl) (fun _ _ _ h => h) (Or.inl ⟨by rfl, ?_⟩) (by assumption) ?_
    rotate_left
    · intro w hSw
      go_simp
      try with_reducible rfl
    simp only [Act.put, List.getElem_toArray, List.getElem_cons_zero, List.getElem_cons_succ, List.setIfInBounds_toArray, List.set_cons_zero, List.set_cons_succ]
    refine wpAnyH_take (i := 7) (v := ?_) rfl (by kernel_rfl) (by kernel_rfl) (by kernel_rfl) (fun _ _ _ h => h) (Or.inl ⟨by rfl, ?_⟩) (by assumption) ?_
    rotate_left
    · intro w hSw
      go_simp
      try with_reducible rfl
    simp only [Act.put, List.getElem_toArray, List.getElem_cons_zero, List.getElem_cons_succ, List.setIfInBounds_toArray, List.set_cons_zero, List.set_cons_succ]
    refine wpAnyH_take (i := 8) (v := ?_) rfl (by kernel_rfl) (by kernel_rfl) (by kernel_rfl) (fun _ _ _ h => h) (Or.inl ⟨by rfl, ?_⟩) (by assumption) ?_
    rotate_left
    · intro w hSw
      go_simp
      try with_reducible rfl
    simp only [Act.put, List.getElem_toArray, List.getElem_cons_zero, List.getElem_cons_succ, List.setIfInBounds_toArray, List.set_cons_zero, List.set_cons_succ]
    refine wpAnyH_take (i := 9) (v := .bool false) rfl (by kernel_rfl) (by kernel_rfl) (by kernel_rfl) (fun _ _ _ h => h) (Or.inl ⟨by rfl, ?_⟩) (by assumption) ?_
    · intro w hSw
      go_simp
      try first | with_reducible rfl | omega
    simp only [Act.put, List.getElem_toArray, List.getElem_cons_zero, List.getElem_cons_succ, List.setIfInBounds_toArray, List.set_cons_zero, List.set_cons_succ]
    refine wpAnyH_done (by kernel_rfl) ?_ _
    have HB2 := aside (HB.out.on (Below.refl _ V).drew)
    have B2 := aside (show Below w.heap.size w V.drew from B1.out.drew)
    have HI2 := aside (HI.out.on (Below.refl _ V).drew)
    have K2 := aside (show V.drew.heap[q1]? = _ from K1.out)
    clear HB B1 HI K1 SX
    generalize V.drew = X at HB2 B2 HI2 K2 hHeld ⊢
    obtain ⟨x0, x1, x2, x3⟩ := HB2.out.cells
    have f2 := HB2.out.frozen 2
    obtain ⟨y0, y1, y2, y3⟩ := fourB K2.out
    have g0 := frozen_of_row X q1 0 _ _ K2.out
    have hw : IntKind.i64.wrap ((last : Int) + 1) = ((last : Int) + 1) := by have := HX.out; simp only [IntKind.wrap_i64]; omega
    have hbq : b ≠ q1 := by
      have h0 := HB2.out.bx
      intro e
      subst e
      rw [K2.out] at h0
      simp at h0
    obtain ⟨Y, hY⟩ : ∃ Y, (X.setCell ⟨b, 2, none⟩ (.int .i64 ((last : Int) + 1))).setCell ⟨q1, 0, none⟩ (.int .i64 ((last : Int) + 1)) = Y := ⟨_, rfl⟩
    have KY := aside (show Keeps (fun x => x = b ∨ x = q1) X Y from by rw [← hY]; exact ((Keeps.refl _ X).setCell (p := ⟨b, 2, none⟩) (fun _ => .inl rfl) _).setCell (p := ⟨q1, 0, none⟩) (fun _ => .inr rfl) _)
    have HBY := aside (show BagAt Y B b (.slice a n c) room (last + 1) lost l from by
      have h0 := HB2.out
      have e0 := HN.out
      have k0 := KY.out
      refine ⟨?_, h0.ge, ?_, fun p hp => (h0.dat p hp).keep k0 (fun j hj e => ?_), h0.le, h0.r1, h0.r2⟩
      · rw [← hY]
        refine set_otherB 0 _ ?_ hbq
        have := bag_set (k := 2) h0.bx (.int .i64 ((last : Int) + 1))
        rw [e0] at this
        simpa using this
      · have h9 := ownsRow_keep h0.row k0 (fun j hj e => by
          rcases e with e | e
          · subst e; exact h0.row_not hj
          · subst e; have h8 := lt_of_blk K2.out; have h7 := HBK.out.row.lt _ hj; have h6 := HQ.out; omega)
        rw [e0] at h9 ⊢
        exact h9
      · rcases e with e | e
        · subst e; exact own_typed (h0.dat p hp).1 h0.bx (by decide) hj
        · subst e; exact own_typed (h0.dat p hp).1 K2.out (by decide) hj)
    have BZ := aside (show Keeps (fun x => x = b) w Y from by
      refine ⟨KY.out.os.trans B2.out.os, KY.out.tape.trans B2.out.tape, KY.out.output.trans B2.out.output, Nat.le_trans B2.out.size KY.out.size, fun k hk hs => ?_⟩
      rw [KY.out.block k (Nat.lt_of_lt_of_le hk B2.out.size) (fun e => by
        rcases e with e | e
        · exact hs e
        · have := HQ.out; omega)]
      exact B2.out.block k hk)
    have BY := aside (show Keeps (BgS b (.slice a n c)) w Y from BZ.out.mono (fun k _ e => .inl e))
    have K3 := aside (show Y.heap[q1]? = some (.cells #[.int .i64 ((last : Int) + 1), .int .i64 frm, .int .i64 dst, .slice da dl dc] 39 (0, 0)) from by
      rw [← hY]
      have := set_inB 0 (.int .i64 ((last : Int) + 1)) (set_otherB (q := b) 2 (.int .i64 ((last : Int) + 1)) K2.out (Ne.symm hbq))
      simpa using this)
    have HI3 := aside (show ByIn Y da dl dc L from by
      obtain ⟨i1, i2, i3, i4⟩ := hp0.out
      refine ⟨i1, i2, i3, ?_⟩
      rcases i4 with i4 | ⟨x, hx, hc⟩
      · exact .inl i4
      · refine .inr ⟨x, hx, fun j u hj => ?_⟩
        have h8 := hc j u hj
        have h9 := World.block_lt_of_cell? w _ h8
        rw [BY.out.cell (p := x.add j) h9 (fun hs => hfar0.out (by have h7 := (List.getElem?_eq_some_iff.1 hj).1; rw [Lib.byteCells_length] at h7; omega) _ hx (by
          have e : (x.add j).block = x.block := by unfold Addr.add; split <;> rfl
          rw [e] at hs
          exact hs))]
        exact h8)
    clear hHeld HI2
    go_upto_region 6 with fail
    try rw [hY]
    clear hY x0 x1 x2 x3 f2 y0 y1 y2 y3 g0 HB2 K2 KY hw
    have SX := aside (fun (W : World) (bb : Below Y.heap.size Y W) => (show W.cell? ⟨b, 1, none⟩ = some (.slice a n c) ∧ W.cell? ⟨q1, 0, none⟩ = some (.int .i64 ((last : Int) + 1)) ∧ W.cell? ⟨q1, 1, none⟩ = some (.int .i64 frm) ∧ W.cell? ⟨q1, 2, none⟩ = some (.int .i64 dst) ∧ W.cell? ⟨q1, 3, none⟩ = some (.slice da dl dc) from by
      obtain ⟨x0, x1, x2, x3⟩ := (HBY.out.on bb).cells
      obtain ⟨y0, y1, y2, y3⟩ := fourB (blk_on K3.out bb)
      exact ⟨x1, y0, y1, y2, y3⟩))
    refine wp_region_until (S := fun W => W.cell? ⟨b, 1, none⟩ = some (.slice a n c) ∧ W.cell? ⟨q1, 0, none⟩ = some (.int .i64 ((last : Int) + 1)) ∧ W.cell? ⟨q1, 1, none⟩ = some (.int .i64 frm) ∧ W.cell? ⟨q1, 2, none⟩ = some (.int .i64 dst) ∧ W.cell? ⟨q1, 3, none⟩ = some (.slice da dl dc)) (z := 11) (by kernel_rfl) (SX.out _ (Below.refl _ Y).drew) (fun hHeld => ?_)
    refine Until.take (i := 0) (v := ?_) [11] rfl (by kernel_rfl) (by kernel_rfl) (by kernel_rfl) (by kernel_rfl) (by rfl) (by rfl) (by kernel_rfl) (fun _ _ _ h => h) (Or.inl ⟨by rfl, ?_⟩) (by assumption) ?_
    rotate_left
    · intro w hSw
      go_simp
      try with_reducible rfl
    simp only [Act.put, List.getElem_toArray, List.getElem_cons_zero, List.setIfInBounds_toArray, List.set_cons_zero, List.set_cons_succ]
    refine Until.take (i := 1) (v := ?_) [11] rfl (by kernel_rfl) (by kernel_rfl) (by kernel_rfl) (by kernel_rfl) (by rfl) (by rfl) (by kernel_rfl) (fun _ _ _ h => h) (Or.inl ⟨by rfl, ?_⟩) (by assumption) ?_
    rotate_left
    · intro w hSw
      go_simp
      try with_reducible rfl
    simp only [Act.put, List.getElem_toArray, List.getElem_cons_zero, List.getElem_cons_succ, List.setIfInBounds_toArray, List.set_cons_zero, List.set_cons_succ]
    refine Until.take (i := 2) (v := ?_) [11] rfl (by kernel_rfl) (by kernel_rfl) (by kernel_rfl) (by kernel_rfl) (by rfl) (by rfl) (by kernel_rfl) (fun _ _ _ h => h) (Or.inl ⟨by rfl, ?_⟩) (by assumption) ?_
    rotate_left
    · intro w hSw
      go_simp
      try with_reducible rfl
    simp only [Act.put, List.getElem_toArray, List.getElem_cons_zero, List.getElem_cons_succ, List.setIfInBounds_toArray, List.set_cons_zero, List.set_cons_succ]
    refine Until.take (i := 3) (v := ?_) [11] rfl (by kernel_rfl) (by kernel_rfl) (by kernel_rfl) (by kernel_rfl) (by rfl) (by rfl) (by kernel_rfl) (fun _ _ _ h => h) (Or.inl ⟨by rfl, ?_⟩) (by assumption) ?_
    rotate_left
    · intro w hSw
      go_simp
      try with_reducible rfl
    simp only [Act.put, List.getElem_toArray, List.getElem_cons_zero, List.getElem_cons_succ, List.setIfInBounds_toArray, List.set_cons_zero, List.set_cons_succ]
    refine Until.take (i := 4) (v := ?_) [11] rfl (by kernel_rfl) (by kernel_rfl) (by kernel_rfl) (by kernel_rfl) (by rfl) (by rfl) (by kernel_rfl) (fun _ _ _ h => h) (Or.inl ⟨by rfl, ?_⟩) (by assumption) ?_
    rotate_left
    · intro w hSw
      go_simp
      try with_reducible rfl
    simp only [Act.put, List.getElem_toArray, List.getElem_cons_zero, List.getElem_cons_succ, List.setIfInBounds_toArray, List.set_cons_zero, List.set_cons_succ]
    refine Until.take (i := 5) (v := ?_) [11] rfl (by kernel_rfl) (by kernel_rfl) (by kernel_rfl) (by kernel_rfl) (by rfl) (by rfl) (by kernel_rfl) (fun _ _ _ h => h) (Or.inl ⟨by rfl, ?_⟩) (by assumption) ?_
    rotate_left
    · intro w hSw
      go_simp
      try with_reducible rfl
    simp only [Act.put, List.getElem_toArray, List.getElem_cons_zero, List.getElem_cons_succ, List.setIfInBounds_toArray, List.set_cons_zero, List.set_cons_succ]
    refine Until.step (i := 6) (by kernel_rfl) rfl (by rfl) (fun K' hK' => ?_)
    go_simp
    refine (apart_any ⟨((last : Int) + 1), frm, dst, da, dl, dc, L⟩ Y.drew (HI3.out.on (Below.refl _ Y).drew) HL.out).mono ?_
    rintro e X2 ⟨da', dc', rfl, dt, b2⟩
    have D2 := aside dt
    have B3 := aside (show Below Y.heap.size Y X2 from (Below.refl _ Y).drew.trans b2)
    refine hK'.out _ _ (SX.out _ B3.out) (fun hHeld => ?_)
    clear hK' K' dt b2
    unfold Pk.v
    obtain ⟨q2, hq2⟩ : ∃ q, X2.heap.size = q := ⟨_, rfl⟩
    obtain ⟨X3, hX3⟩ : ∃ X3, X2.alloc (.cells #[.int .i64 ((last : Int) + 1), .int .i64 frm, .int .i64 dst, .slice da' dl dc'] 39) = X3 := ⟨_, rfl⟩
    have b3 := bnew X2 (.cells #[.int .i64 ((last : Int) + 1), .int .i64 frm, .int .i64 dst, .slice da' dl dc'] 39)
    have k3 := heap_alloc_new X2 (.cells #[.int .i64 ((last : Int) + 1), .int .i64 frm, .int .i64 dst, .slice da' dl dc'] 39)
    rw [hX3] at b3 k3
    rw [hq2] at k3
    have K4 := aside k3
    have B4 := aside (bthen B3.out b3)
    have D4 := aside (D2.out.on b3)
    refine Until.step (i := 7) (by kernel_rfl) rfl (by rfl) (fun K' hK' => ?_)
    go_simp
    try rw [hX3]
    try rw [hq2]
    refine hK'.out _ _ (SX.out _ B4.out) (fun hHeld => ?_)
    clear hK' K' b3 k3 hX3 hq2
    have HB4 := aside (HBY.out.on B4.out)
    have HSZ := aside (show B ≤ X3.heap.size from by have h1 := B4.out.size; have h2 := BY.out.size; have h3 := HBS.out; omega)
    refine Until.step (i := 8) (by kernel_rfl) rfl (by rfl) (fun K' hK' => ?_)
    rw [if_pos (by kernel_rfl)]
    refine op_append_pk_at _ _ rfl B n 1 (.slice a n c) l [⟨((last : Int) + 1), frm, dst, da', dl, dc', L⟩] (by rfl) (by have h9 := HB4.out.row; rw [HN.out] at h9; exact h9) ⟨q2, 0, none⟩ 1 (by rfl) rfl (fun j u hj => by
      rw [Addr.add_lit, Nat.zero_add, cell_of_row _ _ j _ _ _ K4.out]
      rw [pkCells_single] at hj
      simpa using hj) (by have h1 := HB4.out.le; have h2 := HB4.out.r2; have h3 := HN.out; omega) HSZ.out ?_
    intro V9 X5 own5 gr5 at5
    obtain ⟨a5, c5, rfl, -⟩ := own_slice own5
    have k5 : Keeps (fun x => (Value.slice a n c).ownBlock = some x) X3 X5 := (Keeps.refl _ _).grown gr5 (fun k hk _ => hk)
    have hb5 : X5.heap[b]? = some (.cells #[.int .i64 (room : Int), .slice a n c, .int .i64 ((last : Int) + 1), .int .i64 (lost : Int)] 60 (0, 0)) := blk_keep HB4.out.bx k5 HB4.out.row_not
    have kq5 : X5.heap[q1]? = some (.cells #[.int .i64 ((last : Int) + 1), .int .i64 frm, .int .i64 dst, .slice da dl dc] 39 (0, 0)) := blk_keep (blk_on K3.out B4.out) k5 (fun e => by
      have h7 := HBK.out.row.lt _ (by rw [HN.out]; exact e); have h6 := HQ.out; omega)
    have D5 := aside (show Dat w.heap.size X5 ⟨((last : Int) + 1), frm, dst, da', dl, dc', L⟩ from (D4.out.keep k5 (fun j hj e => own_apart D4.out.1 HB4.out.row (by decide) e hj)).low (by have h1 := BY.out.size; simpa using h1))
    have DD5 := aside (show ∀ p ∈ l, Dat B X5 p from fun p hp => (HB4.out.dat p hp).keep k5 (fun j hj e => own_apart (HB4.out.dat p hp).1 HB4.out.row (by decide) e hj))
    have B5 := aside (show Keeps (BgS b (.slice a n c)) w X5 from (BY.out.trans (Keeps.of_below B4.out _)).trans (k5.mono (fun k _ e => .inr e)))
    have W5 := aside (show StayB w b (.slice a n c) (.slice a5 (n + 1) c5) X5 from at5.imp id (fun e => ⟨⟨_, e.1, by have h1 := BY.out.size; have h2 := B4.out.size; omega⟩, (BZ.out.trans (Keeps.of_below B4.out _)).trans ((Keeps.refl _ _).grown e.2 (fun k hk _ => by cases hk))⟩))
    have HB5 := aside hb5
    have O5 := aside own5
    obtain ⟨x0, x1, x2, x3⟩ := fourB hb5
    obtain ⟨y0, y1, y2, y3⟩ := fourB kq5
    refine hK'.out _ _ ⟨x1, y0, y1, y2, y3⟩ (fun hHeld => ?_)
    clear hK' K' x0 x2 x3 y1 y2 y3 kq5 k5 gr5 at5 own5 hb5 x1 y0
    refine Until.take (i := 9) (v := ?_) [10, 11] rfl (by kernel_rfl) (by kernel_rfl) (by kernel_rfl) (by kernel_rfl) (by rfl) (by rfl) (by kernel_rfl) (fun _ _ _ h => h) (Or.inl ⟨by rfl, ?_⟩) (by assumption) ?_
    rotate_left
    · intro w hSw
      go_simp
      try with_reducible rfl
    simp only [Act.put, List.getElem_toArray, List.getElem_cons_zero, List.getElem_cons_succ, List.setIfInBounds_toArray, List.set_cons_zero, List.set_cons_succ]
    refine Until.take (i := 10) (v := ?_) [11] rfl (by kernel_rfl) (by kernel_rfl) (by kernel_rfl) (by kernel_rfl) (by rfl) (by rfl) (by kernel_rfl) (fun _ _ _ h => h) (Or.inl ⟨by rfl, ?_⟩) (by assumption) ?_
    rotate_left
    · intro w hSw
      go_simp
      try with_reducible rfl
    simp only [Act.put, List.getElem_toArray, List.getElem_cons_zero, List.getElem_cons_succ, List.setIfInBounds_toArray, List.set_cons_zero, List.set_cons_succ]
    have f1 := frozen_of_row X5 b 1 _ _ HB5.out
    have FIN := aside (show BagAt (X5.setCell ⟨b, 1, none⟩ (.slice a5 (n + 1) c5)) B b (.slice a5 (n + 1) c5) room (last + 1) lost (l ++ [⟨((last : Int) + 1), frm, dst, da', dl, dc', L⟩]) from by
      have k0 : Keeps (fun x => x = b) X5 (X5.setCell ⟨b, 1, none⟩ (.slice a5 (n + 1) c5)) := (Keeps.refl (fun x => x = b) X5).setCell (p := ⟨b, 1, none⟩) (fun _ => rfl) _
      have h0 := HB4.out
      have e0 := HN.out
      refine ⟨?_, h0.ge, ?_, fun p hp => ?_, ?_, h0.r1, h0.r2⟩
      · have := bag_set (k := 1) HB5.out (.slice a5 (n + 1) c5)
        simpa using this
      · have h9 := ownsRow_keep O5.out k0 (fun j hj e => by subst e; exact own_typed O5.out HB5.out (by decide) hj)
        rw [List.length_append, e0]
        exact h9
      · rcases List.mem_append.1 hp with hp | hp
        · exact (DD5.out p hp).keep k0 (fun j hj e => by subst e; exact own_typed (DD5.out p hp).1 HB5.out (by decide) hj)
        · rcases List.mem_singleton.1 hp with rfl
          exact (D5.out.keep k0 (fun j hj e => by subst e; exact own_typed D5.out.1 HB5.out (by decide) hj)).low HBS.out
      · have h1 := h0.le; have h2 := HF.out
        rw [List.length_append, List.length_singleton]; omega)
    have D6 := aside (show Dat w.heap.size (X5.setCell ⟨b, 1, none⟩ (.slice a5 (n + 1) c5)) ⟨((last : Int) + 1), frm, dst, da', dl, dc', L⟩ from D5.out.keep ((Keeps.refl (fun x => x = b) X5).setCell (p := ⟨b, 1, none⟩) (fun _ => rfl) _) (fun j hj e => by subst e; exact own_typed D5.out.1 HB5.out (by decide) hj))
    have KK := aside (show Keeps (BgS b (.slice a n c)) w (X5.setCell ⟨b, 1, none⟩ (.slice a5 (n + 1) c5)) from B5.out.setCell (p := ⟨b, 1, none⟩) (fun _ => .inl rfl) _)
    have W6 := aside (show StayB w b (.slice a n c) (.slice a5 (n + 1) c5) (X5.setCell ⟨b, 1, none⟩ (.slice a5 (n + 1) c5)) from W5.out.imp id (fun h => ⟨h.1, h.2.setCell (p := ⟨b, 1, none⟩) (fun _ => rfl) _⟩))
    have YQ := aside (show (X5.setCell ⟨b, 1, none⟩ (.slice a5 (n + 1) c5)).cell? ⟨q1, 0, none⟩ = some (.int .i64 ((last : Int) + 1)) from by
      rw [World.cell?_of_block (w := X5) (Below.heap_setCell _ _ _ _ (Ne.symm hbq))]
      exact hHeld.2.1)
    refine Until.last (by kernel_rfl) rfl (fun K' hK' => ?_)
    rw [if_pos (by kernel_rfl)]
    obtain ⟨x1, -⟩ := hHeld
    go_simp
    refine hK'.out _ _ ?_
    clear hK' K'
    refine wpAny_of_held (S := fun _ => True) _ _ _ _ ?_
    have hHeld : True := trivial
    refine wpAnyH_done (by kernel_rfl) ?_ _
    clear x1 f1 hHeld SX
    generalize X5.setCell ⟨b, 1, none⟩ (.slice a5 (n + 1) c5) = X6 at FIN D6 KK YQ W6 ⊢
    have yq := YQ.out
    go_wp2
    go_ret
    exact ⟨KK.out, .inr ⟨by have h1 := HBY.out.le; have h2 := HF.out; have h3 := HN.out; omega, rfl, _, _, rfl, D6.out, FIN.out, W6.out⟩⟩
end Go.Proofs.Yteaaamhojiognaa
