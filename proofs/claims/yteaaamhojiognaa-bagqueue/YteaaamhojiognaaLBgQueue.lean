/-
  The law BagQueue, walked.
-/
import Derived.Test.YteaaamhojiognaaBgW
import Derived.Test.YteaaamhojiognaaBgX
import Derived.Great.BuildSlice
namespace Go.Proofs.Yteaaamhojiognaa
open Go.RowKit
set_option linter.unusedVariables false

/-- The bag has what the list has, in its order. -/
def QC (w : World) (l : List Pk) (q : List Bo) : Prop := l.length = q.length ∧ ∀ (j : Nat) (p : Pk) (s : Bo), l[j]? = some p → q[j]? = some s → (p.frm = s.frm ∧ p.dst = s.dst ∧ p.L = s.L) ∧ s.In w
theorem QC.head {w : World} {p : Pk} {l : List Pk} {s : Bo} {q : List Bo} (h : QC w (p :: l) (s :: q)) : ((p.frm = s.frm ∧ p.dst = s.dst ∧ p.L = s.L) ∧ s.In w) ∧ QC w l q :=
  ⟨h.2 0 p s rfl rfl, by have := h.1; simpa using this, fun j p' s' h1 h2 => h.2 (j + 1) p' s' (by simpa using h1) (by simpa using h2)⟩
theorem QC.snoc {w : World} {p : Pk} {l : List Pk} {s : Bo} {q : List Bo} (h : QC w l q) (hp : (p.frm = s.frm ∧ p.dst = s.dst ∧ p.L = s.L) ∧ s.In w) : QC w (l ++ [p]) (q ++ [s]) := by
  refine ⟨by rw [List.length_append, List.length_append, h.1]; rfl, fun j p' s' h1 h2 => ?_⟩
  by_cases hj : j < l.length
  · rw [List.getElem?_append_left hj] at h1
    rw [List.getElem?_append_left (by rw [← h.1]; exact hj)] at h2
    exact h.2 j p' s' h1 h2
  · have hj2 : j = l.length := by
      have h9 := (List.getElem?_eq_some_iff.1 h1).1
      rw [List.length_append, List.length_singleton] at h9
      omega
    subst hj2
    rw [List.getElem?_append_right (Nat.le_refl _), Nat.sub_self] at h1
    rw [List.getElem?_append_right (by rw [h.1]; exact Nat.le_refl _), ← h.1, Nat.sub_self] at h2
    simp at h1 h2
    subst h1 h2
    exact hp
/-- The state of the law at a step. -/
structure QInv (w0 W : World) (k b : Nat) (v : Value) (rm last lost : Nat) (l : List Pk) (cb : Nat) (vc : Value) (last2 lost2 : Nat) (a : Option Addr) (n c : Nat) (q : List Bo) : Prop where
  tw : Two w0 W b v rm last lost l cb vc rm last2 lost2 []
  wy : WayAt w0.heap.size W a n c q
  qc : QC w0 l q
  ln : l.length = n
  b1 : last ≤ k
  b2 : lost ≤ k
  b3 : last2 ≤ k
  b4 : lost2 ≤ k
theorem QInv.on {w0 W W' : World} {k b : Nat} {v : Value} {rm last lost : Nat} {l : List Pk} {cb : Nat} {vc : Value} {last2 lost2 : Nat} {a : Option Addr} {n c : Nat} {q : List Bo} (h : QInv w0 W k b v rm last lost l cb vc last2 lost2 a n c q) (bb : Below W.heap.size W W') : QInv w0 W' k b v rm last lost l cb vc last2 lost2 a n c q :=
  ⟨h.tw.on bb, h.wy.on bb, h.qc, h.ln, h.b1, h.b2, h.b3, h.b4⟩
theorem build_bo {ops : Array Oper} {rest : List Oper} {o : Oper} {a : Act} {w : World} {Q : Exit → Act → World → Prop} (hg : o.guard = none) (t : Nat) (ho : o.op = .buildSlice 22 1 #[(0, .tmp t)])
    (v : Array Value) (h5 : v.size = 5) (hv : a.eval (.tmp t) = .agg v) (h : wpList Try.prog ops Q rest (a.put o.dst (.slice (some ⟨w.heap.size, 0, none⟩) 1 1)) (w.alloc (.cells v 34))) : wpList Try.prog ops Q (o :: rest) a w := by
  obtain ⟨i0, hi, hz0, hz1, hz2⟩ := info_parts infoBo
  refine wpList_buildSlice hg _ _ 1 _ ho v i0 _ (by kernel_rfl) hi hz0 (by rw [hz1]; decide) (by rw [hz1]; decide) ?_ h
  have e1 : ((#[(0, Operand.tmp t)] : Array (Nat × Operand)).map fun (i, x) => (i, a.eval x)).toList = [(0, Value.agg v)] := by simp [hv]
  rw [e1, hz1]
  refine (Great.fill_whole (s := 5) (by decide) [Value.agg v] _ (fun x hx => by simp at hx; subst hx; exact h5) (by simp)).trans ?_
  simp [Value.cells]
theorem NodeOk.swap {f t : Int} (h : NodeOk f t) : NodeOk t f := ⟨h.2.1, h.1, fun e => h.2.2 e.symm⟩
theorem amg3 (p : Int) (W : World) : Calls Try.prog 10 #[.int .i64 p, .int .i64 3] W fun e w' => e = .returned (.int .i64 (amg p 3)) ∧ w' = W := among18 p 3 W (by omega) (by omega)

set_option maxHeartbeats 32000000 in
set_option maxRecDepth 100000 in
theorem bqueue_walk (z : Int) (a0 : Option Addr) (len cap : Nat) (R : Nat → Bo) (w : World) (g0 : Bos w a0 len cap R) :
    Calls Try.prog 6 #[.int .i64 z, .slice a0 len cap] w fun e w' => e = .returned (.bool true) ∧ Below w.heap.size w w' := by
  have G0 := aside g0
  have hmx : (len : Int) ≤ 9223372036854775807 := by have h1 := g0.1; have h2 := g0.2.1; unfold maxLen at h2; omega
  have HLN := aside (show len * 56 ≤ 140737488351232 from g0.2.2.1)
  clear g0
  obtain ⟨k0, hk0, hk1⟩ := amg_lt z (m := 512) (by omega)
  have CR := aside (amg512 z)
  rw [show (512 : Int) = ((512 : Nat) : Int) from rfl, hk0] at CR
  replace CR := aside (fun W => CR.out W)
  obtain ⟨rm, hrm⟩ : ∃ r, 1 + k0 = r := ⟨_, rfl⟩
  have hwr : IntKind.i64.wrap (1 + (k0 : Int)) = (rm : Int) := by simp only [IntKind.wrap_i64]; omega
  have HR1 := aside (show 1 ≤ rm ∧ rm ≤ 512 from by omega)
  clear hk0 hk1 hrm
  go_enter Try.func6, Try.ntmps6
  go_wp2_with fail
  refine (shown18 _).mono ?_
  rintro e w1 ⟨rfl, b1⟩
  have B1 := aside b1
  clear b1
  go_wp2_with fail
  refine (CR.out _).mono ?_
  rintro e w1 ⟨rfl, rfl⟩
  go_wp2_with fail
  refine (bnew_ok rm HR1.out.1 HR1.out.2 _).mono ?_
  rintro e w2 ⟨b, rfl, hb, b2⟩
  have S2 := aside (show BSt w w2 b (.slice none 0 0) rm 0 0 [] from ⟨⟨hb.bx, Nat.le_trans B1.out.size hb.ge, own_low hb.row B1.out.size, fun p hp => (by cases hp), hb.le, hb.r1, hb.r2⟩, bthen B1.out b2⟩)
  clear hb b2
  go_wp2_with fail
  refine (bnew_ok rm HR1.out.1 HR1.out.2 _).mono ?_
  rintro e w3 ⟨cb, rfl, hb, b2⟩
  have D0 := aside (show QInv w w3 0 b (.slice none 0 0) rm 0 0 [] cb (.slice none 0 0) 0 0 none 0 0 [] from
    ⟨⟨S2.out.on b2, ⟨⟨hb.bx, Nat.le_trans S2.out.bel.size hb.ge, own_low hb.row S2.out.bel.size, fun p hp => (by cases hp), hb.le, hb.r1, hb.r2⟩, bthen S2.out.bel b2⟩, fun e => by have h1 := lt_of_blk S2.out.bag.bx; have h2 := hb.ge; omega, fun j hj => by cases hj⟩, ⟨rfl, Nat.le_refl _, Nat.zero_le _, .inl ⟨rfl, rfl, rfl⟩⟩, ⟨rfl, fun j p s h1 => by simp at h1⟩, rfl, Nat.le_refl _, Nat.le_refl _, Nat.le_refl _, Nat.le_refl _⟩)
  clear hb b2 B1 S2
  go_wp2
  go_loopw [9, 47] (fun wy i wr => ∃ (k : Nat) (v : Value) (last lost : Nat) (l : List Pk) (vc : Value) (last2 lost2 : Nat) (a : Option Addr) (n c : Nat) (q : List Bo), i = .int .i64 (k : Int) ∧ k ≤ len ∧ wy = .slice a n c ∧ Hid (QInv w wr k b v rm last lost l cb vc last2 lost2 a n c q)) (fun _ i _ => len - (intOf i).toNat)
  case atStart => exact ⟨0, _, 0, 0, [], _, 0, 0, none, 0, 0, [], rfl, Nat.zero_le _, rfl, D0.out⟩
  case round =>
    clear D0
    obtain ⟨k, v, last, lost, l, vc, last2, lost2, a, n, c, q, rfl, hk, rfl, DI⟩ := hrel
    have HB := aside DI.out.tw.one.bel
    by_cases hlk : (k : Int) < (len : Int)
    · have hk0 : (0 : Int) ≤ (k : Int) := by omega
      have HKL := aside (show k < len from by omega)
      obtain ⟨x, off, ha, hx, hc⟩ : ∃ b off, a0 = some ⟨b, off, none⟩ ∧ b < w.heap.size ∧ ∀ i, i < len → BoAt w b (off + i * 5) (R i) ∧ (R i).In w := by
        rcases G0.out.2.2.2 with h0 | h0
        · omega
        · exact h0
      subst ha
      obtain ⟨s0, hs0⟩ : ∃ s, R k = s := ⟨_, rfl⟩
      have m0 := (hc k (by omega)).1
      have hin := (hc k (by omega)).2
      rw [hs0] at m0 hin
      obtain ⟨kd, fr, ds, ix, da, dl, dc, L⟩ := s0
      obtain ⟨m0, m1, m2, m3, m4⟩ := m0.keep HB.out
      dsimp only at m0 m1 m2 m3 m4
      have HIN := aside hin
      clear hx hc hin hs0
      obtain ⟨X1, hX1⟩ : ∃ X, wr.alloc (.cells #[.int .i64 kd, .int .i64 fr, .int .i64 ds, .int .i64 ix, .slice da dl dc] 34) = X := ⟨_, rfl⟩
      obtain ⟨q1, hq1⟩ : ∃ q, wr.heap.size = q := ⟨_, rfl⟩
      have b1 := bnew wr (.cells #[.int .i64 kd, .int .i64 fr, .int .i64 ds, .int .i64 ix, .slice da dl dc] 34)
      have k1 := heap_alloc_new wr (.cells #[.int .i64 kd, .int .i64 fr, .int .i64 ds, .int .i64 ix, .slice da dl dc] 34)
      rw [hX1] at b1 k1
      rw [hq1] at k1
      have K1 := aside k1
      have HQ1 := aside (show ∀ k, WayS a k → k ≠ q1 from fun k hk => by have h1 := (DI.out.wy.ge hk).2; omega)
      have D1 := aside (DI.out.on b1)
      have HB1 := aside D1.out.tw.one.bel
      have HSM := aside (show last ≤ 4611686018427387904 ∧ lost ≤ 4611686018427387904 ∧ last2 ≤ 4611686018427387904 ∧ lost2 ≤ 4611686018427387904 from by
        have h1 := DI.out.b1; have h2 := DI.out.b2; have h4 := DI.out.b3; have h5 := DI.out.b4; have h3 := HLN.out; omega)
      have HNS := aside (show n ≤ 512 from by have h1 := D1.out.tw.one.bag.le; have h2 := D1.out.tw.one.bag.r2; rw [D1.out.ln] at h1; omega)
      obtain ⟨c0, c1, c2, c3, c4⟩ := five k1
      obtain ⟨k3, hk3, hk4⟩ := amg_lt kd (m := 3) (by omega)
      have CK := aside (amg3 kd)
      rw [show (3 : Int) = ((3 : Nat) : Int) from rfl, hk3] at CK
      replace CK := aside (fun W => CK.out W)
      clear b1 k1 hk3
      go_upto_region 12 with fail
      try rw [hX1]
      clear hX1 hq1 m0 m1 m2 m3 m4
      by_cases h30 : k3 = 0
      · subst h30
        by_cases hn0 : 0 < n
        · as_aux_lemma =>
            have hn1 : (0 : Int) < (n : Int) := by omega
            go_wp2_with fail
            refine (CK.out _).mono ?_
            rintro e X1' ⟨rfl, rfl⟩
            have hn0 : (0 : Int) < (n : Int) := by omega
            have HLL := aside D1.out.ln
            obtain ⟨p, r, rfl⟩ : ∃ p r, l = p :: r := by
              cases l with
              | nil => have h9 := HLL.out; simp at h9; omega
              | cons p r => exact ⟨p, r, rfl⟩
            obtain ⟨s, q', rfl⟩ : ∃ s q', q = s :: q' := by
              have h9 := D1.out.qc.1
              cases q with
              | nil => simp at h9
              | cons s q' => exact ⟨s, q', rfl⟩
            go_wp2_with fail
            refine (btake_yes D1.out.tw.one.bag 0 p rfl HB1.out.size).mono ?_
            rintro e Y ⟨p5, rfl, hp5, d5, v5, hb, kk, hx⟩
            obtain ⟨⟨⟨e1, e2, e3⟩, hin2⟩, hqc⟩ := D1.out.qc.head
            obtain ⟨kd2, fr2, ds2, ix2, da2, dl2, dc2, L2⟩ := s
            obtain ⟨num5, frm5, dst5, da5, dl5, dc5, L5⟩ := p5
            obtain ⟨g1, g2, g3, g4⟩ := pk_ext hp5
            dsimp only at e1 e2 e3 g1 g2 g3 g4
            rw [e1] at g2
            rw [e2] at g3
            rw [e3] at g4
            have h2 := g2.symm
            have h3 := g3.symm
            have h4 := g4.symm
            clear g2 g3 g4
            subst h2 h3 h4
            have TW1 := aside (D1.out.tw.turn kk hb (fun j hj => .inr (hx j hj)))
            have WW1 := aside (D1.out.wy.bag D1.out.tw.one.bag kk)
            have HQC := aside hqc
            have HI2 := aside hin2
            have D5 := aside d5
            have LNN := aside (show r.length + 1 = n from by have := HLL.out; simpa using this)
            have BBB := aside (show last ≤ k ∧ lost ≤ k ∧ last2 ≤ k ∧ lost2 ≤ k from ⟨D1.out.b1, D1.out.b2, D1.out.b3, D1.out.b4⟩)
            clear hp5 d5 hb kk hx hin2 hqc e1 e2 e3 g1 D1 HB1 HLL K1 c0 c1 c2 c3 c4
            unfold Pk.v
            dsimp only at D5 HI2 ⊢
            obtain ⟨X2, hX2⟩ : ∃ X, Y.alloc (.cells #[.int .i64 num5, .int .i64 fr2, .int .i64 ds2, .slice da5 dl5 dc5] 39) = X := ⟨_, rfl⟩
            obtain ⟨q2, hq2⟩ : ∃ q, Y.heap.size = q := ⟨_, rfl⟩
            have b2 := bnew Y (.cells #[.int .i64 num5, .int .i64 fr2, .int .i64 ds2, .slice da5 dl5 dc5] 39)
            have k2 := heap_alloc_new Y (.cells #[.int .i64 num5, .int .i64 fr2, .int .i64 ds2, .slice da5 dl5 dc5] 39)
            rw [hX2] at b2 k2
            rw [hq2] at k2
            have K2 := aside k2
            have TW2 := aside (TW1.out.on b2)
            have WW2 := aside (WW1.out.on b2)
            have D6 := aside (D5.out.on b2)
            obtain ⟨g, o, rfl, -⟩ := WW2.out.first
            have SX := aside (fun (W : World) (bb : Below X2.heap.size X2 W) => (show (W.cell? ⟨q2, 1, none⟩ = some (.int .i64 fr2) ∧ W.cell? ⟨q2, 2, none⟩ = some (.int .i64 ds2) ∧ W.cell? ⟨q2, 3, none⟩ = some (.slice da5 dl5 dc5)) ∧ (W.cell? ⟨g, o + 1, none⟩ = some (.int .i64 fr2) ∧ W.cell? ⟨g, o + 2, none⟩ = some (.int .i64 ds2) ∧ W.cell? ⟨g, o + 4, none⟩ = some (.slice da2 dl2 dc2)) ∧ (convert 32 9 (.slice da5 dl5 dc5)).run Try.prog W = .ok (.string ⟨L2.toArray⟩) W ∧ (convert 32 9 (.slice da2 dl2 dc2)).run Try.prog W = .ok (.string ⟨L2.toArray⟩) W from by
              obtain ⟨y0, y1, y2, y3⟩ := fourB (blk_on K2.out bb)
              obtain ⟨g', o', e1, z0, z1, z2, z3, z4⟩ := (WW2.out.on bb).first
              injection e1 with e1
              injection e1 with e1 e2
              subst e1 e2
              exact ⟨⟨y1, y2, y3⟩, ⟨z1, z2, z4⟩, dat_conv (D6.out.on bb), byIn_conv (HI2.out.1.on (TW2.out.on bb).one.bel)⟩))
            obtain ⟨aT, cT, sl, hcut⟩ := WW2.out.cut
            have CUT := aside hcut
            have hn9 : (0 : Int) < (n : Int) := hn0
            clear b2 k2 TW1 WW1 D5 hcut
            go_upto_region 14 with fail
            try rw [hX2]
            try rw [hq2]
            clear hX2 hq2
            refine wp_region_held_drew (S := fun W => (W.cell? ⟨q2, 1, none⟩ = some (.int .i64 fr2) ∧ W.cell? ⟨q2, 2, none⟩ = some (.int .i64 ds2) ∧ W.cell? ⟨q2, 3, none⟩ = some (.slice da5 dl5 dc5)) ∧ (W.cell? ⟨g, o + 1, none⟩ = some (.int .i64 fr2) ∧ W.cell? ⟨g, o + 2, none⟩ = some (.int .i64 ds2) ∧ W.cell? ⟨g, o + 4, none⟩ = some (.slice da2 dl2 dc2)) ∧ (convert 32 9 (.slice da5 dl5 dc5)).run Try.prog W = .ok (.string ⟨L2.toArray⟩) W ∧ (convert 32 9 (.slice da2 dl2 dc2)).run Try.prog W = .ok (.string ⟨L2.toArray⟩) W) (by kernel_rfl) (SX.out _ (Below.refl _ X2).drew) (fun hHeld => ?_)
            refine wpAnyH_take (i := 0) (v := ?_) rfl (by kernel_rfl) (by kernel_rfl) (by kernel_rfl) (fun _ _ _ h => h) (Or.inl ⟨by rfl, ?_⟩) (by assumption) ?_
            rotate_left
            · intro w hSw
              go_simp
              try with_reducible rfl
            simp only [Act.put, List.getElem_toArray, List.getElem_cons_zero, List.setIfInBounds_toArray, List.set_cons_zero, List.set_cons_succ]
            refine wpAnyH_take (i := 1) (v := .bool false) rfl (by kernel_rfl) (by kernel_rfl) (by kernel_rfl) (fun _ _ _ h => h) (Or.inl ⟨by rfl, ?_⟩) (by assumption) ?_
            · intro w hSw
              go_simp
              try with_reducible rfl
            simp only [Act.put, List.getElem_toArray, List.getElem_cons_zero, List.getElem_cons_succ, List.setIfInBounds_toArray, List.set_cons_zero, List.set_cons_succ]
            refine wpAnyH_take (i := 2) (v := ?_) rfl (by kernel_rfl) (by kernel_rfl) (by kernel_rfl) (fun _ _ _ h => h) (Or.inl ⟨by rfl, ?_⟩) (by assumption) ?_
            rotate_left
            · intro w hSw
              go_simp
              try with_reducible rfl
            simp only [Act.put, List.getElem_toArray, List.getElem_cons_zero, List.getElem_cons_succ, List.setIfInBounds_toArray, List.set_cons_zero, List.set_cons_succ]
            refine wpAnyH_take (i := 3) (v := ?_) rfl (by kernel_rfl) (by kernel_rfl) (by kernel_rfl) (fun _ _ _ h => h) (Or.inl ⟨by rfl, ?_⟩) (by assumption) ?_
            rotate_left
            · intro w hSw
              go_simp
              try with_reducible rfl
            simp only [Act.put, List.getElem_toArray, List.getElem_cons_zero, List.getElem_cons_succ, List.setIfInBounds_toArray, List.set_cons_zero, List.set_cons_succ]
            refine wpAnyH_take (i := 4) (v := ?_) rfl (by kernel_rfl) (by kernel_rfl) (by kernel_rfl) (fun _ _ _ h => h) (Or.inl ⟨by rfl, ?_⟩) (by assumption) ?_
            rotate_left
            · intro w hSw
              go_simp
              try with_reducible rfl
            simp only [Act.put, List.getElem_toArray, List.getElem_cons_zero, List.getElem_cons_succ, List.setIfInBounds_toArray, List.set_cons_zero, List.set_cons_succ]
            refine wpAnyH_take (i := 5) (v := ?_) rfl (by kernel_rfl) (by kernel_rfl) (by kernel_rfl) (fun _ _ _ h => h) (Or.inl ⟨by rfl, ?_⟩) (by assumption) ?_
            rotate_left
            · intro w hSw
              go_simp
              try with_reducible rfl
            simp only [Act.put, List.getElem_toArray, List.getElem_cons_zero, List.getElem_cons_succ, List.setIfInBounds_toArray, List.set_cons_zero, List.set_cons_succ]
            refine wpAnyH_take (i := 6) (v := ?_) rfl (by kernel_rfl) (by kernel_rfl) (by kernel_rfl) (fun _ _ _ h => h) (Or.inl ⟨by rfl, ?_⟩) (by assumption) ?_
            rotate_left
            · intro w hSw
              go_simp
              try with_reducible rfl
            simp only [Act.put, List.getElem_toArray, List.getElem_cons_zero, List.getElem_cons_succ, List.setIfInBounds_toArray, List.set_cons_zero, List.set_cons_succ]
            refine wpAnyH_take (i := 7) (v := ?_) rfl (by kernel_rfl) (by kernel_rfl) (by kernel_rfl) (fun _ _ _ h => h) (Or.inl ⟨by rfl, ?_⟩) (by assumption) ?_
            rotate_left
            · intro w hSw
              go_simp
              try with_reducible rfl
            simp only [Act.put, List.getElem_toArray, List.getElem_cons_zero, List.getElem_cons_succ, List.setIfInBounds_toArray, List.set_cons_zero, List.set_cons_succ]
            refine wpAnyH_take (i := 8) (v := ?_) rfl (by kernel_rfl) (by kernel_rfl) (by kernel_rfl) (fun _ _ _ h => h) (Or.inl ⟨by rfl, ?_⟩) (by assumption) ?_
            rotate_left
            · intro w hSw
              go_simp
              try with_reducible rfl
            simp only [Act.put, List.getElem_toArray, List.getElem_cons_zero, List.getElem_cons_succ, List.setIfInBounds_toArray, List.set_cons_zero, List.set_cons_succ]
            refine wpAnyH_take (i := 9) (v := .bool false) rfl (by kernel_rfl) (by kernel_rfl) (by kernel_rfl) (fun _ _ _ h => h) (Or.inl ⟨by rfl, ?_⟩) (by assumption) ?_
            · intro w hSw
              go_simp
              try with_reducible rfl
            simp only [Act.put, List.getElem_toArray, List.getElem_cons_zero, List.getElem_cons_succ, List.setIfInBounds_toArray, List.set_cons_zero, List.set_cons_succ]
            refine wpAnyH_take (i := 10) (v := ?_) rfl (by kernel_rfl) (by kernel_rfl) (by kernel_rfl) (fun _ _ _ h => h) (Or.inl ⟨by rfl, ?_⟩) (by assumption) ?_
            rotate_left
            · intro w hSw
              go_simp
              try with_reducible rfl
            simp only [Act.put, List.getElem_toArray, List.getElem_cons_zero, List.getElem_cons_succ, List.setIfInBounds_toArray, List.set_cons_zero, List.set_cons_succ]
            refine wpAnyH_take (i := 11) (v := ?_) rfl (by kernel_rfl) (by kernel_rfl) (by kernel_rfl) (fun _ _ _ h => h) (Or.inl ⟨by rfl, ?_⟩) (by assumption) ?_
            rotate_left
            · intro w hSw
              go_simp
              try with_reducible rfl
            simp only [Act.put, List.getElem_toArray, List.getElem_cons_zero, List.getElem_cons_succ, List.setIfInBounds_toArray, List.set_cons_zero, List.set_cons_succ]
            refine wpAnyH_take (i := 12) (v := ?_) rfl (by kernel_rfl) (by kernel_rfl) (by kernel_rfl) (fun _ _ _ h => h) (Or.inl ⟨by rfl, ?_⟩) (by assumption) ?_
            rotate_left
            · intro w hSw
              go_simp
              try with_reducible rfl
            simp only [Act.put, List.getElem_toArray, List.getElem_cons_zero, List.getElem_cons_succ, List.setIfInBounds_toArray, List.set_cons_zero, List.set_cons_succ]
            refine wpAnyH_take (i := 13) (v := ?_) rfl (by kernel_rfl) (by kernel_rfl) (by kernel_rfl) (fun _ _ _ h => h) (Or.inl ⟨by rfl, ?_⟩) (by assumption) ?_
            rotate_left
            · intro w hSw
              go_simp
              try with_reducible rfl
            simp only [Act.put, List.getElem_toArray, List.getElem_cons_zero, List.getElem_cons_succ, List.setIfInBounds_toArray, List.set_cons_zero, List.set_cons_succ]
            refine wpAnyH_take (i := 14) (v := ?_) rfl (by kernel_rfl) (by kernel_rfl) (by kernel_rfl) (fun _ _ _ h => h) (Or.inl ⟨by rfl, ?_⟩) (by assumption) ?_
            rotate_left
            · intro w hSw
              go_simp
              try with_reducible rfl
            simp only [Act.put, List.getElem_toArray, List.getElem_cons_zero, List.getElem_cons_succ, List.setIfInBounds_toArray, List.set_cons_zero, List.set_cons_succ]
            refine wpAnyH_take (i := 15) (v := ?_) rfl (by kernel_rfl) (by kernel_rfl) (by kernel_rfl) (fun _ _ _ h => h) (Or.inl ⟨by rfl, ?_⟩) (by assumption) ?_
            rotate_left
            · intro w hSw
              go_simp
              try with_reducible rfl
            simp only [Act.put, List.getElem_toArray, List.getElem_cons_zero, List.getElem_cons_succ, List.setIfInBounds_toArray, List.set_cons_zero, List.set_cons_succ]
            refine wpAnyH_take (i := 16) (v := ?_) rfl (by kernel_rfl) (by kernel_rfl) (by kernel_rfl) (fun _ _ _ h => h) (Or.inl ⟨by rfl, ?_⟩) (by assumption) ?_
            rotate_left
            · intro w hSw
              go_simp
              try with_reducible rfl
            simp only [Act.put, List.getElem_toArray, List.getElem_cons_zero, List.getElem_cons_succ, List.setIfInBounds_toArray, List.set_cons_zero, List.set_cons_succ]
            refine wpAnyH_take (i := 17) (v := ?_) rfl (by kernel_rfl) (by kernel_rfl) (by kernel_rfl) (fun _ _ _ h => h) (Or.inl ⟨by rfl, ?_⟩) (by assumption) ?_
            rotate_left
            · intro w hSw
              go_simp
              try with_reducible rfl
            simp only [Act.put, List.getElem_toArray, List.getElem_cons_zero, List.getElem_cons_succ, List.setIfInBounds_toArray, List.set_cons_zero, List.set_cons_succ]
            refine wpAnyH_take (i := 18) (v := .bool false) rfl (by kernel_rfl) (by kernel_rfl) (by kernel_rfl) (fun _ _ _ h => h) (Or.inl ⟨by rfl, ?_⟩) (by assumption) ?_
            · intro w hSw
              go_simp
              try with_reducible rfl
            simp only [Act.put, List.getElem_toArray, List.getElem_cons_zero, List.getElem_cons_succ, List.setIfInBounds_toArray, List.set_cons_zero, List.set_cons_succ]
            refine wpAnyH_take (i := 19) (v := ?_) rfl (by kernel_rfl) (by kernel_rfl) (by kernel_rfl) (fun _ _ _ h => h) (Or.inl ⟨by rfl, ?_⟩) (by assumption) ?_
            rotate_left
            · intro w hSw
              go_simp
              try with_reducible rfl
            simp only [Act.put, List.getElem_toArray, List.getElem_cons_zero, List.getElem_cons_succ, List.setIfInBounds_toArray, List.set_cons_zero, List.set_cons_succ]
            refine wpAnyH_take (i := 20) (v := ?_) rfl (by kernel_rfl) (by kernel_rfl) (by kernel_rfl) (fun _ _ _ h => h) (Or.inl ⟨by rfl, ?_⟩) (by assumption) ?_
            rotate_left
            · intro w hSw
              go_simp
              try with_reducible rfl
            simp only [Act.put, List.getElem_toArray, List.getElem_cons_zero, List.getElem_cons_succ, List.setIfInBounds_toArray, List.set_cons_zero, List.set_cons_succ]
            refine wpAnyH_take (i := 21) (v := ?_) rfl (by kernel_rfl) (by kernel_rfl) (by kernel_rfl) (fun _ _ _ h => h) (Or.inl ⟨by rfl, ?_⟩) (by assumption) ?_
            rotate_left
            · intro w hSw
              go_simp
              try with_reducible rfl
            simp only [Act.put, List.getElem_toArray, List.getElem_cons_zero, List.getElem_cons_succ, List.setIfInBounds_toArray, List.set_cons_zero, List.set_cons_succ]
            refine wpAnyH_take (i := 22) (v := ?_) rfl (by kernel_rfl) (by kernel_rfl) (by kernel_rfl) (fun _ _ _ h => h) (Or.inl ⟨by rfl, ?_⟩) (by assumption) ?_
            rotate_left
            · intro w hSw
              go_simp
              try with_reducible rfl
            simp only [Act.put, List.getElem_toArray, List.getElem_cons_zero, List.getElem_cons_succ, List.setIfInBounds_toArray, List.set_cons_zero, List.set_cons_succ]
            refine wpAnyH_take (i := 23) (v := ?_) rfl (by kernel_rfl) (by kernel_rfl) (by kernel_rfl) (fun _ _ _ h => h) (Or.inl ⟨by rfl, ?_⟩) (by assumption) ?_
            rotate_left
            · intro w hSw
              go_simp
              try with_reducible rfl
            simp only [Act.put, List.getElem_toArray, List.getElem_cons_zero, List.getElem_cons_succ, List.setIfInBounds_toArray, List.set_cons_zero, List.set_cons_succ]
            refine wpAnyH_take (i := 24) (v := ?_) rfl (by kernel_rfl) (by kernel_rfl) (by kernel_rfl) (fun _ _ _ h => h) (Or.inl ⟨by rfl, ?_⟩) (by assumption) ?_
            rotate_left
            · intro w hSw
              go_simp
              try with_reducible rfl
            simp only [Act.put, List.getElem_toArray, List.getElem_cons_zero, List.getElem_cons_succ, List.setIfInBounds_toArray, List.set_cons_zero, List.set_cons_succ]
            refine wpAnyH_take (i := 25) (v := ?_) rfl (by kernel_rfl) (by kernel_rfl) (by kernel_rfl) (fun _ _ _ h => h) (Or.inl ⟨by rfl, ?_⟩) (by assumption) ?_
            rotate_left
            · intro w hSw
              go_simp
              try with_reducible rfl
            simp only [Act.put, List.getElem_toArray, List.getElem_cons_zero, List.getElem_cons_succ, List.setIfInBounds_toArray, List.set_cons_zero, List.set_cons_succ]
            refine wpAnyH_take (i := 26) (v := ?_) rfl (by kernel_rfl) (by kernel_rfl) (by kernel_rfl) (fun _ _ _ h => h) (Or.inl ⟨by rfl, ?_⟩) (by assumption) ?_
            rotate_left
            · intro w hSw
              go_simp
              try with_reducible rfl
            simp only [Act.put, List.getElem_toArray, List.getElem_cons_zero, List.getElem_cons_succ, List.setIfInBounds_toArray, List.set_cons_zero, List.set_cons_succ]
            refine wpAnyH_take (i := 27) (v := ?_) rfl (by kernel_rfl) (by kernel_rfl) (by kernel_rfl) (fun _ _ _ h => h) (Or.inl ⟨by rfl, ?_⟩) (by assumption) ?_
            rotate_left
            · intro w hSw
              go_simp
              try with_reducible rfl
            simp only [Act.put, List.getElem_toArray, List.getElem_cons_zero, List.getElem_cons_succ, List.setIfInBounds_toArray, List.set_cons_zero, List.set_cons_succ]
            refine wpAnyH_take (i := 28) (v := ?_) rfl (by kernel_rfl) (by kernel_rfl) (by kernel_rfl) (fun _ _ _ h => h) (Or.inl ⟨by rfl, ?_⟩) (by assumption) ?_
            rotate_left
            · intro w hSw
              go_simp
              try with_reducible rfl
            simp only [Act.put, List.getElem_toArray, List.getElem_cons_zero, List.getElem_cons_succ, List.setIfInBounds_toArray, List.set_cons_zero, List.set_cons_succ]
            refine wpAnyH_take (i := 29) (v := .bool false) rfl (by kernel_rfl) (by kernel_rfl) (by kernel_rfl) (fun _ _ _ h => h) (Or.inl ⟨by rfl, ?_⟩) (by assumption) ?_
            · intro w hSw
              go_simp
              try with_reducible rfl
            simp only [Act.put, List.getElem_toArray, List.getElem_cons_zero, List.getElem_cons_succ, List.setIfInBounds_toArray, List.set_cons_zero, List.set_cons_succ]
            refine wpAnyH_take (i := 30) (v := ?_) rfl (by kernel_rfl) (by kernel_rfl) (by kernel_rfl) (fun _ _ _ h => h) (Or.inl ⟨by rfl, ?_⟩) (by assumption) ?_
            rotate_left
            · intro w hSw
              go_simp
              try with_reducible rfl
            simp only [Act.put, List.getElem_toArray, List.getElem_cons_zero, List.getElem_cons_succ, List.setIfInBounds_toArray, List.set_cons_zero, List.set_cons_succ]
            refine wpAnyH_done (by kernel_rfl) ?_ _
            have bd := (Below.refl X2.heap.size X2).drew
            have DT := aside (show QInv w X2.drew (k + 1) b v5 rm last lost r cb vc last2 lost2 aT (n - 1) cT q' from ⟨TW2.out.on bd, CUT.out _ bd, HQC.out, by have := LNN.out; omega, by have := BBB.out; omega, by have := BBB.out; omega, by have := BBB.out; omega, by have := BBB.out; omega⟩)
            clear bd hHeld SX
            generalize X2.drew = X3 at DT ⊢
            go_wp2
            go_roundw
            case rel => exact ⟨k + 1, _, _, _, _, _, _, _, _, _, _, _, by first | rfl | go_num, by omega, rfl, DT.out⟩
            case measure => simp [intOf] <;> omega
        · have hn1 : ¬ ((0 : Int) < (n : Int)) := by omega
          go_wp2_with fail
          refine (CK.out _).mono ?_
          rintro e X1' ⟨rfl, rfl⟩
          by_cases hno : NodeOk fr ds
          · by_cases hbig : 65536 < dl
            · as_aux_lemma =>
                have hno2 := hno.swap
                go_wp2_with fail
                refine (bsend_big b fr ds da dl dc hno hbig _).mono ?_
                rintro e X ⟨rfl, rfl⟩
                go_wp2_with fail
                refine (bsend_big cb ds fr da dl dc hno2 hbig _).mono ?_
                rintro e X ⟨rfl, rfl⟩
                go_wp2_with fail
                refine (bdrop_no D1.out.tw.two.bag 0 (.inr (by simp))).mono ?_
                rintro e X ⟨rfl, rfl⟩
                have DT := aside (show QInv w X (k + 1) b v rm last lost l cb vc last2 lost2 a n c q from ⟨D1.out.tw, D1.out.wy, D1.out.qc, D1.out.ln, by have := D1.out.b1; omega, by have := D1.out.b2; omega, by have := D1.out.b3; omega, by have := D1.out.b4; omega⟩)
                clear hno hno2 c0 c1 c2 c3 c4
                go_wp2
                go_roundw
                case rel => exact ⟨k + 1, _, _, _, _, _, _, _, _, _, _, _, by first | rfl | go_num, by omega, rfl, DT.out⟩
                case measure => simp [intOf] <;> omega
            · as_aux_lemma =>
                have HNO := aside hno
                have HNO2 := aside hno.swap
                have HBG := aside (show dl ≤ 65536 from by omega)
                clear hno hbig
                go_wp2_with fail
                refine (bsend_ok D1.out.tw.one.bag fr ds da dl dc L HNO.out HBG.out (HIN.out.1.on HB1.out) (fun h0 y hy => D1.out.tw.one.bag.far_old (HIN.out.2.2 h0 y hy)) HSM.out.1 HSM.out.2.1 HB1.out.size).mono ?_
                rintro e Y ⟨nn, rfl, kk, hs⟩
                have KW1 := aside (blk_keep K1.out kk (fun hs => by
                  rcases hs with h | h
                  · have h2 := D1.out.tw.one.bag.bx
                    rw [← h, K1.out] at h2
                    simp at h2
                  · exact own_typed D1.out.tw.one.bag.row K1.out (by decide) h))
                have WW1 := aside (D1.out.wy.bag D1.out.tw.one.bag kk)
                have QCC := aside D1.out.qc
                have LNN := aside D1.out.ln
                have BBB := aside (show last ≤ k ∧ lost ≤ k ∧ last2 ≤ k ∧ lost2 ≤ k from ⟨D1.out.b1, D1.out.b2, D1.out.b3, D1.out.b4⟩)
                clear c0 c1 c2 c3 c4
                obtain ⟨c0, c1, c2, c3, c4⟩ := five KW1.out
                rcases hs with ⟨hful, e2, hb⟩ | ⟨hrm, e2, v2, p2, hp2, -, hb, hw⟩
                · injection e2 with e2
                  injection e2 with _ e2
                  subst e2
                  have TW1 := aside (D1.out.tw.turn kk hb (fun j hj => .inl hj))
                  have hnr : ¬ ((n : Int) < (rm : Int)) := by have h1 := LNN.out; omega
                  clear kk hb K1 D1 HB1 hful
                  go_wp2_with fail
                  refine (bsend_ok TW1.out.two.bag ds fr da dl dc L HNO2.out HBG.out (HIN.out.1.on TW1.out.one.bel) (fun h0 y hy => TW1.out.two.bag.far_old (HIN.out.2.2 h0 y hy)) HSM.out.2.2.1 HSM.out.2.2.2 TW1.out.one.bel.size).mono ?_
                  rintro e Y2 ⟨nn2, rfl, kk2, hs2⟩
                  rcases hs2 with ⟨hful2, -⟩ | ⟨-, -, v3, p3, -, -, hb3, hw3⟩
                  · exact absurd hful2 (by have := HR1.out.1; simp; omega)
                  have T2 := aside ((TW1.out.swap.turn kk2 hb3 (fun j hj => hw3.elim (fun h => .inl (h ▸ hj)) (fun ⟨g, h1, h2⟩ => .inr (by rw [hj] at h1; injection h1 with h1; omega)))).swap)
                  have W2 := aside (WW1.out.bag TW1.out.two.bag kk2)
                  have K2 := aside (blk_keep KW1.out kk2 (fun hs => by
                    rcases hs with h | h
                    · have h2 := TW1.out.two.bag.bx
                      rw [← h, KW1.out] at h2
                      simp at h2
                    · exact own_typed TW1.out.two.bag.row KW1.out (by decide) h))
                  clear kk2 hb3 hw3 TW1 WW1 KW1 c0 c1 c2 c3 c4
                  go_wp2_with fail
                  refine (bdrop_yes T2.out.two.bag 0 (by simp) HSM.out.2.2.2 T2.out.one.bel.size).mono ?_
                  rintro e Z ⟨rfl, v4, hb4, kk4, hx4⟩
                  have T3 := aside ((T2.out.swap.turn kk4 hb4 (fun j hj => .inr (hx4 j hj))).swap)
                  have W3 := aside (W2.out.bag T2.out.two.bag kk4)
                  have K3 := aside (blk_keep K2.out kk4 (fun hs => by
                    rcases hs with h | h
                    · have h2 := T2.out.two.bag.bx
                      rw [← h, K2.out] at h2
                      simp at h2
                    · exact own_typed T2.out.two.bag.row K2.out (by decide) h))
                  clear kk4 hb4 hx4 T2 W2 K2
                  have DT := aside (show QInv w Z (k + 1) b v rm last (lost + 1) l cb v4 (last2 + 1) (lost2 + 1) a n c q from ⟨T3.out, W3.out, QCC.out, LNN.out, by have := BBB.out; omega, by have := BBB.out; omega, by have := BBB.out; omega, by have := BBB.out; omega⟩)
                  go_wp2
                  go_roundw
                  case rel => exact ⟨k + 1, _, _, _, _, _, _, _, _, _, _, _, by first | rfl | go_num, by omega, rfl, DT.out⟩
                  case measure => simp [intOf] <;> omega
                · injection e2 with e2
                  injection e2 with _ e2
                  subst e2
                  have TW1 := aside (D1.out.tw.turn kk hb (fun j hj => hw.elim (fun h => .inl (h ▸ hj)) (fun ⟨g, h1, h2⟩ => .inr (by rw [hj] at h1; injection h1 with h1; omega))))
                  have hnr : (n : Int) < (rm : Int) := by have h1 := LNN.out; omega
                  have hla : (0 : Int) < (last : Int) + 1 := by omega
                  obtain ⟨f1, f2, f3, f4⟩ := pk_ext hp2
                  have HP2 := aside (show (p2.frm = fr ∧ p2.dst = ds ∧ p2.L = L) from ⟨f2, f3, f4⟩)
                  clear kk hb K1 D1 HB1 hrm hw hp2 f1 f2 f3 f4
                  go_wp2_with fail
                  refine (bsend_ok TW1.out.two.bag ds fr da dl dc L HNO2.out HBG.out (HIN.out.1.on TW1.out.one.bel) (fun h0 y hy => TW1.out.two.bag.far_old (HIN.out.2.2 h0 y hy)) HSM.out.2.2.1 HSM.out.2.2.2 TW1.out.one.bel.size).mono ?_
                  rintro e Y2 ⟨nn2, rfl, kk2, hs2⟩
                  rcases hs2 with ⟨hful2, -⟩ | ⟨-, -, v3, p3, -, -, hb3, hw3⟩
                  · exact absurd hful2 (by have := HR1.out.1; simp; omega)
                  have T2 := aside ((TW1.out.swap.turn kk2 hb3 (fun j hj => hw3.elim (fun h => .inl (h ▸ hj)) (fun ⟨g, h1, h2⟩ => .inr (by rw [hj] at h1; injection h1 with h1; omega)))).swap)
                  have W2 := aside (WW1.out.bag TW1.out.two.bag kk2)
                  have K2 := aside (blk_keep KW1.out kk2 (fun hs => by
                    rcases hs with h | h
                    · have h2 := TW1.out.two.bag.bx
                      rw [← h, KW1.out] at h2
                      simp at h2
                    · exact own_typed TW1.out.two.bag.row KW1.out (by decide) h))
                  clear kk2 hb3 hw3 TW1 WW1 KW1 c0 c1 c2 c3 c4
                  go_wp2_with fail
                  refine (bdrop_yes T2.out.two.bag 0 (by simp) HSM.out.2.2.2 T2.out.one.bel.size).mono ?_
                  rintro e Z ⟨rfl, v4, hb4, kk4, hx4⟩
                  have T3 := aside ((T2.out.swap.turn kk4 hb4 (fun j hj => .inr (hx4 j hj))).swap)
                  have W3 := aside (W2.out.bag T2.out.two.bag kk4)
                  have K3 := aside (blk_keep K2.out kk4 (fun hs => by
                    rcases hs with h | h
                    · have h2 := T2.out.two.bag.bx
                      rw [← h, K2.out] at h2
                      simp at h2
                    · exact own_typed T2.out.two.bag.row K2.out (by decide) h))
                  clear kk4 hb4 hx4 T2 W2 K2
                  obtain ⟨c0, c1, c2, c3, c4⟩ := five K3.out
                  have bn := bnew Z (.cells #[.int .i64 kd, .int .i64 fr, .int .i64 ds, .int .i64 ix, .slice da dl dc] 34)
                  have KN := aside (heap_alloc_new Z (.cells #[.int .i64 kd, .int .i64 fr, .int .i64 ds, .int .i64 ix, .slice da dl dc] 34))
                  have T4 := aside (T3.out.on bn)
                  have W4 := aside (W3.out.on bn)
                  clear bn T3 W3
                  go_upto_region 23 with fail
                  refine wp_region_list ?_
                  refine wpList_plain rfl fun K hK => ?_
                  go_simp
                  refine hK _ _ ?_
                  clear hK
                  clear K
                  refine wpList_load_row rfl 34 (.tmp 11) rfl q1 (by rfl) 34 _ _ _ K3.out rfl rfl rfl ?_
                  refine build_bo rfl 133 rfl #[.int .i64 kd, .int .i64 fr, .int .i64 ds, .int .i64 ix, .slice da dl dc] rfl (by rfl) ?_
                  refine wpList_plain rfl fun K hK => op_append_way _ _ rfl a n c q (by rfl) W4.out ⟨kd, fr, ds, ix, da, dl, dc, L⟩ _ 1 (by rfl) KN.out (by have := HNS.out; omega) T4.out.one.bel.size ?_
                  intro a5 c5 w5 way5 kk5
                  refine hK _ _ ?_
                  clear hK
                  clear K
                  refine Hid.out ?_
                  refine aside ?_
                  have DT := aside (show QInv w w5 (k + 1) b v2 rm (last + 1) lost (l ++ [p2]) cb v4 (last2 + 1) (lost2 + 1) a5 (n + 1) c5 (q ++ [⟨kd, fr, ds, ix, da, dl, dc, L⟩]) from ⟨T4.out.way W4.out kk5, way5, QCC.out.snoc ⟨HP2.out, HIN.out⟩, by rw [List.length_append, LNN.out]; rfl, by have := BBB.out; omega, by have := BBB.out; omega, by have := BBB.out; omega, by have := BBB.out; omega⟩)
                  clear way5 kk5 c0 c1 c2 c3 c4 hla hnr K3 KN T4 W4
                  refine wpList_plain rfl fun K hK => ?_
                  go_simp
                  refine hK _ _ ?_
                  clear hK
                  clear K
                  refine wpList_nil ?_
                  go_wp2
                  go_roundw
                  case rel => exact ⟨k + 1, _, _, _, _, _, _, _, _, _, _, _, by first | rfl | go_num, by omega, rfl, DT.out⟩
                  case measure => simp [intOf] <;> omega
          · as_aux_lemma =>
              have hno2 : ¬ NodeOk ds fr := fun h => hno h.swap
              go_wp2_with fail
              refine (bsend_arg b fr ds da dl dc hno _).mono ?_
              rintro e X ⟨rfl, rfl⟩
              go_wp2_with fail
              refine (bsend_arg cb ds fr da dl dc hno2 _).mono ?_
              rintro e X ⟨rfl, rfl⟩
              go_wp2_with fail
              refine (bdrop_no D1.out.tw.two.bag 0 (.inr (by simp))).mono ?_
              rintro e X ⟨rfl, rfl⟩
              have DT := aside (show QInv w X (k + 1) b v rm last lost l cb vc last2 lost2 a n c q from ⟨D1.out.tw, D1.out.wy, D1.out.qc, D1.out.ln, by have := D1.out.b1; omega, by have := D1.out.b2; omega, by have := D1.out.b3; omega, by have := D1.out.b4; omega⟩)
              clear hno hno2 c0 c1 c2 c3 c4
              go_wp2
              go_roundw
              case rel => exact ⟨k + 1, _, _, _, _, _, _, _, _, _, _, _, by first | rfl | go_num, by omega, rfl, DT.out⟩
              case measure => simp [intOf] <;> omega
      · have h31 : ((k3 : Int) == 0) = false := by simp; omega
        clear h30
        go_wp2_with fail
        refine (CK.out _).mono ?_
        rintro e X1' ⟨rfl, rfl⟩
        by_cases hno : NodeOk fr ds
        · by_cases hbig : 65536 < dl
          · as_aux_lemma =>
              have hno2 := hno.swap
              go_wp2_with fail
              refine (bsend_big b fr ds da dl dc hno hbig _).mono ?_
              rintro e X ⟨rfl, rfl⟩
              go_wp2_with fail
              refine (bsend_big cb ds fr da dl dc hno2 hbig _).mono ?_
              rintro e X ⟨rfl, rfl⟩
              go_wp2_with fail
              refine (bdrop_no D1.out.tw.two.bag 0 (.inr (by simp))).mono ?_
              rintro e X ⟨rfl, rfl⟩
              have DT := aside (show QInv w X (k + 1) b v rm last lost l cb vc last2 lost2 a n c q from ⟨D1.out.tw, D1.out.wy, D1.out.qc, D1.out.ln, by have := D1.out.b1; omega, by have := D1.out.b2; omega, by have := D1.out.b3; omega, by have := D1.out.b4; omega⟩)
              clear hno hno2 c0 c1 c2 c3 c4
              go_wp2
              go_roundw
              case rel => exact ⟨k + 1, _, _, _, _, _, _, _, _, _, _, _, by first | rfl | go_num, by omega, rfl, DT.out⟩
              case measure => simp [intOf] <;> omega
          · as_aux_lemma =>
              have HNO := aside hno
              have HNO2 := aside hno.swap
              have HBG := aside (show dl ≤ 65536 from by omega)
              clear hno hbig
              go_wp2_with fail
              refine (bsend_ok D1.out.tw.one.bag fr ds da dl dc L HNO.out HBG.out (HIN.out.1.on HB1.out) (fun h0 y hy => D1.out.tw.one.bag.far_old (HIN.out.2.2 h0 y hy)) HSM.out.1 HSM.out.2.1 HB1.out.size).mono ?_
              rintro e Y ⟨nn, rfl, kk, hs⟩
              have KW1 := aside (blk_keep K1.out kk (fun hs => by
                rcases hs with h | h
                · have h2 := D1.out.tw.one.bag.bx
                  rw [← h, K1.out] at h2
                  simp at h2
                · exact own_typed D1.out.tw.one.bag.row K1.out (by decide) h))
              have WW1 := aside (D1.out.wy.bag D1.out.tw.one.bag kk)
              have QCC := aside D1.out.qc
              have LNN := aside D1.out.ln
              have BBB := aside (show last ≤ k ∧ lost ≤ k ∧ last2 ≤ k ∧ lost2 ≤ k from ⟨D1.out.b1, D1.out.b2, D1.out.b3, D1.out.b4⟩)
              clear c0 c1 c2 c3 c4
              obtain ⟨c0, c1, c2, c3, c4⟩ := five KW1.out
              rcases hs with ⟨hful, e2, hb⟩ | ⟨hrm, e2, v2, p2, hp2, -, hb, hw⟩
              · injection e2 with e2
                injection e2 with _ e2
                subst e2
                have TW1 := aside (D1.out.tw.turn kk hb (fun j hj => .inl hj))
                have hnr : ¬ ((n : Int) < (rm : Int)) := by have h1 := LNN.out; omega
                clear kk hb K1 D1 HB1 hful
                go_wp2_with fail
                refine (bsend_ok TW1.out.two.bag ds fr da dl dc L HNO2.out HBG.out (HIN.out.1.on TW1.out.one.bel) (fun h0 y hy => TW1.out.two.bag.far_old (HIN.out.2.2 h0 y hy)) HSM.out.2.2.1 HSM.out.2.2.2 TW1.out.one.bel.size).mono ?_
                rintro e Y2 ⟨nn2, rfl, kk2, hs2⟩
                rcases hs2 with ⟨hful2, -⟩ | ⟨-, -, v3, p3, -, -, hb3, hw3⟩
                · exact absurd hful2 (by have := HR1.out.1; simp; omega)
                have T2 := aside ((TW1.out.swap.turn kk2 hb3 (fun j hj => hw3.elim (fun h => .inl (h ▸ hj)) (fun ⟨g, h1, h2⟩ => .inr (by rw [hj] at h1; injection h1 with h1; omega)))).swap)
                have W2 := aside (WW1.out.bag TW1.out.two.bag kk2)
                have K2 := aside (blk_keep KW1.out kk2 (fun hs => by
                  rcases hs with h | h
                  · have h2 := TW1.out.two.bag.bx
                    rw [← h, KW1.out] at h2
                    simp at h2
                  · exact own_typed TW1.out.two.bag.row KW1.out (by decide) h))
                clear kk2 hb3 hw3 TW1 WW1 KW1 c0 c1 c2 c3 c4
                go_wp2_with fail
                refine (bdrop_yes T2.out.two.bag 0 (by simp) HSM.out.2.2.2 T2.out.one.bel.size).mono ?_
                rintro e Z ⟨rfl, v4, hb4, kk4, hx4⟩
                have T3 := aside ((T2.out.swap.turn kk4 hb4 (fun j hj => .inr (hx4 j hj))).swap)
                have W3 := aside (W2.out.bag T2.out.two.bag kk4)
                have K3 := aside (blk_keep K2.out kk4 (fun hs => by
                  rcases hs with h | h
                  · have h2 := T2.out.two.bag.bx
                    rw [← h, K2.out] at h2
                    simp at h2
                  · exact own_typed T2.out.two.bag.row K2.out (by decide) h))
                clear kk4 hb4 hx4 T2 W2 K2
                have DT := aside (show QInv w Z (k + 1) b v rm last (lost + 1) l cb v4 (last2 + 1) (lost2 + 1) a n c q from ⟨T3.out, W3.out, QCC.out, LNN.out, by have := BBB.out; omega, by have := BBB.out; omega, by have := BBB.out; omega, by have := BBB.out; omega⟩)
                go_wp2
                go_roundw
                case rel => exact ⟨k + 1, _, _, _, _, _, _, _, _, _, _, _, by first | rfl | go_num, by omega, rfl, DT.out⟩
                case measure => simp [intOf] <;> omega
              · injection e2 with e2
                injection e2 with _ e2
                subst e2
                have TW1 := aside (D1.out.tw.turn kk hb (fun j hj => hw.elim (fun h => .inl (h ▸ hj)) (fun ⟨g, h1, h2⟩ => .inr (by rw [hj] at h1; injection h1 with h1; omega))))
                have hnr : (n : Int) < (rm : Int) := by have h1 := LNN.out; omega
                have hla : (0 : Int) < (last : Int) + 1 := by omega
                obtain ⟨f1, f2, f3, f4⟩ := pk_ext hp2
                have HP2 := aside (show (p2.frm = fr ∧ p2.dst = ds ∧ p2.L = L) from ⟨f2, f3, f4⟩)
                clear kk hb K1 D1 HB1 hrm hw hp2 f1 f2 f3 f4
                go_wp2_with fail
                refine (bsend_ok TW1.out.two.bag ds fr da dl dc L HNO2.out HBG.out (HIN.out.1.on TW1.out.one.bel) (fun h0 y hy => TW1.out.two.bag.far_old (HIN.out.2.2 h0 y hy)) HSM.out.2.2.1 HSM.out.2.2.2 TW1.out.one.bel.size).mono ?_
                rintro e Y2 ⟨nn2, rfl, kk2, hs2⟩
                rcases hs2 with ⟨hful2, -⟩ | ⟨-, -, v3, p3, -, -, hb3, hw3⟩
                · exact absurd hful2 (by have := HR1.out.1; simp; omega)
                have T2 := aside ((TW1.out.swap.turn kk2 hb3 (fun j hj => hw3.elim (fun h => .inl (h ▸ hj)) (fun ⟨g, h1, h2⟩ => .inr (by rw [hj] at h1; injection h1 with h1; omega)))).swap)
                have W2 := aside (WW1.out.bag TW1.out.two.bag kk2)
                have K2 := aside (blk_keep KW1.out kk2 (fun hs => by
                  rcases hs with h | h
                  · have h2 := TW1.out.two.bag.bx
                    rw [← h, KW1.out] at h2
                    simp at h2
                  · exact own_typed TW1.out.two.bag.row KW1.out (by decide) h))
                clear kk2 hb3 hw3 TW1 WW1 KW1 c0 c1 c2 c3 c4
                go_wp2_with fail
                refine (bdrop_yes T2.out.two.bag 0 (by simp) HSM.out.2.2.2 T2.out.one.bel.size).mono ?_
                rintro e Z ⟨rfl, v4, hb4, kk4, hx4⟩
                have T3 := aside ((T2.out.swap.turn kk4 hb4 (fun j hj => .inr (hx4 j hj))).swap)
                have W3 := aside (W2.out.bag T2.out.two.bag kk4)
                have K3 := aside (blk_keep K2.out kk4 (fun hs => by
                  rcases hs with h | h
                  · have h2 := T2.out.two.bag.bx
                    rw [← h, K2.out] at h2
                    simp at h2
                  · exact own_typed T2.out.two.bag.row K2.out (by decide) h))
                clear kk4 hb4 hx4 T2 W2 K2
                obtain ⟨c0, c1, c2, c3, c4⟩ := five K3.out
                have bn := bnew Z (.cells #[.int .i64 kd, .int .i64 fr, .int .i64 ds, .int .i64 ix, .slice da dl dc] 34)
                have KN := aside (heap_alloc_new Z (.cells #[.int .i64 kd, .int .i64 fr, .int .i64 ds, .int .i64 ix, .slice da dl dc] 34))
                have T4 := aside (T3.out.on bn)
                have W4 := aside (W3.out.on bn)
                clear bn T3 W3
                go_upto_region 23 with fail
                refine wp_region_list ?_
                refine wpList_plain rfl fun K hK => ?_
                go_simp
                refine hK _ _ ?_
                clear hK
                clear K
                refine wpList_load_row rfl 34 (.tmp 11) rfl q1 (by rfl) 34 _ _ _ K3.out rfl rfl rfl ?_
                refine build_bo rfl 133 rfl #[.int .i64 kd, .int .i64 fr, .int .i64 ds, .int .i64 ix, .slice da dl dc] rfl (by rfl) ?_
                refine wpList_plain rfl fun K hK => op_append_way _ _ rfl a n c q (by rfl) W4.out ⟨kd, fr, ds, ix, da, dl, dc, L⟩ _ 1 (by rfl) KN.out (by have := HNS.out; omega) T4.out.one.bel.size ?_
                intro a5 c5 w5 way5 kk5
                refine hK _ _ ?_
                clear hK
                clear K
                refine Hid.out ?_
                refine aside ?_
                have DT := aside (show QInv w w5 (k + 1) b v2 rm (last + 1) lost (l ++ [p2]) cb v4 (last2 + 1) (lost2 + 1) a5 (n + 1) c5 (q ++ [⟨kd, fr, ds, ix, da, dl, dc, L⟩]) from ⟨T4.out.way W4.out kk5, way5, QCC.out.snoc ⟨HP2.out, HIN.out⟩, by rw [List.length_append, LNN.out]; rfl, by have := BBB.out; omega, by have := BBB.out; omega, by have := BBB.out; omega, by have := BBB.out; omega⟩)
                clear way5 kk5 c0 c1 c2 c3 c4 hla hnr K3 KN T4 W4
                refine wpList_plain rfl fun K hK => ?_
                go_simp
                refine hK _ _ ?_
                clear hK
                clear K
                refine wpList_nil ?_
                go_wp2
                go_roundw
                case rel => exact ⟨k + 1, _, _, _, _, _, _, _, _, _, _, _, by first | rfl | go_num, by omega, rfl, DT.out⟩
                case measure => simp [intOf] <;> omega
        · as_aux_lemma =>
            have hno2 : ¬ NodeOk ds fr := fun h => hno h.swap
            go_wp2_with fail
            refine (bsend_arg b fr ds da dl dc hno _).mono ?_
            rintro e X ⟨rfl, rfl⟩
            go_wp2_with fail
            refine (bsend_arg cb ds fr da dl dc hno2 _).mono ?_
            rintro e X ⟨rfl, rfl⟩
            go_wp2_with fail
            refine (bdrop_no D1.out.tw.two.bag 0 (.inr (by simp))).mono ?_
            rintro e X ⟨rfl, rfl⟩
            have DT := aside (show QInv w X (k + 1) b v rm last lost l cb vc last2 lost2 a n c q from ⟨D1.out.tw, D1.out.wy, D1.out.qc, D1.out.ln, by have := D1.out.b1; omega, by have := D1.out.b2; omega, by have := D1.out.b3; omega, by have := D1.out.b4; omega⟩)
            clear hno hno2 c0 c1 c2 c3 c4
            go_wp2
            go_roundw
            case rel => exact ⟨k + 1, _, _, _, _, _, _, _, _, _, _, _, by first | rfl | go_num, by omega, rfl, DT.out⟩
            case measure => simp [intOf] <;> omega
    · have TL := aside (blen_any DI.out.tw.one.bag)
      rw [DI.out.ln] at TL
      have TO := aside (blen_any DI.out.tw.two.bag)
      have hkl : k = len := by omega
      go_wp2_with fail
      refine TL.out.mono ?_
      rintro e W9 ⟨rfl, rfl⟩
      go_wp2_with fail
      refine TO.out.mono ?_
      rintro e W9 ⟨rfl, rfl⟩
      go_wp2
      go_ret
      exact ⟨rfl, HB.out⟩
end Go.Proofs.Yteaaamhojiognaa
