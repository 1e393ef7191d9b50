/-
  Same of the document's: frames that are the same.
-/
import Derived.Test.YtgfblndmblgeeaaFrRow
import Derived.Deep.CutBlock
namespace Go.Proofs.Ytgfblndmblgeeaa
open Go.RowKit
set_option linter.unusedVariables false
/-- Whether two parts are the same. -/
def SamePm (p q : Pm) : Prop := p.kind = q.kind ∧ p.lo = q.lo ∧ p.hi = q.hi ∧ p.op = q.op ∧ p.cnt = q.cnt ∧ p.s0 = q.s0 ∧ p.s1 = q.s1 ∧ p.el = q.el ∧ ∀ k, k < p.el → p.T k = q.T k
theorem rg_ne_same (lo hi : ByteArray) (op : Bool) (w : World) : (binOp .neq 43 (.agg #[.string lo, .string hi, .bool op]) (.agg #[.string lo, .string hi, .bool op])).run Try.prog w = .ok (.bool false) w := by
  rw [rg_ne_run]; simp
theorem ent_ne_sameF (k : ByteArray) (c n : Int) (v : ByteArray) (d : Bool) (w : World) : (binOp .neq 55 (.agg #[.string k, .int .i64 c, .int .i64 n, .string v, .bool d]) (.agg #[.string k, .int .i64 c, .int .i64 n, .string v, .bool d])).run Try.prog w = .ok (.bool false) w := by
  rw [run_neq_struct, show (10000 : Nat) = 9999 + 1 from rfl]
  go_simp
theorem name_same (a l n : Int) (w : World) : (binOp .eql 23 (.agg #[.int .i64 a, .int .i64 l, .int .i64 n]) (.agg #[.int .i64 a, .int .i64 l, .int .i64 n])).run Try.prog w = .ok (.bool true) w := by
  rw [name_run]; simp
set_option maxHeartbeats 6400000 in
set_option maxRecDepth 100000 in
theorem samePs_yes (a : Option Addr) (len ca : Nat) (P : Nat → Pm) (b : Option Addr) (cb : Nat) (Q : Nat → Pm) (w : World) (hA : PartsIn w a len ca P) (hB : PartsIn w b len cb Q) (hS : ∀ i, i < len → SamePm (P i) (Q i)) :
    Calls Try.prog 44 #[.slice a len ca, .slice b len cb] w fun e w' => e = .returned (.bool true) ∧ Below w.heap.size w w' := by
  have HA := aside hA
  have HQ := aside hB
  have HS := aside hS
  have hmx : (len : Int) ≤ 9223372036854775807 := by have h1 := hA.1; have h2 := hA.2.1; unfold maxLen at h2; omega
  clear hA hB hS
  go_enter Try.func44, Try.ntmps44
  go_wp2
  go_loopw [5] (fun i wr => ∃ j : Nat, i = .int .i64 (j : Int) ∧ j ≤ len ∧ Below w.heap.size w wr) (fun i _ => len - (intOf i).toNat)
  case atStart => exact ⟨0, rfl, Nat.zero_le _, Below.refl _ _⟩
  case round =>
    obtain ⟨j, rfl, hj, hBB⟩ := hrel
    have HB := aside hBB
    clear hBB
    by_cases hlt : (j : Int) < (len : Int)
    · have hj0 : (0 : Int) ≤ (j : Int) := by omega
      rcases (HA.out.keep HB.out).2.2 with h0 | ⟨b1, off1, rfl, hb1, hc1⟩
      · omega
      rcases (HQ.out.keep HB.out).2.2 with h0 | ⟨b2, off2, rfl, hb2, hc2⟩
      · omega
      obtain ⟨hat1, hin1⟩ := hc1 j (by omega)
      obtain ⟨hat2, hin2⟩ := hc2 j (by omega)
      have hsm := HS.out j (by omega)
      obtain ⟨p, hp⟩ : ∃ p, P j = p := ⟨_, rfl⟩
      obtain ⟨q, hq⟩ : ∃ q, Q j = q := ⟨_, rfl⟩
      rw [hp] at hat1 hin1 hsm
      rw [hq] at hat2 hin2 hsm
      clear hp hq hc1 hc2
      obtain ⟨kind, lo, hi, op, cnt, s0, s1, ea, el, ec, T⟩ := p
      obtain ⟨kind2, lo2, hi2, op2, cnt2, s02, s12, fa, el2, fc, U⟩ := q
      unfold SamePm at hsm
      dsimp only at hsm
      obtain ⟨rfl, rfl, rfl, rfl, rfl, rfl, rfl, rfl, hTU⟩ := hsm
      obtain ⟨c0, c1, c2, c3, c4, c5, c6, c7⟩ := hat1
      obtain ⟨d0, d1, d2, d3, d4, d5, d6, d7⟩ := hat2
      dsimp only at c0 c1 c2 c3 c4 c5 c6 c7 d0 d1 d2 d3 d4 d5 d6 d7
      have HTU := aside hTU
      have HI1 := aside (show EntsIn wr ea el ec T from hin1)
      have HI2 := aside (show EntsIn wr fa el fc U from hin2)
      clear hTU hin1 hin2
      have RQ := fun W => rg_ne_same lo hi op W
      have TQ := fun W => tal_ne_same cnt s0 s1 W
      have hmy : (el : Int) ≤ 9223372036854775807 := by have h1 := HI1.out.1; have h2 := HI1.out.2.1; unfold maxLen at h2; omega
      go_upto_region 7 with fail
      have K1 := heap_alloc_new wr (.cells #[.int .i64 kind, .string lo, .string hi, .bool op, .int .i64 cnt, .int .u64 s0, .int .u64 s1, .slice ea el ec] 51)
      have BA := bnew wr (.cells #[.int .i64 kind, .string lo, .string hi, .bool op, .int .i64 cnt, .int .u64 s0, .int .u64 s1, .slice ea el ec] 51)
      replace d0 := cell_in d0 BA
      replace d1 := cell_in d1 BA
      replace d2 := cell_in d2 BA
      replace d3 := cell_in d3 BA
      replace d4 := cell_in d4 BA
      replace d5 := cell_in d5 BA
      replace d6 := cell_in d6 BA
      replace d7 := cell_in d7 BA
      obtain ⟨g1, hg1⟩ : ∃ g, wr.heap.size = g := ⟨_, rfl⟩
      rw [hg1] at K1 ⊢
      clear c0 c1 c2 c3 c4 c5 c6 c7 hg1
      generalize wr.alloc (.cells #[.int .i64 kind, .string lo, .string hi, .bool op, .int .i64 cnt, .int .u64 s0, .int .u64 s1, .slice ea el ec] 51) = X1 at K1 BA d0 d1 d2 d3 d4 d5 d6 d7 ⊢
      go_upto_region 8 with fail
      have K2 := heap_alloc_new X1 (.cells #[.int .i64 kind, .string lo, .string hi, .bool op, .int .i64 cnt, .int .u64 s0, .int .u64 s1, .slice fa el fc] 51)
      have BB := bnew X1 (.cells #[.int .i64 kind, .string lo, .string hi, .bool op, .int .i64 cnt, .int .u64 s0, .int .u64 s1, .slice fa el fc] 51)
      replace K1 := blk_on K1 BB
      have BX2 := aside (bthen BA BB)
      obtain ⟨g2, hg2⟩ : ∃ g, X1.heap.size = g := ⟨_, rfl⟩
      rw [hg2] at K2 ⊢
      clear d0 d1 d2 d3 d4 d5 d6 d7 hg2 BA
      generalize X1.alloc (.cells #[.int .i64 kind, .string lo, .string hi, .bool op, .int .i64 cnt, .int .u64 s0, .int .u64 s1, .slice fa el fc] 51) = X2 at K1 K2 BB BX2 ⊢
      have KK1 := aside K1
      have KK2 := aside K2
      have BW2 := aside (HB.out.trans (BX2.out.mono HB.out.size))
      have HJ1 := aside (HI1.out.keep BX2.out)
      have HJ2 := aside (HI2.out.keep BX2.out)
      obtain ⟨c0, c1, c2, c3, c4, c5, c6, c7⟩ := oct8 K1
      obtain ⟨d0, d1, d2, d3, d4, d5, d6, d7⟩ := oct8 K2
      clear K1 K2 BB BX2 HI1 HI2 HB
      go_wp2
      clear c0 c1 c2 c3 c4 c5 c6 c7 d0 d1 d2 d3 d4 d5 d6 d7 RQ TQ
      go_loopw [8] (fun i wr => ∃ k : Nat, i = .int .i64 (k : Int) ∧ k ≤ el ∧ Below X2.heap.size X2 wr) (fun i _ => el - (intOf i).toNat)
      case atStart => exact ⟨0, rfl, Nat.zero_le _, Below.refl _ _⟩
      case round =>
        obtain ⟨k, rfl, hk, hBB⟩ := hrel
        have HB := aside hBB
        clear hBB
        obtain ⟨-, -, -, -, -, -, -, c7⟩ := oct8 (blk_on KK1.out HB.out)
        obtain ⟨-, -, -, -, -, -, -, d7⟩ := oct8 (blk_on KK2.out HB.out)
        by_cases hlk : (k : Int) < (el : Int)
        · have hk0 : (0 : Int) ≤ (k : Int) := by omega
          rcases (HJ1.out.keep HB.out).2.2 with h0 | ⟨x1, o1, rfl, hx1, hy1⟩
          · omega
          rcases (HJ2.out.keep HB.out).2.2 with h0 | ⟨x2, o2, rfl, hx2, hy2⟩
          · omega
          obtain ⟨⟨m0, m1, m2, m3, m4⟩, -⟩ := hy1 k (by omega)
          obtain ⟨⟨n0, n1, n2, n3, n4⟩, -⟩ := hy2 k (by omega)
          obtain ⟨t, ht⟩ : ∃ t, T k = t := ⟨_, rfl⟩
          have hu : U k = t := by rw [← HTU.out k (by omega)]; exact ht
          rw [ht] at m0 m1 m2 m3 m4
          rw [hu] at n0 n1 n2 n3 n4
          clear hy1 hy2 ht hu
          have SZ := aside (fun W (bb : Below wr.heap.size wr W) => (show W.cell? ⟨g1, 7, none⟩ = some (.slice (some ⟨x1, o1, none⟩) el ec) ∧ W.cell? ⟨g2, 7, none⟩ = some (.slice (some ⟨x2, o2, none⟩) el fc) ∧ (W.cell? ⟨x1, o1 + k * 5, none⟩ = some (.string t.k) ∧ W.cell? ⟨x1, o1 + k * 5 + 1, none⟩ = some (.int .i64 t.c) ∧ W.cell? ⟨x1, o1 + k * 5 + 2, none⟩ = some (.int .i64 t.n) ∧ W.cell? ⟨x1, o1 + k * 5 + 3, none⟩ = some (.string t.v) ∧ W.cell? ⟨x1, o1 + k * 5 + 4, none⟩ = some (.bool t.d)) ∧ (W.cell? ⟨x2, o2 + k * 5, none⟩ = some (.string t.k) ∧ W.cell? ⟨x2, o2 + k * 5 + 1, none⟩ = some (.int .i64 t.c) ∧ W.cell? ⟨x2, o2 + k * 5 + 2, none⟩ = some (.int .i64 t.n) ∧ W.cell? ⟨x2, o2 + k * 5 + 3, none⟩ = some (.string t.v) ∧ W.cell? ⟨x2, o2 + k * 5 + 4, none⟩ = some (.bool t.d)) from ⟨cell_in c7 bb, cell_in d7 bb, ⟨cell_in m0 bb, cell_in m1 bb, cell_in m2 bb, cell_in m3 bb, cell_in m4 bb⟩, cell_in n0 bb, cell_in n1 bb, cell_in n2 bb, cell_in n3 bb, cell_in n4 bb⟩))
          have EQ := fun W => ent_ne_sameF t.k t.c t.n t.v t.d W
          clear m0 m1 m2 m3 m4 n0 n1 n2 n3 n4
          go_wp2_with fail
          clear c7 d7
          refine wp_region_held_drew (S := fun W => (W.cell? ⟨g1, 7, none⟩ = some (.slice (some ⟨x1, o1, none⟩) el ec) ∧ W.cell? ⟨g2, 7, none⟩ = some (.slice (some ⟨x2, o2, none⟩) el fc) ∧ (W.cell? ⟨x1, o1 + k * 5, none⟩ = some (.string t.k) ∧ W.cell? ⟨x1, o1 + k * 5 + 1, none⟩ = some (.int .i64 t.c) ∧ W.cell? ⟨x1, o1 + k * 5 + 2, none⟩ = some (.int .i64 t.n) ∧ W.cell? ⟨x1, o1 + k * 5 + 3, none⟩ = some (.string t.v) ∧ W.cell? ⟨x1, o1 + k * 5 + 4, none⟩ = some (.bool t.d)) ∧ (W.cell? ⟨x2, o2 + k * 5, none⟩ = some (.string t.k) ∧ W.cell? ⟨x2, o2 + k * 5 + 1, none⟩ = some (.int .i64 t.c) ∧ W.cell? ⟨x2, o2 + k * 5 + 2, none⟩ = some (.int .i64 t.n) ∧ W.cell? ⟨x2, o2 + k * 5 + 3, none⟩ = some (.string t.v) ∧ W.cell? ⟨x2, o2 + k * 5 + 4, none⟩ = some (.bool t.d))) ∧ Below wr.heap.size wr W) (by kernel_rfl) ⟨SZ.out _ (Below.refl _ wr).drew, (Below.refl _ wr).drew⟩ (fun hHeld => ?_)
          refine wpAnyH_take (i := 0) (v := ?_) rfl (by kernel_rfl) (by kernel_rfl) (by kernel_rfl) (fun _ _ _ h => h) (Or.inl ⟨by rfl, ?_⟩) (by assumption) ?_
          rotate_left
          · intro w hSw
            go_simp
            try with_reducible rfl
          simp only [Act.put, List.getElem_toArray, List.getElem_cons_zero, List.setIfInBounds_toArray, List.set_cons_zero, List.set_cons_succ]
          refine wpAnyH_take (i := 1) (v := ?_) rfl (by kernel_rfl) (by kernel_rfl) (by kernel_rfl) (fun _ _ _ h => h) (Or.inl ⟨by rfl, ?_⟩) (by assumption) ?_
          rotate_left
          · intro w hSw
            go_simp
            try with_reducible rfl
          simp only [Act.put, List.getElem_toArray, List.getElem_cons_zero, List.getElem_cons_succ, List.setIfInBounds_toArray, List.set_cons_zero, List.set_cons_succ]
          refine wpAnyH_take (i := 2) (v := ?_) rfl (by kernel_rfl) (by kernel_rfl) (by kernel_rfl) (fun _ _ _ h => h) (Or.inl ⟨by rfl, ?_⟩) (by assumption) ?_
          rotate_left
          · intro w hSw
            go_simp
            try with_reducible rfl
          simp only [Act.put, List.getElem_toArray, List.getElem_cons_zero, List.getElem_cons_succ, List.setIfInBounds_toArray, List.set_cons_zero, List.set_cons_succ]
          refine wpAnyH_take (i := 3) (v := ?_) rfl (by kernel_rfl) (by kernel_rfl) (by kernel_rfl) (fun _ _ _ h => h) (Or.inl ⟨by rfl, ?_⟩) (by assumption) ?_
          rotate_left
          · intro w hSw
            go_simp
            try with_reducible rfl
          simp only [Act.put, List.getElem_toArray, List.getElem_cons_zero, List.getElem_cons_succ, List.setIfInBounds_toArray, List.set_cons_zero, List.set_cons_succ]
          refine wpAnyH_take (i := 4) (v := ?_) rfl (by kernel_rfl) (by kernel_rfl) (by kernel_rfl) (fun _ _ _ h => h) (Or.inl ⟨by rfl, ?_⟩) (by assumption) ?_
          rotate_left
          · intro w hSw
            go_simp
            try with_reducible rfl
          simp only [Act.put, List.getElem_toArray, List.getElem_cons_zero, List.getElem_cons_succ, List.setIfInBounds_toArray, List.set_cons_zero, List.set_cons_succ]
          refine wpAnyH_take (i := 5) (v := ?_) rfl (by kernel_rfl) (by kernel_rfl) (by kernel_rfl) (fun _ _ _ h => h) (Or.inl ⟨by rfl, ?_⟩) (by assumption) ?_
          rotate_left
          · intro w hSw
            go_simp
            try with_reducible rfl
          simp only [Act.put, List.getElem_toArray, List.getElem_cons_zero, List.getElem_cons_succ, List.setIfInBounds_toArray, List.set_cons_zero, List.set_cons_succ]
          refine wpAnyH_take (i := 6) (v := ?_) rfl (by kernel_rfl) (by kernel_rfl) (by kernel_rfl) (fun _ _ _ h => h) (Or.inl ⟨by rfl, ?_⟩) (by assumption) ?_
          rotate_left
          · intro w hSw
            go_simp
            try with_reducible rfl
          simp only [Act.put, List.getElem_toArray, List.getElem_cons_zero, List.getElem_cons_succ, List.setIfInBounds_toArray, List.set_cons_zero, List.set_cons_succ]
          refine wpAnyH_take (i := 7) (v := ?_) rfl (by kernel_rfl) (by kernel_rfl) (by kernel_rfl) (fun _ _ _ h => h) (Or.inl ⟨by rfl, ?_⟩) (by assumption) ?_
          rotate_left
          · intro w hSw
            go_simp
            try with_reducible rfl
          simp only [Act.put, List.getElem_toArray, List.getElem_cons_zero, List.getElem_cons_succ, List.setIfInBounds_toArray, List.set_cons_zero, List.set_cons_succ]
          refine wpAnyH_take (i := 8) (v := ?_) rfl (by kernel_rfl) (by kernel_rfl) (by kernel_rfl) (fun _ _ _ h => h) (Or.inl ⟨by rfl, ?_⟩) (by assumption) ?_
          rotate_left
          · intro w hSw
            go_simp
            try with_reducible rfl
          simp only [Act.put, List.getElem_toArray, List.getElem_cons_zero, List.getElem_cons_succ, List.setIfInBounds_toArray, List.set_cons_zero, List.set_cons_succ]
          refine wpAnyH_take (i := 9) (v := ?_) rfl (by kernel_rfl) (by kernel_rfl) (by kernel_rfl) (fun _ _ _ h => h) (Or.inl ⟨by rfl, ?_⟩) (by assumption) ?_
          rotate_left
          · intro w hSw
            go_simp
            try with_reducible rfl
          simp only [Act.put, List.getElem_toArray, List.getElem_cons_zero, List.getElem_cons_succ, List.setIfInBounds_toArray, List.set_cons_zero, List.set_cons_succ]
          refine wpAnyH_take (i := 10) (v := .bool false) rfl (by kernel_rfl) (by kernel_rfl) (by kernel_rfl) (fun _ _ _ h => h) (Or.inl ⟨by rfl, ?_⟩) (by assumption) ?_
          · intro w hSw
            go_simp
            try exact EQ _
          simp only [Act.put, List.getElem_toArray, List.getElem_cons_zero, List.getElem_cons_succ, List.setIfInBounds_toArray, List.set_cons_zero, List.set_cons_succ]
          refine wpAnyH_done (by kernel_rfl) ?_ _
          have B9 := aside hHeld.2
          clear hHeld SZ
          go_wp2
          go_roundw
          case rel => exact ⟨k + 1, by go_num, by omega, HB.out.trans (B9.out.mono HB.out.size)⟩
          case measure => simp [intOf]; omega
        · go_wp2
          go_roundw
          case rel => exact ⟨j + 1, by go_num, by omega, BW2.out.trans (HB.out.mono BW2.out.size)⟩
          case measure => simp [intOf]; omega
    · go_wp2
      go_ret
      exact ⟨rfl, HB.out⟩
set_option maxHeartbeats 3200000 in
theorem same_yes (fr tz o l n tn : Int) (a : Option Addr) (len ca : Nat) (P : Nat → Pm) (b : Option Addr) (cb : Nat) (Q : Nat → Pm) (w : World) (hA : PartsIn w a len ca P) (hB : PartsIn w b len cb Q) (hS : ∀ i, i < len → SamePm (P i) (Q i)) :
    Calls Try.prog 20 #[.agg #[.int .i64 fr, .int .i64 tz, .int .i64 o, .int .i64 l, .int .i64 n, .int .i64 tn, .slice a len ca], .agg #[.int .i64 fr, .int .i64 tz, .int .i64 o, .int .i64 l, .int .i64 n, .int .i64 tn, .slice b len cb]] w fun e w' => e = .returned (.bool true) ∧ Below w.heap.size w w' := by
  have BX := aside (bthen (bnew w (.cells #[.int .i64 fr, .int .i64 tz, .int .i64 o, .int .i64 l, .int .i64 n, .int .i64 tn, .slice a len ca] 26)) (bnew _ (.cells #[.int .i64 fr, .int .i64 tz, .int .i64 o, .int .i64 l, .int .i64 n, .int .i64 tn, .slice b len cb] 26)))
  have C := aside (samePs_yes a len ca P b cb Q _ (hA.keep BX.out) (hB.keep BX.out) hS)
  have NQ := fun W => name_same o l n W
  clear hA hB hS
  go_enter Try.func20, Try.ntmps20
  go_wp2_with fail
  refine C.out.mono ?_
  rintro e w1 ⟨rfl, b1⟩
  have B1 := aside (bthen BX.out b1)
  clear b1 C BX
  go_wp2
  go_ret
  exact ⟨rfl, B1.out⟩
end Go.Proofs.Ytgfblndmblgeeaa
