/-
  Same of any two frames, the document's: it says just whether they are the same.
-/
import Derived.Test.YtbnppmkdhnpdfaaBy14
import Derived.Laws.StructEq
import Derived.Deep.CutBlock
import Derived.Deep.DeepCutAuto
namespace Go.Proofs.Ytbnppmkdhnpdfaa
open Go.RowKit
set_option linter.unusedVariables false
/-- It says whether p. -/
def SaysS (p : Prop) (e : Ending) : Prop := (p ∧ e = .returned (.bool true)) ∨ (¬ p ∧ e = .returned (.bool false))
def PsSame (P : Nat → Pm) (len : Nat) (Q : Nat → Pm) (len2 : Nat) : Prop := len = len2 ∧ ∀ i, i < len → SamePm (P i) (Q i)
def FrSame (fr tz o l n tn fr2 tz2 o2 l2 n2 tn2 : Int) (P : Nat → Pm) (len : Nat) (Q : Nat → Pm) (len2 : Nat) : Prop := (fr = fr2 ∧ tz = tz2 ∧ o = o2 ∧ l = l2 ∧ n = n2 ∧ tn = tn2) ∧ PsSame P len Q len2
theorem toList_injT {x y : ByteArray} (h : x.toList = y.toList) : x = y := by
  rw [ByteArray.toList_eq, ByteArray.toList_eq] at h
  obtain ⟨⟨x⟩⟩ := x
  obtain ⟨⟨y⟩⟩ := y
  simp only at h
  rw [h]
def enEqT (a b : En) : Bool := (a.k.toList == b.k.toList) && ((a.c == b.c && a.n == b.n) && ((a.v.toList == b.v.toList) && (a.d == b.d)))
theorem enEqT_ne {a b : En} (h : a ≠ b) : enEqT a b = false := by
  rw [Bool.eq_false_iff]
  intro g
  unfold enEqT at g
  simp only [Bool.and_eq_true, beq_iff_eq] at g
  apply h
  obtain ⟨k, c, n, v, d⟩ := a
  obtain ⟨k2, c2, n2, v2, d2⟩ := b
  dsimp only at g
  obtain ⟨g1, ⟨g2, g3⟩, g4, g5⟩ := g
  rw [toList_injT g1, g2, g3, toList_injT g4, g5]
theorem ent_inT (a b : En) (w : World) : (Op.equalIn 10000 50 (.agg #[.string a.k, .int .i64 a.c, .int .i64 a.n, .string a.v, .bool a.d]) (.agg #[.string b.k, .int .i64 b.c, .int .i64 b.n, .string b.v, .bool b.d])).run Try.prog w = .ok (enEqT a b) w := by
  unfold enEqT
  rw [show (10000 : Nat) = 9999 + 1 from rfl]
  cases h1 : (a.k.toList == b.k.toList) <;> by_cases h2 : a.c = b.c <;> by_cases h5 : a.n = b.n <;> cases h3 : (a.v.toList == b.v.toList) <;> cases h4 : (a.d == b.d)
  all_goals
    go_simp
    try simp [h2, h5]
theorem ent_neT (a b : En) (w : World) : (binOp .neq 50 (.agg #[.string a.k, .int .i64 a.c, .int .i64 a.n, .string a.v, .bool a.d]) (.agg #[.string b.k, .int .i64 b.c, .int .i64 b.n, .string b.v, .bool b.d])).run Try.prog w = .ok (.bool (!enEqT a b)) w := by
  rw [run_neq_struct, ent_inT]; rfl
set_option maxHeartbeats 6400000 in
set_option maxRecDepth 100000 in
theorem samePs_any (a : Option Addr) (len ca : Nat) (P : Nat → Pm) (b : Option Addr) (len2 cb : Nat) (Q : Nat → Pm) (w : World) (hA : PartsIn w a len ca P) (hB : PartsIn w b len2 cb Q) :
    Calls Try.prog 41 #[.slice a len ca, .slice b len2 cb] w fun e w' => SaysS (PsSame P len Q len2) e ∧ Below w.heap.size w w' := by
  by_cases hll : len = len2
  · subst hll
    have HA := aside hA
    have HQ := aside hB
    have hmx : (len : Int) ≤ 9223372036854775807 := by have h1 := hA.1; have h2 := hA.2.1; unfold maxLen at h2; omega
    clear hA hB
    go_enter Try.func41, Try.ntmps41
    go_wp2
    go_loopw [5] (fun i wr => ∃ j : Nat, i = .int .i64 (j : Int) ∧ j ≤ len ∧ Hid (∀ i, i < j → SamePm (P i) (Q i)) ∧ Hid (Below w.heap.size w wr)) (fun i _ => len - (intOf i).toNat)
    case atStart => exact ⟨0, rfl, Nat.zero_le _, (fun i hi => by omega), Below.refl _ _⟩
    case round =>
      obtain ⟨j, rfl, hj, HS, HB⟩ := hrel
      by_cases hlt : (j : Int) < (len : Int)
      · have hj0 : (0 : Int) ≤ (j : Int) := by omega
        rcases (HA.out.keep HB.out).2.2 with h0 | ⟨b1, off1, rfl, hb1, hc1⟩
        · omega
        rcases (HQ.out.keep HB.out).2.2 with h0 | ⟨b2, off2, rfl, hb2, hc2⟩
        · omega
        obtain ⟨hat1, hin1⟩ := hc1 j (by omega)
        obtain ⟨hat2, hin2⟩ := hc2 j (by omega)
        rcases hp : P j with ⟨kind, lo, hi, op, cnt, s0, s1, ea, el, ec, T⟩
        rcases hq : Q j with ⟨kind2, lo2, hi2, op2, cnt2, s02, s12, fa, el2, fc, U⟩
        rw [hp] at hat1 hin1
        rw [hq] at hat2 hin2
        have HPJ := aside hp
        have HQJ := aside hq
        clear hp hq hc1 hc2
        obtain ⟨c0, c1, c2, c3, c4, c5, c6, c7⟩ := hat1
        obtain ⟨d0, d1, d2, d3, d4, d5, d6, d7⟩ := hat2
        dsimp only at c0 c1 c2 c3 c4 c5 c6 c7 d0 d1 d2 d3 d4 d5 d6 d7
        have HI1 := aside (show EntsIn wr ea el ec T from hin1)
        have HI2 := aside (show EntsIn wr fa el2 fc U from hin2)
        clear hin1 hin2
        have hmy : (el : Int) ≤ 9223372036854775807 := by have h1 := HI1.out.1; have h2 := HI1.out.2.1; unfold maxLen at h2; omega
        go_upto_region 7 with fail
        have K1 := heap_alloc_new wr (.cells #[.int .i64 kind, .string lo, .string hi, .bool op, .int .i64 cnt, .int .u64 s0, .int .u64 s1, .slice ea el ec] 46)
        have BA := bnew wr (.cells #[.int .i64 kind, .string lo, .string hi, .bool op, .int .i64 cnt, .int .u64 s0, .int .u64 s1, .slice ea el ec] 46)
        replace d0 := cell_in d0 BA
        replace d1 := cell_in d1 BA
        replace d2 := cell_in d2 BA
        replace d3 := cell_in d3 BA
        replace d4 := cell_in d4 BA
        replace d5 := cell_in d5 BA
        replace d6 := cell_in d6 BA
        replace d7 := cell_in d7 BA
        obtain ⟨g1, hg1⟩ : ∃ g, wr.heap.size = g := ⟨_, rfl⟩
        rw [hg1] at K1 ⊢
        clear c0 c1 c2 c3 c4 c5 c6 c7 hg1
        generalize wr.alloc (.cells #[.int .i64 kind, .string lo, .string hi, .bool op, .int .i64 cnt, .int .u64 s0, .int .u64 s1, .slice ea el ec] 46) = X1 at K1 BA d0 d1 d2 d3 d4 d5 d6 d7 ⊢
        go_upto_region 8 with fail
        have K2 := heap_alloc_new X1 (.cells #[.int .i64 kind2, .string lo2, .string hi2, .bool op2, .int .i64 cnt2, .int .u64 s02, .int .u64 s12, .slice fa el2 fc] 46)
        have BB := bnew X1 (.cells #[.int .i64 kind2, .string lo2, .string hi2, .bool op2, .int .i64 cnt2, .int .u64 s02, .int .u64 s12, .slice fa el2 fc] 46)
        replace K1 := blk_on K1 BB
        have BX2 := aside (bthen BA BB)
        obtain ⟨g2, hg2⟩ : ∃ g, X1.heap.size = g := ⟨_, rfl⟩
        rw [hg2] at K2 ⊢
        clear d0 d1 d2 d3 d4 d5 d6 d7 hg2 BA
        generalize X1.alloc (.cells #[.int .i64 kind2, .string lo2, .string hi2, .bool op2, .int .i64 cnt2, .int .u64 s02, .int .u64 s12, .slice fa el2 fc] 46) = X2 at K1 K2 BB BX2 ⊢
        have KK1 := aside K1
        have KK2 := aside K2
        have BW2 := aside (HB.out.trans (BX2.out.mono HB.out.size))
        have HJ1 := aside (HI1.out.keep BX2.out)
        have HJ2 := aside (HI2.out.keep BX2.out)
        obtain ⟨c0, c1, c2, c3, c4, c5, c6, c7⟩ := oct8 K1
        obtain ⟨d0, d1, d2, d3, d4, d5, d6, d7⟩ := oct8 K2
        clear K1 K2 BB BX2 HI1 HI2 HB
        have HBF := aside BW2.out
        by_cases hk : kind = kind2
        · subst hk
          by_cases hr : lo = lo2 ∧ hi = hi2 ∧ op = op2
          · obtain ⟨rfl, rfl, rfl⟩ := hr
            have RQ := fun W => rg_ne_same lo hi op W
            by_cases ht : cnt = cnt2 ∧ s0 = s02 ∧ s1 = s12
            · obtain ⟨rfl, rfl, rfl⟩ := ht
              have TQ := fun W => tal_ne_same cnt s0 s1 W
              by_cases he : el = el2
              · subst he
                go_wp2
                clear c0 c1 c2 c3 c4 c5 c6 c7 d0 d1 d2 d3 d4 d5 d6 d7 RQ TQ HBF
                go_loopw [8] (fun i wr => ∃ k : Nat, i = .int .i64 (k : Int) ∧ k ≤ el ∧ Hid (∀ m, m < k → T m = U m) ∧ Hid (Below X2.heap.size X2 wr)) (fun i _ => el - (intOf i).toNat)
                case atStart => exact ⟨0, rfl, Nat.zero_le _, (fun m hm => by omega), Below.refl _ _⟩
                case round =>
                  obtain ⟨k, rfl, hk, HTU, HB⟩ := hrel
                  obtain ⟨-, -, -, -, -, -, -, c7⟩ := oct8 (blk_on KK1.out HB.out)
                  obtain ⟨-, -, -, -, -, -, -, d7⟩ := oct8 (blk_on KK2.out HB.out)
                  by_cases hlk : (k : Int) < (el : Int)
                  · have hk0 : (0 : Int) ≤ (k : Int) := by omega
                    rcases (HJ1.out.keep HB.out).2.2 with h0 | ⟨x1, o1, rfl, hx1, hy1⟩
                    · omega
                    rcases (HJ2.out.keep HB.out).2.2 with h0 | ⟨x2, o2, rfl, hx2, hy2⟩
                    · omega
                    obtain ⟨⟨m0, m1, m2, m3, m4⟩, -⟩ := hy1 k (by omega)
                    obtain ⟨⟨n0, n1, n2, n3, n4⟩, -⟩ := hy2 k (by omega)
                    obtain ⟨t, ht⟩ : ∃ t, T k = t := ⟨_, rfl⟩
                    obtain ⟨u, hu⟩ : ∃ u, U k = u := ⟨_, rfl⟩
                    rw [ht] at m0 m1 m2 m3 m4
                    rw [hu] at n0 n1 n2 n3 n4
                    have HT := aside ht
                    have HU := aside hu
                    have SZ := aside (fun W (bb : Below wr.heap.size wr W) => (show W.cell? ⟨g1, 7, none⟩ = some (.slice (some ⟨x1, o1, none⟩) el ec) ∧ W.cell? ⟨g2, 7, none⟩ = some (.slice (some ⟨x2, o2, none⟩) el fc) ∧ (W.cell? ⟨x1, o1 + k * 5, none⟩ = some (.string t.k) ∧ W.cell? ⟨x1, o1 + k * 5 + 1, none⟩ = some (.int .i64 t.c) ∧ W.cell? ⟨x1, o1 + k * 5 + 2, none⟩ = some (.int .i64 t.n) ∧ W.cell? ⟨x1, o1 + k * 5 + 3, none⟩ = some (.string t.v) ∧ W.cell? ⟨x1, o1 + k * 5 + 4, none⟩ = some (.bool t.d)) ∧ (W.cell? ⟨x2, o2 + k * 5, none⟩ = some (.string u.k) ∧ W.cell? ⟨x2, o2 + k * 5 + 1, none⟩ = some (.int .i64 u.c) ∧ W.cell? ⟨x2, o2 + k * 5 + 2, none⟩ = some (.int .i64 u.n) ∧ W.cell? ⟨x2, o2 + k * 5 + 3, none⟩ = some (.string u.v) ∧ W.cell? ⟨x2, o2 + k * 5 + 4, none⟩ = some (.bool u.d)) from ⟨cell_in c7 bb, cell_in d7 bb, ⟨cell_in m0 bb, cell_in m1 bb, cell_in m2 bb, cell_in m3 bb, cell_in m4 bb⟩, cell_in n0 bb, cell_in n1 bb, cell_in n2 bb, cell_in n3 bb, cell_in n4 bb⟩))
                    clear hy1 hy2 ht hu m0 m1 m2 m3 m4 n0 n1 n2 n3 n4 hx1 hx2
                    by_cases htu : t = u
                    · subst htu
                      have EQ := fun W => ent_ne_sameF t.k t.c t.n t.v t.d W
                      go_wp2_with fail
                      clear c7 d7
                      refine wp_region_held_drew (S := fun W => (W.cell? ⟨g1, 7, none⟩ = some (.slice (some ⟨x1, o1, none⟩) el ec) ∧ W.cell? ⟨g2, 7, none⟩ = some (.slice (some ⟨x2, o2, none⟩) el fc) ∧ (W.cell? ⟨x1, o1 + k * 5, none⟩ = some (.string t.k) ∧ W.cell? ⟨x1, o1 + k * 5 + 1, none⟩ = some (.int .i64 t.c) ∧ W.cell? ⟨x1, o1 + k * 5 + 2, none⟩ = some (.int .i64 t.n) ∧ W.cell? ⟨x1, o1 + k * 5 + 3, none⟩ = some (.string t.v) ∧ W.cell? ⟨x1, o1 + k * 5 + 4, none⟩ = some (.bool t.d)) ∧ (W.cell? ⟨x2, o2 + k * 5, none⟩ = some (.string t.k) ∧ W.cell? ⟨x2, o2 + k * 5 + 1, none⟩ = some (.int .i64 t.c) ∧ W.cell? ⟨x2, o2 + k * 5 + 2, none⟩ = some (.int .i64 t.n) ∧ W.cell? ⟨x2, o2 + k * 5 + 3, none⟩ = some (.string t.v) ∧ W.cell? ⟨x2, o2 + k * 5 + 4, none⟩ = some (.bool t.d))) ∧ Below wr.heap.size wr W) (by kernel_rfl) ⟨SZ.out _ (Below.refl _ wr).drew, (Below.refl _ wr).drew⟩ (fun hHeld => ?_)
                      refine wpAnyH_take (i := 0) (v := ?_) rfl (by kernel_rfl) (by kernel_rfl) (by kernel_rfl) (fun _ _ _ h => h) (Or.inl ⟨by rfl, ?_⟩) (by assumption) ?_
                      rotate_left
                      · intro w hSw
                        go_simp
                        try with_reducible rfl
                      simp only [Act.put, List.getElem_toArray, List.getElem_cons_zero, List.setIfInBounds_toArray, List.set_cons_zero, List.set_cons_succ]
                      refine wpAnyH_take (i := 1) (v := ?_) rfl (by kernel_rfl) (by kernel_rfl) (by kernel_rfl) (fun _ _ _ h => h) (Or.inl ⟨by rfl, ?_⟩) (by assumption) ?_
                      rotate_left
                      · intro w hSw
                        go_simp
                        try with_reducible rfl
                      simp only [Act.put, List.getElem_toArray, List.getElem_cons_zero, List.getElem_cons_succ, List.setIfInBounds_toArray, List.set_cons_zero, List.set_cons_succ]
                      refine wpAnyH_take (i := 2) (v := ?_) rfl (by kernel_rfl) (by kernel_rfl) (by kernel_rfl) (fun _ _ _ h => h) (Or.inl ⟨by rfl, ?_⟩) (by assumption) ?_
                      rotate_left
                      · intro w hSw
                        go_simp
                        try with_reducible rfl
                      simp only [Act.put, List.getElem_toArray, List.getElem_cons_zero, List.getElem_cons_succ, List.setIfInBounds_toArray, List.set_cons_zero, List.set_cons_succ]
                      refine wpAnyH_take (i := 3) (v := ?_) rfl (by kernel_rfl) (by kernel_rfl) (by kernel_rfl) (fun _ _ _ h => h) (Or.inl ⟨by rfl, ?_⟩) (by assumption) ?_
                      rotate_left
                      · intro w hSw
                        go_simp
                        try with_reducible rfl
                      simp only [Act.put, List.getElem_toArray, List.getElem_cons_zero, List.getElem_cons_succ, List.setIfInBounds_toArray, List.set_cons_zero, List.set_cons_succ]
                      refine wpAnyH_take (i := 4) (v := ?_) rfl (by kernel_rfl) (by kernel_rfl) (by kernel_rfl) (fun _ _ _ h => h) (Or.inl ⟨by rfl, ?_⟩) (by assumption) ?_
                      rotate_left
                      · intro w hSw
                        go_simp
                        try with_reducible rfl
                      simp only [Act.put, List.getElem_toArray, List.getElem_cons_zero, List.getElem_cons_succ, List.setIfInBounds_toArray, List.set_cons_zero, List.set_cons_succ]
                      refine wpAnyH_take (i := 5) (v := ?_) rfl (by kernel_rfl) (by kernel_rfl) (by kernel_rfl) (fun _ _ _ h => h) (Or.inl ⟨by rfl, ?_⟩) (by assumption) ?_
                      rotate_left
                      · intro w hSw
                        go_simp
                        try with_reducible rfl
                      simp only [Act.put, List.getElem_toArray, List.getElem_cons_zero, List.getElem_cons_succ, List.setIfInBounds_toArray, List.set_cons_zero, List.set_cons_succ]
                      refine wpAnyH_take (i := 6) (v := ?_) rfl (by kernel_rfl) (by kernel_rfl) (by kernel_rfl) (fun _ _ _ h => h) (Or.inl ⟨by rfl, ?_⟩) (by assumption) ?_
                      rotate_left
                      · intro w hSw
                        go_simp
                        try with_reducible rfl
                      simp only [Act.put, List.getElem_toArray, List.getElem_cons_zero, List.getElem_cons_succ, List.setIfInBounds_toArray, List.set_cons_zero, List.set_cons_succ]
                      refine wpAnyH_take (i := 7) (v := ?_) rfl (by kernel_rfl) (by kernel_rfl) (by kernel_rfl) (fun _ _ _ h => h) (Or.inl ⟨by rfl, ?_⟩) (by assumption) ?_
                      rotate_left
                      · intro w hSw
                        go_simp
                        try with_reducible rfl
                      simp only [Act.put, List.getElem_toArray, List.getElem_cons_zero, List.getElem_cons_succ, List.setIfInBounds_toArray, List.set_cons_zero, List.set_cons_succ]
                      refine wpAnyH_take (i := 8) (v := ?_) rfl (by kernel_rfl) (by kernel_rfl) (by kernel_rfl) (fun _ _ _ h => h) (Or.inl ⟨by rfl, ?_⟩) (by assumption) ?_
                      rotate_left
                      · intro w hSw
                        go_simp
                        try with_reducible rfl
                      simp only [Act.put, List.getElem_toArray, List.getElem_cons_zero, List.getElem_cons_succ, List.setIfInBounds_toArray, List.set_cons_zero, List.set_cons_succ]
                      refine wpAnyH_take (i := 9) (v := ?_) rfl (by kernel_rfl) (by kernel_rfl) (by kernel_rfl) (fun _ _ _ h => h) (Or.inl ⟨by rfl, ?_⟩) (by assumption) ?_
                      rotate_left
                      · intro w hSw
                        go_simp
                        try with_reducible rfl
                      simp only [Act.put, List.getElem_toArray, List.getElem_cons_zero, List.getElem_cons_succ, List.setIfInBounds_toArray, List.set_cons_zero, List.set_cons_succ]
                      refine wpAnyH_take (i := 10) (v := .bool false) rfl (by kernel_rfl) (by kernel_rfl) (by kernel_rfl) (fun _ _ _ h => h) (Or.inl ⟨by rfl, ?_⟩) (by assumption) ?_
                      · intro w hSw
                        go_simp
                        try exact EQ _
                      simp only [Act.put, List.getElem_toArray, List.getElem_cons_zero, List.getElem_cons_succ, List.setIfInBounds_toArray, List.set_cons_zero, List.set_cons_succ]
                      refine wpAnyH_done (by kernel_rfl) ?_ _
                      have B9 := aside hHeld.2
                      clear hHeld SZ
                      go_wp2
                      go_roundw
                      case rel => exact ⟨k + 1, by go_num, by omega, aside (fun m hm => by
                        by_cases e : m < k
                        · exact HTU.out m e
                        · obtain rfl : m = k := by omega
                          rw [HT.out, HU.out]), HB.out.trans (B9.out.mono HB.out.size)⟩
                      case measure => simp [intOf]; omega
                    · have HNS := aside (show ¬ PsSame P len Q len from fun h => by
                        have := h.2 j (by omega)
                        rw [HPJ.out, HQJ.out] at this
                        have h2 := this.2.2.2.2.2.2.2.2 k (by dsimp only; omega)
                        dsimp only at h2
                        rw [HT.out, HU.out] at h2
                        exact htu h2)
                      have EQ : ∀ W, (binOp .neq 50 (.agg #[.string t.k, .int .i64 t.c, .int .i64 t.n, .string t.v, .bool t.d]) (.agg #[.string u.k, .int .i64 u.c, .int .i64 u.n, .string u.v, .bool u.d])).run Try.prog W = .ok (.bool true) W := fun W => by rw [ent_neT, enEqT_ne htu]; rfl
                      go_wp2_with fail
                      clear c7 d7
                      refine wp_region_held_drew (S := fun W => (W.cell? ⟨g1, 7, none⟩ = some (.slice (some ⟨x1, o1, none⟩) el ec) ∧ W.cell? ⟨g2, 7, none⟩ = some (.slice (some ⟨x2, o2, none⟩) el fc) ∧ (W.cell? ⟨x1, o1 + k * 5, none⟩ = some (.string t.k) ∧ W.cell? ⟨x1, o1 + k * 5 + 1, none⟩ = some (.int .i64 t.c) ∧ W.cell? ⟨x1, o1 + k * 5 + 2, none⟩ = some (.int .i64 t.n) ∧ W.cell? ⟨x1, o1 + k * 5 + 3, none⟩ = some (.string t.v) ∧ W.cell? ⟨x1, o1 + k * 5 + 4, none⟩ = some (.bool t.d)) ∧ (W.cell? ⟨x2, o2 + k * 5, none⟩ = some (.string u.k) ∧ W.cell? ⟨x2, o2 + k * 5 + 1, none⟩ = some (.int .i64 u.c) ∧ W.cell? ⟨x2, o2 + k * 5 + 2, none⟩ = some (.int .i64 u.n) ∧ W.cell? ⟨x2, o2 + k * 5 + 3, none⟩ = some (.string u.v) ∧ W.cell? ⟨x2, o2 + k * 5 + 4, none⟩ = some (.bool u.d))) ∧ Below wr.heap.size wr W) (by kernel_rfl) ⟨SZ.out _ (Below.refl _ wr).drew, (Below.refl _ wr).drew⟩ (fun hHeld => ?_)
                      refine wpAnyH_take (i := 0) (v := ?_) rfl (by kernel_rfl) (by kernel_rfl) (by kernel_rfl) (fun _ _ _ h => h) (Or.inl ⟨by rfl, ?_⟩) (by assumption) ?_
                      rotate_left
                      · intro w hSw
                        go_simp
                        try with_reducible rfl
                      simp only [Act.put, List.getElem_toArray, List.getElem_cons_zero, List.setIfInBounds_toArray, List.set_cons_zero, List.set_cons_succ]
                      refine wpAnyH_take (i := 1) (v := ?_) rfl (by kernel_rfl) (by kernel_rfl) (by kernel_rfl) (fun _ _ _ h => h) (Or.inl ⟨by rfl, ?_⟩) (by assumption) ?_
                      rotate_left
                      · intro w hSw
                        go_simp
                        try with_reducible rfl
                      simp only [Act.put, List.getElem_toArray, List.getElem_cons_zero, List.getElem_cons_succ, List.setIfInBounds_toArray, List.set_cons_zero, List.set_cons_succ]
                      refine wpAnyH_take (i := 2) (v := ?_) rfl (by kernel_rfl) (by kernel_rfl) (by kernel_rfl) (fun _ _ _ h => h) (Or.inl ⟨by rfl, ?_⟩) (by assumption) ?_
                      rotate_left
                      · intro w hSw
                        go_simp
                        try with_reducible rfl
                      simp only [Act.put, List.getElem_toArray, List.getElem_cons_zero, List.getElem_cons_succ, List.setIfInBounds_toArray, List.set_cons_zero, List.set_cons_succ]
                      refine wpAnyH_take (i := 3) (v := ?_) rfl (by kernel_rfl) (by kernel_rfl) (by kernel_rfl) (fun _ _ _ h => h) (Or.inl ⟨by rfl, ?_⟩) (by assumption) ?_
                      rotate_left
                      · intro w hSw
                        go_simp
                        try with_reducible rfl
                      simp only [Act.put, List.getElem_toArray, List.getElem_cons_zero, List.getElem_cons_succ, List.setIfInBounds_toArray, List.set_cons_zero, List.set_cons_succ]
                      refine wpAnyH_take (i := 4) (v := ?_) rfl (by kernel_rfl) (by kernel_rfl) (by kernel_rfl) (fun _ _ _ h => h) (Or.inl ⟨by rfl, ?_⟩) (by assumption) ?_
                      rotate_left
                      · intro w hSw
                        go_simp
                        try with_reducible rfl
                      simp only [Act.put, List.getElem_toArray, List.getElem_cons_zero, List.getElem_cons_succ, List.setIfInBounds_toArray, List.set_cons_zero, List.set_cons_succ]
                      refine wpAnyH_take (i := 5) (v := ?_) rfl (by kernel_rfl) (by kernel_rfl) (by kernel_rfl) (fun _ _ _ h => h) (Or.inl ⟨by rfl, ?_⟩) (by assumption) ?_
                      rotate_left
                      · intro w hSw
                        go_simp
                        try with_reducible rfl
                      simp only [Act.put, List.getElem_toArray, List.getElem_cons_zero, List.getElem_cons_succ, List.setIfInBounds_toArray, List.set_cons_zero, List.set_cons_succ]
                      refine wpAnyH_take (i := 6) (v := ?_) rfl (by kernel_rfl) (by kernel_rfl) (by kernel_rfl) (fun _ _ _ h => h) (Or.inl ⟨by rfl, ?_⟩) (by assumption) ?_
                      rotate_left
                      · intro w hSw
                        go_simp
                        try with_reducible rfl
                      simp only [Act.put, List.getElem_toArray, List.getElem_cons_zero, List.getElem_cons_succ, List.setIfInBounds_toArray, List.set_cons_zero, List.set_cons_succ]
                      refine wpAnyH_take (i := 7) (v := ?_) rfl (by kernel_rfl) (by kernel_rfl) (by kernel_rfl) (fun _ _ _ h => h) (Or.inl ⟨by rfl, ?_⟩) (by assumption) ?_
                      rotate_left
                      · intro w hSw
                        go_simp
                        try with_reducible rfl
                      simp only [Act.put, List.getElem_toArray, List.getElem_cons_zero, List.getElem_cons_succ, List.setIfInBounds_toArray, List.set_cons_zero, List.set_cons_succ]
                      refine wpAnyH_take (i := 8) (v := ?_) rfl (by kernel_rfl) (by kernel_rfl) (by kernel_rfl) (fun _ _ _ h => h) (Or.inl ⟨by rfl, ?_⟩) (by assumption) ?_
                      rotate_left
                      · intro w hSw
                        go_simp
                        try with_reducible rfl
                      simp only [Act.put, List.getElem_toArray, List.getElem_cons_zero, List.getElem_cons_succ, List.setIfInBounds_toArray, List.set_cons_zero, List.set_cons_succ]
                      refine wpAnyH_take (i := 9) (v := ?_) rfl (by kernel_rfl) (by kernel_rfl) (by kernel_rfl) (fun _ _ _ h => h) (Or.inl ⟨by rfl, ?_⟩) (by assumption) ?_
                      rotate_left
                      · intro w hSw
                        go_simp
                        try with_reducible rfl
                      simp only [Act.put, List.getElem_toArray, List.getElem_cons_zero, List.getElem_cons_succ, List.setIfInBounds_toArray, List.set_cons_zero, List.set_cons_succ]
                      refine wpAnyH_take (i := 10) (v := .bool true) rfl (by kernel_rfl) (by kernel_rfl) (by kernel_rfl) (fun _ _ _ h => h) (Or.inl ⟨by rfl, ?_⟩) (by assumption) ?_
                      · intro w hSw
                        go_simp
                        try exact EQ _
                      simp only [Act.put, List.getElem_toArray, List.getElem_cons_zero, List.getElem_cons_succ, List.setIfInBounds_toArray, List.set_cons_zero, List.set_cons_succ]
                      refine wpAnyH_done (by kernel_rfl) ?_ _
                      have B9 := aside hHeld.2
                      clear hHeld SZ
                      have HBF := aside (BW2.out.trans ((HB.out.trans (B9.out.mono HB.out.size)).mono BW2.out.size))
                      go_wp2
                      go_ret
                      exact ⟨.inr ⟨HNS.out, rfl⟩, HBF.out⟩
                  · have HSJ := aside (show ∀ i, i < j + 1 → SamePm (P i) (Q i) from fun i hi => by
                      by_cases e : i < j
                      · exact HS.out i e
                      · obtain rfl : i = j := by omega
                        rw [HPJ.out, HQJ.out]
                        exact ⟨rfl, rfl, rfl, rfl, rfl, rfl, rfl, rfl, fun m hm => HTU.out m (by dsimp only at hm; omega)⟩)
                    go_wp2
                    go_roundw
                    case rel => exact ⟨j + 1, by go_num, by omega, HSJ.out, BW2.out.trans (HB.out.mono BW2.out.size)⟩
                    case measure => simp [intOf]; omega
              · have HNS := aside (show ¬ PsSame P len Q len from fun h => by
                  have := h.2 j (by omega)
                  rw [HPJ.out, HQJ.out] at this
                  exact he this.2.2.2.2.2.2.2.1)
                have he2 : (el == el2) = false := by simpa using he
                have he3 : ((el : Int) == (el2 : Int)) = false := by simp; omega
                have he4 : (el != el2) = true := by simpa using he
                have he5 : ((el : Int) != (el2 : Int)) = true := by simp; omega
                go_wp2
                go_ret
                exact ⟨.inr ⟨HNS.out, rfl⟩, HBF.out⟩
            · have HNS := aside (show ¬ PsSame P len Q len from fun h => by
                have := h.2 j (by omega)
                rw [HPJ.out, HQJ.out] at this
                exact ht ⟨this.2.2.2.2.1, this.2.2.2.2.2.1, this.2.2.2.2.2.2.1⟩)
              have TQ : ∀ W, (binOp .neq 43 (.agg #[.int .i64 cnt, .int .u64 s0, .int .u64 s1]) (.agg #[.int .i64 cnt2, .int .u64 s02, .int .u64 s12])).run Try.prog W = .ok (.bool true) W := fun W => by
                rw [tal_ne_run]
                have : (cnt == cnt2 && (s0 == s02 && s1 == s12)) = false := by
                  rw [Bool.eq_false_iff]
                  intro h
                  simp only [Bool.and_eq_true, beq_iff_eq] at h
                  exact ht h
                rw [this]; rfl
              go_wp2
              go_ret
              exact ⟨.inr ⟨HNS.out, rfl⟩, HBF.out⟩
          · have HNS := aside (show ¬ PsSame P len Q len from fun h => by
              have := h.2 j (by omega)
              rw [HPJ.out, HQJ.out] at this
              exact hr ⟨this.2.1, this.2.2.1, this.2.2.2.1⟩)
            have RQ : ∀ W, (binOp .neq 38 (.agg #[.string lo, .string hi, .bool op]) (.agg #[.string lo2, .string hi2, .bool op2])).run Try.prog W = .ok (.bool true) W := fun W => by
              rw [rg_ne_run]
              have : (lo.toList == lo2.toList && (hi.toList == hi2.toList && op == op2)) = false := by
                rw [Bool.eq_false_iff]
                intro h
                simp only [Bool.and_eq_true, beq_iff_eq] at h
                exact hr ⟨toList_injT h.1, toList_injT h.2.1, h.2.2⟩
              rw [this]; rfl
            go_wp2
            go_ret
            exact ⟨.inr ⟨HNS.out, rfl⟩, HBF.out⟩
        · have HNS := aside (show ¬ PsSame P len Q len from fun h => by
            have := h.2 j (by omega)
            rw [HPJ.out, HQJ.out] at this
            exact hk this.1)
          have hk2 : (kind == kind2) = false := by simpa using hk
          have hk3 : (kind != kind2) = true := by simpa using hk
          go_wp2
          go_ret
          exact ⟨.inr ⟨HNS.out, rfl⟩, HBF.out⟩
      · have HF := aside (show PsSame P len Q len from ⟨rfl, fun i hi => HS.out i (by omega)⟩)
        go_wp2
        go_ret
        exact ⟨.inl ⟨HF.out, rfl⟩, HB.out⟩
  · have hl2 : (len == len2) = false := by simpa using hll
    have hl3 : ((len : Int) == (len2 : Int)) = false := by simp; omega
    have hl4 : (len != len2) = true := by simpa using hll
    have hl5 : ((len : Int) != (len2 : Int)) = true := by simp; omega
    go_enter Try.func41, Try.ntmps41
    go_wp2
    go_ret
    exact ⟨.inr ⟨fun h => hll h.1, rfl⟩, Below.refl _ _⟩
set_option maxHeartbeats 6400000 in
set_option maxRecDepth 100000 in
theorem same_any (fr tz o l n tn fr2 tz2 o2 l2 n2 tn2 : Int) (a : Option Addr) (len ca : Nat) (P : Nat → Pm) (b : Option Addr) (len2 cb : Nat) (Q : Nat → Pm) (w : World) (hA : PartsIn w a len ca P) (hB : PartsIn w b len2 cb Q) :
    Calls Try.prog 16 #[.agg #[.int .i64 fr, .int .i64 tz, .int .i64 o, .int .i64 l, .int .i64 n, .int .i64 tn, .slice a len ca], .agg #[.int .i64 fr2, .int .i64 tz2, .int .i64 o2, .int .i64 l2, .int .i64 n2, .int .i64 tn2, .slice b len2 cb]] w fun e w' => SaysS (FrSame fr tz o l n tn fr2 tz2 o2 l2 n2 tn2 P len Q len2) e ∧ Below w.heap.size w w' := by
  have BX := aside (bthen (bnew w (.cells #[.int .i64 fr, .int .i64 tz, .int .i64 o, .int .i64 l, .int .i64 n, .int .i64 tn, .slice a len ca] 26)) (bnew _ (.cells #[.int .i64 fr2, .int .i64 tz2, .int .i64 o2, .int .i64 l2, .int .i64 n2, .int .i64 tn2, .slice b len2 cb] 26)))
  have C := aside (samePs_any a len ca P b len2 cb Q _ (hA.keep BX.out) (hB.keep BX.out))
  clear hA hB
  by_cases h1 : fr = fr2
  · subst h1
    by_cases h2 : tz = tz2
    · subst h2
      by_cases h3 : o = o2 ∧ l = l2 ∧ n = n2
      · obtain ⟨rfl, rfl, rfl⟩ := h3
        have NQ := fun W => name_same o l n W
        by_cases h4 : tn = tn2
        · subst h4
          go_enter Try.func16, Try.ntmps16
          go_wp2_with fail
          refine C.out.mono ?_
          rintro e w1 ⟨⟨hp, rfl⟩ | ⟨hp, rfl⟩, b1⟩
          · have B1 := aside (bthen BX.out b1)
            have HP := aside hp
            clear b1 C BX hp
            go_wp2
            go_ret
            exact ⟨.inl ⟨⟨⟨rfl, rfl, rfl, rfl, rfl, rfl⟩, HP.out⟩, rfl⟩, B1.out⟩
          · have B1 := aside (bthen BX.out b1)
            have HP := aside hp
            clear b1 C BX hp
            go_wp2
            go_ret
            exact ⟨.inr ⟨fun h => HP.out h.2, rfl⟩, B1.out⟩
        · have h4b : (tn == tn2) = false := by simpa using h4
          have HN := aside h4
          clear h4 C
          go_enter Try.func16, Try.ntmps16
          go_wp2
          go_ret
          exact ⟨.inr ⟨fun h => HN.out h.1.2.2.2.2.2, rfl⟩, BX.out⟩
      · have NQ : ∀ W, (binOp .eql 23 (.agg #[.int .i64 o, .int .i64 l, .int .i64 n]) (.agg #[.int .i64 o2, .int .i64 l2, .int .i64 n2])).run Try.prog W = .ok (.bool false) W := fun W => by
          rw [name_run]
          have : (o == o2 && (l == l2 && n == n2)) = false := by
            rw [Bool.eq_false_iff]
            intro h
            simp only [Bool.and_eq_true, beq_iff_eq] at h
            exact h3 h
          rw [this]
        have HN := aside h3
        clear h3 C
        go_enter Try.func16, Try.ntmps16
        go_wp2
        go_ret
        exact ⟨.inr ⟨fun h => HN.out ⟨h.1.2.2.1, h.1.2.2.2.1, h.1.2.2.2.2.1⟩, rfl⟩, BX.out⟩
    · have h4b : (tz == tz2) = false := by simpa using h2
      have HN := aside h2
      clear h2 C
      go_enter Try.func16, Try.ntmps16
      go_wp2
      go_ret
      exact ⟨.inr ⟨fun h => HN.out h.1.2.1, rfl⟩, BX.out⟩
  · have h4b : (fr == fr2) = false := by simpa using h1
    have HN := aside h1
    clear h1 C
    go_enter Try.func16, Try.ntmps16
    go_wp2
    go_ret
    exact ⟨.inr ⟨fun h => HN.out h.1.1, rfl⟩, BX.out⟩
end Go.Proofs.Ytbnppmkdhnpdfaa
