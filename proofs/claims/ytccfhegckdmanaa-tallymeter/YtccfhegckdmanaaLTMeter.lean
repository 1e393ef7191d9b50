/-
  The law TallyMeter, walked.
-/
import Derived.Test.YtccfhegckdmanaaTaMeter
import Derived.Test.YtccfhegckdmanaaTaLists
namespace Go.Proofs.Ytccfhegckdmanaa
open Go.RowKit
set_option linter.unusedVariables false

/-- Two meters and two tallies in memory, behind what was there. -/
structure MSt (w wr : World) (cA cB xn xa xb yn ya yb : Int) : Prop where
  below : Below w.heap.size w wr
  A : wr.heap[w.heap.size]? = some (.cells #[.int .i64 cA] 45)
  B : wr.heap[w.heap.size + 1]? = some (.cells #[.int .i64 cB] 45)
  X : wr.heap[w.heap.size + 1 + 1]? = some (.cells #[.int .i64 xn, .int .u64 xa, .int .u64 xb] 26)
  Y : wr.heap[w.heap.size + 1 + 1 + 1]? = some (.cells #[.int .i64 yn, .int .u64 ya, .int .u64 yb] 26)

theorem lt_of_blk {w : World} {i : Nat} {o : Obj} (h : w.heap[i]? = some o) : i < w.heap.size := (Array.getElem?_eq_some_iff.1 h).1

theorem MSt.drew {w wr : World} {cA cB xn xa xb yn ya yb : Int} (h : MSt w wr cA cB xn xa xb yn ya yb) : MSt w wr.drew cA cB xn xa xb yn ya yb := ⟨h.below.drew, h.A, h.B, h.X, h.Y⟩

theorem MSt.joinA {w wr w9 : World} {cA cB xn xa xb yn ya yb : Int} {r : Int} (h : MSt w wr cA cB xn xa xb yn ya yb) (k : Keeps (fun k => k = w.heap.size) wr w9) (hA : w9.heap[w.heap.size]? = some (.cells #[.int .i64 r] 45)) : MSt w w9 r cB xn xa xb yn ya yb :=
  ⟨h.below.trans (k.below h.below.size (fun i hi e => by omega)), hA, (k.block _ (lt_of_blk h.B) (by omega)).trans h.B, (k.block _ (lt_of_blk h.X) (by omega)).trans h.X, (k.block _ (lt_of_blk h.Y) (by omega)).trans h.Y⟩

theorem MSt.joinB {w wr w9 : World} {cA cB xn xa xb yn ya yb : Int} {r : Int} (h : MSt w wr cA cB xn xa xb yn ya yb) (k : Keeps (fun k => k = w.heap.size + 1) wr w9) (hB : w9.heap[w.heap.size + 1]? = some (.cells #[.int .i64 r] 45)) : MSt w w9 cA r xn xa xb yn ya yb :=
  ⟨h.below.trans (k.below h.below.size (fun i hi e => by omega)), (k.block _ (lt_of_blk h.A) (by omega)).trans h.A, hB, (k.block _ (lt_of_blk h.X) (by omega)).trans h.X, (k.block _ (lt_of_blk h.Y) (by omega)).trans h.Y⟩

/-- Three cells of a block set. -/
def set3w (W : World) (g : Nat) (u v t : Value) : World := ((W.setCell ⟨g, 0, none⟩ u).setCell ⟨g, 1, none⟩ v).setCell ⟨g, 2, none⟩ t

theorem set3w_same {W : World} {g : Nat} {x y z : Value} {T : TypeId} (h : W.heap[g]? = some (.cells #[x, y, z] T (0, 0))) (u v t : Value) : (set3w W g u v t).heap[g]? = some (.cells #[u, v, t] T (0, 0)) := by
  have s1 := heap_setCell_same W g 0 _ _ u h
  have s2 := heap_setCell_same _ g 1 _ _ v s1
  exact heap_setCell_same _ g 2 _ _ t s2

theorem set3w_other {W : World} {g i : Nat} {o : Obj} (h : W.heap[i]? = some o) (hne : i ≠ g) (u v t : Value) : (set3w W g u v t).heap[i]? = some o := by
  unfold set3w
  rw [heap_setCell_other _ _ _ _ hne, heap_setCell_other _ _ _ _ hne, heap_setCell_other _ _ _ _ hne]
  exact h

theorem set3w_below {w W : World} {g : Nat} (h : Below w.heap.size w W) (hg : w.heap.size ≤ g) (u v t : Value) : Below w.heap.size w (set3w W g u v t) :=
  ((h.setCell hg _).setCell hg _).setCell hg _

theorem MSt.setX {w wr : World} {cA cB xn xa xb yn ya yb : Int} (h : MSt w wr cA cB xn xa xb yn ya yb) (zn za zb : Int) : MSt w (set3w wr (w.heap.size + 1 + 1) (.int .i64 zn) (.int .u64 za) (.int .u64 zb)) cA cB zn za zb yn ya yb :=
  ⟨set3w_below h.below (by omega) _ _ _, set3w_other h.A (by omega) _ _ _, set3w_other h.B (by omega) _ _ _, set3w_same h.X _ _ _, set3w_other h.Y (by omega) _ _ _⟩

theorem MSt.setY {w wr : World} {cA cB xn xa xb yn ya yb : Int} (h : MSt w wr cA cB xn xa xb yn ya yb) (zn za zb : Int) : MSt w (set3w wr (w.heap.size + 1 + 1 + 1) (.int .i64 zn) (.int .u64 za) (.int .u64 zb)) cA cB xn xa xb zn za zb :=
  ⟨set3w_below h.below (by omega) _ _ _, set3w_other h.A (by omega) _ _ _, set3w_other h.B (by omega) _ _ _, set3w_other h.X (by omega) _ _ _, set3w_same h.Y _ _ _⟩

/-- Two tallies and a third one, in the block g. -/
structure MS2 (w wr : World) (g : Nat) (xn xa xb yn ya yb sn sa sb : Int) : Prop where
  below : Below w.heap.size w wr
  low : w.heap.size + 1 + 1 + 1 < g
  X : wr.heap[w.heap.size + 1 + 1]? = some (.cells #[.int .i64 xn, .int .u64 xa, .int .u64 xb] 26)
  Y : wr.heap[w.heap.size + 1 + 1 + 1]? = some (.cells #[.int .i64 yn, .int .u64 ya, .int .u64 yb] 26)
  G : wr.heap[g]? = some (.cells #[.int .i64 sn, .int .u64 sa, .int .u64 sb] 26)

theorem MS2.keep {w wr w9 : World} {g : Nat} {xn xa xb yn ya yb sn sa sb : Int} (h : MS2 w wr g xn xa xb yn ya yb sn sa sb) (b : Below wr.heap.size wr w9) : MS2 w w9 g xn xa xb yn ya yb sn sa sb :=
  ⟨bthen h.below b, h.low, blk_on h.X b, blk_on h.Y b, blk_on h.G b⟩
theorem MS2.drew {w wr : World} {g : Nat} {xn xa xb yn ya yb sn sa sb : Int} (h : MS2 w wr g xn xa xb yn ya yb sn sa sb) : MS2 w wr.drew g xn xa xb yn ya yb sn sa sb := ⟨h.below.drew, h.low, h.X, h.Y, h.G⟩
theorem MS2.set {w wr : World} {g : Nat} {xn xa xb yn ya yb sn sa sb : Int} (h : MS2 w wr g xn xa xb yn ya yb sn sa sb) (zn za zb : Int) : MS2 w (set3w wr g (.int .i64 zn) (.int .u64 za) (.int .u64 zb)) g xn xa xb yn ya yb zn za zb := by
  have hl := h.low
  exact ⟨set3w_below h.below (by omega) _ _ _, h.low, set3w_other h.X (by omega) _ _ _, set3w_other h.Y (by omega) _ _ _, set3w_same h.G _ _ _⟩

theorem m_start (w : World) : MSt w ((((w.alloc (.cells #[.int .i64 0] 45)).alloc (.cells #[.int .i64 0] 45)).alloc (.cells #[.int .i64 0, .int .u64 0, .int .u64 0] 26)).alloc (.cells #[.int .i64 0, .int .u64 0, .int .u64 0] 26)) 0 0 0 0 0 0 0 0 := by
  have e1 : (w.alloc (.cells #[.int .i64 0] 45)).heap.size = w.heap.size + 1 := by simp
  have e2 : ((w.alloc (.cells #[.int .i64 0] 45)).alloc (.cells #[.int .i64 0] 45)).heap.size = w.heap.size + 1 + 1 := by simp
  have e3 : (((w.alloc (.cells #[.int .i64 0] 45)).alloc (.cells #[.int .i64 0] 45)).alloc (.cells #[.int .i64 0, .int .u64 0, .int .u64 0] 26)).heap.size = w.heap.size + 1 + 1 + 1 := by simp
  refine ⟨(((bnew w _).alloc (by simp) _).alloc (by simp; omega) _).alloc (by simp; omega) _, blk_on (blk_on (blk_on (heap_alloc_new w _) (bnew _ _)) (bnew _ _)) (bnew _ _), ?_, ?_, ?_⟩
  · rw [← e1]; exact blk_on (blk_on (heap_alloc_new _ _) (bnew _ _)) (bnew _ _)
  · rw [← e2]; exact blk_on (heap_alloc_new _ _) (bnew _ _)
  · rw [← e3]; exact heap_alloc_new _ _

/-- The first loop. -/
def MRel (w : World) (len : Nat) (T : Nat → Tl) (n i : Value) (wr : World) : Prop :=
  ∃ (j : Nat) (cA cB xn xa xb yn ya yb : Int), n = .int .i64 cA ∧ i = .int .i64 (j : Int) ∧ j ≤ len ∧ (0 ≤ cA ∧ 0 ≤ cB ∧ cA + cB = (j : Int)) ∧
    (IntKind.i64.wrap (xn + yn) = sN T j ∧ IntKind.u64.wrap (xa + ya) = sA T j ∧ IntKind.u64.wrap (xb + yb) = sB T j) ∧ MSt w wr cA cB xn xa xb yn ya yb

/-- The second loop. -/
def MRel2 (w : World) (len : Nat) (T : Nat → Tl) (g : Nat) (xn xa xb yn ya yb : Int) (i : Value) (wr : World) : Prop :=
  ∃ j : Nat, i = .int .i64 (j : Int) ∧ j ≤ len ∧ MS2 w wr g xn xa xb yn ya yb (sN T j) (sA T j) (sB T j)

theorem tm_keep {w W W' : World} {i j k : Nat} {xn xa xb yn ya yb sn sa sb : Int} (h : Below w.heap.size w W ∧ W.cell? ⟨i, 0, none⟩ = some (.int .i64 xn) ∧ W.cell? ⟨i, 1, none⟩ = some (.int .u64 xa) ∧ W.cell? ⟨i, 2, none⟩ = some (.int .u64 xb) ∧ W.cell? ⟨j, 0, none⟩ = some (.int .i64 yn) ∧ W.cell? ⟨j, 1, none⟩ = some (.int .u64 ya) ∧ W.cell? ⟨j, 2, none⟩ = some (.int .u64 yb) ∧ W.cell? ⟨k, 0, none⟩ = some (.int .i64 sn) ∧ W.cell? ⟨k, 1, none⟩ = some (.int .u64 sa) ∧ W.cell? ⟨k, 2, none⟩ = some (.int .u64 sb)) (bb : Below W.heap.size W W') :
    Below w.heap.size w W' ∧ W'.cell? ⟨i, 0, none⟩ = some (.int .i64 xn) ∧ W'.cell? ⟨i, 1, none⟩ = some (.int .u64 xa) ∧ W'.cell? ⟨i, 2, none⟩ = some (.int .u64 xb) ∧ W'.cell? ⟨j, 0, none⟩ = some (.int .i64 yn) ∧ W'.cell? ⟨j, 1, none⟩ = some (.int .u64 ya) ∧ W'.cell? ⟨j, 2, none⟩ = some (.int .u64 yb) ∧ W'.cell? ⟨k, 0, none⟩ = some (.int .i64 sn) ∧ W'.cell? ⟨k, 1, none⟩ = some (.int .u64 sa) ∧ W'.cell? ⟨k, 2, none⟩ = some (.int .u64 sb) := by
  obtain ⟨h, h0, h1, h2, h3, h4, h5, h6, h7, h8⟩ := h
  exact ⟨bthen h bb, cell_in h0 bb, cell_in h1 bb, cell_in h2 bb, cell_in h3 bb, cell_in h4 bb, cell_in h5 bb, cell_in h6 bb, cell_in h7 bb, cell_in h8 bb⟩

set_option maxRecDepth 100000 in
set_option maxHeartbeats 12800000 in
theorem ltmeter_walk (a : Option Addr) (len cap : Nat) (T : Nat → Tl) (a2 : Option Addr) (len2 cap2 : Nat) (T2 : Nat → Bool) (w : World) (hL : TalsIn w a len cap T) (hO : BoolsIn w a2 len2 cap2 T2) :
    Calls Try.prog 6 #[.slice a len cap, .slice a2 len2 cap2] w fun e w' => e = .returned (.bool true) ∧ Below w.heap.size w w' := by
  have HL := aside hL
  have HO := aside hO
  have m1 : (len : Int) ≤ 9223372036854775807 := by have := hL.1; have := hL.2.1; unfold maxLen at *; omega
  have m2 : (len2 : Int) ≤ 9223372036854775807 := by have := hO.1; have := hO.2.1; unfold maxLen at *; omega
  clear hL hO
  by_cases hb1 : (1073741824 : Int) < (len : Int)
  · go_enter Try.func6, Try.ntmps6
    go_wp2
    go_ret
    exact ⟨rfl, Below.refl _ _⟩
  by_cases hb2 : (1073741824 : Int) < (len2 : Int)
  · go_enter Try.func6, Try.ntmps6
    go_wp2
    go_ret
    exact ⟨rfl, Below.refl _ _⟩
  have hM0 := aside (m_start w)
  go_enter Try.func6, Try.ntmps6
  go_wp2_with fail
  refine (newMeter_any _).mono ?_
  rintro e w1 ⟨rfl, rfl⟩
  go_wp2_with fail
  refine (newMeter_any _).mono ?_
  rintro e w2 ⟨rfl, rfl⟩
  go_wp2_with fail
  go_loopw [9, 10] (fun n i wr => MRel w len T n i wr) (fun _ i _ => len - (intOf i).toNat)
  case atStart => exact ⟨0, 0, 0, 0, 0, 0, 0, 0, 0, rfl, rfl, Nat.zero_le _, ⟨by omega, by omega, by simp⟩, ⟨by rw [IntKind.wrap_i64]; rfl, by rw [IntKind.wrap_u64]; rfl, by rw [IntKind.wrap_u64]; rfl⟩, hM0.out⟩
  case round =>
    clear hM0
    obtain ⟨j, cA, cB, xn, xa, xb, yn, ya, yb, rfl, rfl, hj, ⟨hcA, hcB, hcc⟩, ⟨hsn0, hsa0, hsb0⟩, HH⟩ := hrel
    have HM := aside HH
    have hsn := aside hsn0
    have hsa := aside hsa0
    have hsb := aside hsb0
    clear HH hsn0 hsa0 hsb0
    have hbnd : (j : Int) ≤ 1073741824 := by omega
    have hj0 : (0 : Int) ≤ (j : Int) := by omega
    by_cases hlt : (j : Int) < (len : Int)
    · rcases HL.out.2.2 with h0 | ⟨bl, ol, rfl, hbl, hcl⟩
      · omega
      · have HC := aside (hcl j (by omega))
        clear hcl
        obtain ⟨tn, htn⟩ : ∃ r, (T j).n = r := ⟨_, rfl⟩
        obtain ⟨ta, hta⟩ : ∃ r, (T j).a = r := ⟨_, rfl⟩
        obtain ⟨tb, htb⟩ : ∃ r, (T j).b = r := ⟨_, rfl⟩
        rw [htn, hta, htb] at HC
        by_cases hlt3 : (j : Int) < (len2 : Int)
        · rcases HO.out.2.2 with h0 | ⟨bo, oo, rfl, hbo, hco⟩
          · omega
          · have d0 := cell_in (hco j (by omega)) HM.out.below
            clear hco
            cases hT : T2 j
            · rw [hT] at d0
              clear hT
              obtain ⟨rn, hr0⟩ : ∃ r, IntKind.i64.wrap (xn + tn) = r := ⟨_, rfl⟩
              obtain ⟨ra, hr1⟩ : ∃ r, IntKind.u64.wrap (xa + ta) = r := ⟨_, rfl⟩
              obtain ⟨rb, hr2⟩ : ∃ r, IntKind.u64.wrap (xb + tb) = r := ⟨_, rfl⟩
              have hcr : IntKind.i64.wrap (cA + 1) = cA + 1 := by rw [IntKind.wrap_i64]; omega
              have hc1 : (j : Int) + 1 - (cA + 1) = cB := by omega
              have hc2 : IntKind.i64.wrap ((j : Int) + 1 - (cA + 1)) = cB := by rw [IntKind.wrap_i64]; omega
              have FIN : Hid (∀ W, MSt w W (cA + 1) cB rn ra rb yn ya yb → MRel w len T (.int .i64 (cA + 1)) (.int .i64 ((j : Int) + 1)) W) := fun W hW =>
                ⟨j + 1, cA + 1, cB, rn, ra, rb, yn, ya, yb, rfl, by push_cast; rfl, by omega, ⟨by omega, by omega, by push_cast; omega⟩, ⟨by rw [← hr0]; exact (stepL hsn.out).trans (by rw [sN, htn]), by rw [← hr1]; exact (stepLu hsa.out).trans (by rw [sA, hta]), by rw [← hr2]; exact (stepLu hsb.out).trans (by rw [sB, htb])⟩, hW⟩
              clear hsn hsa hsb htn hta htb hbnd
              go_wp2_with fail
              have hS := fun (W : World) (b : Below w.heap.size w W) => (⟨b, cell_in HC.out.1 b, cell_in HC.out.2.1 b, cell_in HC.out.2.2 b⟩ : Below w.heap.size w W ∧ W.cell? ⟨bl, ol + j * 3, none⟩ = some (.int .i64 tn) ∧ W.cell? ⟨bl, ol + j * 3 + 1, none⟩ = some (.int .u64 ta) ∧ W.cell? ⟨bl, ol + j * 3 + 2, none⟩ = some (.int .u64 tb))
              have HSS := aside hS
              clear hS
              obtain ⟨q0, q1, q2, -, -, -⟩ := tri HM.out.drew.X
              refine wp_region_held_drew (S := fun W => Below w.heap.size w W ∧ W.cell? ⟨bl, ol + j * 3, none⟩ = some (.int .i64 tn) ∧ W.cell? ⟨bl, ol + j * 3 + 1, none⟩ = some (.int .u64 ta) ∧ W.cell? ⟨bl, ol + j * 3 + 2, none⟩ = some (.int .u64 tb)) (by kernel_rfl) (HSS.out _ HM.out.drew.below) (fun hHeld => ?_)
              refine wpAnyH_take (i := 0) (v := ?_) rfl (by kernel_rfl) (by kernel_rfl) (by kernel_rfl) (fun _ _ _ h => h) (Or.inl ⟨by rfl, ?_⟩) (by assumption) ?_
              rotate_left
              · intro w hSw
                go_simp
                try with_reducible rfl
              simp only [Act.put, List.getElem_toArray, List.getElem_cons_zero, List.setIfInBounds_toArray, List.set_cons_zero, List.set_cons_succ]
              refine wpAnyH_take (i := 2) (v := ?_) rfl (by kernel_rfl) (by kernel_rfl) (by kernel_rfl) (fun _ _ _ h => h) (Or.inl ⟨by rfl, ?_⟩) (by assumption) ?_
              rotate_left
              · intro w hSw
                go_simp
                try with_reducible rfl
              simp only [Act.put, List.getElem_toArray, List.getElem_cons_zero, List.getElem_cons_succ, List.setIfInBounds_toArray, List.set_cons_zero, List.set_cons_succ]
              refine wpAnyH_take (i := 3) (v := ?_) rfl (by kernel_rfl) (by kernel_rfl) (by kernel_rfl) (fun _ _ _ h => h) (Or.inl ⟨by rfl, ?_⟩) (by assumption) ?_
              rotate_left
              · intro w hSw
                go_simp
                try with_reducible rfl
              simp only [Act.put, List.getElem_toArray, List.getElem_cons_zero, List.getElem_cons_succ, List.setIfInBounds_toArray, List.set_cons_zero, List.set_cons_succ]
              refine wpAnyH_take (i := 4) (v := ?_) rfl (by kernel_rfl) (by kernel_rfl) (by kernel_rfl) (fun _ _ _ h => h) (Or.inl ⟨by rfl, ?_⟩) (by assumption) ?_
              rotate_left
              · intro w hSw
                go_simp
                try with_reducible rfl
              simp only [Act.put, List.getElem_toArray, List.getElem_cons_zero, List.getElem_cons_succ, List.setIfInBounds_toArray, List.set_cons_zero, List.set_cons_succ]
              refine wpAnyH_take (i := 5) (v := ?_) rfl (by kernel_rfl) (by kernel_rfl) (by kernel_rfl) (fun _ _ _ h => h) (Or.inl ⟨by rfl, ?_⟩) (by assumption) ?_
              rotate_left
              · intro w hSw
                go_simp
                try with_reducible rfl
              simp only [Act.put, List.getElem_toArray, List.getElem_cons_zero, List.getElem_cons_succ, List.setIfInBounds_toArray, List.set_cons_zero, List.set_cons_succ]
              refine wpAnyH_ready (rs := [1]) (by kernel_rfl) (by simp) ?_
              refine AllReadyH.cons rfl (fun K hK => ?_) AllReadyH.nil
              go_simp
              refine hK.out _ _ hHeld (fun hHeld => ?_)
              clear hK K
              clear q0 q1 q2
              refine wpAnyH_ready (rs := [6]) (by kernel_rfl) (by simp) ?_
              refine AllReadyH.cons rfl (fun K hK => ?_) AllReadyH.nil
              go_simp
              refine (mjoin_at hcr hr0 hr1 hr2 HM.out.drew.A).mono ?_
              rintro e w9 ⟨rfl, hA, kk⟩
              have HM9 := aside (HM.out.drew.joinA kk hA)
              clear hA kk
              refine hK.out _ _ (HSS.out _ HM9.out.below) (fun hHeld => ?_)
              clear hK K
              obtain ⟨q0, q1, q2, z0, z1, z2⟩ := tri HM9.out.X
              have HMZ := aside (HM9.out.setX rn ra rb)
              unfold set3w at HMZ
              refine wpAnyH_ready (rs := [7]) (by kernel_rfl) (by simp) ?_
              refine AllReadyH.cons rfl (fun K hK => ?_) AllReadyH.nil
              go_simp
              refine hK.out _ _ (HSS.out _ HMZ.out.below) (fun hHeld => ?_)
              clear hK K hHeld q0 q1 q2 z0 z1 z2 HM9
              refine wpAnyH_done (by kernel_rfl) ?_ _
              generalize ((w9.setCell ⟨w.heap.size + 1 + 1, 0, none⟩ (.int .i64 rn)).setCell ⟨w.heap.size + 1 + 1, 1, none⟩ (.int .u64 ra)).setCell ⟨w.heap.size + 1 + 1, 2, none⟩ (.int .u64 rb) = wz at *
              clear HSS
              go_wp2_with fail
              refine (joins_any HMZ.out.A).mono ?_
              rintro e w11 ⟨rfl, hw⟩
              subst hw
              go_wp2_with fail
              refine (joins_any HMZ.out.B).mono ?_
              rintro e w12 ⟨rfl, hw⟩
              subst hw
              go_wp2_with fail
              refine (joins_any HMZ.out.A).mono ?_
              rintro e w13 ⟨rfl, hw⟩
              subst hw
              go_wp2
              go_roundw
              case rel => exact FIN.out _ HMZ.out
              case measure => simp [intOf]; omega
            · rw [hT] at d0
              clear hT
              obtain ⟨rn, hr0⟩ : ∃ r, IntKind.i64.wrap (tn + yn) = r := ⟨_, rfl⟩
              obtain ⟨ra, hr1⟩ : ∃ r, IntKind.u64.wrap (ta + ya) = r := ⟨_, rfl⟩
              obtain ⟨rb, hr2⟩ : ∃ r, IntKind.u64.wrap (tb + yb) = r := ⟨_, rfl⟩
              have hcr : IntKind.i64.wrap (cB + 1) = cB + 1 := by rw [IntKind.wrap_i64]; omega
              have hc1 : (j : Int) + 1 - cA = cB + 1 := by omega
              have hc2 : IntKind.i64.wrap ((j : Int) + 1 - cA) = cB + 1 := by rw [IntKind.wrap_i64]; omega
              have FIN : Hid (∀ W, MSt w W cA (cB + 1) xn xa xb rn ra rb → MRel w len T (.int .i64 cA) (.int .i64 ((j : Int) + 1)) W) := fun W hW =>
                ⟨j + 1, cA, cB + 1, xn, xa, xb, rn, ra, rb, rfl, by push_cast; rfl, by omega, ⟨by omega, by omega, by push_cast; omega⟩, ⟨by rw [← hr0]; exact (stepR hsn.out).trans (by rw [sN, htn]), by rw [← hr1]; exact (stepRu hsa.out).trans (by rw [sA, hta]), by rw [← hr2]; exact (stepRu hsb.out).trans (by rw [sB, htb])⟩, hW⟩
              clear hsn hsa hsb htn hta htb hbnd
              go_wp2_with fail
              have hS := fun (W : World) (b : Below w.heap.size w W) => (⟨b, cell_in HC.out.1 b, cell_in HC.out.2.1 b, cell_in HC.out.2.2 b⟩ : Below w.heap.size w W ∧ W.cell? ⟨bl, ol + j * 3, none⟩ = some (.int .i64 tn) ∧ W.cell? ⟨bl, ol + j * 3 + 1, none⟩ = some (.int .u64 ta) ∧ W.cell? ⟨bl, ol + j * 3 + 2, none⟩ = some (.int .u64 tb))
              have HSS := aside hS
              clear hS
              obtain ⟨q0, q1, q2, -, -, -⟩ := tri HM.out.drew.Y
              refine wp_region_held_drew (S := fun W => Below w.heap.size w W ∧ W.cell? ⟨bl, ol + j * 3, none⟩ = some (.int .i64 tn) ∧ W.cell? ⟨bl, ol + j * 3 + 1, none⟩ = some (.int .u64 ta) ∧ W.cell? ⟨bl, ol + j * 3 + 2, none⟩ = some (.int .u64 tb)) (by kernel_rfl) (HSS.out _ HM.out.drew.below) (fun hHeld => ?_)
              refine wpAnyH_take (i := 0) (v := ?_) rfl (by kernel_rfl) (by kernel_rfl) (by kernel_rfl) (fun _ _ _ h => h) (Or.inl ⟨by rfl, ?_⟩) (by assumption) ?_
              rotate_left
              · intro w hSw
                go_simp
                try with_reducible rfl
              simp only [Act.put, List.getElem_toArray, List.getElem_cons_zero, List.setIfInBounds_toArray, List.set_cons_zero, List.set_cons_succ]
              refine wpAnyH_take (i := 1) (v := ?_) rfl (by kernel_rfl) (by kernel_rfl) (by kernel_rfl) (fun _ _ _ h => h) (Or.inl ⟨by rfl, ?_⟩) (by assumption) ?_
              rotate_left
              · intro w hSw
                go_simp
                try with_reducible rfl
              simp only [Act.put, List.getElem_toArray, List.getElem_cons_zero, List.getElem_cons_succ, List.setIfInBounds_toArray, List.set_cons_zero, List.set_cons_succ]
              refine wpAnyH_take (i := 2) (v := ?_) rfl (by kernel_rfl) (by kernel_rfl) (by kernel_rfl) (fun _ _ _ h => h) (Or.inl ⟨by rfl, ?_⟩) (by assumption) ?_
              rotate_left
              · intro w hSw
                go_simp
                try with_reducible rfl
              simp only [Act.put, List.getElem_toArray, List.getElem_cons_zero, List.getElem_cons_succ, List.setIfInBounds_toArray, List.set_cons_zero, List.set_cons_succ]
              refine wpAnyH_take (i := 3) (v := ?_) rfl (by kernel_rfl) (by kernel_rfl) (by kernel_rfl) (fun _ _ _ h => h) (Or.inl ⟨by rfl, ?_⟩) (by assumption) ?_
              rotate_left
              · intro w hSw
                go_simp
                try with_reducible rfl
              simp only [Act.put, List.getElem_toArray, List.getElem_cons_zero, List.getElem_cons_succ, List.setIfInBounds_toArray, List.set_cons_zero, List.set_cons_succ]
              refine wpAnyH_take (i := 4) (v := ?_) rfl (by kernel_rfl) (by kernel_rfl) (by kernel_rfl) (fun _ _ _ h => h) (Or.inl ⟨by rfl, ?_⟩) (by assumption) ?_
              rotate_left
              · intro w hSw
                go_simp
                try with_reducible rfl
              simp only [Act.put, List.getElem_toArray, List.getElem_cons_zero, List.getElem_cons_succ, List.setIfInBounds_toArray, List.set_cons_zero, List.set_cons_succ]
              refine wpAnyH_ready (rs := [5]) (by kernel_rfl) (by simp) ?_
              refine AllReadyH.cons rfl (fun K hK => ?_) AllReadyH.nil
              go_simp
              refine hK.out _ _ hHeld (fun hHeld => ?_)
              clear hK K
              clear q0 q1 q2
              refine wpAnyH_ready (rs := [6]) (by kernel_rfl) (by simp) ?_
              refine AllReadyH.cons rfl (fun K hK => ?_) AllReadyH.nil
              go_simp
              refine (mjoin_at hcr hr0 hr1 hr2 HM.out.drew.B).mono ?_
              rintro e w9 ⟨rfl, hA, kk⟩
              have HM9 := aside (HM.out.drew.joinB kk hA)
              clear hA kk
              refine hK.out _ _ (HSS.out _ HM9.out.below) (fun hHeld => ?_)
              clear hK K
              obtain ⟨q0, q1, q2, z0, z1, z2⟩ := tri HM9.out.Y
              have HMZ := aside (HM9.out.setY rn ra rb)
              unfold set3w at HMZ
              refine wpAnyH_ready (rs := [7]) (by kernel_rfl) (by simp) ?_
              refine AllReadyH.cons rfl (fun K hK => ?_) AllReadyH.nil
              go_simp
              refine hK.out _ _ (HSS.out _ HMZ.out.below) (fun hHeld => ?_)
              clear hK K hHeld q0 q1 q2 z0 z1 z2 HM9
              refine wpAnyH_done (by kernel_rfl) ?_ _
              generalize ((w9.setCell ⟨w.heap.size + 1 + 1 + 1, 0, none⟩ (.int .i64 rn)).setCell ⟨w.heap.size + 1 + 1 + 1, 1, none⟩ (.int .u64 ra)).setCell ⟨w.heap.size + 1 + 1 + 1, 2, none⟩ (.int .u64 rb) = wz at *
              clear HSS
              go_wp2_with fail
              refine (joins_any HMZ.out.A).mono ?_
              rintro e w11 ⟨rfl, hw⟩
              subst hw
              go_wp2_with fail
              refine (joins_any HMZ.out.B).mono ?_
              rintro e w12 ⟨rfl, hw⟩
              subst hw
              go_wp2_with fail
              refine (joins_any HMZ.out.A).mono ?_
              rintro e w13 ⟨rfl, hw⟩
              subst hw
              go_wp2
              go_roundw
              case rel => exact FIN.out _ HMZ.out
              case measure => simp [intOf]; omega
        · skip
          obtain ⟨rn, hr0⟩ : ∃ r, IntKind.i64.wrap (xn + tn) = r := ⟨_, rfl⟩
          obtain ⟨ra, hr1⟩ : ∃ r, IntKind.u64.wrap (xa + ta) = r := ⟨_, rfl⟩
          obtain ⟨rb, hr2⟩ : ∃ r, IntKind.u64.wrap (xb + tb) = r := ⟨_, rfl⟩
          have hcr : IntKind.i64.wrap (cA + 1) = cA + 1 := by rw [IntKind.wrap_i64]; omega
          have hc1 : (j : Int) + 1 - (cA + 1) = cB := by omega
          have hc2 : IntKind.i64.wrap ((j : Int) + 1 - (cA + 1)) = cB := by rw [IntKind.wrap_i64]; omega
          have FIN : Hid (∀ W, MSt w W (cA + 1) cB rn ra rb yn ya yb → MRel w len T (.int .i64 (cA + 1)) (.int .i64 ((j : Int) + 1)) W) := fun W hW =>
            ⟨j + 1, cA + 1, cB, rn, ra, rb, yn, ya, yb, rfl, by push_cast; rfl, by omega, ⟨by omega, by omega, by push_cast; omega⟩, ⟨by rw [← hr0]; exact (stepL hsn.out).trans (by rw [sN, htn]), by rw [← hr1]; exact (stepLu hsa.out).trans (by rw [sA, hta]), by rw [← hr2]; exact (stepLu hsb.out).trans (by rw [sB, htb])⟩, hW⟩
          clear hsn hsa hsb htn hta htb hbnd
          go_wp2_with fail
          have hS := fun (W : World) (b : Below w.heap.size w W) => (⟨b, cell_in HC.out.1 b, cell_in HC.out.2.1 b, cell_in HC.out.2.2 b⟩ : Below w.heap.size w W ∧ W.cell? ⟨bl, ol + j * 3, none⟩ = some (.int .i64 tn) ∧ W.cell? ⟨bl, ol + j * 3 + 1, none⟩ = some (.int .u64 ta) ∧ W.cell? ⟨bl, ol + j * 3 + 2, none⟩ = some (.int .u64 tb))
          have HSS := aside hS
          clear hS
          obtain ⟨q0, q1, q2, -, -, -⟩ := tri HM.out.drew.X
          refine wp_region_held_drew (S := fun W => Below w.heap.size w W ∧ W.cell? ⟨bl, ol + j * 3, none⟩ = some (.int .i64 tn) ∧ W.cell? ⟨bl, ol + j * 3 + 1, none⟩ = some (.int .u64 ta) ∧ W.cell? ⟨bl, ol + j * 3 + 2, none⟩ = some (.int .u64 tb)) (by kernel_rfl) (HSS.out _ HM.out.drew.below) (fun hHeld => ?_)
          refine wpAnyH_take (i := 0) (v := ?_) rfl (by kernel_rfl) (by kernel_rfl) (by kernel_rfl) (fun _ _ _ h => h) (Or.inl ⟨by rfl, ?_⟩) (by assumption) ?_
          rotate_left
          · intro w hSw
            go_simp
            try with_reducible rfl
          simp only [Act.put, List.getElem_toArray, List.getElem_cons_zero, List.setIfInBounds_toArray, List.set_cons_zero, List.set_cons_succ]
          refine wpAnyH_take (i := 2) (v := ?_) rfl (by kernel_rfl) (by kernel_rfl) (by kernel_rfl) (fun _ _ _ h => h) (Or.inl ⟨by rfl, ?_⟩) (by assumption) ?_
          rotate_left
          · intro w hSw
            go_simp
            try with_reducible rfl
          simp only [Act.put, List.getElem_toArray, List.getElem_cons_zero, List.getElem_cons_succ, List.setIfInBounds_toArray, List.set_cons_zero, List.set_cons_succ]
          refine wpAnyH_take (i := 3) (v := ?_) rfl (by kernel_rfl) (by kernel_rfl) (by kernel_rfl) (fun _ _ _ h => h) (Or.inl ⟨by rfl, ?_⟩) (by assumption) ?_
          rotate_left
          · intro w hSw
            go_simp
            try with_reducible rfl
          simp only [Act.put, List.getElem_toArray, List.getElem_cons_zero, List.getElem_cons_succ, List.setIfInBounds_toArray, List.set_cons_zero, List.set_cons_succ]
          refine wpAnyH_take (i := 4) (v := ?_) rfl (by kernel_rfl) (by kernel_rfl) (by kernel_rfl) (fun _ _ _ h => h) (Or.inl ⟨by rfl, ?_⟩) (by assumption) ?_
          rotate_left
          · intro w hSw
            go_simp
            try with_reducible rfl
          simp only [Act.put, List.getElem_toArray, List.getElem_cons_zero, List.getElem_cons_succ, List.setIfInBounds_toArray, List.set_cons_zero, List.set_cons_succ]
          refine wpAnyH_take (i := 5) (v := ?_) rfl (by kernel_rfl) (by kernel_rfl) (by kernel_rfl) (fun _ _ _ h => h) (Or.inl ⟨by rfl, ?_⟩) (by assumption) ?_
          rotate_left
          · intro w hSw
            go_simp
            try with_reducible rfl
          simp only [Act.put, List.getElem_toArray, List.getElem_cons_zero, List.getElem_cons_succ, List.setIfInBounds_toArray, List.set_cons_zero, List.set_cons_succ]
          refine wpAnyH_ready (rs := [1]) (by kernel_rfl) (by simp) ?_
          refine AllReadyH.cons rfl (fun K hK => ?_) AllReadyH.nil
          go_simp
          refine hK.out _ _ hHeld (fun hHeld => ?_)
          clear hK K
          clear q0 q1 q2
          refine wpAnyH_ready (rs := [6]) (by kernel_rfl) (by simp) ?_
          refine AllReadyH.cons rfl (fun K hK => ?_) AllReadyH.nil
          go_simp
          refine (mjoin_at hcr hr0 hr1 hr2 HM.out.drew.A).mono ?_
          rintro e w9 ⟨rfl, hA, kk⟩
          have HM9 := aside (HM.out.drew.joinA kk hA)
          clear hA kk
          refine hK.out _ _ (HSS.out _ HM9.out.below) (fun hHeld => ?_)
          clear hK K
          obtain ⟨q0, q1, q2, z0, z1, z2⟩ := tri HM9.out.X
          have HMZ := aside (HM9.out.setX rn ra rb)
          unfold set3w at HMZ
          refine wpAnyH_ready (rs := [7]) (by kernel_rfl) (by simp) ?_
          refine AllReadyH.cons rfl (fun K hK => ?_) AllReadyH.nil
          go_simp
          refine hK.out _ _ (HSS.out _ HMZ.out.below) (fun hHeld => ?_)
          clear hK K hHeld q0 q1 q2 z0 z1 z2 HM9
          refine wpAnyH_done (by kernel_rfl) ?_ _
          generalize ((w9.setCell ⟨w.heap.size + 1 + 1, 0, none⟩ (.int .i64 rn)).setCell ⟨w.heap.size + 1 + 1, 1, none⟩ (.int .u64 ra)).setCell ⟨w.heap.size + 1 + 1, 2, none⟩ (.int .u64 rb) = wz at *
          clear HSS
          go_wp2_with fail
          refine (joins_any HMZ.out.A).mono ?_
          rintro e w11 ⟨rfl, hw⟩
          subst hw
          go_wp2_with fail
          refine (joins_any HMZ.out.B).mono ?_
          rintro e w12 ⟨rfl, hw⟩
          subst hw
          go_wp2_with fail
          refine (joins_any HMZ.out.A).mono ?_
          rintro e w13 ⟨rfl, hw⟩
          subst hw
          go_wp2
          go_roundw
          case rel => exact FIN.out _ HMZ.out
          case measure => simp [intOf]; omega
    · skip
      have hjl : j = len := by omega
      subst hjl
      have HQ := aside (And.intro hsn.out (And.intro hsa.out hsb.out))
      have M2 := aside (show MS2 w (wr.alloc (.cells #[.int .i64 0, .int .u64 0, .int .u64 0] 26)) wr.heap.size xn xa xb yn ya yb 0 0 0 from ⟨bthen HM.out.below (bnew _ _), lt_of_blk HM.out.Y, blk_on HM.out.X (bnew _ _), blk_on HM.out.Y (bnew _ _), heap_alloc_new _ _⟩)
      clear hsn hsa hsb HM hbnd
      go_wp2_with fail
      generalize wr.alloc (.cells #[.int .i64 0, .int .u64 0, .int .u64 0] 26) = V1 at *
      generalize wr.heap.size = g at *
      go_loopw [12] (fun i wr => MRel2 w j T g xn xa xb yn ya yb i wr) (fun i _ => j - (intOf i).toNat)
      case atStart => exact ⟨0, rfl, Nat.zero_le _, M2.out⟩
      case round =>
        clear M2 V1
        obtain ⟨k, rfl, hk, HH⟩ := hrel
        have HM := aside HH
        clear HH
        by_cases hlt2 : (k : Int) < (j : Int)
        · rcases HL.out.2.2 with h0 | ⟨bl, ol, rfl, hbl, hcl⟩
          · omega
          · have HC := aside (hcl k (by omega))
            clear hcl
            obtain ⟨tn, htn⟩ : ∃ r, (T k).n = r := ⟨_, rfl⟩
            obtain ⟨ta, hta⟩ : ∃ r, (T k).a = r := ⟨_, rfl⟩
            obtain ⟨tb, htb⟩ : ∃ r, (T k).b = r := ⟨_, rfl⟩
            rw [htn, hta, htb] at HC
            have FIN : Hid (∀ W, MS2 w W g xn xa xb yn ya yb (IntKind.i64.wrap (sN T k + tn)) (IntKind.u64.wrap (sA T k + ta)) (IntKind.u64.wrap (sB T k + tb)) → MRel2 w j T g xn xa xb yn ya yb (.int .i64 ((k : Int) + 1)) W) := fun W hW => ⟨k + 1, by push_cast; rfl, by omega, by rw [sN, sA, sB, htn, hta, htb]; exact hW⟩
            clear htn hta htb
            generalize sN T k = sn at *
            generalize sA T k = sa at *
            generalize sB T k = sb at *
            obtain ⟨rn, hr0⟩ : ∃ r, IntKind.i64.wrap (sn + tn) = r := ⟨_, rfl⟩
            obtain ⟨ra, hr1⟩ : ∃ r, IntKind.u64.wrap (sa + ta) = r := ⟨_, rfl⟩
            obtain ⟨rb, hr2⟩ : ∃ r, IntKind.u64.wrap (sb + tb) = r := ⟨_, rfl⟩
            rw [hr0, hr1, hr2] at FIN
            have hk0 : (0 : Int) ≤ (k : Int) := by omega
            go_wp2_with fail
            have hS := fun (W : World) (b : Below w.heap.size w W) => (⟨b, cell_in HC.out.1 b, cell_in HC.out.2.1 b, cell_in HC.out.2.2 b⟩ : Below w.heap.size w W ∧ W.cell? ⟨bl, ol + k * 3, none⟩ = some (.int .i64 tn) ∧ W.cell? ⟨bl, ol + k * 3 + 1, none⟩ = some (.int .u64 ta) ∧ W.cell? ⟨bl, ol + k * 3 + 2, none⟩ = some (.int .u64 tb))
            have HSS := aside hS
            clear hS
            obtain ⟨q0, q1, q2, -, -, -⟩ := tri HM.out.drew.G
            refine wp_region_held_drew (S := fun W => Below w.heap.size w W ∧ W.cell? ⟨bl, ol + k * 3, none⟩ = some (.int .i64 tn) ∧ W.cell? ⟨bl, ol + k * 3 + 1, none⟩ = some (.int .u64 ta) ∧ W.cell? ⟨bl, ol + k * 3 + 2, none⟩ = some (.int .u64 tb)) (by kernel_rfl) (HSS.out _ HM.out.drew.below) (fun hHeld => ?_)
            refine wpAnyH_take (i := 1) (v := ?_) rfl (by kernel_rfl) (by kernel_rfl) (by kernel_rfl) (fun _ _ _ h => h) (Or.inl ⟨by rfl, ?_⟩) (by assumption) ?_
            rotate_left
            · intro w hSw
              go_simp
              try with_reducible rfl
            simp only [Act.put, List.getElem_toArray, List.getElem_cons_zero, List.getElem_cons_succ, List.setIfInBounds_toArray, List.set_cons_zero, List.set_cons_succ]
            refine wpAnyH_take (i := 2) (v := ?_) rfl (by kernel_rfl) (by kernel_rfl) (by kernel_rfl) (fun _ _ _ h => h) (Or.inl ⟨by rfl, ?_⟩) (by assumption) ?_
            rotate_left
            · intro w hSw
              go_simp
              try with_reducible rfl
            simp only [Act.put, List.getElem_toArray, List.getElem_cons_zero, List.getElem_cons_succ, List.setIfInBounds_toArray, List.set_cons_zero, List.set_cons_succ]
            refine wpAnyH_take (i := 3) (v := ?_) rfl (by kernel_rfl) (by kernel_rfl) (by kernel_rfl) (fun _ _ _ h => h) (Or.inl ⟨by rfl, ?_⟩) (by assumption) ?_
            rotate_left
            · intro w hSw
              go_simp
              try with_reducible rfl
            simp only [Act.put, List.getElem_toArray, List.getElem_cons_zero, List.getElem_cons_succ, List.setIfInBounds_toArray, List.set_cons_zero, List.set_cons_succ]
            refine wpAnyH_take (i := 4) (v := ?_) rfl (by kernel_rfl) (by kernel_rfl) (by kernel_rfl) (fun _ _ _ h => h) (Or.inl ⟨by rfl, ?_⟩) (by assumption) ?_
            rotate_left
            · intro w hSw
              go_simp
              try with_reducible rfl
            simp only [Act.put, List.getElem_toArray, List.getElem_cons_zero, List.getElem_cons_succ, List.setIfInBounds_toArray, List.set_cons_zero, List.set_cons_succ]
            refine wpAnyH_ready (rs := [0]) (by kernel_rfl) (by simp) ?_
            refine AllReadyH.cons rfl (fun K hK => ?_) AllReadyH.nil
            go_simp
            refine hK.out _ _ hHeld (fun hHeld => ?_)
            clear hK K
            clear q0 q1 q2
            refine wpAnyH_ready (rs := [5]) (by kernel_rfl) (by simp) ?_
            refine AllReadyH.cons rfl (fun K hK => ?_) AllReadyH.nil
            go_simp
            refine (joinRef_at hr0 hr1 hr2 _).mono ?_
            rintro e w9 ⟨rfl, bb⟩
            have HM9 := aside (HM.out.drew.keep bb)
            clear bb
            refine hK.out _ _ (HSS.out _ HM9.out.below) (fun hHeld => ?_)
            clear hK K
            obtain ⟨q0, q1, q2, z0, z1, z2⟩ := tri HM9.out.G
            have HMZ := aside (HM9.out.set rn ra rb)
            unfold set3w at HMZ
            refine wpAnyH_ready (rs := [6]) (by kernel_rfl) (by simp) ?_
            refine AllReadyH.cons rfl (fun K hK => ?_) AllReadyH.nil
            go_simp
            refine hK.out _ _ (HSS.out _ HMZ.out.below) (fun hHeld => ?_)
            clear hK K hHeld q0 q1 q2 z0 z1 z2 HM9
            refine wpAnyH_done (by kernel_rfl) ?_ _
            generalize ((w9.setCell ⟨g, 0, none⟩ (.int .i64 rn)).setCell ⟨g, 1, none⟩ (.int .u64 ra)).setCell ⟨g, 2, none⟩ (.int .u64 rb) = wz at *
            clear HSS
            go_wp2
            go_roundw
            case rel => exact FIN.out _ HMZ.out
            case measure => simp [intOf]; omega
        · have hkl : k = j := by omega
          subst hkl
          obtain ⟨e0, e1, e2⟩ := HQ.out
          generalize sN T k = sn at *
          generalize sA T k = sa at *
          generalize sB T k = sb at *
          have qs := tal_same sn sa sb
          go_wp2_with fail
          have S0 : Hid (Below w.heap.size w wr.drew ∧ wr.drew.cell? ⟨w.heap.size + 1 + 1, 0, none⟩ = some (.int .i64 xn) ∧ wr.drew.cell? ⟨w.heap.size + 1 + 1, 1, none⟩ = some (.int .u64 xa) ∧ wr.drew.cell? ⟨w.heap.size + 1 + 1, 2, none⟩ = some (.int .u64 xb) ∧ wr.drew.cell? ⟨w.heap.size + 1 + 1 + 1, 0, none⟩ = some (.int .i64 yn) ∧ wr.drew.cell? ⟨w.heap.size + 1 + 1 + 1, 1, none⟩ = some (.int .u64 ya) ∧ wr.drew.cell? ⟨w.heap.size + 1 + 1 + 1, 2, none⟩ = some (.int .u64 yb) ∧ wr.drew.cell? ⟨g, 0, none⟩ = some (.int .i64 sn) ∧ wr.drew.cell? ⟨g, 1, none⟩ = some (.int .u64 sa) ∧ wr.drew.cell? ⟨g, 2, none⟩ = some (.int .u64 sb)) := ⟨HM.out.drew.below, (tri HM.out.drew.X).1, (tri HM.out.drew.X).2.1, (tri HM.out.drew.X).2.2.1, (tri HM.out.drew.Y).1, (tri HM.out.drew.Y).2.1, (tri HM.out.drew.Y).2.2.1, (tri HM.out.drew.G).1, (tri HM.out.drew.G).2.1, (tri HM.out.drew.G).2.2.1⟩
          have CJ := aside (fun W => joinRef_at e0 e1 e2 W)
          clear e0 e1 e2 HM
          refine wp_region_held_drew (S := fun W => Below w.heap.size w W ∧ W.cell? ⟨w.heap.size + 1 + 1, 0, none⟩ = some (.int .i64 xn) ∧ W.cell? ⟨w.heap.size + 1 + 1, 1, none⟩ = some (.int .u64 xa) ∧ W.cell? ⟨w.heap.size + 1 + 1, 2, none⟩ = some (.int .u64 xb) ∧ W.cell? ⟨w.heap.size + 1 + 1 + 1, 0, none⟩ = some (.int .i64 yn) ∧ W.cell? ⟨w.heap.size + 1 + 1 + 1, 1, none⟩ = some (.int .u64 ya) ∧ W.cell? ⟨w.heap.size + 1 + 1 + 1, 2, none⟩ = some (.int .u64 yb) ∧ W.cell? ⟨g, 0, none⟩ = some (.int .i64 sn) ∧ W.cell? ⟨g, 1, none⟩ = some (.int .u64 sa) ∧ W.cell? ⟨g, 2, none⟩ = some (.int .u64 sb)) (by kernel_rfl) S0.out (fun hHeld => ?_)
          clear S0
          refine wpAnyH_take (i := 0) (v := ?_) rfl (by kernel_rfl) (by kernel_rfl) (by kernel_rfl) (fun _ _ _ h => h) (Or.inl ⟨by rfl, ?_⟩) (by assumption) ?_
          rotate_left
          · intro w hSw
            go_simp
            try with_reducible rfl
          simp only [Act.put, List.getElem_toArray, List.getElem_cons_zero, List.setIfInBounds_toArray, List.set_cons_zero, List.set_cons_succ]
          refine wpAnyH_take (i := 1) (v := ?_) rfl (by kernel_rfl) (by kernel_rfl) (by kernel_rfl) (fun _ _ _ h => h) (Or.inl ⟨by rfl, ?_⟩) (by assumption) ?_
          rotate_left
          · intro w hSw
            go_simp
            try with_reducible rfl
          simp only [Act.put, List.getElem_toArray, List.getElem_cons_zero, List.getElem_cons_succ, List.setIfInBounds_toArray, List.set_cons_zero, List.set_cons_succ]
          refine wpAnyH_take (i := 3) (v := ?_) rfl (by kernel_rfl) (by kernel_rfl) (by kernel_rfl) (fun _ _ _ h => h) (Or.inl ⟨by rfl, ?_⟩) (by assumption) ?_
          rotate_left
          · intro w hSw
            go_simp
            try with_reducible rfl
          simp only [Act.put, List.getElem_toArray, List.getElem_cons_zero, List.getElem_cons_succ, List.setIfInBounds_toArray, List.set_cons_zero, List.set_cons_succ]
          refine wpAnyH_ready (rs := [2]) (by kernel_rfl) (by simp) ?_
          refine AllReadyH.cons rfl (fun K hK => ?_) AllReadyH.nil
          go_simp
          refine (CJ.out _).mono ?_
          rintro e w9 ⟨rfl, bb⟩
          refine hK.out _ _ (tm_keep hHeld bb) (fun hHeld => ?_)
          clear hK K 
          refine wpAnyH_take (i := 4) (v := ?_) rfl (by kernel_rfl) (by kernel_rfl) (by kernel_rfl) (fun _ _ _ h => h) (Or.inl ⟨by rfl, ?_⟩) (by assumption) ?_
          rotate_left
          · intro w hSw
            go_simp
            try with_reducible rfl
          simp only [Act.put, List.getElem_toArray, List.getElem_cons_zero, List.getElem_cons_succ, List.setIfInBounds_toArray, List.set_cons_zero, List.set_cons_succ]
          refine wpAnyH_take (i := 5) (v := ?_) rfl (by kernel_rfl) (by kernel_rfl) (by kernel_rfl) (fun _ _ _ h => h) (Or.inl ⟨by rfl, ?_⟩) (by assumption) ?_
          rotate_left
          · intro w hSw
            go_simp
            try with_reducible rfl
          simp only [Act.put, List.getElem_toArray, List.getElem_cons_zero, List.getElem_cons_succ, List.setIfInBounds_toArray, List.set_cons_zero, List.set_cons_succ]
          refine wpAnyH_done (by kernel_rfl) ?_ _
          go_wp2
          go_ret
          exact ⟨rfl, hHeld.1⟩

end Go.Proofs.Ytccfhegckdmanaa
