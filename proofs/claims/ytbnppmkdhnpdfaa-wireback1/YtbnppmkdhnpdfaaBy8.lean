/-
  checkEntries and checkPart, the code's.
-/
import Derived.Test.YtbnppmkdhnpdfaaBy7
namespace Go.Proofs.Ytbnppmkdhnpdfaa
open Go.RowKit
set_option linter.unusedVariables false
/-- The cells of a block of eight. -/
theorem oct8 {w : World} {i : Nat} {v0 v1 v2 v3 v4 v5 v6 v7 : Value} {t : TypeId} (h : w.heap[i]? = some (.cells #[v0, v1, v2, v3, v4, v5, v6, v7] t (0, 0))) : w.cell? ⟨i, 0, none⟩ = some v0 ∧ w.cell? ⟨i, 1, none⟩ = some v1 ∧ w.cell? ⟨i, 2, none⟩ = some v2 ∧ w.cell? ⟨i, 3, none⟩ = some v3 ∧ w.cell? ⟨i, 4, none⟩ = some v4 ∧ w.cell? ⟨i, 5, none⟩ = some v5 ∧ w.cell? ⟨i, 6, none⟩ = some v6 ∧ w.cell? ⟨i, 7, none⟩ = some v7 :=
  ⟨by simp [World.cell?, h], by simp [World.cell?, h], by simp [World.cell?, h], by simp [World.cell?, h], by simp [World.cell?, h], by simp [World.cell?, h], by simp [World.cell?, h], by simp [World.cell?, h]⟩
theorem its_bad {p : Pm} {j : Nat} (h0 : itN p.rg p.T j = 0) (hj : j < p.el) (h : itAt p.rg p.T j ≠ 0) : p.its = itAt p.rg p.T j := by
  have e := itN_bad h0 hj h
  unfold Pm.its
  rw [if_pos (by rw [e]; exact h), e]
theorem its_end {p : Pm} (h : itN p.rg p.T p.el = 0) : p.its = if p.kind = 3 ∧ p.el = 0 then 116 else 0 := by
  unfold Pm.its
  rw [if_neg (by simp [h])]
theorem entchk_of (t : En) (w : World) {q : Int} (h : t.chk = q) : Calls Try.prog 74 #[.agg #[.string t.k, .int .i64 t.c, .int .i64 t.n, .string t.v, .bool t.d]] w fun e w' => e = .returned (.int .i64 q) ∧ Below w.heap.size w w' := by
  subst h
  exact ichk_any t.k t.c t.n t.v t.d w
theorem holds_of (lo hi : ByteArray) (op : Bool) (k : ByteArray) (w : World) {q : Bool} (h : Rg.has ⟨lo, hi, op⟩ k = q) : Calls Try.prog 98 #[.agg #[.string lo, .string hi, .bool op], .string k] w fun e w' => e = .returned (.bool q) ∧ Below w.heap.size w w' := by
  subst h
  exact holds_any lo hi op k w
set_option maxHeartbeats 6400000 in
set_option maxRecDepth 100000 in
theorem its_any (p : Pm) (w : World) (h : p.In w) : Calls Try.prog 90 #[.agg #[.int .i64 p.kind, .string p.lo, .string p.hi, .bool p.op, .int .i64 p.cnt, .int .u64 p.s0, .int .u64 p.s1, .slice p.ea p.el p.ec]] w fun e w' => e = .returned (.int .i64 p.its) ∧ Below w.heap.size w w' := by
  obtain ⟨kind, lo, hi, op, cnt, s0, s1, ea, el, ec, T⟩ := p
  unfold Pm.In at h
  dsimp only at h ⊢
  have HE := aside h
  obtain ⟨hlc, hcm, -⟩ := h
  have hmx : (el : Int) ≤ 9223372036854775807 := by unfold maxLen at hcm; omega
  clear hlc hcm
  go_enter Try.func90, Try.ntmps90
  go_wp2
  have BX := aside (bnew w (.cells #[.int .i64 kind, .string lo, .string hi, .bool op, .int .i64 cnt, .int .u64 s0, .int .u64 s1, .slice ea el ec] 46))
  have KX := aside (heap_alloc_new w (.cells #[.int .i64 kind, .string lo, .string hi, .bool op, .int .i64 cnt, .int .u64 s0, .int .u64 s1, .slice ea el ec] 46))
  generalize w.alloc (.cells #[.int .i64 kind, .string lo, .string hi, .bool op, .int .i64 cnt, .int .u64 s0, .int .u64 s1, .slice ea el ec] 46) = X0 at BX KX ⊢
  go_loopw [9] (fun i wr => ∃ j : Nat, i = .int .i64 (j : Int) ∧ j ≤ el ∧ Hid (itN ⟨lo, hi, op⟩ T j = 0) ∧ Below X0.heap.size X0 wr) (fun i _ => el - (intOf i).toNat)
  case atStart => exact ⟨0, rfl, Nat.zero_le _, rfl, Below.refl _ _⟩
  case round =>
    obtain ⟨j, rfl, hj, HC, hB⟩ := hrel
    have HB := aside hB
    clear hB
    by_cases hlt : (j : Int) < (el : Int)
    · skip
      have hE := HE.out.keep (bthen BX.out HB.out)
      rcases hE.2.2 with h0 | ⟨b, off, rfl, hb, hc⟩
      · omega
      obtain ⟨⟨c0, c1, c2, c3, c4⟩, -⟩ := hc j (by omega)
      obtain ⟨q, hq⟩ : ∃ q, (T j).chk = q := ⟨_, rfl⟩
      have HQ := aside hq
      have hj0 : (0 : Int) ≤ (j : Int) := by omega
      have HCC := aside hc
      clear hc hE
      obtain ⟨t, ht⟩ : ∃ t, T j = t := ⟨_, rfl⟩
      have HT := aside ht
      rw [ht] at c0 c1 c2 c3 c4 hq
      have CQ := aside (fun W => entchk_of t W hq)
      clear ht hq
      by_cases hq0 : q = 0
      · subst hq0
        go_wp2_with fail
        refine (CQ.out _).mono ?_
        rintro e w1 ⟨rfl, b1⟩
        have B2 := aside (HB.out.trans ((bthen (bnew wr (.cells #[.string t.k, .int .i64 t.c, .int .i64 t.n, .string t.v, .bool t.d] 50)) b1).mono HB.out.size))
        have kb := blk_on (heap_alloc_new wr (.cells #[.string t.k, .int .i64 t.c, .int .i64 t.n, .string t.v, .bool t.d] 50)) b1
        obtain ⟨e0, -⟩ := quint kb
        obtain ⟨-, p1, p2, p3, -, -, -, p7⟩ := oct8 (blk_on KX.out B2.out)
        obtain ⟨g, hg⟩ : ∃ g, wr.heap.size = g := ⟨_, rfl⟩
        rw [hg] at e0
        have HC2 := aside (fun (i : Nat) (hi : i < el) => cell_in (HCC.out i hi).1.1 (bthen (bnew wr _) b1))
        rw [hg]
        clear b1 c0 c1 c2 c3 c4 kb CQ HCC hg
        obtain ⟨hs, hhs⟩ : ∃ hs, Rg.has ⟨lo, hi, op⟩ t.k = hs := ⟨_, rfl⟩
        have CH := aside (fun W => holds_of lo hi op t.k W hhs)
        have HH := aside (show Rg.has ⟨lo, hi, op⟩ (T j).k = hs from by rw [HT.out]; exact hhs)
        clear hhs
        cases hs
        · skip
          have SX := aside (fun W (bb : Below w1.heap.size w1 W) => (show Below X0.heap.size X0 W ∧ W.cell? ⟨w.heap.size, 1, none⟩ = some (.string lo) ∧ W.cell? ⟨w.heap.size, 2, none⟩ = some (.string hi) ∧ W.cell? ⟨w.heap.size, 3, none⟩ = some (.bool op) ∧ W.cell? ⟨w.heap.size, 7, none⟩ = some (.slice (some ⟨b, off, none⟩) el ec) ∧ W.cell? ⟨g, 0, none⟩ = some (.string t.k) from ⟨B2.out.trans (bb.mono B2.out.size), cell_in p1 bb, cell_in p2 bb, cell_in p3 bb, cell_in p7 bb, cell_in e0 bb⟩))
          go_wp2_with fail
          clear p1 p2 p3 p7 e0
          refine wp_region_held_drew (S := fun W => (Below X0.heap.size X0 W ∧ W.cell? ⟨w.heap.size, 1, none⟩ = some (.string lo) ∧ W.cell? ⟨w.heap.size, 2, none⟩ = some (.string hi) ∧ W.cell? ⟨w.heap.size, 3, none⟩ = some (.bool op) ∧ W.cell? ⟨w.heap.size, 7, none⟩ = some (.slice (some ⟨b, off, none⟩) el ec) ∧ W.cell? ⟨g, 0, none⟩ = some (.string t.k)) ∧ Below w1.heap.size w1 W) (by kernel_rfl) ⟨SX.out _ (Below.refl _ w1).drew, (Below.refl _ w1).drew⟩ (fun hHeld => ?_)
          refine wpAnyH_take (i := 0) (v := ?_) rfl (by kernel_rfl) (by kernel_rfl) (by kernel_rfl) (fun _ _ _ h => h) (Or.inl ⟨by rfl, ?_⟩) (by assumption) ?_
          rotate_left
          · intro w hSw
            go_simp
            try with_reducible rfl
          simp only [Act.put, List.getElem_toArray, List.getElem_cons_zero, List.setIfInBounds_toArray, List.set_cons_zero, List.set_cons_succ]
          refine wpAnyH_take (i := 1) (v := ?_) rfl (by kernel_rfl) (by kernel_rfl) (by kernel_rfl) (fun _ _ _ h => h) (Or.inl ⟨by rfl, ?_⟩) (by assumption) ?_
          rotate_left
          · intro w hSw
            go_simp
            try with_reducible rfl
          simp only [Act.put, List.getElem_toArray, List.getElem_cons_zero, List.getElem_cons_succ, List.setIfInBounds_toArray, List.set_cons_zero, List.set_cons_succ]
          refine wpAnyH_take (i := 2) (v := ?_) rfl (by kernel_rfl) (by kernel_rfl) (by kernel_rfl) (fun _ _ _ h => h) (Or.inl ⟨by rfl, ?_⟩) (by assumption) ?_
          rotate_left
          · intro w hSw
            go_simp
            try with_reducible rfl
          simp only [Act.put, List.getElem_toArray, List.getElem_cons_zero, List.getElem_cons_succ, List.setIfInBounds_toArray, List.set_cons_zero, List.set_cons_succ]
          refine wpAnyH_take (i := 3) (v := ?_) rfl (by kernel_rfl) (by kernel_rfl) (by kernel_rfl) (fun _ _ _ h => h) (Or.inl ⟨by rfl, ?_⟩) (by assumption) ?_
          rotate_left
          · intro w hSw
            go_simp
            try with_reducible rfl
          simp only [Act.put, List.getElem_toArray, List.getElem_cons_zero, List.getElem_cons_succ, List.setIfInBounds_toArray, List.set_cons_zero, List.set_cons_succ]
          refine wpAnyH_ready (rs := [4]) (by kernel_rfl) (by simp) ?_
          refine AllReadyH.cons rfl (fun K hK => ?_) AllReadyH.nil
          go_simp
          refine (CH.out _).mono ?_
          rintro e w9 ⟨rfl, bb⟩
          refine hK.out _ _ (⟨SX.out _ (hHeld.2.trans (bb.mono hHeld.2.size)), hHeld.2.trans (bb.mono hHeld.2.size)⟩) (fun hHeld => ?_)
          clear hK K bb
          refine wpAnyH_take (i := 5) (v := ?_) rfl (by kernel_rfl) (by kernel_rfl) (by kernel_rfl) (fun _ _ _ h => h) (Or.inl ⟨by rfl, ?_⟩) (by assumption) ?_
          rotate_left
          · intro w hSw
            go_simp
            try with_reducible rfl
          simp only [Act.put, List.getElem_toArray, List.getElem_cons_zero, List.getElem_cons_succ, List.setIfInBounds_toArray, List.set_cons_zero, List.set_cons_succ]
          refine wpAnyH_take (i := 6) (v := ?_) rfl (by kernel_rfl) (by kernel_rfl) (by kernel_rfl) (fun _ _ _ h => h) (Or.inl ⟨by rfl, ?_⟩) (by assumption) ?_
          rotate_left
          · intro w hSw
            go_simp
            try with_reducible rfl
          simp only [Act.put, List.getElem_toArray, List.getElem_cons_zero, List.getElem_cons_succ, List.setIfInBounds_toArray, List.set_cons_zero, List.set_cons_succ]
          refine wpAnyH_take (i := 7) (v := undef) rfl (by kernel_rfl) (by kernel_rfl) (by kernel_rfl) (fun _ _ _ h => h) (Or.inr ⟨by rfl, rfl⟩) (by assumption) ?_
          simp only [Act.put, List.getElem_toArray, List.getElem_cons_zero, List.getElem_cons_succ, List.setIfInBounds_toArray, List.set_cons_zero, List.set_cons_succ]
          refine wpAnyH_take (i := 8) (v := undef) rfl (by kernel_rfl) (by kernel_rfl) (by kernel_rfl) (fun _ _ _ h => h) (Or.inr ⟨by rfl, rfl⟩) (by assumption) ?_
          simp only [Act.put, List.getElem_toArray, List.getElem_cons_zero, List.getElem_cons_succ, List.setIfInBounds_toArray, List.set_cons_zero, List.set_cons_succ]
          refine wpAnyH_take (i := 9) (v := undef) rfl (by kernel_rfl) (by kernel_rfl) (by kernel_rfl) (fun _ _ _ h => h) (Or.inr ⟨by rfl, rfl⟩) (by assumption) ?_
          simp only [Act.put, List.getElem_toArray, List.getElem_cons_zero, List.getElem_cons_succ, List.setIfInBounds_toArray, List.set_cons_zero, List.set_cons_succ]
          refine wpAnyH_take (i := 10) (v := undef) rfl (by kernel_rfl) (by kernel_rfl) (by kernel_rfl) (fun _ _ _ h => h) (Or.inr ⟨by rfl, rfl⟩) (by assumption) ?_
          simp only [Act.put, List.getElem_toArray, List.getElem_cons_zero, List.getElem_cons_succ, List.setIfInBounds_toArray, List.set_cons_zero, List.set_cons_succ]
          refine wpAnyH_take (i := 11) (v := undef) rfl (by kernel_rfl) (by kernel_rfl) (by kernel_rfl) (fun _ _ _ h => h) (Or.inr ⟨by rfl, rfl⟩) (by assumption) ?_
          simp only [Act.put, List.getElem_toArray, List.getElem_cons_zero, List.getElem_cons_succ, List.setIfInBounds_toArray, List.set_cons_zero, List.set_cons_succ]
          refine wpAnyH_take (i := 12) (v := undef) rfl (by kernel_rfl) (by kernel_rfl) (by kernel_rfl) (fun _ _ _ h => h) (Or.inr ⟨by rfl, rfl⟩) (by assumption) ?_
          simp only [Act.put, List.getElem_toArray, List.getElem_cons_zero, List.getElem_cons_succ, List.setIfInBounds_toArray, List.set_cons_zero, List.set_cons_succ]
          refine wpAnyH_take (i := 13) (v := undef) rfl (by kernel_rfl) (by kernel_rfl) (by kernel_rfl) (fun _ _ _ h => h) (Or.inr ⟨by rfl, rfl⟩) (by assumption) ?_
          simp only [Act.put, List.getElem_toArray, List.getElem_cons_zero, List.getElem_cons_succ, List.setIfInBounds_toArray, List.set_cons_zero, List.set_cons_succ]
          refine wpAnyH_take (i := 14) (v := undef) rfl (by kernel_rfl) (by kernel_rfl) (by kernel_rfl) (fun _ _ _ h => h) (Or.inr ⟨by rfl, rfl⟩) (by assumption) ?_
          simp only [Act.put, List.getElem_toArray, List.getElem_cons_zero, List.getElem_cons_succ, List.setIfInBounds_toArray, List.set_cons_zero, List.set_cons_succ]
          refine wpAnyH_take (i := 15) (v := undef) rfl (by kernel_rfl) (by kernel_rfl) (by kernel_rfl) (fun _ _ _ h => h) (Or.inr ⟨by rfl, rfl⟩) (by assumption) ?_
          simp only [Act.put, List.getElem_toArray, List.getElem_cons_zero, List.getElem_cons_succ, List.setIfInBounds_toArray, List.set_cons_zero, List.set_cons_succ]
          refine wpAnyH_take (i := 16) (v := undef) rfl (by kernel_rfl) (by kernel_rfl) (by kernel_rfl) (fun _ _ _ h => h) (Or.inr ⟨by rfl, rfl⟩) (by assumption) ?_
          simp only [Act.put, List.getElem_toArray, List.getElem_cons_zero, List.getElem_cons_succ, List.setIfInBounds_toArray, List.set_cons_zero, List.set_cons_succ]
          refine wpAnyH_take (i := 17) (v := undef) rfl (by kernel_rfl) (by kernel_rfl) (by kernel_rfl) (fun _ _ _ h => h) (Or.inr ⟨by rfl, rfl⟩) (by assumption) ?_
          simp only [Act.put, List.getElem_toArray, List.getElem_cons_zero, List.getElem_cons_succ, List.setIfInBounds_toArray, List.set_cons_zero, List.set_cons_succ]
          refine wpAnyH_take (i := 18) (v := undef) rfl (by kernel_rfl) (by kernel_rfl) (by kernel_rfl) (fun _ _ _ h => h) (Or.inr ⟨by rfl, rfl⟩) (by assumption) ?_
          simp only [Act.put, List.getElem_toArray, List.getElem_cons_zero, List.getElem_cons_succ, List.setIfInBounds_toArray, List.set_cons_zero, List.set_cons_succ]
          refine wpAnyH_take (i := 19) (v := undef) rfl (by kernel_rfl) (by kernel_rfl) (by kernel_rfl) (fun _ _ _ h => h) (Or.inr ⟨by rfl, rfl⟩) (by assumption) ?_
          simp only [Act.put, List.getElem_toArray, List.getElem_cons_zero, List.getElem_cons_succ, List.setIfInBounds_toArray, List.set_cons_zero, List.set_cons_succ]
          refine wpAnyH_take (i := 20) (v := undef) rfl (by kernel_rfl) (by kernel_rfl) (by kernel_rfl) (fun _ _ _ h => h) (Or.inr ⟨by rfl, rfl⟩) (by assumption) ?_
          simp only [Act.put, List.getElem_toArray, List.getElem_cons_zero, List.getElem_cons_succ, List.setIfInBounds_toArray, List.set_cons_zero, List.set_cons_succ]
          refine wpAnyH_take (i := 21) (v := ?_) rfl (by kernel_rfl) (by kernel_rfl) (by kernel_rfl) (fun _ _ _ h => h) (Or.inl ⟨by rfl, ?_⟩) (by assumption) ?_
          rotate_left
          · intro w hSw
            go_simp
            try with_reducible rfl
          simp only [Act.put, List.getElem_toArray, List.getElem_cons_zero, List.getElem_cons_succ, List.setIfInBounds_toArray, List.set_cons_zero, List.set_cons_succ]
          refine wpAnyH_done (by kernel_rfl) ?_ _
          have B3 := aside hHeld.1.1
          clear hHeld SX CH
          go_wp2
          go_ret
          exact ⟨ret_i64 (((its_bad (p := ⟨kind, lo, hi, op, cnt, s0, s1, some ⟨b, off, none⟩, el, ec, T⟩) HC.out (by dsimp only; omega) (by show itAt ⟨lo, hi, op⟩ T _ ≠ 0; rw [itAt_out HQ.out HH.out]; decide)).trans (itAt_out HQ.out HH.out)).symm), bthen BX.out B3.out⟩
        · cases j with
          | zero =>
            have SX := aside (fun W (bb : Below w1.heap.size w1 W) => (show Below X0.heap.size X0 W ∧ W.cell? ⟨w.heap.size, 1, none⟩ = some (.string lo) ∧ W.cell? ⟨w.heap.size, 2, none⟩ = some (.string hi) ∧ W.cell? ⟨w.heap.size, 3, none⟩ = some (.bool op) ∧ W.cell? ⟨w.heap.size, 7, none⟩ = some (.slice (some ⟨b, off, none⟩) el ec) ∧ W.cell? ⟨g, 0, none⟩ = some (.string t.k) from ⟨B2.out.trans (bb.mono B2.out.size), cell_in p1 bb, cell_in p2 bb, cell_in p3 bb, cell_in p7 bb, cell_in e0 bb⟩))
            go_wp2_with fail
            clear p1 p2 p3 p7 e0
            refine wp_region_held_drew (S := fun W => (Below X0.heap.size X0 W ∧ W.cell? ⟨w.heap.size, 1, none⟩ = some (.string lo) ∧ W.cell? ⟨w.heap.size, 2, none⟩ = some (.string hi) ∧ W.cell? ⟨w.heap.size, 3, none⟩ = some (.bool op) ∧ W.cell? ⟨w.heap.size, 7, none⟩ = some (.slice (some ⟨b, off, none⟩) el ec) ∧ W.cell? ⟨g, 0, none⟩ = some (.string t.k)) ∧ Below w1.heap.size w1 W) (by kernel_rfl) ⟨SX.out _ (Below.refl _ w1).drew, (Below.refl _ w1).drew⟩ (fun hHeld => ?_)
            refine wpAnyH_take (i := 0) (v := ?_) rfl (by kernel_rfl) (by kernel_rfl) (by kernel_rfl) (fun _ _ _ h => h) (Or.inl ⟨by rfl, ?_⟩) (by assumption) ?_
            rotate_left
            · intro w hSw
              go_simp
              try with_reducible rfl
            simp only [Act.put, List.getElem_toArray, List.getElem_cons_zero, List.setIfInBounds_toArray, List.set_cons_zero, List.set_cons_succ]
            refine wpAnyH_take (i := 1) (v := ?_) rfl (by kernel_rfl) (by kernel_rfl) (by kernel_rfl) (fun _ _ _ h => h) (Or.inl ⟨by rfl, ?_⟩) (by assumption) ?_
            rotate_left
            · intro w hSw
              go_simp
              try with_reducible rfl
            simp only [Act.put, List.getElem_toArray, List.getElem_cons_zero, List.getElem_cons_succ, List.setIfInBounds_toArray, List.set_cons_zero, List.set_cons_succ]
            refine wpAnyH_take (i := 2) (v := ?_) rfl (by kernel_rfl) (by kernel_rfl) (by kernel_rfl) (fun _ _ _ h => h) (Or.inl ⟨by rfl, ?_⟩) (by assumption) ?_
            rotate_left
            · intro w hSw
              go_simp
              try with_reducible rfl
            simp only [Act.put, List.getElem_toArray, List.getElem_cons_zero, List.getElem_cons_succ, List.setIfInBounds_toArray, List.set_cons_zero, List.set_cons_succ]
            refine wpAnyH_take (i := 3) (v := ?_) rfl (by kernel_rfl) (by kernel_rfl) (by kernel_rfl) (fun _ _ _ h => h) (Or.inl ⟨by rfl, ?_⟩) (by assumption) ?_
            rotate_left
            · intro w hSw
              go_simp
              try with_reducible rfl
            simp only [Act.put, List.getElem_toArray, List.getElem_cons_zero, List.getElem_cons_succ, List.setIfInBounds_toArray, List.set_cons_zero, List.set_cons_succ]
            refine wpAnyH_ready (rs := [4]) (by kernel_rfl) (by simp) ?_
            refine AllReadyH.cons rfl (fun K hK => ?_) AllReadyH.nil
            go_simp
            refine (CH.out _).mono ?_
            rintro e w9 ⟨rfl, bb⟩
            refine hK.out _ _ (⟨SX.out _ (hHeld.2.trans (bb.mono hHeld.2.size)), hHeld.2.trans (bb.mono hHeld.2.size)⟩) (fun hHeld => ?_)
            clear hK K bb
            refine wpAnyH_take (i := 5) (v := ?_) rfl (by kernel_rfl) (by kernel_rfl) (by kernel_rfl) (fun _ _ _ h => h) (Or.inl ⟨by rfl, ?_⟩) (by assumption) ?_
            rotate_left
            · intro w hSw
              go_simp
              try with_reducible rfl
            simp only [Act.put, List.getElem_toArray, List.getElem_cons_zero, List.getElem_cons_succ, List.setIfInBounds_toArray, List.set_cons_zero, List.set_cons_succ]
            refine wpAnyH_take (i := 6) (v := ?_) rfl (by kernel_rfl) (by kernel_rfl) (by kernel_rfl) (fun _ _ _ h => h) (Or.inl ⟨by rfl, ?_⟩) (by assumption) ?_
            rotate_left
            · intro w hSw
              go_simp
              try with_reducible rfl
            simp only [Act.put, List.getElem_toArray, List.getElem_cons_zero, List.getElem_cons_succ, List.setIfInBounds_toArray, List.set_cons_zero, List.set_cons_succ]
            refine wpAnyH_take (i := 7) (v := ?_) rfl (by kernel_rfl) (by kernel_rfl) (by kernel_rfl) (fun _ _ _ h => h) (Or.inl ⟨by rfl, ?_⟩) (by assumption) ?_
            rotate_left
            · intro w hSw
              go_simp
              try with_reducible rfl
            simp only [Act.put, List.getElem_toArray, List.getElem_cons_zero, List.getElem_cons_succ, List.setIfInBounds_toArray, List.set_cons_zero, List.set_cons_succ]
            refine wpAnyH_take (i := 8) (v := .bool false) rfl (by kernel_rfl) (by kernel_rfl) (by kernel_rfl) (fun _ _ _ h => h) (Or.inl ⟨by rfl, ?_⟩) (by assumption) ?_
            · intro w hSw
              go_simp
              try omega
            simp only [Act.put, List.getElem_toArray, List.getElem_cons_zero, List.getElem_cons_succ, List.setIfInBounds_toArray, List.set_cons_zero, List.set_cons_succ]
            refine wpAnyH_take (i := 9) (v := ?_) rfl (by kernel_rfl) (by kernel_rfl) (by kernel_rfl) (fun _ _ _ h => h) (Or.inl ⟨by rfl, ?_⟩) (by assumption) ?_
            rotate_left
            · intro w hSw
              go_simp
              try with_reducible rfl
            simp only [Act.put, List.getElem_toArray, List.getElem_cons_zero, List.getElem_cons_succ, List.setIfInBounds_toArray, List.set_cons_zero, List.set_cons_succ]
            refine wpAnyH_take (i := 10) (v := undef) rfl (by kernel_rfl) (by kernel_rfl) (by kernel_rfl) (fun _ _ _ h => h) (Or.inr ⟨by rfl, rfl⟩) (by assumption) ?_
            simp only [Act.put, List.getElem_toArray, List.getElem_cons_zero, List.getElem_cons_succ, List.setIfInBounds_toArray, List.set_cons_zero, List.set_cons_succ]
            refine wpAnyH_take (i := 11) (v := undef) rfl (by kernel_rfl) (by kernel_rfl) (by kernel_rfl) (fun _ _ _ h => h) (Or.inr ⟨by rfl, rfl⟩) (by assumption) ?_
            simp only [Act.put, List.getElem_toArray, List.getElem_cons_zero, List.getElem_cons_succ, List.setIfInBounds_toArray, List.set_cons_zero, List.set_cons_succ]
            refine wpAnyH_take (i := 12) (v := undef) rfl (by kernel_rfl) (by kernel_rfl) (by kernel_rfl) (fun _ _ _ h => h) (Or.inr ⟨by rfl, rfl⟩) (by assumption) ?_
            simp only [Act.put, List.getElem_toArray, List.getElem_cons_zero, List.getElem_cons_succ, List.setIfInBounds_toArray, List.set_cons_zero, List.set_cons_succ]
            refine wpAnyH_take (i := 13) (v := undef) rfl (by kernel_rfl) (by kernel_rfl) (by kernel_rfl) (fun _ _ _ h => h) (Or.inr ⟨by rfl, rfl⟩) (by assumption) ?_
            simp only [Act.put, List.getElem_toArray, List.getElem_cons_zero, List.getElem_cons_succ, List.setIfInBounds_toArray, List.set_cons_zero, List.set_cons_succ]
            refine wpAnyH_take (i := 14) (v := undef) rfl (by kernel_rfl) (by kernel_rfl) (by kernel_rfl) (fun _ _ _ h => h) (Or.inr ⟨by rfl, rfl⟩) (by assumption) ?_
            simp only [Act.put, List.getElem_toArray, List.getElem_cons_zero, List.getElem_cons_succ, List.setIfInBounds_toArray, List.set_cons_zero, List.set_cons_succ]
            refine wpAnyH_take (i := 15) (v := undef) rfl (by kernel_rfl) (by kernel_rfl) (by kernel_rfl) (fun _ _ _ h => h) (Or.inr ⟨by rfl, rfl⟩) (by assumption) ?_
            simp only [Act.put, List.getElem_toArray, List.getElem_cons_zero, List.getElem_cons_succ, List.setIfInBounds_toArray, List.set_cons_zero, List.set_cons_succ]
            refine wpAnyH_take (i := 16) (v := undef) rfl (by kernel_rfl) (by kernel_rfl) (by kernel_rfl) (fun _ _ _ h => h) (Or.inr ⟨by rfl, rfl⟩) (by assumption) ?_
            simp only [Act.put, List.getElem_toArray, List.getElem_cons_zero, List.getElem_cons_succ, List.setIfInBounds_toArray, List.set_cons_zero, List.set_cons_succ]
            refine wpAnyH_take (i := 17) (v := undef) rfl (by kernel_rfl) (by kernel_rfl) (by kernel_rfl) (fun _ _ _ h => h) (Or.inr ⟨by rfl, rfl⟩) (by assumption) ?_
            simp only [Act.put, List.getElem_toArray, List.getElem_cons_zero, List.getElem_cons_succ, List.setIfInBounds_toArray, List.set_cons_zero, List.set_cons_succ]
            refine wpAnyH_take (i := 18) (v := undef) rfl (by kernel_rfl) (by kernel_rfl) (by kernel_rfl) (fun _ _ _ h => h) (Or.inr ⟨by rfl, rfl⟩) (by assumption) ?_
            simp only [Act.put, List.getElem_toArray, List.getElem_cons_zero, List.getElem_cons_succ, List.setIfInBounds_toArray, List.set_cons_zero, List.set_cons_succ]
            refine wpAnyH_take (i := 19) (v := undef) rfl (by kernel_rfl) (by kernel_rfl) (by kernel_rfl) (fun _ _ _ h => h) (Or.inr ⟨by rfl, rfl⟩) (by assumption) ?_
            simp only [Act.put, List.getElem_toArray, List.getElem_cons_zero, List.getElem_cons_succ, List.setIfInBounds_toArray, List.set_cons_zero, List.set_cons_succ]
            refine wpAnyH_take (i := 20) (v := ?_) rfl (by kernel_rfl) (by kernel_rfl) (by kernel_rfl) (fun _ _ _ h => h) (Or.inl ⟨by rfl, ?_⟩) (by assumption) ?_
            rotate_left
            · intro w hSw
              go_simp
              try with_reducible rfl
            simp only [Act.put, List.getElem_toArray, List.getElem_cons_zero, List.getElem_cons_succ, List.setIfInBounds_toArray, List.set_cons_zero, List.set_cons_succ]
            refine wpAnyH_take (i := 21) (v := ?_) rfl (by kernel_rfl) (by kernel_rfl) (by kernel_rfl) (fun _ _ _ h => h) (Or.inl ⟨by rfl, ?_⟩) (by assumption) ?_
            rotate_left
            · intro w hSw
              go_simp
              try with_reducible rfl
            simp only [Act.put, List.getElem_toArray, List.getElem_cons_zero, List.getElem_cons_succ, List.setIfInBounds_toArray, List.set_cons_zero, List.set_cons_succ]
            refine wpAnyH_done (by kernel_rfl) ?_ _
            have B3 := aside hHeld.1.1
            clear hHeld SX CH
            go_wp2
            go_roundw
            case rel => exact ⟨1, by go_num, by omega, (itN_step HC.out).trans (itAt_ok HQ.out HH.out (fun g => absurd g.1 (by decide))), B3.out⟩
            case measure => simp [intOf]; omega
          | succ k =>
            have d0 := HC2.out k (by omega)
            obtain ⟨u, hu⟩ : ∃ u, T k = u := ⟨_, rfl⟩
            have HU := aside hu
            rw [hu] at d0
            clear hu
            have hk0 : (0 : Int) ≤ (k : Int) := by omega
            have hk1 : (k : Int) < (el : Int) := by omega
            have hk2 : (0 : Int) ≤ (k : Int) + 1 := by omega
            have hk3 : (0 : Int) < (k : Int) + 1 := by omega
            have hk4 : (k : Int) + 1 < (el : Int) := by omega
            have hw2 : IntKind.i64.wrap (k : Int) = (k : Int) := by simp only [IntKind.wrap_i64]; omega
            have SX := aside (fun W (bb : Below w1.heap.size w1 W) => (show Below X0.heap.size X0 W ∧ W.cell? ⟨w.heap.size, 1, none⟩ = some (.string lo) ∧ W.cell? ⟨w.heap.size, 2, none⟩ = some (.string hi) ∧ W.cell? ⟨w.heap.size, 3, none⟩ = some (.bool op) ∧ W.cell? ⟨w.heap.size, 7, none⟩ = some (.slice (some ⟨b, off, none⟩) el ec) ∧ W.cell? ⟨g, 0, none⟩ = some (.string t.k) ∧ W.cell? ⟨b, off + k * 5, none⟩ = some (.string u.k) from ⟨B2.out.trans (bb.mono B2.out.size), cell_in p1 bb, cell_in p2 bb, cell_in p3 bb, cell_in p7 bb, cell_in e0 bb, cell_in d0 bb⟩))
            go_wp2_with fail
            clear p1 p2 p3 p7 e0 d0
            refine wp_region_held_drew (S := fun W => (Below X0.heap.size X0 W ∧ W.cell? ⟨w.heap.size, 1, none⟩ = some (.string lo) ∧ W.cell? ⟨w.heap.size, 2, none⟩ = some (.string hi) ∧ W.cell? ⟨w.heap.size, 3, none⟩ = some (.bool op) ∧ W.cell? ⟨w.heap.size, 7, none⟩ = some (.slice (some ⟨b, off, none⟩) el ec) ∧ W.cell? ⟨g, 0, none⟩ = some (.string t.k) ∧ W.cell? ⟨b, off + k * 5, none⟩ = some (.string u.k)) ∧ Below w1.heap.size w1 W) (by kernel_rfl) ⟨SX.out _ (Below.refl _ w1).drew, (Below.refl _ w1).drew⟩ (fun hHeld => ?_)
            refine wpAnyH_take (i := 0) (v := ?_) rfl (by kernel_rfl) (by kernel_rfl) (by kernel_rfl) (fun _ _ _ h => h) (Or.inl ⟨by rfl, ?_⟩) (by assumption) ?_
            rotate_left
            · intro w hSw
              go_simp
              try with_reducible rfl
            simp only [Act.put, List.getElem_toArray, List.getElem_cons_zero, List.setIfInBounds_toArray, List.set_cons_zero, List.set_cons_succ]
            refine wpAnyH_take (i := 1) (v := ?_) rfl (by kernel_rfl) (by kernel_rfl) (by kernel_rfl) (fun _ _ _ h => h) (Or.inl ⟨by rfl, ?_⟩) (by assumption) ?_
            rotate_left
            · intro w hSw
              go_simp
              try with_reducible rfl
            simp only [Act.put, List.getElem_toArray, List.getElem_cons_zero, List.getElem_cons_succ, List.setIfInBounds_toArray, List.set_cons_zero, List.set_cons_succ]
            refine wpAnyH_take (i := 2) (v := ?_) rfl (by kernel_rfl) (by kernel_rfl) (by kernel_rfl) (fun _ _ _ h => h) (Or.inl ⟨by rfl, ?_⟩) (by assumption) ?_
            rotate_left
            · intro w hSw
              go_simp
              try with_reducible rfl
            simp only [Act.put, List.getElem_toArray, List.getElem_cons_zero, List.getElem_cons_succ, List.setIfInBounds_toArray, List.set_cons_zero, List.set_cons_succ]
            refine wpAnyH_take (i := 3) (v := ?_) rfl (by kernel_rfl) (by kernel_rfl) (by kernel_rfl) (fun _ _ _ h => h) (Or.inl ⟨by rfl, ?_⟩) (by assumption) ?_
            rotate_left
            · intro w hSw
              go_simp
              try with_reducible rfl
            simp only [Act.put, List.getElem_toArray, List.getElem_cons_zero, List.getElem_cons_succ, List.setIfInBounds_toArray, List.set_cons_zero, List.set_cons_succ]
            refine wpAnyH_ready (rs := [4]) (by kernel_rfl) (by simp) ?_
            refine AllReadyH.cons rfl (fun K hK => ?_) AllReadyH.nil
            go_simp
            refine (CH.out _).mono ?_
            rintro e w9 ⟨rfl, bb⟩
            refine hK.out _ _ (⟨SX.out _ (hHeld.2.trans (bb.mono hHeld.2.size)), hHeld.2.trans (bb.mono hHeld.2.size)⟩) (fun hHeld => ?_)
            clear hK K bb
            refine wpAnyH_take (i := 5) (v := ?_) rfl (by kernel_rfl) (by kernel_rfl) (by kernel_rfl) (fun _ _ _ h => h) (Or.inl ⟨by rfl, ?_⟩) (by assumption) ?_
            rotate_left
            · intro w hSw
              go_simp
              try with_reducible rfl
            simp only [Act.put, List.getElem_toArray, List.getElem_cons_zero, List.getElem_cons_succ, List.setIfInBounds_toArray, List.set_cons_zero, List.set_cons_succ]
            refine wpAnyH_take (i := 6) (v := ?_) rfl (by kernel_rfl) (by kernel_rfl) (by kernel_rfl) (fun _ _ _ h => h) (Or.inl ⟨by rfl, ?_⟩) (by assumption) ?_
            rotate_left
            · intro w hSw
              go_simp
              try with_reducible rfl
            simp only [Act.put, List.getElem_toArray, List.getElem_cons_zero, List.getElem_cons_succ, List.setIfInBounds_toArray, List.set_cons_zero, List.set_cons_succ]
            refine wpAnyH_take (i := 7) (v := ?_) rfl (by kernel_rfl) (by kernel_rfl) (by kernel_rfl) (fun _ _ _ h => h) (Or.inl ⟨by rfl, ?_⟩) (by assumption) ?_
            rotate_left
            · intro w hSw
              go_simp
              try with_reducible rfl
            simp only [Act.put, List.getElem_toArray, List.getElem_cons_zero, List.getElem_cons_succ, List.setIfInBounds_toArray, List.set_cons_zero, List.set_cons_succ]
            refine wpAnyH_take (i := 8) (v := .bool true) rfl (by kernel_rfl) (by kernel_rfl) (by kernel_rfl) (fun _ _ _ h => h) (Or.inl ⟨by rfl, ?_⟩) (by assumption) ?_
            · intro w hSw
              go_simp
              try omega
            simp only [Act.put, List.getElem_toArray, List.getElem_cons_zero, List.getElem_cons_succ, List.setIfInBounds_toArray, List.set_cons_zero, List.set_cons_succ]
            refine wpAnyH_take (i := 9) (v := ?_) rfl (by kernel_rfl) (by kernel_rfl) (by kernel_rfl) (fun _ _ _ h => h) (Or.inl ⟨by rfl, ?_⟩) (by assumption) ?_
            rotate_left
            · intro w hSw
              go_simp
              try with_reducible rfl
            simp only [Act.put, List.getElem_toArray, List.getElem_cons_zero, List.getElem_cons_succ, List.setIfInBounds_toArray, List.set_cons_zero, List.set_cons_succ]
            refine wpAnyH_take (i := 10) (v := ?_) rfl (by kernel_rfl) (by kernel_rfl) (by kernel_rfl) (fun _ _ _ h => h) (Or.inl ⟨by rfl, ?_⟩) (by assumption) ?_
            rotate_left
            · intro w hSw
              go_simp
              try with_reducible rfl
            simp only [Act.put, List.getElem_toArray, List.getElem_cons_zero, List.getElem_cons_succ, List.setIfInBounds_toArray, List.set_cons_zero, List.set_cons_succ]
            refine wpAnyH_take (i := 11) (v := ?_) rfl (by kernel_rfl) (by kernel_rfl) (by kernel_rfl) (fun _ _ _ h => h) (Or.inl ⟨by rfl, ?_⟩) (by assumption) ?_
            rotate_left
            · intro w hSw
              go_simp
              try with_reducible rfl
            simp only [Act.put, List.getElem_toArray, List.getElem_cons_zero, List.getElem_cons_succ, List.setIfInBounds_toArray, List.set_cons_zero, List.set_cons_succ]
            refine wpAnyH_take (i := 12) (v := ?_) rfl (by kernel_rfl) (by kernel_rfl) (by kernel_rfl) (fun _ _ _ h => h) (Or.inl ⟨by rfl, ?_⟩) (by assumption) ?_
            rotate_left
            · intro w hSw
              go_simp
              try with_reducible rfl
            simp only [Act.put, List.getElem_toArray, List.getElem_cons_zero, List.getElem_cons_succ, List.setIfInBounds_toArray, List.set_cons_zero, List.set_cons_succ]
            refine wpAnyH_take (i := 13) (v := ?_) rfl (by kernel_rfl) (by kernel_rfl) (by kernel_rfl) (fun _ _ _ h => h) (Or.inl ⟨by rfl, ?_⟩) (by assumption) ?_
            rotate_left
            · intro w hSw
              go_simp
              try with_reducible rfl
            simp only [Act.put, List.getElem_toArray, List.getElem_cons_zero, List.getElem_cons_succ, List.setIfInBounds_toArray, List.set_cons_zero, List.set_cons_succ]
            refine wpAnyH_take (i := 14) (v := ?_) rfl (by kernel_rfl) (by kernel_rfl) (by kernel_rfl) (fun _ _ _ h => h) (Or.inl ⟨by rfl, ?_⟩) (by assumption) ?_
            rotate_left
            · intro w hSw
              go_simp
              try with_reducible rfl
            simp only [Act.put, List.getElem_toArray, List.getElem_cons_zero, List.getElem_cons_succ, List.setIfInBounds_toArray, List.set_cons_zero, List.set_cons_succ]
            refine wpAnyH_take (i := 15) (v := ?_) rfl (by kernel_rfl) (by kernel_rfl) (by kernel_rfl) (fun _ _ _ h => h) (Or.inl ⟨by rfl, ?_⟩) (by assumption) ?_
            rotate_left
            · intro w hSw
              go_simp
              try with_reducible rfl
            simp only [Act.put, List.getElem_toArray, List.getElem_cons_zero, List.getElem_cons_succ, List.setIfInBounds_toArray, List.set_cons_zero, List.set_cons_succ]
            refine wpAnyH_take (i := 16) (v := ?_) rfl (by kernel_rfl) (by kernel_rfl) (by kernel_rfl) (fun _ _ _ h => h) (Or.inl ⟨by rfl, ?_⟩) (by assumption) ?_
            rotate_left
            · intro w hSw
              go_simp
              try with_reducible rfl
            simp only [Act.put, List.getElem_toArray, List.getElem_cons_zero, List.getElem_cons_succ, List.setIfInBounds_toArray, List.set_cons_zero, List.set_cons_succ]
            refine wpAnyH_take (i := 17) (v := ?_) rfl (by kernel_rfl) (by kernel_rfl) (by kernel_rfl) (fun _ _ _ h => h) (Or.inl ⟨by rfl, ?_⟩) (by assumption) ?_
            rotate_left
            · intro w hSw
              go_simp
              try with_reducible rfl
            simp only [Act.put, List.getElem_toArray, List.getElem_cons_zero, List.getElem_cons_succ, List.setIfInBounds_toArray, List.set_cons_zero, List.set_cons_succ]
            refine wpAnyH_take (i := 18) (v := ?_) rfl (by kernel_rfl) (by kernel_rfl) (by kernel_rfl) (fun _ _ _ h => h) (Or.inl ⟨by rfl, ?_⟩) (by assumption) ?_
            rotate_left
            · intro w hSw
              go_simp
              try with_reducible rfl
            simp only [Act.put, List.getElem_toArray, List.getElem_cons_zero, List.getElem_cons_succ, List.setIfInBounds_toArray, List.set_cons_zero, List.set_cons_succ]
            refine wpAnyH_take (i := 19) (v := .bool (!kLt u.k t.k)) rfl (by kernel_rfl) (by kernel_rfl) (by kernel_rfl) (fun _ _ _ h => h) (Or.inl ⟨by rfl, ?_⟩) (by assumption) ?_
            · intro w hSw
              go_simp
              exact leqF _ _
            simp only [Act.put, List.getElem_toArray, List.getElem_cons_zero, List.getElem_cons_succ, List.setIfInBounds_toArray, List.set_cons_zero, List.set_cons_succ]
            refine wpAnyH_take (i := 20) (v := ?_) rfl (by kernel_rfl) (by kernel_rfl) (by kernel_rfl) (fun _ _ _ h => h) (Or.inl ⟨by rfl, ?_⟩) (by assumption) ?_
            rotate_left
            · intro w hSw
              go_simp
              try with_reducible rfl
            simp only [Act.put, List.getElem_toArray, List.getElem_cons_zero, List.getElem_cons_succ, List.setIfInBounds_toArray, List.set_cons_zero, List.set_cons_succ]
            refine wpAnyH_take (i := 21) (v := ?_) rfl (by kernel_rfl) (by kernel_rfl) (by kernel_rfl) (fun _ _ _ h => h) (Or.inl ⟨by rfl, ?_⟩) (by assumption) ?_
            rotate_left
            · intro w hSw
              go_simp
              try with_reducible rfl
            simp only [Act.put, List.getElem_toArray, List.getElem_cons_zero, List.getElem_cons_succ, List.setIfInBounds_toArray, List.set_cons_zero, List.set_cons_succ]
            refine wpAnyH_done (by kernel_rfl) ?_ _
            have B3 := aside hHeld.1.1
            clear hHeld SX CH
            have hkk0 : kLt u.k t.k = kLt (T (k + 1 - 1)).k (T (k + 1)).k := by rw [show k + 1 - 1 = k from rfl, HU.out, HT.out]
            have KQ := aside hkk0
            clear hkk0 hw2
            cases hkk : kLt u.k t.k
            · rw [hkk] at KQ
              go_wp2
              go_ret
              exact ⟨ret_i64 (((its_bad (p := ⟨kind, lo, hi, op, cnt, s0, s1, some ⟨b, off, none⟩, el, ec, T⟩) HC.out (by dsimp only; omega) (by show itAt ⟨lo, hi, op⟩ T _ ≠ 0; rw [itAt_ord HQ.out ⟨by omega, KQ.out.symm⟩]; decide)).trans (itAt_ord HQ.out ⟨by omega, KQ.out.symm⟩)).symm), bthen BX.out B3.out⟩
            · rw [hkk] at KQ
              go_wp2
              go_roundw
              case rel => exact ⟨k + 1 + 1, by go_num, by omega, (itN_step HC.out).trans (itAt_ok HQ.out HH.out (fun g => by rw [← KQ.out] at g; exact absurd g.2 (by decide))), B3.out⟩
              case measure => simp [intOf]; omega
      · have HQ0 := aside hq0
        go_wp2_with fail
        refine (CQ.out _).mono ?_
        rintro e w1 ⟨rfl, b1⟩
        have B3 := aside (HB.out.trans ((bthen (bnew wr (.cells #[.string t.k, .int .i64 t.c, .int .i64 t.n, .string t.v, .bool t.d] 50)) b1).mono HB.out.size))
        clear b1 CQ c0 c1 c2 c3 c4
        have hqb : (q == 0) = false := by simpa using hq0
        have hne : (T j).chk ≠ 0 := by rw [HQ.out]; exact HQ0.out
        have HNE := aside hne
        clear hne
        go_wp2
        go_ret
        exact ⟨ret_i64 (HQ.out.symm.trans ((its_bad (p := ⟨kind, lo, hi, op, cnt, s0, s1, some ⟨b, off, none⟩, el, ec, T⟩) HC.out (by dsimp only; omega) (by show itAt ⟨lo, hi, op⟩ T _ ≠ 0; rw [itAt_ent HNE.out]; exact HNE.out)).trans (itAt_ent HNE.out)).symm), bthen BX.out B3.out⟩
    · skip
      have hjl : j = el := by omega
      subst hjl
      obtain ⟨p0, -, -, -, -, -, -, p7⟩ := oct8 (blk_on KX.out HB.out)
      have B3 := HB
      have ED := aside (its_end (p := ⟨kind, lo, hi, op, cnt, s0, s1, ea, j, ec, T⟩) HC.out)
      by_cases h3 : kind = 3
      · subst h3
        by_cases h0 : j = 0
        · subst h0
          go_wp2
          go_ret
          exact ⟨ret_i64 ((ED.out.trans (if_pos (by simp))).symm), bthen BX.out B3.out⟩
        · have h0' : ((j : Int) == 0) = false := by simp; omega
          have H0 := aside h0
          go_wp2
          go_ret
          exact ⟨ret_i64 ((ED.out.trans (if_neg (fun g => H0.out g.2))).symm), bthen BX.out B3.out⟩
      · have h3' : (kind == 3) = false := by simpa using h3
        have H3 := aside h3
        go_wp2
        go_ret
        exact ⟨ret_i64 ((ED.out.trans (if_neg (fun g => H3.out g.1))).symm), bthen BX.out B3.out⟩
theorem alone_at (p : Pm) {q : Bool} (h : p.alone = q) (w : World) : Calls Try.prog 86 #[.agg #[.int .i64 p.kind, .string p.lo, .string p.hi, .bool p.op, .int .i64 p.cnt, .int .u64 p.s0, .int .u64 p.s1, .slice p.ea p.el p.ec]] w fun e w' => e = .returned (.bool q) ∧ Below w.heap.size w w' := by
  subst h; exact alone_any p w
theorem empty_atF (lo hi : ByteArray) (op : Bool) {q : Bool} (h : Rg.emp ⟨lo, hi, op⟩ = q) (w : World) : Calls Try.prog 88 #[.agg #[.string lo, .string hi, .bool op]] w fun e w' => e = .returned (.bool q) ∧ Below w.heap.size w w' := by
  subst h; exact empty_any lo hi op w
theorem chk_1 {p : Pm} {hi : ByteArray} {op : Bool} (h : p.alone = false) : p.chk hi op = 114 := by unfold Pm.chk; rw [if_pos h]
theorem chk_2 {p : Pm} {hi : ByteArray} {op : Bool} (h : p.alone = true) (h2 : p.rg.chk ≠ 0) : p.chk hi op = p.rg.chk := by unfold Pm.chk; rw [if_neg (by simp [h]), if_pos h2]
theorem chk_3 {p : Pm} {hi : ByteArray} {op : Bool} (h : p.alone = true) (h2 : p.rg.chk = 0) (h3 : p.rg.emp = true ∨ op = true ∨ kLt p.lo hi = true) : p.chk hi op = 115 := by unfold Pm.chk; rw [if_neg (by simp [h]), if_neg (by simp [h2]), if_pos h3]
theorem chk_4 {p : Pm} {hi : ByteArray} {op : Bool} (h : p.alone = true) (h2 : p.rg.chk = 0) (h3 : p.rg.emp = false) (h4 : op = false) (h5 : kLt p.lo hi = false) (h6 : p.kind = 1) : p.chk hi op = tlChk p.cnt p.s0 p.s1 := by unfold Pm.chk; rw [if_neg (by simp [h]), if_neg (by simp [h2]), if_neg (by simp [h3, h4, h5]), if_pos h6]
theorem chk_5 {p : Pm} {hi : ByteArray} {op : Bool} (h : p.alone = true) (h2 : p.rg.chk = 0) (h3 : p.rg.emp = false) (h4 : op = false) (h5 : kLt p.lo hi = false) (h6 : ¬ p.kind = 1) : p.chk hi op = p.its := by unfold Pm.chk; rw [if_neg (by simp [h]), if_neg (by simp [h2]), if_neg (by simp [h3, h4, h5]), if_neg h6]
set_option maxHeartbeats 6400000 in
set_option maxRecDepth 100000 in
theorem part_any (p : Pm) (lo1 hi1 : ByteArray) (op1 : Bool) (w : World) (h : p.In w) : Calls Try.prog 69 #[.agg #[.int .i64 p.kind, .string p.lo, .string p.hi, .bool p.op, .int .i64 p.cnt, .int .u64 p.s0, .int .u64 p.s1, .slice p.ea p.el p.ec], .agg #[.string lo1, .string hi1, .bool op1]] w fun e w' => e = .returned (.int .i64 (p.chk hi1 op1)) ∧ Below w.heap.size w w' := by
  obtain ⟨kind, lo, hi, op, cnt, s0, s1, ea, el, ec, T⟩ := p
  unfold Pm.In at h
  dsimp only at h ⊢
  have HI := aside (fun W (bb : Below w.heap.size w W) => its_any ⟨kind, lo, hi, op, cnt, s0, s1, ea, el, ec, T⟩ W (show EntsIn W ea el ec T from h.keep bb))
  clear h
  obtain ⟨q1, hq1⟩ : ∃ q, Pm.alone ⟨kind, lo, hi, op, cnt, s0, s1, ea, el, ec, T⟩ = q := ⟨_, rfl⟩
  have C1 := aside (fun W => alone_at _ hq1 W)
  have H1 := aside hq1
  clear hq1
  obtain ⟨q2, hq2⟩ : ∃ q, Rg.chk ⟨lo, hi, op⟩ = q := ⟨_, rfl⟩
  have C2 := aside (fun W => check_at hq2 W)
  have H2 := aside hq2
  clear hq2
  obtain ⟨q3, hq3⟩ : ∃ q, Rg.emp ⟨lo, hi, op⟩ = q := ⟨_, rfl⟩
  have C3 := aside (fun W => empty_atF lo hi op hq3 W)
  have H3 := aside hq3
  clear hq3
  cases q1
  · skip
    go_enter Try.func69, Try.ntmps69
    go_wp2_with fail
    have BX := aside (bthen (bnew w (.cells #[.int .i64 kind, .string lo, .string hi, .bool op, .int .i64 cnt, .int .u64 s0, .int .u64 s1, .slice ea el ec] 46)) (bnew _ (.cells #[.string lo1, .string hi1, .bool op1] 38)))
    have KX := aside (blk_on (heap_alloc_new w (.cells #[.int .i64 kind, .string lo, .string hi, .bool op, .int .i64 cnt, .int .u64 s0, .int .u64 s1, .slice ea el ec] 46)) (bnew _ (.cells #[.string lo1, .string hi1, .bool op1] 38)))
    have KR := aside (heap_alloc_new (w.alloc (.cells #[.int .i64 kind, .string lo, .string hi, .bool op, .int .i64 cnt, .int .u64 s0, .int .u64 s1, .slice ea el ec] 46)) (.cells #[.string lo1, .string hi1, .bool op1] 38))
    rw [World.size_alloc] at KR
    generalize (w.alloc (.cells #[.int .i64 kind, .string lo, .string hi, .bool op, .int .i64 cnt, .int .u64 s0, .int .u64 s1, .slice ea el ec] 46)).alloc (.cells #[.string lo1, .string hi1, .bool op1] 38) = X0 at BX KX KR ⊢
    have SX := aside (fun W (bb : Below X0.heap.size X0 W) => (show W.cell? ⟨w.heap.size, 0, none⟩ = some (.int .i64 kind) ∧ W.cell? ⟨w.heap.size, 1, none⟩ = some (.string lo) ∧ W.cell? ⟨w.heap.size, 2, none⟩ = some (.string hi) ∧ W.cell? ⟨w.heap.size, 3, none⟩ = some (.bool op) ∧ W.cell? ⟨w.heap.size, 4, none⟩ = some (.int .i64 cnt) ∧ W.cell? ⟨w.heap.size, 5, none⟩ = some (.int .u64 s0) ∧ W.cell? ⟨w.heap.size, 6, none⟩ = some (.int .u64 s1) ∧ W.cell? ⟨w.heap.size, 7, none⟩ = some (.slice ea el ec) ∧ W.cell? ⟨w.heap.size + 1, 0, none⟩ = some (.string lo1) ∧ W.cell? ⟨w.heap.size + 1, 1, none⟩ = some (.string hi1) ∧ W.cell? ⟨w.heap.size + 1, 2, none⟩ = some (.bool op1) from by
      obtain ⟨p0, p1, p2, p3, p4, p5, p6, p7⟩ := oct8 (blk_on KX.out bb)
      obtain ⟨r0, r1, r2, -⟩ := tri (blk_on KR.out bb)
      exact ⟨p0, p1, p2, p3, p4, p5, p6, p7, r0, r1, r2⟩))
    refine (C1.out _).mono ?_
    rintro e w1 ⟨rfl, b1⟩
    have B1 := aside b1
    clear b1
    obtain ⟨p0, p1, p2, p3, p4, p5, p6, p7, r0, r1, r2⟩ := SX.out _ B1.out
    go_wp2
    go_ret
    exact ⟨ret_i64 ((chk_1 (p := ⟨kind, lo, hi, op, cnt, s0, s1, ea, el, ec, T⟩) H1.out).symm), bthen BX.out B1.out⟩
  · by_cases h2 : q2 = 0
    · subst h2
      cases q3
      · cases op1
        · cases h5 : kLt lo hi1
          · have H5 := aside h5
            unfold kLt at h5
            by_cases h6 : kind = 1
            · subst h6
              go_enter Try.func69, Try.ntmps69
              go_wp2_with fail
              have BX := aside (bthen (bnew w (.cells #[.int .i64 1, .string lo, .string hi, .bool op, .int .i64 cnt, .int .u64 s0, .int .u64 s1, .slice ea el ec] 46)) (bnew _ (.cells #[.string lo1, .string hi1, .bool false] 38)))
              have KX := aside (blk_on (heap_alloc_new w (.cells #[.int .i64 1, .string lo, .string hi, .bool op, .int .i64 cnt, .int .u64 s0, .int .u64 s1, .slice ea el ec] 46)) (bnew _ (.cells #[.string lo1, .string hi1, .bool false] 38)))
              have KR := aside (heap_alloc_new (w.alloc (.cells #[.int .i64 1, .string lo, .string hi, .bool op, .int .i64 cnt, .int .u64 s0, .int .u64 s1, .slice ea el ec] 46)) (.cells #[.string lo1, .string hi1, .bool false] 38))
              rw [World.size_alloc] at KR
              generalize (w.alloc (.cells #[.int .i64 1, .string lo, .string hi, .bool op, .int .i64 cnt, .int .u64 s0, .int .u64 s1, .slice ea el ec] 46)).alloc (.cells #[.string lo1, .string hi1, .bool false] 38) = X0 at BX KX KR ⊢
              have SX := aside (fun W (bb : Below X0.heap.size X0 W) => (show W.cell? ⟨w.heap.size, 0, none⟩ = some (.int .i64 1) ∧ W.cell? ⟨w.heap.size, 1, none⟩ = some (.string lo) ∧ W.cell? ⟨w.heap.size, 2, none⟩ = some (.string hi) ∧ W.cell? ⟨w.heap.size, 3, none⟩ = some (.bool op) ∧ W.cell? ⟨w.heap.size, 4, none⟩ = some (.int .i64 cnt) ∧ W.cell? ⟨w.heap.size, 5, none⟩ = some (.int .u64 s0) ∧ W.cell? ⟨w.heap.size, 6, none⟩ = some (.int .u64 s1) ∧ W.cell? ⟨w.heap.size, 7, none⟩ = some (.slice ea el ec) ∧ W.cell? ⟨w.heap.size + 1, 0, none⟩ = some (.string lo1) ∧ W.cell? ⟨w.heap.size + 1, 1, none⟩ = some (.string hi1) ∧ W.cell? ⟨w.heap.size + 1, 2, none⟩ = some (.bool false) from by
                obtain ⟨p0, p1, p2, p3, p4, p5, p6, p7⟩ := oct8 (blk_on KX.out bb)
                obtain ⟨r0, r1, r2, -⟩ := tri (blk_on KR.out bb)
                exact ⟨p0, p1, p2, p3, p4, p5, p6, p7, r0, r1, r2⟩))
              refine (C1.out _).mono ?_
              rintro e w1 ⟨rfl, b1⟩
              have B1 := aside b1
              clear b1
              obtain ⟨p0, p1, p2, p3, p4, p5, p6, p7, r0, r1, r2⟩ := SX.out _ B1.out
              go_wp2_with fail
              refine (C2.out _).mono ?_
              rintro e w2 ⟨rfl, b2⟩
              clear p0 p1 p2 p3 p4 p5 p6 p7 r0 r1 r2
              have B2 := aside (B1.out.trans (b2.mono B1.out.size))
              clear b2
              obtain ⟨p0, p1, p2, p3, p4, p5, p6, p7, r0, r1, r2⟩ := SX.out _ B2.out
              go_wp2_with fail
              refine (C3.out _).mono ?_
              rintro e w3 ⟨rfl, b3⟩
              clear p0 p1 p2 p3 p4 p5 p6 p7 r0 r1 r2
              have B3 := aside (B2.out.trans (b3.mono B2.out.size))
              clear b3
              obtain ⟨p0, p1, p2, p3, p4, p5, p6, p7, r0, r1, r2⟩ := SX.out _ B3.out
              go_wp2_with fail
              refine (tlchk_any _ _ _ _).mono ?_
              rintro e w4 ⟨rfl, b4⟩
              clear p0 p1 p2 p3 p4 p5 p6 p7 r0 r1 r2
              have B4 := aside (B3.out.trans (b4.mono B3.out.size))
              clear b4
              go_wp2
              go_ret
              exact ⟨ret_i64 ((chk_4 (p := ⟨1, lo, hi, op, cnt, s0, s1, ea, el, ec, T⟩) H1.out H2.out H3.out rfl H5.out rfl).symm), bthen BX.out B4.out⟩
            · have b6 : (kind == 1) = false := by simpa using h6
              have H6 := aside h6
              go_enter Try.func69, Try.ntmps69
              go_wp2_with fail
              have BX := aside (bthen (bnew w (.cells #[.int .i64 kind, .string lo, .string hi, .bool op, .int .i64 cnt, .int .u64 s0, .int .u64 s1, .slice ea el ec] 46)) (bnew _ (.cells #[.string lo1, .string hi1, .bool false] 38)))
              have KX := aside (blk_on (heap_alloc_new w (.cells #[.int .i64 kind, .string lo, .string hi, .bool op, .int .i64 cnt, .int .u64 s0, .int .u64 s1, .slice ea el ec] 46)) (bnew _ (.cells #[.string lo1, .string hi1, .bool false] 38)))
              have KR := aside (heap_alloc_new (w.alloc (.cells #[.int .i64 kind, .string lo, .string hi, .bool op, .int .i64 cnt, .int .u64 s0, .int .u64 s1, .slice ea el ec] 46)) (.cells #[.string lo1, .string hi1, .bool false] 38))
              rw [World.size_alloc] at KR
              generalize (w.alloc (.cells #[.int .i64 kind, .string lo, .string hi, .bool op, .int .i64 cnt, .int .u64 s0, .int .u64 s1, .slice ea el ec] 46)).alloc (.cells #[.string lo1, .string hi1, .bool false] 38) = X0 at BX KX KR ⊢
              have SX := aside (fun W (bb : Below X0.heap.size X0 W) => (show W.cell? ⟨w.heap.size, 0, none⟩ = some (.int .i64 kind) ∧ W.cell? ⟨w.heap.size, 1, none⟩ = some (.string lo) ∧ W.cell? ⟨w.heap.size, 2, none⟩ = some (.string hi) ∧ W.cell? ⟨w.heap.size, 3, none⟩ = some (.bool op) ∧ W.cell? ⟨w.heap.size, 4, none⟩ = some (.int .i64 cnt) ∧ W.cell? ⟨w.heap.size, 5, none⟩ = some (.int .u64 s0) ∧ W.cell? ⟨w.heap.size, 6, none⟩ = some (.int .u64 s1) ∧ W.cell? ⟨w.heap.size, 7, none⟩ = some (.slice ea el ec) ∧ W.cell? ⟨w.heap.size + 1, 0, none⟩ = some (.string lo1) ∧ W.cell? ⟨w.heap.size + 1, 1, none⟩ = some (.string hi1) ∧ W.cell? ⟨w.heap.size + 1, 2, none⟩ = some (.bool false) from by
                obtain ⟨p0, p1, p2, p3, p4, p5, p6, p7⟩ := oct8 (blk_on KX.out bb)
                obtain ⟨r0, r1, r2, -⟩ := tri (blk_on KR.out bb)
                exact ⟨p0, p1, p2, p3, p4, p5, p6, p7, r0, r1, r2⟩))
              refine (C1.out _).mono ?_
              rintro e w1 ⟨rfl, b1⟩
              have B1 := aside b1
              clear b1
              obtain ⟨p0, p1, p2, p3, p4, p5, p6, p7, r0, r1, r2⟩ := SX.out _ B1.out
              go_wp2_with fail
              refine (C2.out _).mono ?_
              rintro e w2 ⟨rfl, b2⟩
              clear p0 p1 p2 p3 p4 p5 p6 p7 r0 r1 r2
              have B2 := aside (B1.out.trans (b2.mono B1.out.size))
              clear b2
              obtain ⟨p0, p1, p2, p3, p4, p5, p6, p7, r0, r1, r2⟩ := SX.out _ B2.out
              go_wp2_with fail
              refine (C3.out _).mono ?_
              rintro e w3 ⟨rfl, b3⟩
              clear p0 p1 p2 p3 p4 p5 p6 p7 r0 r1 r2
              have B3 := aside (B2.out.trans (b3.mono B2.out.size))
              clear b3
              obtain ⟨p0, p1, p2, p3, p4, p5, p6, p7, r0, r1, r2⟩ := SX.out _ B3.out
              go_wp2_with fail
              refine (HI.out _ (bthen BX.out B3.out)).mono ?_
              rintro e w4 ⟨rfl, b4⟩
              clear p0 p1 p2 p3 p4 p5 p6 p7 r0 r1 r2
              have B4 := aside (B3.out.trans (b4.mono B3.out.size))
              clear b4
              go_wp2
              go_ret
              exact ⟨ret_i64 ((chk_5 (p := ⟨kind, lo, hi, op, cnt, s0, s1, ea, el, ec, T⟩) H1.out H2.out H3.out rfl H5.out H6.out).symm), bthen BX.out B4.out⟩
          · have H5 := aside h5
            unfold kLt at h5
            go_enter Try.func69, Try.ntmps69
            go_wp2_with fail
            have BX := aside (bthen (bnew w (.cells #[.int .i64 kind, .string lo, .string hi, .bool op, .int .i64 cnt, .int .u64 s0, .int .u64 s1, .slice ea el ec] 46)) (bnew _ (.cells #[.string lo1, .string hi1, .bool false] 38)))
            have KX := aside (blk_on (heap_alloc_new w (.cells #[.int .i64 kind, .string lo, .string hi, .bool op, .int .i64 cnt, .int .u64 s0, .int .u64 s1, .slice ea el ec] 46)) (bnew _ (.cells #[.string lo1, .string hi1, .bool false] 38)))
            have KR := aside (heap_alloc_new (w.alloc (.cells #[.int .i64 kind, .string lo, .string hi, .bool op, .int .i64 cnt, .int .u64 s0, .int .u64 s1, .slice ea el ec] 46)) (.cells #[.string lo1, .string hi1, .bool false] 38))
            rw [World.size_alloc] at KR
            generalize (w.alloc (.cells #[.int .i64 kind, .string lo, .string hi, .bool op, .int .i64 cnt, .int .u64 s0, .int .u64 s1, .slice ea el ec] 46)).alloc (.cells #[.string lo1, .string hi1, .bool false] 38) = X0 at BX KX KR ⊢
            have SX := aside (fun W (bb : Below X0.heap.size X0 W) => (show W.cell? ⟨w.heap.size, 0, none⟩ = some (.int .i64 kind) ∧ W.cell? ⟨w.heap.size, 1, none⟩ = some (.string lo) ∧ W.cell? ⟨w.heap.size, 2, none⟩ = some (.string hi) ∧ W.cell? ⟨w.heap.size, 3, none⟩ = some (.bool op) ∧ W.cell? ⟨w.heap.size, 4, none⟩ = some (.int .i64 cnt) ∧ W.cell? ⟨w.heap.size, 5, none⟩ = some (.int .u64 s0) ∧ W.cell? ⟨w.heap.size, 6, none⟩ = some (.int .u64 s1) ∧ W.cell? ⟨w.heap.size, 7, none⟩ = some (.slice ea el ec) ∧ W.cell? ⟨w.heap.size + 1, 0, none⟩ = some (.string lo1) ∧ W.cell? ⟨w.heap.size + 1, 1, none⟩ = some (.string hi1) ∧ W.cell? ⟨w.heap.size + 1, 2, none⟩ = some (.bool false) from by
              obtain ⟨p0, p1, p2, p3, p4, p5, p6, p7⟩ := oct8 (blk_on KX.out bb)
              obtain ⟨r0, r1, r2, -⟩ := tri (blk_on KR.out bb)
              exact ⟨p0, p1, p2, p3, p4, p5, p6, p7, r0, r1, r2⟩))
            refine (C1.out _).mono ?_
            rintro e w1 ⟨rfl, b1⟩
            have B1 := aside b1
            clear b1
            obtain ⟨p0, p1, p2, p3, p4, p5, p6, p7, r0, r1, r2⟩ := SX.out _ B1.out
            go_wp2_with fail
            refine (C2.out _).mono ?_
            rintro e w2 ⟨rfl, b2⟩
            clear p0 p1 p2 p3 p4 p5 p6 p7 r0 r1 r2
            have B2 := aside (B1.out.trans (b2.mono B1.out.size))
            clear b2
            obtain ⟨p0, p1, p2, p3, p4, p5, p6, p7, r0, r1, r2⟩ := SX.out _ B2.out
            go_wp2_with fail
            refine (C3.out _).mono ?_
            rintro e w3 ⟨rfl, b3⟩
            clear p0 p1 p2 p3 p4 p5 p6 p7 r0 r1 r2
            have B3 := aside (B2.out.trans (b3.mono B2.out.size))
            clear b3
            obtain ⟨p0, p1, p2, p3, p4, p5, p6, p7, r0, r1, r2⟩ := SX.out _ B3.out
            go_wp2
            go_ret
            exact ⟨ret_i64 ((chk_3 (p := ⟨kind, lo, hi, op, cnt, s0, s1, ea, el, ec, T⟩) H1.out H2.out (.inr (.inr H5.out))).symm), bthen BX.out B3.out⟩
        · skip
          go_enter Try.func69, Try.ntmps69
          go_wp2_with fail
          have BX := aside (bthen (bnew w (.cells #[.int .i64 kind, .string lo, .string hi, .bool op, .int .i64 cnt, .int .u64 s0, .int .u64 s1, .slice ea el ec] 46)) (bnew _ (.cells #[.string lo1, .string hi1, .bool true] 38)))
          have KX := aside (blk_on (heap_alloc_new w (.cells #[.int .i64 kind, .string lo, .string hi, .bool op, .int .i64 cnt, .int .u64 s0, .int .u64 s1, .slice ea el ec] 46)) (bnew _ (.cells #[.string lo1, .string hi1, .bool true] 38)))
          have KR := aside (heap_alloc_new (w.alloc (.cells #[.int .i64 kind, .string lo, .string hi, .bool op, .int .i64 cnt, .int .u64 s0, .int .u64 s1, .slice ea el ec] 46)) (.cells #[.string lo1, .string hi1, .bool true] 38))
          rw [World.size_alloc] at KR
          generalize (w.alloc (.cells #[.int .i64 kind, .string lo, .string hi, .bool op, .int .i64 cnt, .int .u64 s0, .int .u64 s1, .slice ea el ec] 46)).alloc (.cells #[.string lo1, .string hi1, .bool true] 38) = X0 at BX KX KR ⊢
          have SX := aside (fun W (bb : Below X0.heap.size X0 W) => (show W.cell? ⟨w.heap.size, 0, none⟩ = some (.int .i64 kind) ∧ W.cell? ⟨w.heap.size, 1, none⟩ = some (.string lo) ∧ W.cell? ⟨w.heap.size, 2, none⟩ = some (.string hi) ∧ W.cell? ⟨w.heap.size, 3, none⟩ = some (.bool op) ∧ W.cell? ⟨w.heap.size, 4, none⟩ = some (.int .i64 cnt) ∧ W.cell? ⟨w.heap.size, 5, none⟩ = some (.int .u64 s0) ∧ W.cell? ⟨w.heap.size, 6, none⟩ = some (.int .u64 s1) ∧ W.cell? ⟨w.heap.size, 7, none⟩ = some (.slice ea el ec) ∧ W.cell? ⟨w.heap.size + 1, 0, none⟩ = some (.string lo1) ∧ W.cell? ⟨w.heap.size + 1, 1, none⟩ = some (.string hi1) ∧ W.cell? ⟨w.heap.size + 1, 2, none⟩ = some (.bool true) from by
            obtain ⟨p0, p1, p2, p3, p4, p5, p6, p7⟩ := oct8 (blk_on KX.out bb)
            obtain ⟨r0, r1, r2, -⟩ := tri (blk_on KR.out bb)
            exact ⟨p0, p1, p2, p3, p4, p5, p6, p7, r0, r1, r2⟩))
          refine (C1.out _).mono ?_
          rintro e w1 ⟨rfl, b1⟩
          have B1 := aside b1
          clear b1
          obtain ⟨p0, p1, p2, p3, p4, p5, p6, p7, r0, r1, r2⟩ := SX.out _ B1.out
          go_wp2_with fail
          refine (C2.out _).mono ?_
          rintro e w2 ⟨rfl, b2⟩
          clear p0 p1 p2 p3 p4 p5 p6 p7 r0 r1 r2
          have B2 := aside (B1.out.trans (b2.mono B1.out.size))
          clear b2
          obtain ⟨p0, p1, p2, p3, p4, p5, p6, p7, r0, r1, r2⟩ := SX.out _ B2.out
          go_wp2_with fail
          refine (C3.out _).mono ?_
          rintro e w3 ⟨rfl, b3⟩
          clear p0 p1 p2 p3 p4 p5 p6 p7 r0 r1 r2
          have B3 := aside (B2.out.trans (b3.mono B2.out.size))
          clear b3
          obtain ⟨p0, p1, p2, p3, p4, p5, p6, p7, r0, r1, r2⟩ := SX.out _ B3.out
          go_wp2
          go_ret
          exact ⟨ret_i64 ((chk_3 (p := ⟨kind, lo, hi, op, cnt, s0, s1, ea, el, ec, T⟩) H1.out H2.out (.inr (.inl rfl))).symm), bthen BX.out B3.out⟩
      · skip
        go_enter Try.func69, Try.ntmps69
        go_wp2_with fail
        have BX := aside (bthen (bnew w (.cells #[.int .i64 kind, .string lo, .string hi, .bool op, .int .i64 cnt, .int .u64 s0, .int .u64 s1, .slice ea el ec] 46)) (bnew _ (.cells #[.string lo1, .string hi1, .bool op1] 38)))
        have KX := aside (blk_on (heap_alloc_new w (.cells #[.int .i64 kind, .string lo, .string hi, .bool op, .int .i64 cnt, .int .u64 s0, .int .u64 s1, .slice ea el ec] 46)) (bnew _ (.cells #[.string lo1, .string hi1, .bool op1] 38)))
        have KR := aside (heap_alloc_new (w.alloc (.cells #[.int .i64 kind, .string lo, .string hi, .bool op, .int .i64 cnt, .int .u64 s0, .int .u64 s1, .slice ea el ec] 46)) (.cells #[.string lo1, .string hi1, .bool op1] 38))
        rw [World.size_alloc] at KR
        generalize (w.alloc (.cells #[.int .i64 kind, .string lo, .string hi, .bool op, .int .i64 cnt, .int .u64 s0, .int .u64 s1, .slice ea el ec] 46)).alloc (.cells #[.string lo1, .string hi1, .bool op1] 38) = X0 at BX KX KR ⊢
        have SX := aside (fun W (bb : Below X0.heap.size X0 W) => (show W.cell? ⟨w.heap.size, 0, none⟩ = some (.int .i64 kind) ∧ W.cell? ⟨w.heap.size, 1, none⟩ = some (.string lo) ∧ W.cell? ⟨w.heap.size, 2, none⟩ = some (.string hi) ∧ W.cell? ⟨w.heap.size, 3, none⟩ = some (.bool op) ∧ W.cell? ⟨w.heap.size, 4, none⟩ = some (.int .i64 cnt) ∧ W.cell? ⟨w.heap.size, 5, none⟩ = some (.int .u64 s0) ∧ W.cell? ⟨w.heap.size, 6, none⟩ = some (.int .u64 s1) ∧ W.cell? ⟨w.heap.size, 7, none⟩ = some (.slice ea el ec) ∧ W.cell? ⟨w.heap.size + 1, 0, none⟩ = some (.string lo1) ∧ W.cell? ⟨w.heap.size + 1, 1, none⟩ = some (.string hi1) ∧ W.cell? ⟨w.heap.size + 1, 2, none⟩ = some (.bool op1) from by
          obtain ⟨p0, p1, p2, p3, p4, p5, p6, p7⟩ := oct8 (blk_on KX.out bb)
          obtain ⟨r0, r1, r2, -⟩ := tri (blk_on KR.out bb)
          exact ⟨p0, p1, p2, p3, p4, p5, p6, p7, r0, r1, r2⟩))
        refine (C1.out _).mono ?_
        rintro e w1 ⟨rfl, b1⟩
        have B1 := aside b1
        clear b1
        obtain ⟨p0, p1, p2, p3, p4, p5, p6, p7, r0, r1, r2⟩ := SX.out _ B1.out
        go_wp2_with fail
        refine (C2.out _).mono ?_
        rintro e w2 ⟨rfl, b2⟩
        clear p0 p1 p2 p3 p4 p5 p6 p7 r0 r1 r2
        have B2 := aside (B1.out.trans (b2.mono B1.out.size))
        clear b2
        obtain ⟨p0, p1, p2, p3, p4, p5, p6, p7, r0, r1, r2⟩ := SX.out _ B2.out
        go_wp2_with fail
        refine (C3.out _).mono ?_
        rintro e w3 ⟨rfl, b3⟩
        clear p0 p1 p2 p3 p4 p5 p6 p7 r0 r1 r2
        have B3 := aside (B2.out.trans (b3.mono B2.out.size))
        clear b3
        obtain ⟨p0, p1, p2, p3, p4, p5, p6, p7, r0, r1, r2⟩ := SX.out _ B3.out
        go_wp2
        go_ret
        exact ⟨ret_i64 ((chk_3 (p := ⟨kind, lo, hi, op, cnt, s0, s1, ea, el, ec, T⟩) H1.out H2.out (.inl H3.out)).symm), bthen BX.out B3.out⟩
    · have b2 : (q2 == 0) = false := by simpa using h2
      have HN2 := aside h2
      go_enter Try.func69, Try.ntmps69
      go_wp2_with fail
      have BX := aside (bthen (bnew w (.cells #[.int .i64 kind, .string lo, .string hi, .bool op, .int .i64 cnt, .int .u64 s0, .int .u64 s1, .slice ea el ec] 46)) (bnew _ (.cells #[.string lo1, .string hi1, .bool op1] 38)))
      have KX := aside (blk_on (heap_alloc_new w (.cells #[.int .i64 kind, .string lo, .string hi, .bool op, .int .i64 cnt, .int .u64 s0, .int .u64 s1, .slice ea el ec] 46)) (bnew _ (.cells #[.string lo1, .string hi1, .bool op1] 38)))
      have KR := aside (heap_alloc_new (w.alloc (.cells #[.int .i64 kind, .string lo, .string hi, .bool op, .int .i64 cnt, .int .u64 s0, .int .u64 s1, .slice ea el ec] 46)) (.cells #[.string lo1, .string hi1, .bool op1] 38))
      rw [World.size_alloc] at KR
      generalize (w.alloc (.cells #[.int .i64 kind, .string lo, .string hi, .bool op, .int .i64 cnt, .int .u64 s0, .int .u64 s1, .slice ea el ec] 46)).alloc (.cells #[.string lo1, .string hi1, .bool op1] 38) = X0 at BX KX KR ⊢
      have SX := aside (fun W (bb : Below X0.heap.size X0 W) => (show W.cell? ⟨w.heap.size, 0, none⟩ = some (.int .i64 kind) ∧ W.cell? ⟨w.heap.size, 1, none⟩ = some (.string lo) ∧ W.cell? ⟨w.heap.size, 2, none⟩ = some (.string hi) ∧ W.cell? ⟨w.heap.size, 3, none⟩ = some (.bool op) ∧ W.cell? ⟨w.heap.size, 4, none⟩ = some (.int .i64 cnt) ∧ W.cell? ⟨w.heap.size, 5, none⟩ = some (.int .u64 s0) ∧ W.cell? ⟨w.heap.size, 6, none⟩ = some (.int .u64 s1) ∧ W.cell? ⟨w.heap.size, 7, none⟩ = some (.slice ea el ec) ∧ W.cell? ⟨w.heap.size + 1, 0, none⟩ = some (.string lo1) ∧ W.cell? ⟨w.heap.size + 1, 1, none⟩ = some (.string hi1) ∧ W.cell? ⟨w.heap.size + 1, 2, none⟩ = some (.bool op1) from by
        obtain ⟨p0, p1, p2, p3, p4, p5, p6, p7⟩ := oct8 (blk_on KX.out bb)
        obtain ⟨r0, r1, r2, -⟩ := tri (blk_on KR.out bb)
        exact ⟨p0, p1, p2, p3, p4, p5, p6, p7, r0, r1, r2⟩))
      refine (C1.out _).mono ?_
      rintro e w1 ⟨rfl, b1⟩
      have B1 := aside b1
      clear b1
      obtain ⟨p0, p1, p2, p3, p4, p5, p6, p7, r0, r1, r2⟩ := SX.out _ B1.out
      go_wp2_with fail
      refine (C2.out _).mono ?_
      rintro e w2 ⟨rfl, b2⟩
      clear p0 p1 p2 p3 p4 p5 p6 p7 r0 r1 r2
      have B2 := aside (B1.out.trans (b2.mono B1.out.size))
      clear b2
      obtain ⟨p0, p1, p2, p3, p4, p5, p6, p7, r0, r1, r2⟩ := SX.out _ B2.out
      go_wp2
      go_ret
      exact ⟨ret_i64 (((chk_2 (p := ⟨kind, lo, hi, op, cnt, s0, s1, ea, el, ec, T⟩) H1.out (by show Rg.chk ⟨lo, hi, op⟩ ≠ 0; rw [H2.out]; exact HN2.out)).trans H2.out).symm), bthen BX.out B2.out⟩
end Go.Proofs.Ytbnppmkdhnpdfaa
