/-
  countEntries, CheckParts, isOpening and Check, the code's.
  CheckParts, isOpening and Check, the code's.
  isOpening and Check, the code's.
-/
import Derived.Test.YtbnppmkdhnpdfaaBy8
namespace Go.Proofs.Ytbnppmkdhnpdfaa
open Go.RowKit
set_option linter.unusedVariables false
theorem set_in {w : World} {b : Nat} (k : Nat) (u : Value) {cs : Array Value} {t : TypeId} (h : w.heap[b]? = some (.cells cs t (0, 0))) : (w.setCell ⟨b, k, none⟩ u).heap[b]? = some (.cells (cs.setIfInBounds k u) t (0, 0)) := by
  simp only [World.setCell]
  rw [Array.getElem?_modify]
  simp [h]
theorem set_tri {w : World} {b : Nat} {x y z : Value} {t : TypeId} (h : w.heap[b]? = some (.cells #[x, y, z] t (0, 0))) (u v r : Value) : (((w.setCell ⟨b, 0, none⟩ u).setCell ⟨b, 1, none⟩ v).setCell ⟨b, 2, none⟩ r).heap[b]? = some (.cells #[u, v, r] t (0, 0)) := by
  have h1 := set_in 2 r (set_in 1 v (set_in 0 u h))
  simpa using h1
set_option maxHeartbeats 1600000 in
theorem count_any (a : Option Addr) (len cap : Nat) (P : Nat → Pm) (w : World) (h : PartsIn w a len cap P) (hT : totE P len ≤ 4611686018427387904) :
    Calls Try.prog 68 #[.slice a len cap] w fun e w' => e = .returned (.int .i64 (totE P len : Int)) ∧ Below w.heap.size w w' := by
  have HE := aside h
  have HT := aside hT
  obtain ⟨hlc, hcm, -⟩ := h
  have hmx : (len : Int) ≤ 9223372036854775807 := by unfold maxLen at hcm; omega
  clear hlc hcm hT
  go_enter Try.func68, Try.ntmps68
  go_wp2
  go_loopw [3, 8] (fun c i wr => ∃ j : Nat, c = .int .i64 (totE P j : Int) ∧ i = .int .i64 (j : Int) ∧ j ≤ len ∧ Below w.heap.size w wr) (fun c i _ => len - (intOf i).toNat)
  case atStart => exact ⟨0, rfl, rfl, Nat.zero_le _, Below.refl _ _⟩
  case round =>
    obtain ⟨j, rfl, rfl, hj, hB⟩ := hrel
    have HB := aside hB
    clear hB
    by_cases hlt : (j : Int) < (len : Int)
    · have hE := HE.out.keep HB.out
      rcases hE.2.2 with h0 | ⟨b, off, rfl, hb, hc⟩
      · omega
      obtain ⟨hat, hin⟩ := hc j (by omega)
      obtain ⟨p, hp⟩ : ∃ p, P j = p := ⟨_, rfl⟩
      have HP := aside hp
      rw [hp] at hat hin
      clear hp hc
      obtain ⟨kind, lo, hi, op, cnt, s0, s1, ea, el, ec, T⟩ := p
      obtain ⟨c0, c1, c2, c3, c4, c5, c6, c7⟩ := hat
      dsimp only at c0 c1 c2 c3 c4 c5 c6 c7
      have hj0 : (0 : Int) ≤ (j : Int) := by omega
      have hst : totE P (j + 1) = totE P j + el := by simp only [totE, HP.out]
      have HST := aside hst
      have hle : (totE P j : Int) + (el : Int) ≤ 4611686018427387904 := by have h1 := el_totE P (i := j) (n := len) (by omega); rw [HP.out] at h1; dsimp only at h1; have h2 := HT.out; omega
      have hw : IntKind.i64.wrap ((totE P j : Int) + (el : Int)) = (totE P (j + 1) : Int) := by simp only [IntKind.wrap_i64]; omega
      clear hst hle hin
      go_wp2
      go_roundw
      case rel => exact ⟨j + 1, by first | rfl | (rw [hw]), by go_num, by omega, HB.out.trans ((bnew wr _).mono HB.out.size)⟩
      case measure => simp [intOf]; omega
    · have hjl : j = len := by omega
      subst hjl
      go_wp2
      go_ret
      exact ⟨rfl, HB.out⟩
end Go.Proofs.Ytbnppmkdhnpdfaa
namespace Go.Proofs.Ytbnppmkdhnpdfaa
open Go.RowKit
set_option linter.unusedVariables false
theorem part_of (p : Pm) (lo1 hi1 : ByteArray) (op1 : Bool) (w : World) (h : p.In w) {q : Int} (hq : p.chk hi1 op1 = q) : Calls Try.prog 69 #[.agg #[.int .i64 p.kind, .string p.lo, .string p.hi, .bool p.op, .int .i64 p.cnt, .int .u64 p.s0, .int .u64 p.s1, .slice p.ea p.el p.ec], .agg #[.string lo1, .string hi1, .bool op1]] w fun e w' => e = .returned (.int .i64 q) ∧ Below w.heap.size w w' := by
  subst hq
  exact part_any p lo1 hi1 op1 w h
theorem count_of {a : Option Addr} {len cap : Nat} {P : Nat → Pm} {w : World} (h : PartsIn w a len cap P) (hT : totE P len ≤ 4611686018427387904) {q : Nat} (hq : totE P len = q) :
    Calls Try.prog 68 #[.slice a len cap] w fun e w' => e = .returned (.int .i64 (q : Int)) ∧ Below w.heap.size w w' := by
  subst hq
  exact count_any a len cap P w h hT
set_option maxHeartbeats 6400000 in
set_option maxRecDepth 100000 in
theorem parts_any (a : Option Addr) (len cap : Nat) (P : Nat → Pm) (w : World) (h : PartsIn w a len cap P) (hT : totE P len ≤ 4611686018427387904) :
    Calls Try.prog 49 #[.slice a len cap] w fun e w' => e = .returned (.int .i64 (psChk P len)) ∧ Below w.heap.size w w' := by
  have HE := aside h
  obtain ⟨q, hq⟩ : ∃ q, totE P len = q := ⟨_, rfl⟩
  have CN := aside (count_of h hT hq)
  have HQ := aside hq
  obtain ⟨hlc, hcm, -⟩ := h
  have hmx : (len : Int) ≤ 9223372036854775807 := by unfold maxLen at hcm; omega
  clear hlc hcm hT hq
  by_cases h1 : (768 : Int) < (len : Int)
  · go_enter Try.func49, Try.ntmps49
    go_wp2
    go_ret
    exact ⟨ret_i64 (by unfold psChk; rw [if_pos (.inl (by omega))]), Below.refl _ _⟩
  · by_cases h2 : (256 : Int) < (q : Int)
    · go_enter Try.func49, Try.ntmps49
      go_wp2_with fail
      refine CN.out.mono ?_
      rintro e w1 ⟨rfl, b1⟩
      have B1 := aside b1
      clear b1
      go_wp2
      go_ret
      exact ⟨ret_i64 (by unfold psChk; rw [if_pos (.inr (by rw [HQ.out]; omega))]), B1.out⟩
    · go_enter Try.func49, Try.ntmps49
      go_wp2_with fail
      refine CN.out.mono ?_
      rintro e w1 ⟨rfl, b1⟩
      have HPS := aside (show psChk P len = ptN P len from by unfold psChk; rw [if_neg (by rw [HQ.out]; omega)])
      have B1 := aside (bthen b1 (bnew w1 (.cells #[.string ⟨#[]⟩, .string ⟨#[]⟩, .bool false] 38)))
      have KR := aside (heap_alloc_new w1 (.cells #[.string ⟨#[]⟩, .string ⟨#[]⟩, .bool false] 38))
      have HAB := aside b1.size
      clear b1 CN
      go_wp2
      obtain ⟨ab, hab⟩ : ∃ ab, w1.heap.size = ab := ⟨_, rfl⟩
      rw [hab] at KR HAB ⊢
      clear hab
      generalize w1.alloc (.cells #[.string ⟨#[]⟩, .string ⟨#[]⟩, .bool false] 38) = X0 at B1 KR ⊢
      go_loopw [17] (fun i wr => ∃ j : Nat, i = .int .i64 (j : Int) ∧ j ≤ len ∧ Hid (ptN P j = 0) ∧ Below w.heap.size w wr ∧ Hid (wr.heap[ab]? = some (.cells #[.string (ahLo P j), .string (ahHi P j), .bool (ahOp P j)] 38 (0, 0)))) (fun i _ => len - (intOf i).toNat)
      case atStart => exact ⟨0, rfl, Nat.zero_le _, rfl, B1.out, KR.out⟩
      case round =>
        obtain ⟨j, rfl, hj, HC, hB, HR⟩ := hrel
        have HB := aside hB
        clear hB
        by_cases hlt : (j : Int) < (len : Int)
        · have hE := HE.out.keep HB.out
          rcases hE.2.2 with h0 | ⟨b, off, rfl, hb, hc⟩
          · omega
          obtain ⟨hat, hin⟩ := hc j (by omega)
          obtain ⟨p, hp⟩ : ∃ p, P j = p := ⟨_, rfl⟩
          have HP := aside hp
          rw [hp] at hat hin
          clear hp hc
          obtain ⟨kind, lo, hi, op, cnt, s0, s1, ea, el, ec, T⟩ := p
          obtain ⟨c0, c1, c2, c3, c4, c5, c6, c7⟩ := hat
          dsimp only at c0 c1 c2 c3 c4 c5 c6 c7
          have hj0 : (0 : Int) ≤ (j : Int) := by omega
          obtain ⟨q2, hq2⟩ : ∃ q2, ptAt P j = q2 := ⟨_, rfl⟩
          have HQ2 := aside hq2
          obtain ⟨rl, hrl⟩ : ∃ rl, ahLo P j = rl := ⟨_, rfl⟩
          obtain ⟨rh, hrh⟩ : ∃ rh, ahHi P j = rh := ⟨_, rfl⟩
          obtain ⟨ro, hro⟩ : ∃ ro, ahOp P j = ro := ⟨_, rfl⟩
          unfold ptAt at hq2
          rw [HP.out, hrh, hro] at hq2
          rw [hrl, hrh, hro] at HR
          have CQ := aside (fun W (bb : Below wr.heap.size wr W) => part_of ⟨kind, lo, hi, op, cnt, s0, s1, ea, el, ec, T⟩ rl rh ro W (hin.keep bb) hq2)
          clear hq2 hrl hrh hro hin
          obtain ⟨r0, r1, r2, -⟩ := tri (blk_on HR.out (bnew wr (.cells #[.int .i64 kind, .string lo, .string hi, .bool op, .int .i64 cnt, .int .u64 s0, .int .u64 s1, .slice ea el ec] 46)))
          by_cases hq0 : q2 = 0
          · subst hq0
            go_wp2_with fail
            refine (CQ.out _ (bnew wr _)).mono ?_
            rintro e w2 ⟨rfl, b2⟩
            have B2 := aside (HB.out.trans ((bthen (bnew wr (.cells #[.int .i64 kind, .string lo, .string hi, .bool op, .int .i64 cnt, .int .u64 s0, .int .u64 s1, .slice ea el ec] 46)) b2).mono HB.out.size))
            have HR2 := aside (blk_on HR.out (bthen (bnew wr (.cells #[.int .i64 kind, .string lo, .string hi, .bool op, .int .i64 cnt, .int .u64 s0, .int .u64 s1, .slice ea el ec] 46)) b2))
            obtain ⟨-, p1, p2, p3, -⟩ := oct8 (blk_on (heap_alloc_new wr (.cells #[.int .i64 kind, .string lo, .string hi, .bool op, .int .i64 cnt, .int .u64 s0, .int .u64 s1, .slice ea el ec] 46)) b2)
            clear r0 r1 r2
            obtain ⟨r0, r1, r2, z0, z1, z2⟩ := tri HR2.out
            clear b2 CQ c0 c1 c2 c3 c4 c5 c6 c7
            go_wp2
            go_roundw
            case rel => exact ⟨j + 1, by go_num, by omega, (ptN_step HC.out).trans HQ2.out, ((B2.out.setCell (by simpa using HAB.out) _).setCell (by simpa using HAB.out) _).setCell (by simpa using HAB.out) _, by
                have h9 := set_tri HR2.out (.string lo) (.string hi) (.bool op)
                simp only [ahLo, ahHi, ahOp, HP.out]
                exact h9⟩
            case measure => simp [intOf]; omega
          · have HQ0 := aside hq0
            go_wp2_with fail
            refine (CQ.out _ (bnew wr _)).mono ?_
            rintro e w2 ⟨rfl, b2⟩
            have B2 := aside (HB.out.trans ((bthen (bnew wr (.cells #[.int .i64 kind, .string lo, .string hi, .bool op, .int .i64 cnt, .int .u64 s0, .int .u64 s1, .slice ea el ec] 46)) b2).mono HB.out.size))
            clear b2 CQ c0 c1 c2 c3 c4 c5 c6 c7 r0 r1 r2
            have hqb : (q2 == 0) = false := by simpa using hq0
            go_wp2
            go_ret
            exact ⟨ret_i64 (by rw [HPS.out, ptN_bad HC.out (by omega) (by rw [HQ2.out]; exact HQ0.out)]; exact HQ2.out.symm), B2.out⟩
        · have hjl : j = len := by omega
          subst hjl
          go_wp2
          go_ret
          exact ⟨ret_i64 (by rw [HPS.out]; exact HC.out.symm), HB.out⟩
end Go.Proofs.Ytbnppmkdhnpdfaa
namespace Go.Proofs.Ytbnppmkdhnpdfaa
open Go.RowKit
set_option linter.unusedVariables false
set_option maxHeartbeats 3200000 in
theorem open_any (a : Option Addr) (len cap : Nat) (P : Nat → Pm) (w : World) (h : PartsIn w a len cap P) :
    Calls Try.prog 50 #[.slice a len cap] w fun e w' => e = .returned (.bool (opening P len)) ∧ Below w.heap.size w w' := by
  by_cases h1 : len = 1
  · subst h1
    rcases h.2.2 with h0 | ⟨b, off, rfl, hb, hc⟩
    · omega
    obtain ⟨hat, -⟩ := hc 0 (by omega)
    rw [Nat.zero_mul, Nat.add_zero] at hat
    obtain ⟨p, hp⟩ : ∃ p, P 0 = p := ⟨_, rfl⟩
    have HP := aside hp
    rw [hp] at hat
    obtain ⟨kind, lo, hi, op, cnt, s0, s1, ea, el, ec, T⟩ := p
    obtain ⟨c0, c1, c2, c3, -⟩ := hat
    dsimp only at c0 c1 c2 c3
    have SX := aside (fun W (bb : Below w.heap.size w W) => (show Below w.heap.size w W ∧ W.cell? ⟨b, off, none⟩ = some (.int .i64 kind) ∧ W.cell? ⟨b, off + 1, none⟩ = some (.string lo) ∧ W.cell? ⟨b, off + 2, none⟩ = some (.string hi) ∧ W.cell? ⟨b, off + 3, none⟩ = some (.bool op) from ⟨bb, cell_in c0 bb, cell_in c1 bb, cell_in c2 bb, cell_in c3 bb⟩))
    clear h hc hp c0 c1 c2 c3
    by_cases h2 : kind = 1
    · subst h2
      obtain ⟨q, hq⟩ : ∃ q, (lo.toList == (⟨#[]⟩ : ByteArray).toList && (hi.toList == (⟨#[]⟩ : ByteArray).toList && op == true)) = q := ⟨_, rfl⟩
      have RQ := fun W => rg_run lo hi op ⟨#[]⟩ ⟨#[]⟩ true W
      rw [hq] at RQ
      have HQ := aside hq
      clear hq
      go_enter Try.func50, Try.ntmps50
      go_wp2_with fail
      refine wp_region_held_drew (S := fun W => Below w.heap.size w W ∧ W.cell? ⟨b, off, none⟩ = some (.int .i64 1) ∧ W.cell? ⟨b, off + 1, none⟩ = some (.string lo) ∧ W.cell? ⟨b, off + 2, none⟩ = some (.string hi) ∧ W.cell? ⟨b, off + 3, none⟩ = some (.bool op)) (by kernel_rfl) (SX.out _ (Below.refl _ w).drew) (fun hHeld => ?_)
      refine wpAnyH_take (i := 0) (v := ?_) rfl (by kernel_rfl) (by kernel_rfl) (by kernel_rfl) (fun _ _ _ h => h) (Or.inl ⟨by rfl, ?_⟩) (by assumption) ?_
      rotate_left
      · intro w hSw
        go_simp
        try with_reducible rfl
      simp only [Act.put, List.getElem_toArray, List.getElem_cons_zero, List.setIfInBounds_toArray, List.set_cons_zero, List.set_cons_succ]
      refine wpAnyH_take (i := 1) (v := ?_) rfl (by kernel_rfl) (by kernel_rfl) (by kernel_rfl) (fun _ _ _ h => h) (Or.inl ⟨by rfl, ?_⟩) (by assumption) ?_
      rotate_left
      · intro w hSw
        go_simp
        try with_reducible rfl
      simp only [Act.put, List.getElem_toArray, List.getElem_cons_zero, List.getElem_cons_succ, List.setIfInBounds_toArray, List.set_cons_zero, List.set_cons_succ]
      refine wpAnyH_take (i := 2) (v := ?_) rfl (by kernel_rfl) (by kernel_rfl) (by kernel_rfl) (fun _ _ _ h => h) (Or.inl ⟨by rfl, ?_⟩) (by assumption) ?_
      rotate_left
      · intro w hSw
        go_simp
        try with_reducible rfl
      simp only [Act.put, List.getElem_toArray, List.getElem_cons_zero, List.getElem_cons_succ, List.setIfInBounds_toArray, List.set_cons_zero, List.set_cons_succ]
      refine wpAnyH_take (i := 3) (v := ?_) rfl (by kernel_rfl) (by kernel_rfl) (by kernel_rfl) (fun _ _ _ h => h) (Or.inl ⟨by rfl, ?_⟩) (by assumption) ?_
      rotate_left
      · intro w hSw
        go_simp
        try with_reducible rfl
      simp only [Act.put, List.getElem_toArray, List.getElem_cons_zero, List.getElem_cons_succ, List.setIfInBounds_toArray, List.set_cons_zero, List.set_cons_succ]
      refine wpAnyH_take (i := 4) (v := ?_) rfl (by kernel_rfl) (by kernel_rfl) (by kernel_rfl) (fun _ _ _ h => h) (Or.inl ⟨by rfl, ?_⟩) (by assumption) ?_
      rotate_left
      · intro w hSw
        go_simp
        try with_reducible rfl
      simp only [Act.put, List.getElem_toArray, List.getElem_cons_zero, List.getElem_cons_succ, List.setIfInBounds_toArray, List.set_cons_zero, List.set_cons_succ]
      refine wpAnyH_take (i := 5) (v := ?_) rfl (by kernel_rfl) (by kernel_rfl) (by kernel_rfl) (fun _ _ _ h => h) (Or.inl ⟨by rfl, ?_⟩) (by assumption) ?_
      rotate_left
      · intro w hSw
        go_simp
        try with_reducible rfl
      simp only [Act.put, List.getElem_toArray, List.getElem_cons_zero, List.getElem_cons_succ, List.setIfInBounds_toArray, List.set_cons_zero, List.set_cons_succ]
      refine wpAnyH_take (i := 6) (v := ?_) rfl (by kernel_rfl) (by kernel_rfl) (by kernel_rfl) (fun _ _ _ h => h) (Or.inl ⟨by rfl, ?_⟩) (by assumption) ?_
      rotate_left
      · intro w hSw
        go_simp
        try with_reducible rfl
      simp only [Act.put, List.getElem_toArray, List.getElem_cons_zero, List.getElem_cons_succ, List.setIfInBounds_toArray, List.set_cons_zero, List.set_cons_succ]
      refine wpAnyH_take (i := 7) (v := ?_) rfl (by kernel_rfl) (by kernel_rfl) (by kernel_rfl) (fun _ _ _ h => h) (Or.inl ⟨by rfl, ?_⟩) (by assumption) ?_
      rotate_left
      · intro w hSw
        go_simp
        try with_reducible rfl
      simp only [Act.put, List.getElem_toArray, List.getElem_cons_zero, List.getElem_cons_succ, List.setIfInBounds_toArray, List.set_cons_zero, List.set_cons_succ]
      refine wpAnyH_take (i := 8) (v := ?_) rfl (by kernel_rfl) (by kernel_rfl) (by kernel_rfl) (fun _ _ _ h => h) (Or.inl ⟨by rfl, ?_⟩) (by assumption) ?_
      rotate_left
      · intro w hSw
        go_simp
        try with_reducible rfl
      simp only [Act.put, List.getElem_toArray, List.getElem_cons_zero, List.getElem_cons_succ, List.setIfInBounds_toArray, List.set_cons_zero, List.set_cons_succ]
      refine wpAnyH_take (i := 9) (v := ?_) rfl (by kernel_rfl) (by kernel_rfl) (by kernel_rfl) (fun _ _ _ h => h) (Or.inl ⟨by rfl, ?_⟩) (by assumption) ?_
      rotate_left
      · intro w hSw
        go_simp
        try with_reducible rfl
      simp only [Act.put, List.getElem_toArray, List.getElem_cons_zero, List.getElem_cons_succ, List.setIfInBounds_toArray, List.set_cons_zero, List.set_cons_succ]
      refine wpAnyH_take (i := 10) (v := ?_) rfl (by kernel_rfl) (by kernel_rfl) (by kernel_rfl) (fun _ _ _ h => h) (Or.inl ⟨by rfl, ?_⟩) (by assumption) ?_
      rotate_left
      · intro w hSw
        go_simp
        try with_reducible rfl
      simp only [Act.put, List.getElem_toArray, List.getElem_cons_zero, List.getElem_cons_succ, List.setIfInBounds_toArray, List.set_cons_zero, List.set_cons_succ]
      refine wpAnyH_take (i := 11) (v := ?_) rfl (by kernel_rfl) (by kernel_rfl) (by kernel_rfl) (fun _ _ _ h => h) (Or.inl ⟨by rfl, ?_⟩) (by assumption) ?_
      rotate_left
      · intro w hSw
        go_simp
        try with_reducible rfl
      simp only [Act.put, List.getElem_toArray, List.getElem_cons_zero, List.getElem_cons_succ, List.setIfInBounds_toArray, List.set_cons_zero, List.set_cons_succ]
      refine wpAnyH_take (i := 12) (v := ?_) rfl (by kernel_rfl) (by kernel_rfl) (by kernel_rfl) (fun _ _ _ h => h) (Or.inl ⟨by rfl, ?_⟩) (by assumption) ?_
      rotate_left
      · intro w hSw
        go_simp
        try with_reducible rfl
      simp only [Act.put, List.getElem_toArray, List.getElem_cons_zero, List.getElem_cons_succ, List.setIfInBounds_toArray, List.set_cons_zero, List.set_cons_succ]
      refine wpAnyH_take (i := 13) (v := ?_) rfl (by kernel_rfl) (by kernel_rfl) (by kernel_rfl) (fun _ _ _ h => h) (Or.inl ⟨by rfl, ?_⟩) (by assumption) ?_
      rotate_left
      · intro w hSw
        go_simp
        try with_reducible rfl
      simp only [Act.put, List.getElem_toArray, List.getElem_cons_zero, List.getElem_cons_succ, List.setIfInBounds_toArray, List.set_cons_zero, List.set_cons_succ]
      refine wpAnyH_take (i := 14) (v := ?_) rfl (by kernel_rfl) (by kernel_rfl) (by kernel_rfl) (fun _ _ _ h => h) (Or.inl ⟨by rfl, ?_⟩) (by assumption) ?_
      rotate_left
      · intro w hSw
        go_simp
        try with_reducible rfl
      simp only [Act.put, List.getElem_toArray, List.getElem_cons_zero, List.getElem_cons_succ, List.setIfInBounds_toArray, List.set_cons_zero, List.set_cons_succ]
      refine wpAnyH_ready (rs := [15]) (by kernel_rfl) (by simp) ?_
      refine AllReadyH.cons rfl (fun K hK => ?_) AllReadyH.nil
      go_simp
      refine (whole_anyF _).mono ?_
      rintro e w9 ⟨rfl, bb⟩
      refine hK.out _ _ (SX.out _ (hHeld.1.trans (bb.mono hHeld.1.size))) (fun hHeld => ?_)
      clear hK K bb
      refine wpAnyH_take (i := 16) (v := .bool q) rfl (by kernel_rfl) (by kernel_rfl) (by kernel_rfl) (fun _ _ _ h => h) (Or.inl ⟨by rfl, ?_⟩) (by assumption) ?_
      · intro w hSw
        go_simp
        try exact RQ _
      simp only [Act.put, List.getElem_toArray, List.getElem_cons_zero, List.getElem_cons_succ, List.setIfInBounds_toArray, List.set_cons_zero, List.set_cons_succ]
      refine wpAnyH_take (i := 17) (v := ?_) rfl (by kernel_rfl) (by kernel_rfl) (by kernel_rfl) (fun _ _ _ h => h) (Or.inl ⟨by rfl, ?_⟩) (by assumption) ?_
      rotate_left
      · intro w hSw
        go_simp
        try with_reducible rfl
      simp only [Act.put, List.getElem_toArray, List.getElem_cons_zero, List.getElem_cons_succ, List.setIfInBounds_toArray, List.set_cons_zero, List.set_cons_succ]
      refine wpAnyH_take (i := 18) (v := ?_) rfl (by kernel_rfl) (by kernel_rfl) (by kernel_rfl) (fun _ _ _ h => h) (Or.inl ⟨by rfl, ?_⟩) (by assumption) ?_
      rotate_left
      · intro w hSw
        go_simp
        try with_reducible rfl
      simp only [Act.put, List.getElem_toArray, List.getElem_cons_zero, List.getElem_cons_succ, List.setIfInBounds_toArray, List.set_cons_zero, List.set_cons_succ]
      refine wpAnyH_done (by kernel_rfl) ?_ _
      have B3 := aside hHeld.1
      clear hHeld
      go_wp2
      go_ret
      exact ⟨ret_bool (by unfold opening; rw [HP.out]; dsimp only; rw [HQ.out]; rfl), B3.out⟩
    · have b2 : (kind == 1) = false := by simpa using h2
      have H2 := aside h2
      go_enter Try.func50, Try.ntmps50
      go_wp2_with fail
      refine wp_region_held_drew (S := fun W => Below w.heap.size w W ∧ W.cell? ⟨b, off, none⟩ = some (.int .i64 kind) ∧ W.cell? ⟨b, off + 1, none⟩ = some (.string lo) ∧ W.cell? ⟨b, off + 2, none⟩ = some (.string hi) ∧ W.cell? ⟨b, off + 3, none⟩ = some (.bool op)) (by kernel_rfl) (SX.out _ (Below.refl _ w).drew) (fun hHeld => ?_)
      refine wpAnyH_take (i := 0) (v := ?_) rfl (by kernel_rfl) (by kernel_rfl) (by kernel_rfl) (fun _ _ _ h => h) (Or.inl ⟨by rfl, ?_⟩) (by assumption) ?_
      rotate_left
      · intro w hSw
        go_simp
        try with_reducible rfl
      simp only [Act.put, List.getElem_toArray, List.getElem_cons_zero, List.setIfInBounds_toArray, List.set_cons_zero, List.set_cons_succ]
      refine wpAnyH_take (i := 1) (v := ?_) rfl (by kernel_rfl) (by kernel_rfl) (by kernel_rfl) (fun _ _ _ h => h) (Or.inl ⟨by rfl, ?_⟩) (by assumption) ?_
      rotate_left
      · intro w hSw
        go_simp
        try with_reducible rfl
      simp only [Act.put, List.getElem_toArray, List.getElem_cons_zero, List.getElem_cons_succ, List.setIfInBounds_toArray, List.set_cons_zero, List.set_cons_succ]
      refine wpAnyH_take (i := 2) (v := ?_) rfl (by kernel_rfl) (by kernel_rfl) (by kernel_rfl) (fun _ _ _ h => h) (Or.inl ⟨by rfl, ?_⟩) (by assumption) ?_
      rotate_left
      · intro w hSw
        go_simp
        try with_reducible rfl
      simp only [Act.put, List.getElem_toArray, List.getElem_cons_zero, List.getElem_cons_succ, List.setIfInBounds_toArray, List.set_cons_zero, List.set_cons_succ]
      refine wpAnyH_take (i := 3) (v := ?_) rfl (by kernel_rfl) (by kernel_rfl) (by kernel_rfl) (fun _ _ _ h => h) (Or.inl ⟨by rfl, ?_⟩) (by assumption) ?_
      rotate_left
      · intro w hSw
        go_simp
        try with_reducible rfl
      simp only [Act.put, List.getElem_toArray, List.getElem_cons_zero, List.getElem_cons_succ, List.setIfInBounds_toArray, List.set_cons_zero, List.set_cons_succ]
      refine wpAnyH_take (i := 4) (v := ?_) rfl (by kernel_rfl) (by kernel_rfl) (by kernel_rfl) (fun _ _ _ h => h) (Or.inl ⟨by rfl, ?_⟩) (by assumption) ?_
      rotate_left
      · intro w hSw
        go_simp
        try with_reducible rfl
      simp only [Act.put, List.getElem_toArray, List.getElem_cons_zero, List.getElem_cons_succ, List.setIfInBounds_toArray, List.set_cons_zero, List.set_cons_succ]
      refine wpAnyH_take (i := 5) (v := ?_) rfl (by kernel_rfl) (by kernel_rfl) (by kernel_rfl) (fun _ _ _ h => h) (Or.inl ⟨by rfl, ?_⟩) (by assumption) ?_
      rotate_left
      · intro w hSw
        go_simp
        try with_reducible rfl
      simp only [Act.put, List.getElem_toArray, List.getElem_cons_zero, List.getElem_cons_succ, List.setIfInBounds_toArray, List.set_cons_zero, List.set_cons_succ]
      refine wpAnyH_take (i := 6) (v := ?_) rfl (by kernel_rfl) (by kernel_rfl) (by kernel_rfl) (fun _ _ _ h => h) (Or.inl ⟨by rfl, ?_⟩) (by assumption) ?_
      rotate_left
      · intro w hSw
        go_simp
        try with_reducible rfl
      simp only [Act.put, List.getElem_toArray, List.getElem_cons_zero, List.getElem_cons_succ, List.setIfInBounds_toArray, List.set_cons_zero, List.set_cons_succ]
      refine wpAnyH_take (i := 7) (v := ?_) rfl (by kernel_rfl) (by kernel_rfl) (by kernel_rfl) (fun _ _ _ h => h) (Or.inl ⟨by rfl, ?_⟩) (by assumption) ?_
      rotate_left
      · intro w hSw
        go_simp
        try with_reducible rfl
      simp only [Act.put, List.getElem_toArray, List.getElem_cons_zero, List.getElem_cons_succ, List.setIfInBounds_toArray, List.set_cons_zero, List.set_cons_succ]
      refine wpAnyH_take (i := 8) (v := .bool false) rfl (by kernel_rfl) (by kernel_rfl) (by kernel_rfl) (fun _ _ _ h => h) (Or.inl ⟨by rfl, ?_⟩) (by assumption) ?_
      · intro w hSw
        go_simp
      simp only [Act.put, List.getElem_toArray, List.getElem_cons_zero, List.getElem_cons_succ, List.setIfInBounds_toArray, List.set_cons_zero, List.set_cons_succ]
      refine wpAnyH_take (i := 9) (v := ?_) rfl (by kernel_rfl) (by kernel_rfl) (by kernel_rfl) (fun _ _ _ h => h) (Or.inl ⟨by rfl, ?_⟩) (by assumption) ?_
      rotate_left
      · intro w hSw
        go_simp
        try with_reducible rfl
      simp only [Act.put, List.getElem_toArray, List.getElem_cons_zero, List.getElem_cons_succ, List.setIfInBounds_toArray, List.set_cons_zero, List.set_cons_succ]
      refine wpAnyH_take (i := 10) (v := ?_) rfl (by kernel_rfl) (by kernel_rfl) (by kernel_rfl) (fun _ _ _ h => h) (Or.inl ⟨by rfl, ?_⟩) (by assumption) ?_
      rotate_left
      · intro w hSw
        go_simp
        try with_reducible rfl
      simp only [Act.put, List.getElem_toArray, List.getElem_cons_zero, List.getElem_cons_succ, List.setIfInBounds_toArray, List.set_cons_zero, List.set_cons_succ]
      refine wpAnyH_take (i := 11) (v := undef) rfl (by kernel_rfl) (by kernel_rfl) (by kernel_rfl) (fun _ _ _ h => h) (Or.inr ⟨by rfl, rfl⟩) (by assumption) ?_
      simp only [Act.put, List.getElem_toArray, List.getElem_cons_zero, List.getElem_cons_succ, List.setIfInBounds_toArray, List.set_cons_zero, List.set_cons_succ]
      refine wpAnyH_take (i := 12) (v := undef) rfl (by kernel_rfl) (by kernel_rfl) (by kernel_rfl) (fun _ _ _ h => h) (Or.inr ⟨by rfl, rfl⟩) (by assumption) ?_
      simp only [Act.put, List.getElem_toArray, List.getElem_cons_zero, List.getElem_cons_succ, List.setIfInBounds_toArray, List.set_cons_zero, List.set_cons_succ]
      refine wpAnyH_take (i := 13) (v := undef) rfl (by kernel_rfl) (by kernel_rfl) (by kernel_rfl) (fun _ _ _ h => h) (Or.inr ⟨by rfl, rfl⟩) (by assumption) ?_
      simp only [Act.put, List.getElem_toArray, List.getElem_cons_zero, List.getElem_cons_succ, List.setIfInBounds_toArray, List.set_cons_zero, List.set_cons_succ]
      refine wpAnyH_take (i := 14) (v := undef) rfl (by kernel_rfl) (by kernel_rfl) (by kernel_rfl) (fun _ _ _ h => h) (Or.inr ⟨by rfl, rfl⟩) (by assumption) ?_
      simp only [Act.put, List.getElem_toArray, List.getElem_cons_zero, List.getElem_cons_succ, List.setIfInBounds_toArray, List.set_cons_zero, List.set_cons_succ]
      refine wpAnyH_take (i := 15) (v := undef) rfl (by kernel_rfl) (by kernel_rfl) (by kernel_rfl) (fun _ _ _ h => h) (Or.inr ⟨by rfl, rfl⟩) (by assumption) ?_
      simp only [Act.put, List.getElem_toArray, List.getElem_cons_zero, List.getElem_cons_succ, List.setIfInBounds_toArray, List.set_cons_zero, List.set_cons_succ]
      refine wpAnyH_take (i := 16) (v := undef) rfl (by kernel_rfl) (by kernel_rfl) (by kernel_rfl) (fun _ _ _ h => h) (Or.inr ⟨by rfl, rfl⟩) (by assumption) ?_
      simp only [Act.put, List.getElem_toArray, List.getElem_cons_zero, List.getElem_cons_succ, List.setIfInBounds_toArray, List.set_cons_zero, List.set_cons_succ]
      refine wpAnyH_take (i := 17) (v := ?_) rfl (by kernel_rfl) (by kernel_rfl) (by kernel_rfl) (fun _ _ _ h => h) (Or.inl ⟨by rfl, ?_⟩) (by assumption) ?_
      rotate_left
      · intro w hSw
        go_simp
        try with_reducible rfl
      simp only [Act.put, List.getElem_toArray, List.getElem_cons_zero, List.getElem_cons_succ, List.setIfInBounds_toArray, List.set_cons_zero, List.set_cons_succ]
      refine wpAnyH_take (i := 18) (v := ?_) rfl (by kernel_rfl) (by kernel_rfl) (by kernel_rfl) (fun _ _ _ h => h) (Or.inl ⟨by rfl, ?_⟩) (by assumption) ?_
      rotate_left
      · intro w hSw
        go_simp
        try with_reducible rfl
      simp only [Act.put, List.getElem_toArray, List.getElem_cons_zero, List.getElem_cons_succ, List.setIfInBounds_toArray, List.set_cons_zero, List.set_cons_succ]
      refine wpAnyH_done (by kernel_rfl) ?_ _
      have B3 := aside hHeld.1
      clear hHeld
      go_wp2
      go_ret
      exact ⟨ret_bool (by unfold opening; rw [HP.out]; dsimp only; rw [beq_eq_false_iff_ne.2 H2.out]; rfl), B3.out⟩
  · have b1 : ((len : Int) == 1) = false := by simp; omega
    have H1 := aside h1
    clear h
    go_enter Try.func50, Try.ntmps50
    go_wp2_with fail
    refine wp_region_held_drew (S := fun W => Below w.heap.size w W ∧ True) (by kernel_rfl) ⟨(Below.refl _ w).drew, trivial⟩ (fun hHeld => ?_)
    refine wpAnyH_take (i := 0) (v := ?_) rfl (by kernel_rfl) (by kernel_rfl) (by kernel_rfl) (fun _ _ _ h => h) (Or.inl ⟨by rfl, ?_⟩) (by assumption) ?_
    rotate_left
    · intro w hSw
      go_simp
      try with_reducible rfl
    simp only [Act.put, List.getElem_toArray, List.getElem_cons_zero, List.setIfInBounds_toArray, List.set_cons_zero, List.set_cons_succ]
    refine wpAnyH_take (i := 1) (v := ?_) rfl (by kernel_rfl) (by kernel_rfl) (by kernel_rfl) (fun _ _ _ h => h) (Or.inl ⟨by rfl, ?_⟩) (by assumption) ?_
    rotate_left
    · intro w hSw
      go_simp
      try with_reducible rfl
    simp only [Act.put, List.getElem_toArray, List.getElem_cons_zero, List.getElem_cons_succ, List.setIfInBounds_toArray, List.set_cons_zero, List.set_cons_succ]
    refine wpAnyH_take (i := 2) (v := .bool false) rfl (by kernel_rfl) (by kernel_rfl) (by kernel_rfl) (fun _ _ _ h => h) (Or.inl ⟨by rfl, ?_⟩) (by assumption) ?_
    · intro w hSw
      go_simp
    simp only [Act.put, List.getElem_toArray, List.getElem_cons_zero, List.getElem_cons_succ, List.setIfInBounds_toArray, List.set_cons_zero, List.set_cons_succ]
    refine wpAnyH_take (i := 3) (v := ?_) rfl (by kernel_rfl) (by kernel_rfl) (by kernel_rfl) (fun _ _ _ h => h) (Or.inl ⟨by rfl, ?_⟩) (by assumption) ?_
    rotate_left
    · intro w hSw
      go_simp
      try with_reducible rfl
    simp only [Act.put, List.getElem_toArray, List.getElem_cons_zero, List.getElem_cons_succ, List.setIfInBounds_toArray, List.set_cons_zero, List.set_cons_succ]
    refine wpAnyH_take (i := 4) (v := undef) rfl (by kernel_rfl) (by kernel_rfl) (by kernel_rfl) (fun _ _ _ h => h) (Or.inr ⟨by rfl, rfl⟩) (by assumption) ?_
    simp only [Act.put, List.getElem_toArray, List.getElem_cons_zero, List.getElem_cons_succ, List.setIfInBounds_toArray, List.set_cons_zero, List.set_cons_succ]
    refine wpAnyH_take (i := 5) (v := undef) rfl (by kernel_rfl) (by kernel_rfl) (by kernel_rfl) (fun _ _ _ h => h) (Or.inr ⟨by rfl, rfl⟩) (by assumption) ?_
    simp only [Act.put, List.getElem_toArray, List.getElem_cons_zero, List.getElem_cons_succ, List.setIfInBounds_toArray, List.set_cons_zero, List.set_cons_succ]
    refine wpAnyH_take (i := 6) (v := undef) rfl (by kernel_rfl) (by kernel_rfl) (by kernel_rfl) (fun _ _ _ h => h) (Or.inr ⟨by rfl, rfl⟩) (by assumption) ?_
    simp only [Act.put, List.getElem_toArray, List.getElem_cons_zero, List.getElem_cons_succ, List.setIfInBounds_toArray, List.set_cons_zero, List.set_cons_succ]
    refine wpAnyH_take (i := 7) (v := undef) rfl (by kernel_rfl) (by kernel_rfl) (by kernel_rfl) (fun _ _ _ h => h) (Or.inr ⟨by rfl, rfl⟩) (by assumption) ?_
    simp only [Act.put, List.getElem_toArray, List.getElem_cons_zero, List.getElem_cons_succ, List.setIfInBounds_toArray, List.set_cons_zero, List.set_cons_succ]
    refine wpAnyH_take (i := 8) (v := undef) rfl (by kernel_rfl) (by kernel_rfl) (by kernel_rfl) (fun _ _ _ h => h) (Or.inr ⟨by rfl, rfl⟩) (by assumption) ?_
    simp only [Act.put, List.getElem_toArray, List.getElem_cons_zero, List.getElem_cons_succ, List.setIfInBounds_toArray, List.set_cons_zero, List.set_cons_succ]
    refine wpAnyH_take (i := 9) (v := ?_) rfl (by kernel_rfl) (by kernel_rfl) (by kernel_rfl) (fun _ _ _ h => h) (Or.inl ⟨by rfl, ?_⟩) (by assumption) ?_
    rotate_left
    · intro w hSw
      go_simp
      try with_reducible rfl
    simp only [Act.put, List.getElem_toArray, List.getElem_cons_zero, List.getElem_cons_succ, List.setIfInBounds_toArray, List.set_cons_zero, List.set_cons_succ]
    refine wpAnyH_take (i := 10) (v := ?_) rfl (by kernel_rfl) (by kernel_rfl) (by kernel_rfl) (fun _ _ _ h => h) (Or.inl ⟨by rfl, ?_⟩) (by assumption) ?_
    rotate_left
    · intro w hSw
      go_simp
      try with_reducible rfl
    simp only [Act.put, List.getElem_toArray, List.getElem_cons_zero, List.getElem_cons_succ, List.setIfInBounds_toArray, List.set_cons_zero, List.set_cons_succ]
    refine wpAnyH_take (i := 11) (v := undef) rfl (by kernel_rfl) (by kernel_rfl) (by kernel_rfl) (fun _ _ _ h => h) (Or.inr ⟨by rfl, rfl⟩) (by assumption) ?_
    simp only [Act.put, List.getElem_toArray, List.getElem_cons_zero, List.getElem_cons_succ, List.setIfInBounds_toArray, List.set_cons_zero, List.set_cons_succ]
    refine wpAnyH_take (i := 12) (v := undef) rfl (by kernel_rfl) (by kernel_rfl) (by kernel_rfl) (fun _ _ _ h => h) (Or.inr ⟨by rfl, rfl⟩) (by assumption) ?_
    simp only [Act.put, List.getElem_toArray, List.getElem_cons_zero, List.getElem_cons_succ, List.setIfInBounds_toArray, List.set_cons_zero, List.set_cons_succ]
    refine wpAnyH_take (i := 13) (v := undef) rfl (by kernel_rfl) (by kernel_rfl) (by kernel_rfl) (fun _ _ _ h => h) (Or.inr ⟨by rfl, rfl⟩) (by assumption) ?_
    simp only [Act.put, List.getElem_toArray, List.getElem_cons_zero, List.getElem_cons_succ, List.setIfInBounds_toArray, List.set_cons_zero, List.set_cons_succ]
    refine wpAnyH_take (i := 14) (v := undef) rfl (by kernel_rfl) (by kernel_rfl) (by kernel_rfl) (fun _ _ _ h => h) (Or.inr ⟨by rfl, rfl⟩) (by assumption) ?_
    simp only [Act.put, List.getElem_toArray, List.getElem_cons_zero, List.getElem_cons_succ, List.setIfInBounds_toArray, List.set_cons_zero, List.set_cons_succ]
    refine wpAnyH_take (i := 15) (v := undef) rfl (by kernel_rfl) (by kernel_rfl) (by kernel_rfl) (fun _ _ _ h => h) (Or.inr ⟨by rfl, rfl⟩) (by assumption) ?_
    simp only [Act.put, List.getElem_toArray, List.getElem_cons_zero, List.getElem_cons_succ, List.setIfInBounds_toArray, List.set_cons_zero, List.set_cons_succ]
    refine wpAnyH_take (i := 16) (v := undef) rfl (by kernel_rfl) (by kernel_rfl) (by kernel_rfl) (fun _ _ _ h => h) (Or.inr ⟨by rfl, rfl⟩) (by assumption) ?_
    simp only [Act.put, List.getElem_toArray, List.getElem_cons_zero, List.getElem_cons_succ, List.setIfInBounds_toArray, List.set_cons_zero, List.set_cons_succ]
    refine wpAnyH_take (i := 17) (v := ?_) rfl (by kernel_rfl) (by kernel_rfl) (by kernel_rfl) (fun _ _ _ h => h) (Or.inl ⟨by rfl, ?_⟩) (by assumption) ?_
    rotate_left
    · intro w hSw
      go_simp
      try with_reducible rfl
    simp only [Act.put, List.getElem_toArray, List.getElem_cons_zero, List.getElem_cons_succ, List.setIfInBounds_toArray, List.set_cons_zero, List.set_cons_succ]
    refine wpAnyH_take (i := 18) (v := ?_) rfl (by kernel_rfl) (by kernel_rfl) (by kernel_rfl) (fun _ _ _ h => h) (Or.inl ⟨by rfl, ?_⟩) (by assumption) ?_
    rotate_left
    · intro w hSw
      go_simp
      try with_reducible rfl
    simp only [Act.put, List.getElem_toArray, List.getElem_cons_zero, List.getElem_cons_succ, List.setIfInBounds_toArray, List.set_cons_zero, List.set_cons_succ]
    refine wpAnyH_done (by kernel_rfl) ?_ _
    have B3 := aside hHeld.1
    clear hHeld
    go_wp2
    go_ret
    exact ⟨ret_bool (by unfold opening; rw [decide_eq_false H1.out]; rfl), B3.out⟩
/-- What is wrong with a frame. -/
def fChk (fr tzz o l n tn : Int) (P : Nat → Pm) (len : Nat) : Int :=
  if endsB fr tzz o = false then 110 else if Nm.chk o l n ≠ 0 then Nm.chk o l n else if turnB tn fr o = false then 112 else if psChk P len ≠ 0 then psChk P len else if tn = 0 ∧ opening P len = false then 114 else 0
section
variable {fr tzz o l n tn : Int} {P : Nat → Pm} {len : Nat}
theorem fchk_1 (h : endsB fr tzz o = false) : fChk fr tzz o l n tn P len = 110 := by unfold fChk; rw [if_pos h]
theorem fchk_2 (h : endsB fr tzz o = true) (h2 : Nm.chk o l n ≠ 0) : fChk fr tzz o l n tn P len = Nm.chk o l n := by unfold fChk; rw [if_neg (by simp [h]), if_pos h2]
theorem fchk_3 (h : endsB fr tzz o = true) (h2 : Nm.chk o l n = 0) (h3 : turnB tn fr o = false) : fChk fr tzz o l n tn P len = 112 := by unfold fChk; rw [if_neg (by simp [h]), if_neg (by simp [h2]), if_pos h3]
theorem fchk_4 (h : endsB fr tzz o = true) (h2 : Nm.chk o l n = 0) (h3 : turnB tn fr o = true) (h4 : psChk P len ≠ 0) : fChk fr tzz o l n tn P len = psChk P len := by unfold fChk; rw [if_neg (by simp [h]), if_neg (by simp [h2]), if_neg (by simp [h3]), if_pos h4]
theorem fchk_5 (h : endsB fr tzz o = true) (h2 : Nm.chk o l n = 0) (h3 : turnB tn fr o = true) (h4 : psChk P len = 0) (h5 : tn = 0) (h6 : opening P len = false) : fChk fr tzz o l n tn P len = 114 := by unfold fChk; rw [if_neg (by simp [h]), if_neg (by simp [h2]), if_neg (by simp [h3]), if_neg (by simp [h4]), if_pos ⟨h5, h6⟩]
theorem fchk_6 (h : endsB fr tzz o = true) (h2 : Nm.chk o l n = 0) (h3 : turnB tn fr o = true) (h4 : psChk P len = 0) (h5 : ¬ (tn = 0 ∧ opening P len = false)) : fChk fr tzz o l n tn P len = 0 := by unfold fChk; rw [if_neg (by simp [h]), if_neg (by simp [h2]), if_neg (by simp [h3]), if_neg (by simp [h4]), if_neg h5]
end
theorem sep7 {w : World} {i : Nat} {v0 v1 v2 v3 v4 v5 v6 : Value} {t : TypeId} (h : w.heap[i]? = some (.cells #[v0, v1, v2, v3, v4, v5, v6] t (0, 0))) : w.cell? ⟨i, 0, none⟩ = some v0 ∧ w.cell? ⟨i, 1, none⟩ = some v1 ∧ w.cell? ⟨i, 2, none⟩ = some v2 ∧ w.cell? ⟨i, 3, none⟩ = some v3 ∧ w.cell? ⟨i, 4, none⟩ = some v4 ∧ w.cell? ⟨i, 5, none⟩ = some v5 ∧ w.cell? ⟨i, 6, none⟩ = some v6 :=
  ⟨by simp [World.cell?, h], by simp [World.cell?, h], by simp [World.cell?, h], by simp [World.cell?, h], by simp [World.cell?, h], by simp [World.cell?, h], by simp [World.cell?, h]⟩
theorem ends_at (fr tzz o l n tn : Int) (a : Option Addr) (len cap : Nat) (w : World) {q : Bool} (h : endsB fr tzz o = q) : Calls Try.prog 46 #[.agg #[.int .i64 fr, .int .i64 tzz, .int .i64 o, .int .i64 l, .int .i64 n, .int .i64 tn, .slice a len cap]] w fun e w' => e = .returned (.bool q) ∧ Below w.heap.size w w' := by
  subst h; exact ends_any fr tzz o l n tn a len cap w
theorem turn_at (fr tzz o l n tn : Int) (a : Option Addr) (len cap : Nat) (w : World) {q : Bool} (h : turnB tn fr o = q) : Calls Try.prog 48 #[.agg #[.int .i64 fr, .int .i64 tzz, .int .i64 o, .int .i64 l, .int .i64 n, .int .i64 tn, .slice a len cap]] w fun e w' => e = .returned (.bool q) ∧ Below w.heap.size w w' := by
  subst h; exact turn_any fr tzz o l n tn a len cap w
theorem parts_of {a : Option Addr} {len cap : Nat} {P : Nat → Pm} {w : World} (h : PartsIn w a len cap P) (hT : totE P len ≤ 4611686018427387904) {q : Int} (hq : psChk P len = q) :
    Calls Try.prog 49 #[.slice a len cap] w fun e w' => e = .returned (.int .i64 q) ∧ Below w.heap.size w w' := by
  subst hq; exact parts_any a len cap P w h hT
theorem open_of {a : Option Addr} {len cap : Nat} {P : Nat → Pm} {w : World} (h : PartsIn w a len cap P) {q : Bool} (hq : opening P len = q) :
    Calls Try.prog 50 #[.slice a len cap] w fun e w' => e = .returned (.bool q) ∧ Below w.heap.size w w' := by
  subst hq; exact open_any a len cap P w h
set_option maxHeartbeats 6400000 in
set_option maxRecDepth 100000 in
theorem chkf_any (fr tzz o l n tn : Int) (a : Option Addr) (len cap : Nat) (P : Nat → Pm) (w : World) (h : PartsIn w a len cap P) (hT : totE P len ≤ 4611686018427387904) :
    Calls Try.prog 21 #[.agg #[.int .i64 fr, .int .i64 tzz, .int .i64 o, .int .i64 l, .int .i64 n, .int .i64 tn, .slice a len cap]] w fun e w' => e = .returned (.int .i64 (fChk fr tzz o l n tn P len)) ∧ Below w.heap.size w w' := by
  obtain ⟨q1, hq1⟩ : ∃ q, endsB fr tzz o = q := ⟨_, rfl⟩
  obtain ⟨q2, hq2⟩ : ∃ q, Nm.chk o l n = q := ⟨_, rfl⟩
  obtain ⟨q3, hq3⟩ : ∃ q, turnB tn fr o = q := ⟨_, rfl⟩
  obtain ⟨q4, hq4⟩ : ∃ q, psChk P len = q := ⟨_, rfl⟩
  obtain ⟨q5, hq5⟩ : ∃ q, opening P len = q := ⟨_, rfl⟩
  have C1 := aside (fun W => ends_at fr tzz o l n tn a len cap W hq1)
  have C2 := aside (fun W => nchk_at hq2 W)
  have C3 := aside (fun W => turn_at fr tzz o l n tn a len cap W hq3)
  have C4 := aside (fun W (bb : Below w.heap.size w W) => parts_of (h.keep bb) hT hq4)
  have C5 := aside (fun W (bb : Below w.heap.size w W) => open_of (h.keep bb) hq5)
  have H1 := aside hq1
  have H2 := aside hq2
  have H3 := aside hq3
  have H4 := aside hq4
  have H5 := aside hq5
  clear hq1 hq2 hq3 hq4 hq5 h hT
  cases q1
  · skip
    go_enter Try.func21, Try.ntmps21
    go_wp2_with fail
    have BX := aside (bnew w (.cells #[.int .i64 fr, .int .i64 tzz, .int .i64 o, .int .i64 l, .int .i64 n, .int .i64 tn, .slice a len cap] 26))
    have KX := aside (heap_alloc_new w (.cells #[.int .i64 fr, .int .i64 tzz, .int .i64 o, .int .i64 l, .int .i64 n, .int .i64 tn, .slice a len cap] 26))
    generalize w.alloc (.cells #[.int .i64 fr, .int .i64 tzz, .int .i64 o, .int .i64 l, .int .i64 n, .int .i64 tn, .slice a len cap] 26) = X0 at BX KX ⊢
    have SX := aside (fun W (bb : Below X0.heap.size X0 W) => (show W.cell? ⟨w.heap.size, 0, none⟩ = some (.int .i64 fr) ∧ W.cell? ⟨w.heap.size, 1, none⟩ = some (.int .i64 tzz) ∧ W.cell? ⟨w.heap.size, 2, none⟩ = some (.int .i64 o) ∧ W.cell? ⟨w.heap.size, 3, none⟩ = some (.int .i64 l) ∧ W.cell? ⟨w.heap.size, 4, none⟩ = some (.int .i64 n) ∧ W.cell? ⟨w.heap.size, 5, none⟩ = some (.int .i64 tn) ∧ W.cell? ⟨w.heap.size, 6, none⟩ = some (.slice a len cap) from sep7 (blk_on KX.out bb)))
    refine (C1.out _).mono ?_
    rintro e w1 ⟨rfl, b1⟩
    have B1 := aside b1
    clear b1
    obtain ⟨f0, f1, f2, f3, f4, f5, f6⟩ := SX.out _ B1.out
    go_wp2
    go_ret
    exact ⟨ret_i64 ((fchk_1 H1.out).symm), bthen BX.out B1.out⟩
  · by_cases h2 : q2 = 0
    · subst h2
      cases q3
      · skip
        go_enter Try.func21, Try.ntmps21
        go_wp2_with fail
        have BX := aside (bnew w (.cells #[.int .i64 fr, .int .i64 tzz, .int .i64 o, .int .i64 l, .int .i64 n, .int .i64 tn, .slice a len cap] 26))
        have KX := aside (heap_alloc_new w (.cells #[.int .i64 fr, .int .i64 tzz, .int .i64 o, .int .i64 l, .int .i64 n, .int .i64 tn, .slice a len cap] 26))
        generalize w.alloc (.cells #[.int .i64 fr, .int .i64 tzz, .int .i64 o, .int .i64 l, .int .i64 n, .int .i64 tn, .slice a len cap] 26) = X0 at BX KX ⊢
        have SX := aside (fun W (bb : Below X0.heap.size X0 W) => (show W.cell? ⟨w.heap.size, 0, none⟩ = some (.int .i64 fr) ∧ W.cell? ⟨w.heap.size, 1, none⟩ = some (.int .i64 tzz) ∧ W.cell? ⟨w.heap.size, 2, none⟩ = some (.int .i64 o) ∧ W.cell? ⟨w.heap.size, 3, none⟩ = some (.int .i64 l) ∧ W.cell? ⟨w.heap.size, 4, none⟩ = some (.int .i64 n) ∧ W.cell? ⟨w.heap.size, 5, none⟩ = some (.int .i64 tn) ∧ W.cell? ⟨w.heap.size, 6, none⟩ = some (.slice a len cap) from sep7 (blk_on KX.out bb)))
        refine (C1.out _).mono ?_
        rintro e w1 ⟨rfl, b1⟩
        have B1 := aside b1
        clear b1
        obtain ⟨f0, f1, f2, f3, f4, f5, f6⟩ := SX.out _ B1.out
        go_wp2_with fail
        refine (C2.out _).mono ?_
        rintro e w2 ⟨rfl, b2⟩
        clear f0 f1 f2 f3 f4 f5 f6
        have B2 := aside (B1.out.trans (b2.mono B1.out.size))
        clear b2
        obtain ⟨f0, f1, f2, f3, f4, f5, f6⟩ := SX.out _ B2.out
        go_wp2_with fail
        refine (C3.out _).mono ?_
        rintro e w3 ⟨rfl, b3⟩
        clear f0 f1 f2 f3 f4 f5 f6
        have B3 := aside (B2.out.trans (b3.mono B2.out.size))
        clear b3
        obtain ⟨f0, f1, f2, f3, f4, f5, f6⟩ := SX.out _ B3.out
        go_wp2
        go_ret
        exact ⟨ret_i64 ((fchk_3 H1.out H2.out H3.out).symm), bthen BX.out B3.out⟩
      · by_cases h4 : q4 = 0
        · subst h4
          by_cases h6 : tn = 0
          · subst h6
            cases q5
            · skip
              go_enter Try.func21, Try.ntmps21
              go_wp2_with fail
              have BX := aside (bnew w (.cells #[.int .i64 fr, .int .i64 tzz, .int .i64 o, .int .i64 l, .int .i64 n, .int .i64 0, .slice a len cap] 26))
              have KX := aside (heap_alloc_new w (.cells #[.int .i64 fr, .int .i64 tzz, .int .i64 o, .int .i64 l, .int .i64 n, .int .i64 0, .slice a len cap] 26))
              generalize w.alloc (.cells #[.int .i64 fr, .int .i64 tzz, .int .i64 o, .int .i64 l, .int .i64 n, .int .i64 0, .slice a len cap] 26) = X0 at BX KX ⊢
              have SX := aside (fun W (bb : Below X0.heap.size X0 W) => (show W.cell? ⟨w.heap.size, 0, none⟩ = some (.int .i64 fr) ∧ W.cell? ⟨w.heap.size, 1, none⟩ = some (.int .i64 tzz) ∧ W.cell? ⟨w.heap.size, 2, none⟩ = some (.int .i64 o) ∧ W.cell? ⟨w.heap.size, 3, none⟩ = some (.int .i64 l) ∧ W.cell? ⟨w.heap.size, 4, none⟩ = some (.int .i64 n) ∧ W.cell? ⟨w.heap.size, 5, none⟩ = some (.int .i64 0) ∧ W.cell? ⟨w.heap.size, 6, none⟩ = some (.slice a len cap) from sep7 (blk_on KX.out bb)))
              refine (C1.out _).mono ?_
              rintro e w1 ⟨rfl, b1⟩
              have B1 := aside b1
              clear b1
              obtain ⟨f0, f1, f2, f3, f4, f5, f6⟩ := SX.out _ B1.out
              go_wp2_with fail
              refine (C2.out _).mono ?_
              rintro e w2 ⟨rfl, b2⟩
              clear f0 f1 f2 f3 f4 f5 f6
              have B2 := aside (B1.out.trans (b2.mono B1.out.size))
              clear b2
              obtain ⟨f0, f1, f2, f3, f4, f5, f6⟩ := SX.out _ B2.out
              go_wp2_with fail
              refine (C3.out _).mono ?_
              rintro e w3 ⟨rfl, b3⟩
              clear f0 f1 f2 f3 f4 f5 f6
              have B3 := aside (B2.out.trans (b3.mono B2.out.size))
              clear b3
              obtain ⟨f0, f1, f2, f3, f4, f5, f6⟩ := SX.out _ B3.out
              go_wp2_with fail
              refine (C4.out _ (bthen BX.out B3.out)).mono ?_
              rintro e w4 ⟨rfl, b4⟩
              clear f0 f1 f2 f3 f4 f5 f6
              have B4 := aside (B3.out.trans (b4.mono B3.out.size))
              clear b4
              obtain ⟨f0, f1, f2, f3, f4, f5, f6⟩ := SX.out _ B4.out
              go_wp2_with fail
              refine (C5.out _ (bthen BX.out B4.out)).mono ?_
              rintro e w5 ⟨rfl, b5⟩
              clear f0 f1 f2 f3 f4 f5 f6
              have B5 := aside (B4.out.trans (b5.mono B4.out.size))
              clear b5
              obtain ⟨f0, f1, f2, f3, f4, f5, f6⟩ := SX.out _ B5.out
              go_wp2
              go_ret
              exact ⟨ret_i64 ((fchk_5 H1.out H2.out H3.out H4.out rfl H5.out).symm), bthen BX.out B5.out⟩
            · skip
              go_enter Try.func21, Try.ntmps21
              go_wp2_with fail
              have BX := aside (bnew w (.cells #[.int .i64 fr, .int .i64 tzz, .int .i64 o, .int .i64 l, .int .i64 n, .int .i64 0, .slice a len cap] 26))
              have KX := aside (heap_alloc_new w (.cells #[.int .i64 fr, .int .i64 tzz, .int .i64 o, .int .i64 l, .int .i64 n, .int .i64 0, .slice a len cap] 26))
              generalize w.alloc (.cells #[.int .i64 fr, .int .i64 tzz, .int .i64 o, .int .i64 l, .int .i64 n, .int .i64 0, .slice a len cap] 26) = X0 at BX KX ⊢
              have SX := aside (fun W (bb : Below X0.heap.size X0 W) => (show W.cell? ⟨w.heap.size, 0, none⟩ = some (.int .i64 fr) ∧ W.cell? ⟨w.heap.size, 1, none⟩ = some (.int .i64 tzz) ∧ W.cell? ⟨w.heap.size, 2, none⟩ = some (.int .i64 o) ∧ W.cell? ⟨w.heap.size, 3, none⟩ = some (.int .i64 l) ∧ W.cell? ⟨w.heap.size, 4, none⟩ = some (.int .i64 n) ∧ W.cell? ⟨w.heap.size, 5, none⟩ = some (.int .i64 0) ∧ W.cell? ⟨w.heap.size, 6, none⟩ = some (.slice a len cap) from sep7 (blk_on KX.out bb)))
              refine (C1.out _).mono ?_
              rintro e w1 ⟨rfl, b1⟩
              have B1 := aside b1
              clear b1
              obtain ⟨f0, f1, f2, f3, f4, f5, f6⟩ := SX.out _ B1.out
              go_wp2_with fail
              refine (C2.out _).mono ?_
              rintro e w2 ⟨rfl, b2⟩
              clear f0 f1 f2 f3 f4 f5 f6
              have B2 := aside (B1.out.trans (b2.mono B1.out.size))
              clear b2
              obtain ⟨f0, f1, f2, f3, f4, f5, f6⟩ := SX.out _ B2.out
              go_wp2_with fail
              refine (C3.out _).mono ?_
              rintro e w3 ⟨rfl, b3⟩
              clear f0 f1 f2 f3 f4 f5 f6
              have B3 := aside (B2.out.trans (b3.mono B2.out.size))
              clear b3
              obtain ⟨f0, f1, f2, f3, f4, f5, f6⟩ := SX.out _ B3.out
              go_wp2_with fail
              refine (C4.out _ (bthen BX.out B3.out)).mono ?_
              rintro e w4 ⟨rfl, b4⟩
              clear f0 f1 f2 f3 f4 f5 f6
              have B4 := aside (B3.out.trans (b4.mono B3.out.size))
              clear b4
              obtain ⟨f0, f1, f2, f3, f4, f5, f6⟩ := SX.out _ B4.out
              go_wp2_with fail
              refine (C5.out _ (bthen BX.out B4.out)).mono ?_
              rintro e w5 ⟨rfl, b5⟩
              clear f0 f1 f2 f3 f4 f5 f6
              have B5 := aside (B4.out.trans (b5.mono B4.out.size))
              clear b5
              obtain ⟨f0, f1, f2, f3, f4, f5, f6⟩ := SX.out _ B5.out
              go_wp2
              go_ret
              exact ⟨ret_i64 ((fchk_6 H1.out H2.out H3.out H4.out (fun g => by rw [H5.out] at g; cases g.2)).symm), bthen BX.out B5.out⟩
          · have b6 : (tn == 0) = false := by simpa using h6
            have H6 := aside h6
            go_enter Try.func21, Try.ntmps21
            go_wp2_with fail
            have BX := aside (bnew w (.cells #[.int .i64 fr, .int .i64 tzz, .int .i64 o, .int .i64 l, .int .i64 n, .int .i64 tn, .slice a len cap] 26))
            have KX := aside (heap_alloc_new w (.cells #[.int .i64 fr, .int .i64 tzz, .int .i64 o, .int .i64 l, .int .i64 n, .int .i64 tn, .slice a len cap] 26))
            generalize w.alloc (.cells #[.int .i64 fr, .int .i64 tzz, .int .i64 o, .int .i64 l, .int .i64 n, .int .i64 tn, .slice a len cap] 26) = X0 at BX KX ⊢
            have SX := aside (fun W (bb : Below X0.heap.size X0 W) => (show W.cell? ⟨w.heap.size, 0, none⟩ = some (.int .i64 fr) ∧ W.cell? ⟨w.heap.size, 1, none⟩ = some (.int .i64 tzz) ∧ W.cell? ⟨w.heap.size, 2, none⟩ = some (.int .i64 o) ∧ W.cell? ⟨w.heap.size, 3, none⟩ = some (.int .i64 l) ∧ W.cell? ⟨w.heap.size, 4, none⟩ = some (.int .i64 n) ∧ W.cell? ⟨w.heap.size, 5, none⟩ = some (.int .i64 tn) ∧ W.cell? ⟨w.heap.size, 6, none⟩ = some (.slice a len cap) from sep7 (blk_on KX.out bb)))
            refine (C1.out _).mono ?_
            rintro e w1 ⟨rfl, b1⟩
            have B1 := aside b1
            clear b1
            obtain ⟨f0, f1, f2, f3, f4, f5, f6⟩ := SX.out _ B1.out
            go_wp2_with fail
            refine (C2.out _).mono ?_
            rintro e w2 ⟨rfl, b2⟩
            clear f0 f1 f2 f3 f4 f5 f6
            have B2 := aside (B1.out.trans (b2.mono B1.out.size))
            clear b2
            obtain ⟨f0, f1, f2, f3, f4, f5, f6⟩ := SX.out _ B2.out
            go_wp2_with fail
            refine (C3.out _).mono ?_
            rintro e w3 ⟨rfl, b3⟩
            clear f0 f1 f2 f3 f4 f5 f6
            have B3 := aside (B2.out.trans (b3.mono B2.out.size))
            clear b3
            obtain ⟨f0, f1, f2, f3, f4, f5, f6⟩ := SX.out _ B3.out
            go_wp2_with fail
            refine (C4.out _ (bthen BX.out B3.out)).mono ?_
            rintro e w4 ⟨rfl, b4⟩
            clear f0 f1 f2 f3 f4 f5 f6
            have B4 := aside (B3.out.trans (b4.mono B3.out.size))
            clear b4
            obtain ⟨f0, f1, f2, f3, f4, f5, f6⟩ := SX.out _ B4.out
            go_wp2
            go_ret
            exact ⟨ret_i64 ((fchk_6 H1.out H2.out H3.out H4.out (fun g => H6.out g.1)).symm), bthen BX.out B4.out⟩
        · have b4 : (q4 == 0) = false := by simpa using h4
          have N4 := aside h4
          go_enter Try.func21, Try.ntmps21
          go_wp2_with fail
          have BX := aside (bnew w (.cells #[.int .i64 fr, .int .i64 tzz, .int .i64 o, .int .i64 l, .int .i64 n, .int .i64 tn, .slice a len cap] 26))
          have KX := aside (heap_alloc_new w (.cells #[.int .i64 fr, .int .i64 tzz, .int .i64 o, .int .i64 l, .int .i64 n, .int .i64 tn, .slice a len cap] 26))
          generalize w.alloc (.cells #[.int .i64 fr, .int .i64 tzz, .int .i64 o, .int .i64 l, .int .i64 n, .int .i64 tn, .slice a len cap] 26) = X0 at BX KX ⊢
          have SX := aside (fun W (bb : Below X0.heap.size X0 W) => (show W.cell? ⟨w.heap.size, 0, none⟩ = some (.int .i64 fr) ∧ W.cell? ⟨w.heap.size, 1, none⟩ = some (.int .i64 tzz) ∧ W.cell? ⟨w.heap.size, 2, none⟩ = some (.int .i64 o) ∧ W.cell? ⟨w.heap.size, 3, none⟩ = some (.int .i64 l) ∧ W.cell? ⟨w.heap.size, 4, none⟩ = some (.int .i64 n) ∧ W.cell? ⟨w.heap.size, 5, none⟩ = some (.int .i64 tn) ∧ W.cell? ⟨w.heap.size, 6, none⟩ = some (.slice a len cap) from sep7 (blk_on KX.out bb)))
          refine (C1.out _).mono ?_
          rintro e w1 ⟨rfl, b1⟩
          have B1 := aside b1
          clear b1
          obtain ⟨f0, f1, f2, f3, f4, f5, f6⟩ := SX.out _ B1.out
          go_wp2_with fail
          refine (C2.out _).mono ?_
          rintro e w2 ⟨rfl, b2⟩
          clear f0 f1 f2 f3 f4 f5 f6
          have B2 := aside (B1.out.trans (b2.mono B1.out.size))
          clear b2
          obtain ⟨f0, f1, f2, f3, f4, f5, f6⟩ := SX.out _ B2.out
          go_wp2_with fail
          refine (C3.out _).mono ?_
          rintro e w3 ⟨rfl, b3⟩
          clear f0 f1 f2 f3 f4 f5 f6
          have B3 := aside (B2.out.trans (b3.mono B2.out.size))
          clear b3
          obtain ⟨f0, f1, f2, f3, f4, f5, f6⟩ := SX.out _ B3.out
          go_wp2_with fail
          refine (C4.out _ (bthen BX.out B3.out)).mono ?_
          rintro e w4 ⟨rfl, b4⟩
          clear f0 f1 f2 f3 f4 f5 f6
          have B4 := aside (B3.out.trans (b4.mono B3.out.size))
          clear b4
          obtain ⟨f0, f1, f2, f3, f4, f5, f6⟩ := SX.out _ B4.out
          go_wp2
          go_ret
          exact ⟨ret_i64 (((fchk_4 H1.out H2.out H3.out (by rw [H4.out]; exact N4.out)).trans H4.out).symm), bthen BX.out B4.out⟩
    · have b2 : (q2 == 0) = false := by simpa using h2
      have N2 := aside h2
      go_enter Try.func21, Try.ntmps21
      go_wp2_with fail
      have BX := aside (bnew w (.cells #[.int .i64 fr, .int .i64 tzz, .int .i64 o, .int .i64 l, .int .i64 n, .int .i64 tn, .slice a len cap] 26))
      have KX := aside (heap_alloc_new w (.cells #[.int .i64 fr, .int .i64 tzz, .int .i64 o, .int .i64 l, .int .i64 n, .int .i64 tn, .slice a len cap] 26))
      generalize w.alloc (.cells #[.int .i64 fr, .int .i64 tzz, .int .i64 o, .int .i64 l, .int .i64 n, .int .i64 tn, .slice a len cap] 26) = X0 at BX KX ⊢
      have SX := aside (fun W (bb : Below X0.heap.size X0 W) => (show W.cell? ⟨w.heap.size, 0, none⟩ = some (.int .i64 fr) ∧ W.cell? ⟨w.heap.size, 1, none⟩ = some (.int .i64 tzz) ∧ W.cell? ⟨w.heap.size, 2, none⟩ = some (.int .i64 o) ∧ W.cell? ⟨w.heap.size, 3, none⟩ = some (.int .i64 l) ∧ W.cell? ⟨w.heap.size, 4, none⟩ = some (.int .i64 n) ∧ W.cell? ⟨w.heap.size, 5, none⟩ = some (.int .i64 tn) ∧ W.cell? ⟨w.heap.size, 6, none⟩ = some (.slice a len cap) from sep7 (blk_on KX.out bb)))
      refine (C1.out _).mono ?_
      rintro e w1 ⟨rfl, b1⟩
      have B1 := aside b1
      clear b1
      obtain ⟨f0, f1, f2, f3, f4, f5, f6⟩ := SX.out _ B1.out
      go_wp2_with fail
      refine (C2.out _).mono ?_
      rintro e w2 ⟨rfl, b2⟩
      clear f0 f1 f2 f3 f4 f5 f6
      have B2 := aside (B1.out.trans (b2.mono B1.out.size))
      clear b2
      obtain ⟨f0, f1, f2, f3, f4, f5, f6⟩ := SX.out _ B2.out
      go_wp2
      go_ret
      exact ⟨ret_i64 (((fchk_2 H1.out (by rw [H2.out]; exact N2.out)).trans H2.out).symm), bthen BX.out B2.out⟩
end Go.Proofs.Ytbnppmkdhnpdfaa
