/-
  The law FrameRises, walked: it returns true at any frame.
-/
import Derived.Test.YtfnmpfaecafckaaFrRis
import Derived.Test.YtfnmpfaecafckaaFeW
namespace Go.Proofs.Ytfnmpfaecafckaa
open Go.RowKit
set_option linter.unusedVariables false

theorem rgs_of_row {w : World} {B g n c : Nat} {P : Nat → Pm} (h : w.ownsRow B 36 3 (.slice (some ⟨g, 0, none⟩) n c) n (rgCells (rgsL P n))) (hn : n ≤ 768) : RgsIn w.heap.size w (some ⟨g, 0, none⟩) n c (fun i => (P i).rg) := by
  refine ⟨(row_max h).1, by omega, .inr ⟨g, 0, rfl, (h.lt g rfl).2, fun i hi => ?_⟩⟩
  have e : (rgsL P n)[i]? = some (P i).rg := by unfold rgsL; rw [List.getElem?_map, List.getElem?_range hi]; rfl
  have c : ∀ r, r < 3 → w.cell? ⟨g, i * 3 + r, none⟩ = (rgVals (P i).rg)[r]? := fun r hr => by
    rw [h.cellAt (i * 3 + r) (by omega), rgCells_at _ i r _ e hr]
  rw [Nat.zero_add]
  exact ⟨by simpa [rgVals] using c 0 (by omega), by simpa [rgVals] using c 1 (by omega), by simpa [rgVals] using c 2 (by omega)⟩
theorem rising_of {a : Option Addr} {len cap : Nat} {T : Nat → Rg} {w : World} (h : RgsIn w.heap.size w a len cap T) (hr : rises T len = true) :
    Calls Try.prog 26 #[.slice a len cap] w fun e w' => e = .returned (.bool true) ∧ Below w.heap.size w w' := by
  have := rising_any a len cap T w h
  rw [hr] at this
  exact this
theorem ret_true {a : Bool} (h : a = true) : Ending.returned (.bool a) = .returned (.bool true) := by rw [h]
set_option maxHeartbeats 12800000 in
set_option maxRecDepth 100000 in
theorem frises_walk (fr tz o l n tn : Int) (a : Option Addr) (len cap : Nat) (P : Nat → Pm) (w : World) (h : PartsIn w a len cap P) :
    Calls Try.prog 6 #[.agg #[.int .i64 fr, .int .i64 tz, .int .i64 o, .int .i64 l, .int .i64 n, .int .i64 tn, .slice a len cap]] w fun e w' => e = .returned (.bool true) ∧ Below w.heap.size w w' := by
  have HE := aside h
  have hmx : (len : Int) ≤ 9223372036854775807 := by have h1 := h.1; have h2 := h.2.1; unfold maxLen at h2; omega
  have BX := aside (bnew w (.cells #[.int .i64 fr, .int .i64 tz, .int .i64 o, .int .i64 l, .int .i64 n, .int .i64 tn, .slice a len cap] 31))
  have KX := aside (heap_alloc_new w (.cells #[.int .i64 fr, .int .i64 tz, .int .i64 o, .int .i64 l, .int .i64 n, .int .i64 tn, .slice a len cap] 31))
  have CB := aside (beyondF_any fr tz o l n tn a len cap P _ (h.keep BX.out))
  obtain ⟨q, hq⟩ : ∃ q, fChk fr tz o l n tn P len = q := ⟨_, rfl⟩
  have HQ := aside hq
  clear h hq
  go_enter Try.func6, Try.ntmps6
  go_wp2_with fail
  refine CB.out.mono ?_
  rintro e w1 ⟨qb, rfl, hqb, b1⟩
  have HQB := aside hqb
  have B1 := aside (bthen BX.out b1)
  have KF1 := aside (blk_on KX.out b1)
  clear b1 hqb CB BX KX
  cases qb
  · obtain ⟨f0, f1, f2, f3, f4, f5, f6⟩ := sep7 KF1.out
    by_cases h0 : q = 0
    · subst h0
      go_wp2_with fail
      refine (chkR_of (HE.out.keep B1.out) HQ.out).mono ?_
      rintro e w2 ⟨rfl, b2⟩
      have B2 := aside (bthen B1.out b2)
      have KF2 := aside (blk_on KF1.out b2)
      clear b2 f0 f1 f2 f3 f4 f5 f6 B1 KF1
      have HGD := aside (goods (fchk_zero HQ.out).2.2.2)
      have hl768 : (len : Int) ≤ 768 := by have := HGD.out.1; omega
      go_wp2
      have hsz2 : w.heap.size + 1 ≤ w2.heap.size := (Array.getElem?_eq_some_iff.1 KF2.out).1
      have KR := aside (blk_on (heap_alloc_new w2 (.cells #[] 36)) (bnew _ (.cells #[] 9)))
      have KS := aside (heap_alloc_new (w2.alloc (.cells #[] 36)) (.cells #[] 9))
      rw [World.size_alloc] at KS
      have B3 := aside (bthen B2.out (bthen (bnew w2 (.cells #[] 36)) (bnew _ (.cells #[] 9))))
      have KF3 := aside (blk_on KF2.out (bthen (bnew w2 (.cells #[] 36)) (bnew _ (.cells #[] 9))))
      generalize (w2.alloc (.cells #[] 36)).alloc (.cells #[] 9) = X3 at KR KS B3 KF3 ⊢
      obtain ⟨gr0, hgr0⟩ : ∃ g, w2.heap.size = g := ⟨_, rfl⟩
      rw [hgr0] at KR KS hsz2 ⊢
      have OR0 := aside (show X3.ownsRow (w.heap.size + 1) 36 3 (.slice (some ⟨gr0, 0, none⟩) 0 0) 0 (rgCells (rgsL P 0)) from ⟨rfl, .inr ⟨gr0, 0, #[], rfl, hsz2, KR.out, Nat.le_refl _, Nat.zero_le _, rfl, rfl⟩⟩)
      have OS0 := aside (show X3.ownsRow (w.heap.size + 1) 9 1 (.slice (some ⟨(gr0 + 1), 0, none⟩) 0 0) 0 (strC (keysL P 0)) from ⟨rfl, .inr ⟨gr0 + 1, 0, #[], rfl, by omega, KS.out, Nat.le_refl _, Nat.zero_le _, rfl, rfl⟩⟩)
      clear hgr0 hsz2 KR KS B2 KF2
      go_loopw [3, 4, 5] (fun vr vk i wr => ∃ (j gr cr gk ck : Nat), vr = .slice (some ⟨gr, 0, none⟩) j cr ∧ vk = .slice (some ⟨gk, 0, none⟩) (totE P j) ck ∧ i = .int .i64 (j : Int) ∧ j ≤ len ∧ Hid (wr.ownsRow (w.heap.size + 1) 36 3 (.slice (some ⟨gr, 0, none⟩) j cr) j (rgCells (rgsL P j))) ∧ Hid (wr.ownsRow (w.heap.size + 1) 9 1 (.slice (some ⟨gk, 0, none⟩) (totE P j) ck) (totE P j) (strC (keysL P j))) ∧ Hid (wr.heap[w.heap.size]? = some (.cells #[.int .i64 fr, .int .i64 tz, .int .i64 o, .int .i64 l, .int .i64 n, .int .i64 tn, .slice a len cap] 31 (0, 0))) ∧ Hid (Below w.heap.size w wr)) (fun vr vk i _ => len - (intOf i).toNat)
      case atStart => exact ⟨0, gr0, 0, gr0 + 1, 0, rfl, rfl, rfl, Nat.zero_le _, OR0.out, OS0.out, KF3.out, B3.out⟩
      case round =>
        obtain ⟨j, gr, cr, gk, ck, rfl, rfl, rfl, hj, OR, OS, KF, HB⟩ := hrel
        obtain ⟨f0, f1, f2, f3, f4, f5, f6⟩ := sep7 KF.out
        by_cases hlt : (j : Int) < (len : Int)
        · have hj0 : (0 : Int) ≤ (j : Int) := by omega
          rcases (HE.out.keep HB.out).2.2 with h0 | ⟨b, off, rfl, hb, hc⟩
          · omega
          clear hb hc
          have HCJ := aside (fun W (bb : Below w.heap.size w W) => (show PmAt W b (off + j * 8) (P j) ∧ (P j).In W from by
            rcases (HE.out.keep bb).2.2 with h0 | ⟨b', off', e', hb', hc'⟩
            · omega
            · injection e' with e'
              injection e' with e1 e2 e3
              subst e1
              subst e2
              exact hc' j (by omega)))
          obtain ⟨p, hp⟩ : ∃ p, P j = p := ⟨_, rfl⟩
          have HP := aside hp
          obtain ⟨hat, -⟩ := HCJ.out wr HB.out
          rw [hp] at hat
          clear hp
          obtain ⟨kind, lo, hi, op, cnt, s0, s1, ea, el, ec, T⟩ := p
          obtain ⟨-, c1, c2, c3, -⟩ := hat
          dsimp only at c1 c2 c3
          have hel : (el : Int) ≤ 256 := by
            have h1 := HGD.out.2.1
            have h2 := el_totE P (i := j) (n := len) (by omega)
            rw [HP.out] at h2
            dsimp only at h2
            omega
          have ORa := aside (own_on OR.out (bnew wr (.cells #[.string lo, .string hi, .bool op] 36)))
          have OSa := aside (own_on OS.out (bnew wr (.cells #[.string lo, .string hi, .bool op] 36)))
          have KFa := aside (blk_on KF.out (bnew wr (.cells #[.string lo, .string hi, .bool op] 36)))
          have KA := aside (heap_alloc_new wr (.cells #[.string lo, .string hi, .bool op] 36))
          have BAa := aside (HB.out.trans ((bnew wr (.cells #[.string lo, .string hi, .bool op] 36)).mono HB.out.size))
          have HBa := aside (show w.heap.size + 1 ≤ (wr.alloc (.cells #[.string lo, .string hi, .bool op] 36)).heap.size from (Array.getElem?_eq_some_iff.1 KFa.out).1)
          have HNE := aside (show gk ≠ gr from fun e => by subst e; exact absurd (own_type OR.out OS.out) (by decide))
          have HGR := aside (OR.out.lt gr rfl).1
          go_wp2_with (at_builtin; refine wpList_plain rfl fun K hK => op_append_rgF _ _ rfl (w.heap.size + 1) j (.slice (some ⟨gr, 0, none⟩) j cr) (rgsL P j) (by rfl) ORa.out wr.heap.size 1 ⟨lo, hi, op⟩ (by rfl) KA.out (by omega) HBa.out ?_; intro g2 c9 w5 own5 gr5; refine hK _ _ ?_; refine Hid.out ?_)
          refine aside ?_
          have g5 : (wr.alloc (.cells #[.string lo, .string hi, .bool op] 36)).grownBy w5 (some gr) := gr5
          have OR5 := aside (show w5.ownsRow (w.heap.size + 1) 36 3 (.slice (some ⟨g2, 0, none⟩) (j + 1) c9) (j + 1) (rgCells (rgsL P (j + 1))) from by rw [rgsL_snoc, HP.out]; exact own5)
          have OS5 := aside (own_grown OSa.out g5 HNE.out)
          have KF5 := aside (blk_grown KFa.out g5 (by have := HGR.out; omega))
          have B5 := aside (BAa.out.grown g5 BAa.out.size (fun k hk => by injection hk with hk; have := HGR.out; omega))
          clear own5 gr5 g5 ORa OSa KFa KA BAa HBa HNE HGR OR OS KF HB c1 c2 c3 f0 f1 f2 f3 f4 f5 f6
          go_wp2
          go_loopw [4, 6] (fun vk k wr => ∃ (m gk ck : Nat), vk = .slice (some ⟨gk, 0, none⟩) (totE P j + m) ck ∧ k = .int .i64 (m : Int) ∧ m ≤ el ∧ Hid (wr.ownsRow (w.heap.size + 1) 9 1 (.slice (some ⟨gk, 0, none⟩) (totE P j + m) ck) (totE P j + m) (strC (keysL P j ++ keysP (P j) m))) ∧ Hid (wr.ownsRow (w.heap.size + 1) 36 3 (.slice (some ⟨g2, 0, none⟩) (j + 1) c9) (j + 1) (rgCells (rgsL P (j + 1)))) ∧ Hid (wr.heap[w.heap.size]? = some (.cells #[.int .i64 fr, .int .i64 tz, .int .i64 o, .int .i64 l, .int .i64 n, .int .i64 tn, .slice (some ⟨b, off, none⟩) len cap] 31 (0, 0))) ∧ Hid (Below w.heap.size w wr)) (fun vk k _ => el - (intOf k).toNat)
          case atStart => exact ⟨0, gk, ck, rfl, rfl, Nat.zero_le _, show w5.ownsRow (w.heap.size + 1) 9 1 (.slice (some ⟨gk, 0, none⟩) (totE P j) ck) (totE P j) (strC (keysL P j ++ [])) from by rw [List.append_nil]; exact OS5.out, OR5.out, KF5.out, B5.out⟩
          case round =>
            obtain ⟨m, gk, ck, rfl, rfl, hm, OS, OR, KF, HB⟩ := hrel
            obtain ⟨f0, f1, f2, f3, f4, f5, f6⟩ := sep7 KF.out
            obtain ⟨hat, hin⟩ := HCJ.out wr HB.out
            rw [HP.out] at hat hin
            obtain ⟨-, c1, c2, c3, -, -, -, c7⟩ := hat
            dsimp only at c1 c2 c3 c7
            have HIN := aside (show EntsIn wr ea el ec T from hin)
            clear hin
            by_cases hlm : (m : Int) < (el : Int)
            · have hm0 : (0 : Int) ≤ (m : Int) := by omega
              rcases HIN.out.2.2 with h0 | ⟨x2, o2, rfl, hx2, hy2⟩
              · omega
              obtain ⟨⟨d0, -⟩, -⟩ := hy2 m (by omega)
              obtain ⟨tk, htk⟩ : ∃ tk, (T m).k = tk := ⟨_, rfl⟩
              have HTK := aside htk
              rw [htk] at d0
              clear htk hy2 hx2
              have HH := aside (show Rg.has ⟨lo, hi, op⟩ tk = true from by
                have g := (itAt_zero ((HGD.out.2.2 j (by omega)).its m (by rw [HP.out]; dsimp only; omega))).1
                rw [HP.out] at g
                rw [← HTK.out]
                exact g)
              go_wp2_with fail
              refine (holds_of lo hi op tk _ HH.out).mono ?_
              rintro e w6 ⟨rfl, b6⟩
              have ORb := aside (own_on OR.out (bthen b6 (bnew w6 (.cells #[.string tk] 9))))
              have OSb := aside (own_on OS.out (bthen b6 (bnew w6 (.cells #[.string tk] 9))))
              have KFb := aside (blk_on KF.out (bthen b6 (bnew w6 (.cells #[.string tk] 9))))
              have KB := aside (heap_alloc_new w6 (.cells #[.string tk] 9))
              have BAb := aside (HB.out.trans ((bthen b6 (bnew w6 (.cells #[.string tk] 9))).mono HB.out.size))
              have HBb := aside (show w.heap.size + 1 ≤ (w6.alloc (.cells #[.string tk] 9)).heap.size from (Array.getElem?_eq_some_iff.1 KFb.out).1)
              have HNE := aside (show g2 ≠ gk from fun e => by subst e; exact absurd (own_type OR.out OS.out) (by decide))
              have HGK := aside (OS.out.lt gk rfl).1
              have HT6 := aside (show (totE P j + m) * 16 ≤ 140737488351232 from by
                have h1 := HGD.out.2.1
                have h2 := el_totE P (i := j) (n := len) (by omega)
                rw [HP.out] at h2
                dsimp only at h2
                omega)
              clear b6 c1 c2 c3 c7 d0 f0 f1 f2 f3 f4 f5 f6 OR OS KF HB
              go_wp2_with (at_builtin; refine wpList_plain rfl fun K hK => op_append_str _ _ rfl (w.heap.size + 1) (totE P j + m) (.slice (some ⟨gk, 0, none⟩) (totE P j + m) ck) (keysL P j ++ keysP (P j) m) (by rfl) OSb.out w6.heap.size 1 tk (by rfl) KB.out HT6.out HBb.out ?_; intro g7 c8 w7 own7 gr7; refine hK _ _ ?_; refine Hid.out ?_)
              refine aside ?_
              have g7' : (w6.alloc (.cells #[.string tk] 9)).grownBy w7 (some gk) := gr7
              have OS7 := aside (show w7.ownsRow (w.heap.size + 1) 9 1 (.slice (some ⟨g7, 0, none⟩) (totE P j + (m + 1)) c8) (totE P j + (m + 1)) (strC (keysL P j ++ keysP (P j) (m + 1))) from by
                rw [keysP_snoc, ← List.append_assoc, show ((P j).T m).k = tk from by rw [HP.out]; exact HTK.out]
                exact own7)
              have OR7 := aside (own_grown ORb.out g7' HNE.out)
              have KF7 := aside (blk_grown KFb.out g7' (by have := HGK.out; omega))
              have B7 := aside (BAb.out.grown g7' BAb.out.size (fun k hk => by injection hk with hk; have := HGK.out; omega))
              clear own7 gr7 g7' ORb OSb KFb KB BAb HBb HNE HGK HT6
              go_wp2
              go_roundw
              case rel => exact ⟨m + 1, g7, c8, rfl, by go_num, by omega, OS7.out, OR7.out, KF7.out, B7.out⟩
              case measure => simp [intOf]; omega
            · have hml : m = el := by omega
              subst hml
              have HTT := aside (show totE P (j + 1) = totE P j + m from by simp only [totE, HP.out])
              have HKK := aside (show keysL P (j + 1) = keysL P j ++ keysP (P j) m from by simp only [keysL]; rw [show (P j).el = m from by rw [HP.out]])
              go_wp2
              go_roundw
              case rel => exact ⟨j + 1, g2, c9, gk, ck, rfl, by rw [HTT.out], by go_num, by omega, OR.out, by rw [HTT.out, HKK.out]; exact OS.out, KF.out, HB.out⟩
              case measure => simp [intOf]; omega
        · have hjl : j = len := by omega
          subst hjl
          obtain ⟨Y, rfl⟩ : ∃ Y, Y = wr := ⟨_, rfl⟩
          have hl256 : (totE P j : Int) ≤ 256 := by have := HGD.out.2.1; omega
          go_wp2
          clear f0 f1 f2 f3 f4 f5 f6
          go_loopw [8] (fun i wr => ∃ m : Nat, i = .int .i64 ((m : Int) + 1) ∧ m ≤ totE P j ∧ Hid (Below Y.heap.size Y wr)) (fun i _ => totE P j + 1 - (intOf i).toNat)
          case atStart => exact ⟨0, rfl, Nat.zero_le _, Below.refl _ _⟩
          case round =>
            obtain ⟨m, rfl, hm, HW⟩ := hrel
            by_cases hlm : (m : Int) + 1 < (totE P j : Int)
            · have hm0 : (0 : Int) ≤ (m : Int) := by omega
              have hm1 : (0 : Int) ≤ (m : Int) + 1 := by omega
              have hm2 : (m : Int) < (totE P j : Int) := by omega
              have hw2 : IntKind.i64.wrap (m : Int) = (m : Int) := by simp only [IntKind.wrap_i64]; omega
              obtain ⟨y, hy⟩ : ∃ y, (keysL P j)[m]? = some y := ⟨_, List.getElem?_eq_getElem (by rw [keysL_len]; omega)⟩
              obtain ⟨x, hx⟩ : ∃ x, (keysL P j)[m + 1]? = some x := ⟨_, List.getElem?_eq_getElem (by rw [keysL_len]; omega)⟩
              have k0 : wr.cell? ⟨gk, m, none⟩ = some (.string y) := by
                rw [(own_on OS.out HW.out).cellAt m (by omega)]
                simp [strC, hy]
              have k1 : wr.cell? ⟨gk, m + 1, none⟩ = some (.string x) := by
                rw [(own_on OS.out HW.out).cellAt (m + 1) (by omega)]
                simp [strC, hx]
              have hxy : kLt y x = true := by
                have g := List.pairwise_iff_getElem.1 (keysL_rises j HGD.out.2.2) m (m + 1) (by rw [keysL_len]; omega) (by rw [keysL_len]; omega) (by omega)
                rw [List.getElem?_eq_getElem (by rw [keysL_len]; omega)] at hy hx
                injection hy with hy
                injection hx with hx
                rw [hy, hx] at g
                exact g
              have hle : (Op.bytesLess x.toList y.toList || x.toList == y.toList) = false := by rw [leqF, hxy]; rfl
              have HB := HW
              have SX := aside (fun W (bb : Below wr.heap.size wr W) => (show Below wr.heap.size wr W ∧ W.cell? ⟨gk, m, none⟩ = some (.string y) ∧ W.cell? ⟨gk, m + 1, none⟩ = some (.string x) from ⟨bb, cell_in k0 bb, cell_in k1 bb⟩))
              clear hy hx
              go_wp2_with fail
              clear k0 k1
              refine wp_region_held_drew (S := fun W => Below wr.heap.size wr W ∧ W.cell? ⟨gk, m, none⟩ = some (.string y) ∧ W.cell? ⟨gk, m + 1, none⟩ = some (.string x)) (by kernel_rfl) (SX.out _ (Below.refl _ wr).drew) (fun hHeld => ?_)
              refine wpAnyH_take (i := 0) (v := ?_) rfl (by kernel_rfl) (by kernel_rfl) (by kernel_rfl) (fun _ _ _ h => h) (Or.inl ⟨by rfl, ?_⟩) (by assumption) ?_
              rotate_left
              · intro w hSw
                go_simp
                try with_reducible rfl
              simp only [Act.put, List.getElem_toArray, List.getElem_cons_zero, List.setIfInBounds_toArray, List.set_cons_zero, List.set_cons_succ]
              refine wpAnyH_take (i := 1) (v := ?_) rfl (by kernel_rfl) (by kernel_rfl) (by kernel_rfl) (fun _ _ _ h => h) (Or.inl ⟨by rfl, ?_⟩) (by assumption) ?_
              rotate_left
              · intro w hSw
                go_simp
                try with_reducible rfl
              simp only [Act.put, List.getElem_toArray, List.getElem_cons_zero, List.getElem_cons_succ, List.setIfInBounds_toArray, List.set_cons_zero, List.set_cons_succ]
              refine wpAnyH_take (i := 2) (v := ?_) rfl (by kernel_rfl) (by kernel_rfl) (by kernel_rfl) (fun _ _ _ h => h) (Or.inl ⟨by rfl, ?_⟩) (by assumption) ?_
              rotate_left
              · intro w hSw
                go_simp
                try with_reducible rfl
              simp only [Act.put, List.getElem_toArray, List.getElem_cons_zero, List.getElem_cons_succ, List.setIfInBounds_toArray, List.set_cons_zero, List.set_cons_succ]
              refine wpAnyH_take (i := 3) (v := ?_) rfl (by kernel_rfl) (by kernel_rfl) (by kernel_rfl) (fun _ _ _ h => h) (Or.inl ⟨by rfl, ?_⟩) (by assumption) ?_
              rotate_left
              · intro w hSw
                go_simp
                try with_reducible rfl
              simp only [Act.put, List.getElem_toArray, List.getElem_cons_zero, List.getElem_cons_succ, List.setIfInBounds_toArray, List.set_cons_zero, List.set_cons_succ]
              refine wpAnyH_take (i := 4) (v := ?_) rfl (by kernel_rfl) (by kernel_rfl) (by kernel_rfl) (fun _ _ _ h => h) (Or.inl ⟨by rfl, ?_⟩) (by assumption) ?_
              rotate_left
              · intro w hSw
                go_simp
                try with_reducible rfl
              simp only [Act.put, List.getElem_toArray, List.getElem_cons_zero, List.getElem_cons_succ, List.setIfInBounds_toArray, List.set_cons_zero, List.set_cons_succ]
              refine wpAnyH_take (i := 5) (v := ?_) rfl (by kernel_rfl) (by kernel_rfl) (by kernel_rfl) (fun _ _ _ h => h) (Or.inl ⟨by rfl, ?_⟩) (by assumption) ?_
              rotate_left
              · intro w hSw
                go_simp
                try with_reducible rfl
              simp only [Act.put, List.getElem_toArray, List.getElem_cons_zero, List.getElem_cons_succ, List.setIfInBounds_toArray, List.set_cons_zero, List.set_cons_succ]
              refine wpAnyH_take (i := 6) (v := ?_) rfl (by kernel_rfl) (by kernel_rfl) (by kernel_rfl) (fun _ _ _ h => h) (Or.inl ⟨by rfl, ?_⟩) (by assumption) ?_
              rotate_left
              · intro w hSw
                go_simp
                try with_reducible rfl
              simp only [Act.put, List.getElem_toArray, List.getElem_cons_zero, List.getElem_cons_succ, List.setIfInBounds_toArray, List.set_cons_zero, List.set_cons_succ]
              refine wpAnyH_take (i := 7) (v := ?_) rfl (by kernel_rfl) (by kernel_rfl) (by kernel_rfl) (fun _ _ _ h => h) (Or.inl ⟨by rfl, ?_⟩) (by assumption) ?_
              rotate_left
              · intro w hSw
                go_simp
                try with_reducible rfl
              simp only [Act.put, List.getElem_toArray, List.getElem_cons_zero, List.getElem_cons_succ, List.setIfInBounds_toArray, List.set_cons_zero, List.set_cons_succ]
              refine wpAnyH_take (i := 8) (v := ?_) rfl (by kernel_rfl) (by kernel_rfl) (by kernel_rfl) (fun _ _ _ h => h) (Or.inl ⟨by rfl, ?_⟩) (by assumption) ?_
              rotate_left
              · intro w hSw
                go_simp
                try with_reducible rfl
              simp only [Act.put, List.getElem_toArray, List.getElem_cons_zero, List.getElem_cons_succ, List.setIfInBounds_toArray, List.set_cons_zero, List.set_cons_succ]
              refine wpAnyH_take (i := 9) (v := .bool false) rfl (by kernel_rfl) (by kernel_rfl) (by kernel_rfl) (fun _ _ _ h => h) (Or.inl ⟨by rfl, ?_⟩) (by assumption) ?_
              · intro w hSw
                go_simp
                try exact hle
              simp only [Act.put, List.getElem_toArray, List.getElem_cons_zero, List.getElem_cons_succ, List.setIfInBounds_toArray, List.set_cons_zero, List.set_cons_succ]
              refine wpAnyH_done (by kernel_rfl) ?_ _
              have B9 := aside (HB.out.trans (hHeld.1.mono HB.out.size))
              have BW9 := aside hHeld.1
              clear hHeld SX
              clear hw2
              go_wp2
              go_roundw
              case rel => exact ⟨m + 1, by go_num, by omega, B9.out⟩
              case measure => simp [intOf]; omega
            · have KFw := aside (blk_on KF.out HW.out)
              obtain ⟨f0, f1, f2, f3, f4, f5, f6⟩ := sep7 KFw.out
              have HRG := aside (rgs_of_row (own_on OR.out HW.out) (by omega))
              have BWw := aside (HB.out.trans (HW.out.mono HB.out.size))
              go_wp2_with fail
              refine (rising_of HRG.out (rises_good HGD.out.2.2)).mono ?_
              rintro e w8 ⟨rfl, b8⟩
              have KF8 := aside (blk_on KFw.out b8)
              have B8 := aside (bthen BWw.out b8)
              clear b8 f0 f1 f2 f3 f4 f5 f6
              obtain ⟨f0, f1, f2, f3, f4, f5, f6⟩ := sep7 KF8.out
              go_wp2_with fail
              refine (entries_any fr tz o l n tn a j cap P _ (HE.out.keep B8.out) (by have := HGD.out.2.1; omega) rfl).mono ?_
              rintro e w9 ⟨rfl, b9⟩
              have B9 := aside (bthen B8.out b9)
              clear b9 f0 f1 f2 f3 f4 f5 f6
              go_wp2
              go_ret
              exact ⟨by first | rfl | simp, B9.out⟩
    · have b0 : (q == 0) = false := by simpa using h0
      go_wp2_with fail
      refine (chkR_of (HE.out.keep B1.out) HQ.out).mono ?_
      rintro e w2 ⟨rfl, b2⟩
      have B2 := aside (bthen B1.out b2)
      clear b2 f0 f1 f2 f3 f4 f5 f6 B1 KF1
      go_wp2
      go_ret
      exact ⟨rfl, B2.out⟩
  · go_wp2
    go_ret
    exact ⟨rfl, B1.out⟩

end Go.Proofs.Ytfnmpfaecafckaa
