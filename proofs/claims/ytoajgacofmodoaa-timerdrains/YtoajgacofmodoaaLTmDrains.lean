/-
  The law TimerDrains, walked.
-/
import Derived.Test.YtoajgacofmodoaaTmZ
namespace Go.Proofs.Ytoajgacofmodoaa
open Go.RowKit
set_option linter.unusedVariables false

/-- What the second loop keeps: the code's timer, the document's row, the box. -/
structure DrJ (w : World) (qb pt bt pd : Nat) (M : List Alm) (a : Option Addr) (n c : Nat) (L : List Alm) (X : World) : Prop where
  bx : X.heap[qb]? = some (.cells #[.pointer (some ⟨pt, 0, none⟩), .pointer (some ⟨pd, 0, none⟩)] 40 (0, 0))
  t : Tim X pt bt M
  al : AlIn 57 X a n c L
  bel : Below w.heap.size w X
  ge : w.heap.size ≤ bt
theorem DrJ.below {w : World} {qb pt bt pd : Nat} {M : List Alm} {a : Option Addr} {n c : Nat} {L : List Alm} {X Y : World} (h : DrJ w qb pt bt pd M a n c L X) (b : Below X.heap.size X Y) : DrJ w qb pt bt pd M a n c L Y := ⟨blk_on h.bx b, h.t.below b, h.al.on b, bthen h.bel b, h.ge⟩
theorem DrJ.step {w : World} {qb pt bt pd : Nat} {M M' : List Alm} {a : Option Addr} {n c : Nat} {L : List Alm} {X Y : World} (h : DrJ w qb pt bt pd M a n c L X) (t : Tim Y pt bt M') (k : Keeps (fun x => x = bt) X Y) : DrJ w qb pt bt pd M' a n c L Y :=
  ⟨blk_keep h.bx k (fun e => h.t.far _ _ _ h.bx e), t, h.al.keep k (fun i cs hi e => h.t.far _ i cs hi e), h.bel.trans (k.below (B := w.heap.size) h.bel.size (fun j hj e => by have := h.ge; omega)), h.ge⟩
set_option maxHeartbeats 16000000 in
set_option maxRecDepth 100000 in
theorem tdrains_walk (a0 : Option Addr) (len cap : Nat) (R : Nat → Sop) (w : World) (g0 : Sops w a0 len cap R) (ok0 : ∀ i, i < len → SopOk (R i)) :
    Calls Try.prog 6 #[.slice a0 len cap] w fun e w' => e = .returned (.bool true) ∧ Below w.heap.size w w' := by
  have G0 := aside g0
  have OK0 := aside ok0
  have hmx : (len : Int) ≤ 9223372036854775807 := by have h1 := g0.1; have h2 := g0.2.1; unfold maxLen at h2; omega
  clear g0 ok0
  by_cases hlong : (4096 : Int) < (len : Int)
  · go_enter Try.func6, Try.ntmps6
    go_wp2
    go_ret
    exact ⟨rfl, Below.refl _ _⟩
  · have HL := aside (show len ≤ 4096 from by omega)
    go_enter Try.func6, Try.ntmps6
    go_wp2_with fail
    refine (fresh_any _).mono ?_
    rintro e w1 ⟨pt, bt, pd, rfl, hpt, hbt, hpd, hpr, b1⟩
    obtain ⟨V, hV⟩ : ∃ V, w1.alloc (.cells #[.pointer (some ⟨pt, 0, none⟩), .pointer (some ⟨pd, 0, none⟩)] 40) = V := ⟨_, rfl⟩
    obtain ⟨qb, hqb⟩ : ∃ q, w1.heap.size = q := ⟨_, rfl⟩
    have D0 := aside (show DrI w qb pt bt pd [] V from by
      rw [← hV, ← hqb]
      exact ⟨heap_alloc_new w1 _, hpr.below (bnew w1 _), bthen b1 (bnew w1 _), hpt, hbt, hpd⟩)
    clear hpt hbt hpd hpr b1
    go_wp2
    try rw [hV]
    clear hV hqb
    go_loopw [4] (fun i wr => ∃ k : Nat, i = .int .i64 (k : Int) ∧ k ≤ len ∧ Hid (DrI w qb pt bt pd (runL R k) wr)) (fun i _ => len - (intOf i).toNat)
    case atStart => exact ⟨0, rfl, Nat.zero_le _, D0.out⟩
    case round =>
      clear D0
      obtain ⟨k, rfl, hk, HT⟩ := hrel
      have HB := aside HT.out.bel
      by_cases hlk : (k : Int) < (len : Int)
      · have hk0 : (0 : Int) ≤ (k : Int) := by omega
        rcases (G0.out.keep HB.out).2.2.2 with h0 | ⟨x, off, rfl, hx, hc⟩
        · omega
        have hxw : x < w.heap.size := by
          rcases G0.out.2.2.2 with h0 | ⟨x9, off9, e9, hx9, -⟩
          · omega
          · injection e9 with e9; injection e9 with e9; omega
        obtain ⟨kd, hkd⟩ : ∃ y, (R k).kind = y := ⟨_, rfl⟩
        obtain ⟨o, ho⟩ : ∃ y, (R k).o = y := ⟨_, rfl⟩
        obtain ⟨l, hl⟩ : ∃ y, (R k).l = y := ⟨_, rfl⟩
        obtain ⟨k9, hk9⟩ : ∃ y, (R k).n = y := ⟨_, rfl⟩
        obtain ⟨z, hz⟩ : ∃ y, (R k).at_ = y := ⟨_, rfl⟩
        obtain ⟨sp, hsp⟩ : ∃ y, (R k).stop = y := ⟨_, rfl⟩
        obtain ⟨sc, hsc⟩ : ∃ y, (R k).sec = y := ⟨_, rfl⟩
        have m0 := hc k (by omega)
        unfold SopAt at m0
        rw [hkd, ho, hl, hk9, hz, hsp, hsc] at m0
        have M0 := aside m0
        have WF := aside (show wfN (o, l, k9) from by rw [← ho, ← hl, ← hk9]; exact ⟨(OK0.out k (by omega)).2.1, (OK0.out k (by omega)).2.2.1, (OK0.out k (by omega)).2.2.2.1⟩)
        have RS := aside (show runL R (k + 1) = stepL kd o l k9 z (runL R k) from by
          show stepL (R k).kind (R k).o (R k).l (R k).n (R k).at_ (runL R k) = _
          rw [hkd, ho, hl, hk9, hz])
        have SX := aside (fun W (kk : Keeps (OnP bt pd) wr W) => (show (W.cell? ⟨qb, 0, none⟩ = some (.pointer (some ⟨pt, 0, none⟩)) ∧ W.cell? ⟨qb, 1, none⟩ = some (.pointer (some ⟨pd, 0, none⟩))) ∧ (W.cell? ⟨x, off + k * 7, none⟩ = some (.int .i64 kd) ∧ W.cell? ⟨x, off + k * 7 + 1, none⟩ = some (.int .i64 o) ∧ W.cell? ⟨x, off + k * 7 + 2, none⟩ = some (.int .i64 l) ∧ W.cell? ⟨x, off + k * 7 + 3, none⟩ = some (.int .i64 k9) ∧ W.cell? ⟨x, off + k * 7 + 4, none⟩ = some (.int .i64 z) ∧ W.cell? ⟨x, off + k * 7 + 5, none⟩ = some (.int .i64 sp) ∧ W.cell? ⟨x, off + k * 7 + 6, none⟩ = some (.bool sc)) from by
          have nx : ¬ OnP bt pd x := fun e => by have h1 := HT.out.ge; rcases e with e | e <;> omega
          have hxr : x < wr.heap.size := by have := HB.out.size; omega
          obtain ⟨c0, c1, c2, c3, c4, c5, c6⟩ := M0.out
          exact ⟨HT.out.cells kk, by rw [kk.cell hxr nx]; exact c0, by rw [kk.cell hxr nx]; exact c1, by rw [kk.cell hxr nx]; exact c2, by rw [kk.cell hxr nx]; exact c3, by rw [kk.cell hxr nx]; exact c4, by rw [kk.cell hxr nx]; exact c5, by rw [kk.cell hxr nx]; exact c6⟩))
        clear m0 M0 hkd ho hl hk9 hz hsp hsc hc
        go_wp2_with fail
        refine wp_region_held_drew (S := fun W => ((W.cell? ⟨qb, 0, none⟩ = some (.pointer (some ⟨pt, 0, none⟩)) ∧ W.cell? ⟨qb, 1, none⟩ = some (.pointer (some ⟨pd, 0, none⟩))) ∧ (W.cell? ⟨x, off + k * 7, none⟩ = some (.int .i64 kd) ∧ W.cell? ⟨x, off + k * 7 + 1, none⟩ = some (.int .i64 o) ∧ W.cell? ⟨x, off + k * 7 + 2, none⟩ = some (.int .i64 l) ∧ W.cell? ⟨x, off + k * 7 + 3, none⟩ = some (.int .i64 k9) ∧ W.cell? ⟨x, off + k * 7 + 4, none⟩ = some (.int .i64 z) ∧ W.cell? ⟨x, off + k * 7 + 5, none⟩ = some (.int .i64 sp) ∧ W.cell? ⟨x, off + k * 7 + 6, none⟩ = some (.bool sc))) ∧ Hid (Keeps (OnP bt pd) wr W)) (by kernel_rfl) ⟨SX.out _ (Keeps.refl _ wr).drew, aside (Keeps.refl _ wr).drew⟩ (fun hHeld => ?_)
        refine wpAnyH_take (i := 0) (v := ?_) rfl (by kernel_rfl) (by kernel_rfl) (by kernel_rfl) (fun _ _ _ h => h) (Or.inl ⟨by rfl, ?_⟩) (by assumption) ?_
        rotate_left
        · intro w hSw
          go_simp
          try with_reducible rfl
        simp only [Act.put, List.getElem_toArray, List.getElem_cons_zero, List.setIfInBounds_toArray, List.set_cons_zero, List.set_cons_succ]
        refine wpAnyH_take (i := 1) (v := ?_) rfl (by kernel_rfl) (by kernel_rfl) (by kernel_rfl) (fun _ _ _ h => h) (Or.inl ⟨by rfl, ?_⟩) (by assumption) ?_
        rotate_left
        · intro w hSw
          go_simp
          try with_reducible rfl
        simp only [Act.put, List.getElem_toArray, List.getElem_cons_zero, List.getElem_cons_succ, List.setIfInBounds_toArray, List.set_cons_zero, List.set_cons_succ]
        refine wpAnyH_take (i := 2) (v := ?_) rfl (by kernel_rfl) (by kernel_rfl) (by kernel_rfl) (fun _ _ _ h => h) (Or.inl ⟨by rfl, ?_⟩) (by assumption) ?_
        rotate_left
        · intro w hSw
          go_simp
          try with_reducible rfl
        simp only [Act.put, List.getElem_toArray, List.getElem_cons_zero, List.getElem_cons_succ, List.setIfInBounds_toArray, List.set_cons_zero, List.set_cons_succ]
        refine wpAnyH_take (i := 3) (v := ?_) rfl (by kernel_rfl) (by kernel_rfl) (by kernel_rfl) (fun _ _ _ h => h) (Or.inl ⟨by rfl, ?_⟩) (by assumption) ?_
        rotate_left
        · intro w hSw
          go_simp
          try with_reducible rfl
        simp only [Act.put, List.getElem_toArray, List.getElem_cons_zero, List.getElem_cons_succ, List.setIfInBounds_toArray, List.set_cons_zero, List.set_cons_succ]
        refine wpAnyH_take (i := 4) (v := ?_) rfl (by kernel_rfl) (by kernel_rfl) (by kernel_rfl) (fun _ _ _ h => h) (Or.inl ⟨by rfl, ?_⟩) (by assumption) ?_
        rotate_left
        · intro w hSw
          go_simp
          try with_reducible rfl
        simp only [Act.put, List.getElem_toArray, List.getElem_cons_zero, List.getElem_cons_succ, List.setIfInBounds_toArray, List.set_cons_zero, List.set_cons_succ]
        refine wpAnyH_ready (rs := [5]) (by kernel_rfl) (by simp) ?_
        refine AllReadyH.cons rfl (fun K hK => ?_) AllReadyH.nil
        go_simp
        refine (step_any kd o l k9 z sp sc (HT.out.pr.below (Below.refl _ wr).drew) WF.out (by have := runL_len R k; have := HL.out; omega)).mono ?_
        rintro e w9 ⟨rfl, pr9, kk9⟩
        refine hK.out _ _ (⟨SX.out _ ((Keeps.refl _ wr).drew.trans kk9), aside ((Keeps.refl _ wr).drew.trans kk9)⟩) (fun hHeld => ?_)
        clear hK K 
        refine wpAnyH_take (i := 6) (v := ?_) rfl (by kernel_rfl) (by kernel_rfl) (by kernel_rfl) (fun _ _ _ h => h) (Or.inl ⟨by rfl, ?_⟩) (by assumption) ?_
        rotate_left
        · intro w hSw
          go_simp
          try with_reducible rfl
        simp only [Act.put, List.getElem_toArray, List.getElem_cons_zero, List.getElem_cons_succ, List.setIfInBounds_toArray, List.set_cons_zero, List.set_cons_succ]
        refine wpAnyH_done (by kernel_rfl) ?_ _
        have HT9 := aside (HT.out.step pr9 ((Keeps.refl _ wr).drew.trans kk9))
        clear hHeld SX pr9 kk9
        go_wp2
        go_roundw
        case rel => exact ⟨k + 1, by go_num, by omega, by rw [RS.out]; exact HT9.out⟩
        case measure => simp [intOf] <;> omega
      · obtain ⟨L, hL⟩ : ∃ L, runL R k = L := ⟨_, rfl⟩
        have HLL := aside (show L.length ≤ 4096 from by rw [← hL]; have := runL_len R k; have := HL.out; omega)
        rw [hL] at HT
        clear hL
        obtain ⟨v, hv, hrow⟩ := HT.out.pr.d
        obtain ⟨la, lc, rfl, hain⟩ := al_in hrow
        have J0 := aside (show DrJ w qb pt bt pd (L.drop 0) la L.length lc L wr from ⟨HT.out.bx, HT.out.pr.t, hain, HT.out.bel, HT.out.ge.2.1⟩)
        have c0 := cell_one hv
        obtain ⟨d0, d1⟩ := HT.out.cells (Keeps.refl _ wr)
        have hll : (L.length : Int) ≤ 4096 := by have := HLL.out; omega
        clear hv hrow hain HT HB
        go_wp2
        go_loopw [6] (fun j wr => ∃ i : Nat, j = .int .i64 (i : Int) ∧ i ≤ L.length ∧ Hid (DrJ w qb pt bt pd (L.drop i) la L.length lc L wr)) (fun j _ => L.length - (intOf j).toNat)
        case atStart => exact ⟨0, rfl, Nat.zero_le _, J0.out⟩
        case round =>
          clear J0 c0 d0 d1
          obtain ⟨i, rfl, hi, HJ⟩ := hrel
          obtain ⟨d0, d1⟩ : (wr.cell? ⟨qb, 0, none⟩ = some (.pointer (some ⟨pt, 0, none⟩)) ∧ wr.cell? ⟨qb, 1, none⟩ = some (.pointer (some ⟨pd, 0, none⟩))) := by have k0 := HJ.out.bx; exact ⟨by simp [World.cell?, k0], by simp [World.cell?, k0]⟩
          by_cases hli : (i : Int) < (L.length : Int)
          · have hi0 : (0 : Int) ≤ (i : Int) := by omega
            obtain ⟨y, hy⟩ : ∃ y, L[i]? = some y := ⟨L[i]'(by omega), List.getElem?_eq_getElem _⟩
            obtain ⟨⟨o, l, k9⟩, t9⟩ := y
            have HY := aside hy
            have DR := aside (show L.drop i = ((o, l, k9), t9) :: L.drop (i + 1) from by
              obtain ⟨h8, h9⟩ := List.getElem?_eq_some_iff.1 hy
              rw [List.drop_eq_getElem_cons h8, h9])
            have CA := tnext_any HJ.out.t
            rw [DR.out] at CA
            simp only [nextV] at CA
            have CA' := aside CA
            have HT0 := aside HJ.out.t
            rw [DR.out] at HT0
            have WF := aside (HT0.out.2.2.1 ((o, l, k9), t9) (by simp)).1
            have LK := aside (HT0.out.2.1.look (n := (o, l, k9)) (t := t9) (by simp))
            have DH := aside (drop_head HT0.out.2.1)
            have EQN := fun W => name_binN_same o l k9 W
            rcases HJ.out.al.2.2.2 with h9 | ⟨g, cs, rfl, hgb, hgc⟩
            · omega
            clear CA hy hgb hgc
            go_wp2_with fail
            refine CA'.out.mono ?_
            rintro e w3 ⟨rfl, b3⟩
            obtain ⟨V3, hV3⟩ : ∃ V, w3.alloc (.cells #[.int .i64 o, .int .i64 l, .int .i64 k9] 29) = V := ⟨_, rfl⟩
            obtain ⟨q3, hq3⟩ : ∃ q, w3.heap.size = q := ⟨_, rfl⟩
            have BV3 := aside (show Below wr.heap.size wr V3 from by rw [← hV3]; exact bthen b3 (bnew w3 _))
            have KV3 := aside (show V3.heap[q3]? = some (.cells #[.int .i64 o, .int .i64 l, .int .i64 k9] 29 (0, 0)) from by rw [← hV3, ← hq3]; exact heap_alloc_new w3 _)
            have J3 := aside (HJ.out.below BV3.out)
            have HT3 := aside (HT0.out.below BV3.out)
            have SX := aside (fun W (kk : Keeps (fun x => x = bt) V3 W) => (show (W.cell? ⟨qb, 0, none⟩ = some (.pointer (some ⟨pt, 0, none⟩)) ∧ W.cell? ⟨qb, 1, none⟩ = some (.pointer (some ⟨pd, 0, none⟩))) ∧ (W.cell? ⟨q3, 0, none⟩ = some (.int .i64 o) ∧ W.cell? ⟨q3, 1, none⟩ = some (.int .i64 l) ∧ W.cell? ⟨q3, 2, none⟩ = some (.int .i64 k9)) ∧ (W.cell? ⟨g, i * 4, none⟩ = some (.int .i64 o) ∧ W.cell? ⟨g, i * 4 + 1, none⟩ = some (.int .i64 l) ∧ W.cell? ⟨g, i * 4 + 2, none⟩ = some (.int .i64 k9) ∧ W.cell? ⟨g, i * 4 + 3, none⟩ = some (.int .i64 t9)) from by
              have k0 := blk_keep J3.out.bx kk (fun e => J3.out.t.far _ _ _ J3.out.bx e)
              have k1 := blk_keep KV3.out kk (fun e => J3.out.t.far _ _ _ KV3.out e)
              rcases (J3.out.al.keep kk (fun i cs hi e => J3.out.t.far _ i cs hi e)).2.2.2 with h9 | ⟨g', cs', e', -, hgc⟩
              · omega
              · injection e' with e'
                injection e' with e'
                subst e'
                exact ⟨⟨by simp [World.cell?, k0], by simp [World.cell?, k0]⟩, tri3 k1, hgc i _ HY.out⟩))
            clear b3 CA' d0 d1
            go_wp2_with fail
            refine wp_region_held_drew (S := fun W => ((W.cell? ⟨qb, 0, none⟩ = some (.pointer (some ⟨pt, 0, none⟩)) ∧ W.cell? ⟨qb, 1, none⟩ = some (.pointer (some ⟨pd, 0, none⟩))) ∧ (W.cell? ⟨q3, 0, none⟩ = some (.int .i64 o) ∧ W.cell? ⟨q3, 1, none⟩ = some (.int .i64 l) ∧ W.cell? ⟨q3, 2, none⟩ = some (.int .i64 k9)) ∧ (W.cell? ⟨g, i * 4, none⟩ = some (.int .i64 o) ∧ W.cell? ⟨g, i * 4 + 1, none⟩ = some (.int .i64 l) ∧ W.cell? ⟨g, i * 4 + 2, none⟩ = some (.int .i64 k9) ∧ W.cell? ⟨g, i * 4 + 3, none⟩ = some (.int .i64 t9))) ∧ Hid (Keeps (fun x => x = bt) V3 W)) (by kernel_rfl) ⟨SX.out _ (Keeps.refl _ V3).drew, aside (Keeps.refl _ V3).drew⟩ (fun hHeld => ?_)
            refine wpAnyH_take (i := 0) (v := ?_) rfl (by kernel_rfl) (by kernel_rfl) (by kernel_rfl) (fun _ _ _ h => h) (Or.inl ⟨by rfl, ?_⟩) (by assumption) ?_
            rotate_left
            · intro w hSw
              go_simp
              try with_reducible rfl
            simp only [Act.put, List.getElem_toArray, List.getElem_cons_zero, List.setIfInBounds_toArray, List.set_cons_zero, List.set_cons_succ]
            refine wpAnyH_take (i := 1) (v := ?_) rfl (by kernel_rfl) (by kernel_rfl) (by kernel_rfl) (fun _ _ _ h => h) (Or.inl ⟨by rfl, ?_⟩) (by assumption) ?_
            rotate_left
            · intro w hSw
              go_simp
              try with_reducible rfl
            simp only [Act.put, List.getElem_toArray, List.getElem_cons_zero, List.getElem_cons_succ, List.setIfInBounds_toArray, List.set_cons_zero, List.set_cons_succ]
            refine wpAnyH_take (i := 2) (v := ?_) rfl (by kernel_rfl) (by kernel_rfl) (by kernel_rfl) (fun _ _ _ h => h) (Or.inl ⟨by rfl, ?_⟩) (by assumption) ?_
            rotate_left
            · intro w hSw
              go_simp
              try with_reducible rfl
            simp only [Act.put, List.getElem_toArray, List.getElem_cons_zero, List.getElem_cons_succ, List.setIfInBounds_toArray, List.set_cons_zero, List.set_cons_succ]
            refine wpAnyH_take (i := 3) (v := ?_) rfl (by kernel_rfl) (by kernel_rfl) (by kernel_rfl) (fun _ _ _ h => h) (Or.inl ⟨by rfl, ?_⟩) (by assumption) ?_
            rotate_left
            · intro w hSw
              go_simp
              try with_reducible rfl
            simp only [Act.put, List.getElem_toArray, List.getElem_cons_zero, List.getElem_cons_succ, List.setIfInBounds_toArray, List.set_cons_zero, List.set_cons_succ]
            refine wpAnyH_take (i := 4) (v := ?_) rfl (by kernel_rfl) (by kernel_rfl) (by kernel_rfl) (fun _ _ _ h => h) (Or.inl ⟨by rfl, ?_⟩) (by assumption) ?_
            rotate_left
            · intro w hSw
              go_simp
              try with_reducible rfl
            simp only [Act.put, List.getElem_toArray, List.getElem_cons_zero, List.getElem_cons_succ, List.setIfInBounds_toArray, List.set_cons_zero, List.set_cons_succ]
            refine wpAnyH_take (i := 5) (v := ?_) rfl (by kernel_rfl) (by kernel_rfl) (by kernel_rfl) (fun _ _ _ h => h) (Or.inl ⟨by rfl, ?_⟩) (by assumption) ?_
            rotate_left
            · intro w hSw
              go_simp
              try with_reducible rfl
            simp only [Act.put, List.getElem_toArray, List.getElem_cons_zero, List.getElem_cons_succ, List.setIfInBounds_toArray, List.set_cons_zero, List.set_cons_succ]
            refine wpAnyH_take (i := 6) (v := ?_) rfl (by kernel_rfl) (by kernel_rfl) (by kernel_rfl) (fun _ _ _ h => h) (Or.inl ⟨by rfl, ?_⟩) (by assumption) ?_
            rotate_left
            · intro w hSw
              go_simp
              try with_reducible rfl
            simp only [Act.put, List.getElem_toArray, List.getElem_cons_zero, List.getElem_cons_succ, List.setIfInBounds_toArray, List.set_cons_zero, List.set_cons_succ]
            refine wpAnyH_take (i := 7) (v := ?_) rfl (by kernel_rfl) (by kernel_rfl) (by kernel_rfl) (fun _ _ _ h => h) (Or.inl ⟨by rfl, ?_⟩) (by assumption) ?_
            rotate_left
            · intro w hSw
              go_simp
              try with_reducible rfl
            simp only [Act.put, List.getElem_toArray, List.getElem_cons_zero, List.getElem_cons_succ, List.setIfInBounds_toArray, List.set_cons_zero, List.set_cons_succ]
            refine wpAnyH_take (i := 8) (v := ?_) rfl (by kernel_rfl) (by kernel_rfl) (by kernel_rfl) (fun _ _ _ h => h) (Or.inl ⟨by rfl, ?_⟩) (by assumption) ?_
            rotate_left
            · intro w hSw
              go_simp
              try with_reducible rfl
            simp only [Act.put, List.getElem_toArray, List.getElem_cons_zero, List.getElem_cons_succ, List.setIfInBounds_toArray, List.set_cons_zero, List.set_cons_succ]
            refine wpAnyH_take (i := 9) (v := .bool false) rfl (by kernel_rfl) (by kernel_rfl) (by kernel_rfl) (fun _ _ _ h => h) (Or.inl ⟨by rfl, ?_⟩) (by assumption) ?_
            · intro w hSw
              go_simp
              try exact EQN _
            simp only [Act.put, List.getElem_toArray, List.getElem_cons_zero, List.getElem_cons_succ, List.setIfInBounds_toArray, List.set_cons_zero, List.set_cons_succ]
            refine wpAnyH_take (i := 10) (v := ?_) rfl (by kernel_rfl) (by kernel_rfl) (by kernel_rfl) (fun _ _ _ h => h) (Or.inl ⟨by rfl, ?_⟩) (by assumption) ?_
            rotate_left
            · intro w hSw
              go_simp
              try with_reducible rfl
            simp only [Act.put, List.getElem_toArray, List.getElem_cons_zero, List.getElem_cons_succ, List.setIfInBounds_toArray, List.set_cons_zero, List.set_cons_succ]
            refine wpAnyH_take (i := 11) (v := ?_) rfl (by kernel_rfl) (by kernel_rfl) (by kernel_rfl) (fun _ _ _ h => h) (Or.inl ⟨by rfl, ?_⟩) (by assumption) ?_
            rotate_left
            · intro w hSw
              go_simp
              try with_reducible rfl
            simp only [Act.put, List.getElem_toArray, List.getElem_cons_zero, List.getElem_cons_succ, List.setIfInBounds_toArray, List.set_cons_zero, List.set_cons_succ]
            refine wpAnyH_take (i := 12) (v := ?_) rfl (by kernel_rfl) (by kernel_rfl) (by kernel_rfl) (fun _ _ _ h => h) (Or.inl ⟨by rfl, ?_⟩) (by assumption) ?_
            rotate_left
            · intro w hSw
              go_simp
              try with_reducible rfl
            simp only [Act.put, List.getElem_toArray, List.getElem_cons_zero, List.getElem_cons_succ, List.setIfInBounds_toArray, List.set_cons_zero, List.set_cons_succ]
            refine wpAnyH_take (i := 13) (v := ?_) rfl (by kernel_rfl) (by kernel_rfl) (by kernel_rfl) (fun _ _ _ h => h) (Or.inl ⟨by rfl, ?_⟩) (by assumption) ?_
            rotate_left
            · intro w hSw
              go_simp
              try with_reducible rfl
            simp only [Act.put, List.getElem_toArray, List.getElem_cons_zero, List.getElem_cons_succ, List.setIfInBounds_toArray, List.set_cons_zero, List.set_cons_succ]
            refine wpAnyH_take (i := 14) (v := ?_) rfl (by kernel_rfl) (by kernel_rfl) (by kernel_rfl) (fun _ _ _ h => h) (Or.inl ⟨by rfl, ?_⟩) (by assumption) ?_
            rotate_left
            · intro w hSw
              go_simp
              try with_reducible rfl
            simp only [Act.put, List.getElem_toArray, List.getElem_cons_zero, List.getElem_cons_succ, List.setIfInBounds_toArray, List.set_cons_zero, List.set_cons_succ]
            refine wpAnyH_take (i := 15) (v := ?_) rfl (by kernel_rfl) (by kernel_rfl) (by kernel_rfl) (fun _ _ _ h => h) (Or.inl ⟨by rfl, ?_⟩) (by assumption) ?_
            rotate_left
            · intro w hSw
              go_simp
              try with_reducible rfl
            simp only [Act.put, List.getElem_toArray, List.getElem_cons_zero, List.getElem_cons_succ, List.setIfInBounds_toArray, List.set_cons_zero, List.set_cons_succ]
            refine wpAnyH_take (i := 16) (v := ?_) rfl (by kernel_rfl) (by kernel_rfl) (by kernel_rfl) (fun _ _ _ h => h) (Or.inl ⟨by rfl, ?_⟩) (by assumption) ?_
            rotate_left
            · intro w hSw
              go_simp
              try with_reducible rfl
            simp only [Act.put, List.getElem_toArray, List.getElem_cons_zero, List.getElem_cons_succ, List.setIfInBounds_toArray, List.set_cons_zero, List.set_cons_succ]
            refine wpAnyH_take (i := 17) (v := ?_) rfl (by kernel_rfl) (by kernel_rfl) (by kernel_rfl) (fun _ _ _ h => h) (Or.inl ⟨by rfl, ?_⟩) (by assumption) ?_
            rotate_left
            · intro w hSw
              go_simp
              try with_reducible rfl
            simp only [Act.put, List.getElem_toArray, List.getElem_cons_zero, List.getElem_cons_succ, List.setIfInBounds_toArray, List.set_cons_zero, List.set_cons_succ]
            refine wpAnyH_take (i := 18) (v := ?_) rfl (by kernel_rfl) (by kernel_rfl) (by kernel_rfl) (fun _ _ _ h => h) (Or.inl ⟨by rfl, ?_⟩) (by assumption) ?_
            rotate_left
            · intro w hSw
              go_simp
              try with_reducible rfl
            simp only [Act.put, List.getElem_toArray, List.getElem_cons_zero, List.getElem_cons_succ, List.setIfInBounds_toArray, List.set_cons_zero, List.set_cons_succ]
            refine wpAnyH_take (i := 19) (v := ?_) rfl (by kernel_rfl) (by kernel_rfl) (by kernel_rfl) (fun _ _ _ h => h) (Or.inl ⟨by rfl, ?_⟩) (by assumption) ?_
            rotate_left
            · intro w hSw
              go_simp
              try with_reducible rfl
            simp only [Act.put, List.getElem_toArray, List.getElem_cons_zero, List.getElem_cons_succ, List.setIfInBounds_toArray, List.set_cons_zero, List.set_cons_succ]
            refine wpAnyH_take (i := 20) (v := ?_) rfl (by kernel_rfl) (by kernel_rfl) (by kernel_rfl) (fun _ _ _ h => h) (Or.inl ⟨by rfl, ?_⟩) (by assumption) ?_
            rotate_left
            · intro w hSw
              go_simp
              try with_reducible rfl
            simp only [Act.put, List.getElem_toArray, List.getElem_cons_zero, List.getElem_cons_succ, List.setIfInBounds_toArray, List.set_cons_zero, List.set_cons_succ]
            refine wpAnyH_take (i := 21) (v := ?_) rfl (by kernel_rfl) (by kernel_rfl) (by kernel_rfl) (fun _ _ _ h => h) (Or.inl ⟨by rfl, ?_⟩) (by assumption) ?_
            rotate_left
            · intro w hSw
              go_simp
              try with_reducible rfl
            simp only [Act.put, List.getElem_toArray, List.getElem_cons_zero, List.getElem_cons_succ, List.setIfInBounds_toArray, List.set_cons_zero, List.set_cons_succ]
            refine wpAnyH_take (i := 22) (v := ?_) rfl (by kernel_rfl) (by kernel_rfl) (by kernel_rfl) (fun _ _ _ h => h) (Or.inl ⟨by rfl, ?_⟩) (by assumption) ?_
            rotate_left
            · intro w hSw
              go_simp
              try with_reducible rfl
            simp only [Act.put, List.getElem_toArray, List.getElem_cons_zero, List.getElem_cons_succ, List.setIfInBounds_toArray, List.set_cons_zero, List.set_cons_succ]
            refine wpAnyH_take (i := 23) (v := ?_) rfl (by kernel_rfl) (by kernel_rfl) (by kernel_rfl) (fun _ _ _ h => h) (Or.inl ⟨by rfl, ?_⟩) (by assumption) ?_
            rotate_left
            · intro w hSw
              go_simp
              try with_reducible rfl
            simp only [Act.put, List.getElem_toArray, List.getElem_cons_zero, List.getElem_cons_succ, List.setIfInBounds_toArray, List.set_cons_zero, List.set_cons_succ]
            refine wpAnyH_ready (rs := [24]) (by kernel_rfl) (by simp) ?_
            refine AllReadyH.cons rfl (fun K hK => ?_) AllReadyH.nil
            go_simp
            refine (tdrop_any o l k9 (w := V3.drew) HT3.out WF.out).mono ?_
            rintro e w9 ⟨rfl, t6, k6⟩
            refine hK.out _ _ (⟨SX.out _ ((Keeps.refl _ V3).drew.trans k6), aside ((Keeps.refl _ V3).drew.trans k6)⟩) (fun hHeld => ?_)
            clear hK K 
            rw [LK.out]
            rw [DH.out] at t6
            refine wpAnyH_take (i := 25) (v := ?_) rfl (by kernel_rfl) (by kernel_rfl) (by kernel_rfl) (fun _ _ _ h => h) (Or.inl ⟨by rfl, ?_⟩) (by assumption) ?_
            rotate_left
            · intro w hSw
              go_simp
              try with_reducible rfl
            simp only [Act.put, List.getElem_toArray, List.getElem_cons_zero, List.getElem_cons_succ, List.setIfInBounds_toArray, List.set_cons_zero, List.set_cons_succ]
            refine wpAnyH_take (i := 26) (v := ?_) rfl (by kernel_rfl) (by kernel_rfl) (by kernel_rfl) (fun _ _ _ h => h) (Or.inl ⟨by rfl, ?_⟩) (by assumption) ?_
            rotate_left
            · intro w hSw
              go_simp
              try with_reducible rfl
            simp only [Act.put, List.getElem_toArray, List.getElem_cons_zero, List.getElem_cons_succ, List.setIfInBounds_toArray, List.set_cons_zero, List.set_cons_succ]
            refine wpAnyH_done (by kernel_rfl) ?_ _
            have KF := aside ((Keeps.refl _ V3).drew.trans k6)
            have TF := aside t6
            clear hHeld SX t6 k6
            have J9 := aside (J3.out.step TF.out KF.out)
            go_wp2
            go_roundw
            case rel => exact ⟨i + 1, by go_num, by omega, J9.out⟩
            case measure => simp [intOf] <;> omega
          · have DR := aside (show L.drop i = [] from List.drop_of_length_le (by omega))
            have CA := tnext_any HJ.out.t
            have CL := fun W (bb : Below wr.heap.size wr W) => tlen_any (HJ.out.t.below bb)
            rw [DR.out] at CA CL
            simp only [nextV] at CA
            have CA' := aside CA
            have CL' := aside CL
            clear CA CL
            go_wp2_with fail
            refine CA'.out.mono ?_
            rintro e w3 ⟨rfl, b3⟩
            obtain ⟨V3, hV3⟩ : ∃ V, w3.alloc (.cells #[.int .i64 0, .int .i64 0, .int .i64 0] 29) = V := ⟨_, rfl⟩
            have BV3 := aside (show Below wr.heap.size wr V3 from by rw [← hV3]; exact bthen b3 (bnew w3 _))
            obtain ⟨e0, e1⟩ : (V3.cell? ⟨qb, 0, none⟩ = some (.pointer (some ⟨pt, 0, none⟩)) ∧ V3.cell? ⟨qb, 1, none⟩ = some (.pointer (some ⟨pd, 0, none⟩))) := by have k0 := blk_on HJ.out.bx BV3.out; exact ⟨by simp [World.cell?, k0], by simp [World.cell?, k0]⟩
            have HV3 := aside hV3
            rw [← HV3.out] at e0 e1
            clear b3 CA' d0 d1 hV3
            go_wp2_with fail
            refine (CL'.out _ (by rw [HV3.out]; exact BV3.out)).mono ?_
            rintro e w4 ⟨rfl, rfl⟩
            go_wp2
            go_ret
            exact ⟨rfl, by rw [HV3.out]; exact bthen HJ.out.bel BV3.out⟩

end Go.Proofs.Ytoajgacofmodoaa
