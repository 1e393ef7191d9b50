/-
  Clone of a frame whose parts have no entries.
-/
import Derived.Test.YtgfblndmblgeeaaFeS
import Derived.Test.YtgfblndmblgeeaaYMem
namespace Go.Proofs.Ytgfblndmblgeeaa
open Go.RowKit
set_option linter.unusedVariables false
theorem set_self {w : World} {b k : Nat} {u : Value} (h : w.cell? ⟨b, k, none⟩ = some u) : w.setCell ⟨b, k, none⟩ u = w := by
  have hm : w.heap.modify b (fun x => match x with | .cells c elem frozen => .cells (c.setIfInBounds k u) elem frozen | o => o) = w.heap := by
    apply Array.ext_getElem?
    intro i
    rw [Array.getElem?_modify]
    by_cases hi : b = i
    · subst hi
      rw [if_pos rfl]
      unfold World.cell? at h
      cases hh : w.heap[b]? with
      | none => rfl
      | some ob =>
        rw [hh] at h
        cases ob with
        | cells c t f =>
          simp at h
          have hk : k < c.size := by
            rcases Nat.lt_or_ge k c.size with g | g
            · exact g
            · rw [Array.getElem?_eq_none g] at h; cases h
          have : c.setIfInBounds k u = c := by
            apply Array.ext_getElem?
            intro j
            rw [Array.getElem?_setIfInBounds]
            by_cases hj : k = j
            · subst hj; rw [if_pos rfl, if_pos hk]; exact h.symm
            · rw [if_neg hj]
          simp [this]
        | _ => simp at h
    · rw [if_neg hi]
  unfold World.setCell
  simp
  exact congrArg (fun hp => ({ w with heap := hp } : World)) hm
theorem own_sl {w : World} {B : Nat} {e : TypeId} {s : Nat} {v : Value} {n : Nat} {xs : List Value} (h : w.ownsRow B e s v n xs) (hn : 0 < n) : ∃ g c, v = .slice (some ⟨g, 0, none⟩) n c ∧ B ≤ g := by
  rcases h.2 with ⟨rfl, rfl⟩ | ⟨g, cap, cur, rfl, hb, _⟩
  · omega
  · exact ⟨g, cap, rfl, hb⟩
set_option maxHeartbeats 1600000 in
theorem clonePs_any (y : Addr) (len cap : Nat) (P : Nat → Pm) (w : World) (h : PartsIn w (some y) len cap P) (hz : len * 96 ≤ 140737488351232) (hpos : 0 < len) :
    Calls Try.prog 45 #[.slice (some y) len cap] w fun e w' => ∃ v, e = .returned v ∧ w'.ownsRow w.heap.size 51 8 v len (ptCells (firstP P len)) ∧ Below w.heap.size w w' := by
  have hnil : ∀ w, (binOp .eql 24 (.slice (some y) len cap) (.slice none 0 0)).run Try.prog w = .ok (.bool false) w := fun w => by kernel_rfl
  have O0 := aside (ownP_empty w w.heap.size (Nat.le_refl _))
  have BV := aside (bnew w (.cells #[] 51))
  have HL := aside (h.keep BV.out)
  have HZ := aside hz
  clear h hz
  go_enter Try.func45, Try.ntmps45
  go_wp2_with (at_builtin; refine wpList_plain rfl fun K hK => op_append_parts (V := w) _ _ rfl 0 (.slice (some ⟨w.heap.size, 0, none⟩) 0 0) [] (by rfl) O0.out y len cap P (by rfl) HL.out (by have := HZ.out; omega) BV.out ?_; intro v1 w1 own1 b1 g1; refine hK _ _ ?_; refine Hid.out ?_)
  refine aside ?_
  rw [List.nil_append, Nat.zero_add] at own1
  obtain ⟨g, cp, rfl, -⟩ := own_sl own1 hpos
  have O1 := aside own1
  have B1 := aside b1
  clear own1 b1 g1 O0 BV HL
  go_wp2
  go_ret
  exact ⟨_, rfl, O1.out, B1.out⟩
set_option maxHeartbeats 400000 in
theorem cloneE_nil (w : World) : Calls Try.prog 46 #[.slice none 0 0] w fun e w' => e = .returned (.slice none 0 0) ∧ Below w.heap.size w w' := by
  have hnil : ∀ w, (binOp .eql 49 (.slice none 0 0) (.slice none 0 0)).run Try.prog w = .ok (.bool true) w := fun w => by kernel_rfl
  go_enter Try.func46, Try.ntmps46
  go_wp2
  go_ret
  exact ⟨rfl, Below.refl _ _⟩
theorem set_far1 {W : World} {j k : Nat} {ob : Obj} (h : W.heap[j]? = some ob) (hne : j ≠ k) (i : Nat) (v : Value) : (W.setCell ⟨k, i, none⟩ v).heap[j]? = some ob :=
  (Keeps.setCell (Keeps.refl (fun q => q = k) W) (fun _ => rfl) v).block j (Array.getElem?_eq_some_iff.1 h).1 hne |>.trans h
theorem froz_in {w w' : World} {b k : Nat} {u : Value} (h : w.cell? ⟨b, k, none⟩ = some u) (hf : w.frozen? ⟨b, k, none⟩ = false) (bb : Below w.heap.size w w') : w'.frozen? ⟨b, k, none⟩ = false := by
  have hl := World.block_lt_of_cell? w _ h
  unfold World.frozen? at hf ⊢
  rw [bb.block b hl]
  exact hf
/-- Parts without entries. -/
def NoEnts (P : Nat → Pm) (len : Nat) : Prop := ∀ i, i < len → (P i).ea = none ∧ (P i).el = 0 ∧ (P i).ec = 0
theorem NoEnts.in_ {P : Nat → Pm} {len : Nat} (h : NoEnts P len) (w : World) : ∀ i, i < len → (P i).In w := by
  intro i hi
  obtain ⟨h1, h2, h3⟩ := h i hi
  unfold Pm.In
  rw [h1, h2, h3]
  exact ⟨Nat.le_refl _, Nat.zero_le _, .inl rfl⟩
theorem own_apart {w : World} {B g k cap n : Nat} {xs : List Value} (h : w.ownsRow B 51 8 (.slice (some ⟨g, 0, none⟩) n cap) n xs) (a : Nat) (ha : a ≠ g) (u : Value) : (w.setCell ⟨a, k, none⟩ u).ownsRow B 51 8 (.slice (some ⟨g, 0, none⟩) n cap) n xs :=
  ownsRow_keep h ((Keeps.refl (fun k => k = a) w).setCell (fun _ => rfl) u) (fun j hj x => ha (by simp [Value.ownBlock] at hj; omega))
set_option maxHeartbeats 6400000 in
set_option maxRecDepth 100000 in
theorem cloneF_any (fr tz o l n tn : Int) (y : Addr) (len cap : Nat) (P : Nat → Pm) (w : World) (h : PartsIn w (some y) len cap P) (hz : len * 96 ≤ 140737488351232) (hN : NoEnts P len) (hpos : 0 < len) :
    Calls Try.prog 22 #[.agg #[.int .i64 fr, .int .i64 tz, .int .i64 o, .int .i64 l, .int .i64 n, .int .i64 tn, .slice (some y) len cap]] w fun e w' => ∃ g cp, e = .returned (.agg #[.int .i64 fr, .int .i64 tz, .int .i64 o, .int .i64 l, .int .i64 n, .int .i64 tn, .slice (some ⟨g, 0, none⟩) len cp]) ∧ PartsIn w' (some ⟨g, 0, none⟩) len cp P ∧ w.heap.size ≤ g ∧ Below w.heap.size w w' := by
  have hmx : (len : Int) ≤ 9223372036854775807 := by omega
  have HN := aside hN
  have BX := aside (bthen (bnew w (.cells #[.int .i64 fr, .int .i64 tz, .int .i64 o, .int .i64 l, .int .i64 n, .int .i64 tn, .slice (some y) len cap] 26)) (bnew _ (.cells #[.int .i64 0, .int .i64 0, .int .i64 0, .int .i64 0, .int .i64 0, .int .i64 0, .slice none 0 0] 26)))
  have CC := aside (clonePs_any y len cap P _ (h.keep BX.out) hz hpos)
  have KF := aside (blk_on (heap_alloc_new w (.cells #[.int .i64 fr, .int .i64 tz, .int .i64 o, .int .i64 l, .int .i64 n, .int .i64 tn, .slice (some y) len cap] 26)) (bnew _ (.cells #[.int .i64 0, .int .i64 0, .int .i64 0, .int .i64 0, .int .i64 0, .int .i64 0, .slice none 0 0] 26)))
  have KZ := aside (heap_alloc_new (w.alloc (.cells #[.int .i64 fr, .int .i64 tz, .int .i64 o, .int .i64 l, .int .i64 n, .int .i64 tn, .slice (some y) len cap] 26)) (.cells #[.int .i64 0, .int .i64 0, .int .i64 0, .int .i64 0, .int .i64 0, .int .i64 0, .slice none 0 0] 26))
  have HSZ := aside (World.size_alloc w (.cells #[.int .i64 fr, .int .i64 tz, .int .i64 o, .int .i64 l, .int .i64 n, .int .i64 tn, .slice (some y) len cap] 26))
  rw [HSZ.out] at KZ
  clear h hz hN
  go_enter Try.func22, Try.ntmps22
  go_wp2_with fail
  refine CC.out.mono ?_
  rintro e w1 ⟨v, rfl, own, b1⟩
  have hs2 : w.heap.size + 1 < ((w.alloc (.cells #[.int .i64 fr, .int .i64 tz, .int .i64 o, .int .i64 l, .int .i64 n, .int .i64 tn, .slice (some y) len cap] 26)).alloc (.cells #[.int .i64 0, .int .i64 0, .int .i64 0, .int .i64 0, .int .i64 0, .int .i64 0, .slice none 0 0] 26)).heap.size := by rw [World.size_alloc, World.size_alloc]; omega
  obtain ⟨g, cp, rfl, hgb0⟩ := own_sl own hpos
  have hgb : w.heap.size + 1 < g := by omega
  have HO := aside own
  have HGB := aside hgb
  have KF1 := aside (blk_on KF.out b1)
  have KZ1 := aside (blk_on KZ.out b1)
  have B1 := aside (bthen BX.out b1)
  obtain ⟨f0, f1, f2, f3, f4, f5, f6⟩ := sep7 KF1.out
  have fz6 := frozen_of_row _ _ 6 _ _ KF1.out
  clear own b1 hs2 hgb hgb0 KF KZ HSZ CC BX
  obtain ⟨fb, hfb⟩ : ∃ fb, w.heap.size = fb := ⟨_, rfl⟩
  rw [hfb] at HGB KF1 KZ1 f0 f1 f2 f3 f4 f5 f6 fz6 ⊢
  have HFB := aside hfb
  clear hfb
  go_upto_region 2 with fail
  have KF2 := aside (set_in 6 (.slice (some ⟨g, 0, none⟩) len cp) KF1.out)
  have KZ2 := aside (set_far1 KZ1.out (show fb + 1 ≠ fb by omega) 6 (.slice (some ⟨g, 0, none⟩) len cp))
  have HO2 := aside (own_apart (k := 6) HO.out fb (by have := HGB.out; omega) (.slice (some ⟨g, 0, none⟩) len cp))
  have B2 := aside (B1.out.setCell (p := ⟨fb, 6, none⟩) (show w.heap.size ≤ fb by have := HFB.out; omega) (.slice (some ⟨g, 0, none⟩) len cp))
  simp only [List.setIfInBounds_toArray, List.set_cons_zero, List.set_cons_succ] at KF2
  clear f0 f1 f2 f3 f4 f5 f6 fz6 KF1 KZ1 HO B1
  generalize w1.setCell ⟨fb, 6, none⟩ (.slice (some ⟨g, 0, none⟩) len cp) = X0 at KF2 KZ2 HO2 B2 ⊢
  obtain ⟨-, -, -, -, -, -, f6⟩ := sep7 KF2.out
  go_wp2
  clear f6
  go_loopw [12] (fun i wr => ∃ j : Nat, i = .int .i64 (j : Int) ∧ j ≤ len ∧ Below X0.heap.size X0 wr) (fun i _ => len - (intOf i).toNat)
  case atStart => exact ⟨0, rfl, Nat.zero_le _, Below.refl _ _⟩
  case round =>
    obtain ⟨j, rfl, hj, hBB⟩ := hrel
    have HB := aside hBB
    clear hBB
    have HOr := aside (own_on HO2.out HB.out)
    by_cases hlt : (j : Int) < (len : Int)
    · have hj0 : (0 : Int) ≤ (j : Int) := by omega
      obtain ⟨c0, c1, c2, c3, c4, c5, c6, c7⟩ := rowP_cells HOr.out (i := j) (by rw [firstP_len]; omega)
      rw [firstP_nth P (show j < len by omega)] at c0 c1 c2 c3 c4 c5 c6 c7
      have hno := HN.out j (by omega)
      obtain ⟨p, hp⟩ : ∃ p, P j = p := ⟨_, rfl⟩
      rw [hp] at c0 c1 c2 c3 c4 c5 c6 c7 hno
      clear hp
      obtain ⟨kind, lo, hi, op, cnt, s0, s1, ea, el, ec, T⟩ := p
      dsimp only at c0 c1 c2 c3 c4 c5 c6 c7 hno
      obtain ⟨rfl, rfl, rfl⟩ := hno
      have hgz : wr.frozen? ⟨g, j * 8 + 7, none⟩ = false := HOr.out.frozenAt (j * 8 + 7)
      go_upto_region 5 with fail
      have K1 := heap_alloc_new wr (.cells #[.int .i64 kind, .string lo, .string hi, .bool op, .int .i64 cnt, .int .u64 s0, .int .u64 s1, .slice none 0 0] 51)
      have BA := bnew wr (.cells #[.int .i64 kind, .string lo, .string hi, .bool op, .int .i64 cnt, .int .u64 s0, .int .u64 s1, .slice none 0 0] 51)
      have BA2 := aside (HB.out.trans (BA.mono HB.out.size))
      obtain ⟨pb, hpb⟩ : ∃ pb, wr.heap.size = pb := ⟨_, rfl⟩
      rw [hpb] at K1 ⊢
      have c7' := cell_in c7 BA
      have hgz' : (wr.alloc (.cells #[.int .i64 kind, .string lo, .string hi, .bool op, .int .i64 cnt, .int .u64 s0, .int .u64 s1, .slice none 0 0] 51)).frozen? ⟨g, j * 8 + 7, none⟩ = false := (own_on HOr.out BA).frozenAt (j * 8 + 7)
      clear c0 c1 c2 c3 c4 c5 c6 c7 hpb BA hgz
      generalize wr.alloc (.cells #[.int .i64 kind, .string lo, .string hi, .bool op, .int .i64 cnt, .int .u64 s0, .int .u64 s1, .slice none 0 0] 51) = X1 at K1 BA2 c7' hgz' ⊢
      obtain ⟨-, -, -, -, -, -, -, p7⟩ := oct8 K1
      obtain ⟨-, -, -, -, -, -, f6⟩ := sep7 (blk_on KF2.out BA2.out)
      have SZ := aside (fun W (bb : Below X1.heap.size X1 W) => (show W.cell? ⟨fb, 6, none⟩ = some (.slice (some ⟨g, 0, none⟩) len cp) ∧ W.cell? ⟨pb, 7, none⟩ = some (.slice none 0 0) ∧ W.cell? ⟨g, j * 8 + 7, none⟩ = some (.slice none 0 0) ∧ W.frozen? ⟨g, j * 8 + 7, none⟩ = false from ⟨cell_in f6 bb, cell_in p7 bb, cell_in c7' bb, froz_in c7' hgz' bb⟩))
      clear f6 p7 c7' hgz' K1
      refine wp_region_held_drew (S := fun W => (W.cell? ⟨fb, 6, none⟩ = some (.slice (some ⟨g, 0, none⟩) len cp) ∧ W.cell? ⟨pb, 7, none⟩ = some (.slice none 0 0) ∧ W.cell? ⟨g, j * 8 + 7, none⟩ = some (.slice none 0 0) ∧ W.frozen? ⟨g, j * 8 + 7, none⟩ = false) ∧ Below X1.heap.size X1 W) (by kernel_rfl) ⟨SZ.out _ (Below.refl _ X1).drew, (Below.refl _ X1).drew⟩ (fun hHeld => ?_)
      refine wpAnyH_take (i := 0) (v := ?_) rfl (by kernel_rfl) (by kernel_rfl) (by kernel_rfl) (fun _ _ _ h => h) (Or.inl ⟨by rfl, ?_⟩) (by assumption) ?_
      rotate_left
      · intro w hSw
        go_simp
        try with_reducible rfl
      simp only [Act.put, List.getElem_toArray, List.getElem_cons_zero, List.setIfInBounds_toArray, List.set_cons_zero, List.set_cons_succ]
      refine wpAnyH_take (i := 1) (v := ?_) rfl (by kernel_rfl) (by kernel_rfl) (by kernel_rfl) (fun _ _ _ h => h) (Or.inl ⟨by rfl, ?_⟩) (by assumption) ?_
      rotate_left
      · intro w hSw
        go_simp
        try with_reducible rfl
      simp only [Act.put, List.getElem_toArray, List.getElem_cons_zero, List.getElem_cons_succ, List.setIfInBounds_toArray, List.set_cons_zero, List.set_cons_succ]
      refine wpAnyH_take (i := 2) (v := ?_) rfl (by kernel_rfl) (by kernel_rfl) (by kernel_rfl) (fun _ _ _ h => h) (Or.inl ⟨by rfl, ?_⟩) (by assumption) ?_
      rotate_left
      · intro w hSw
        go_simp
        try with_reducible rfl
      simp only [Act.put, List.getElem_toArray, List.getElem_cons_zero, List.getElem_cons_succ, List.setIfInBounds_toArray, List.set_cons_zero, List.set_cons_succ]
      refine wpAnyH_take (i := 3) (v := ?_) rfl (by kernel_rfl) (by kernel_rfl) (by kernel_rfl) (fun _ _ _ h => h) (Or.inl ⟨by rfl, ?_⟩) (by assumption) ?_
      rotate_left
      · intro w hSw
        go_simp
        try with_reducible rfl
      simp only [Act.put, List.getElem_toArray, List.getElem_cons_zero, List.getElem_cons_succ, List.setIfInBounds_toArray, List.set_cons_zero, List.set_cons_succ]
      refine wpAnyH_take (i := 4) (v := ?_) rfl (by kernel_rfl) (by kernel_rfl) (by kernel_rfl) (fun _ _ _ h => h) (Or.inl ⟨by rfl, ?_⟩) (by assumption) ?_
      rotate_left
      · intro w hSw
        go_simp
        try with_reducible rfl
      simp only [Act.put, List.getElem_toArray, List.getElem_cons_zero, List.getElem_cons_succ, List.setIfInBounds_toArray, List.set_cons_zero, List.set_cons_succ]
      refine wpAnyH_ready (rs := [5]) (by kernel_rfl) (by simp) ?_
      refine AllReadyH.cons rfl (fun K hK => ?_) AllReadyH.nil
      go_simp
      refine (cloneE_nil _).mono ?_
      rintro e w9 ⟨rfl, bb⟩
      refine hK.out _ _ (⟨SZ.out _ (hHeld.2.trans (bb.mono hHeld.2.size)), hHeld.2.trans (bb.mono hHeld.2.size)⟩) (fun hHeld => ?_)
      clear hK K bb
      refine wpAnyH_take (i := 6) (v := ?_) rfl (by kernel_rfl) (by kernel_rfl) (by kernel_rfl) (fun _ _ _ h => h) (Or.inl ⟨by rfl, ?_⟩) (by assumption) ?_
      rotate_left
      · intro w hSw
        go_simp
        try with_reducible rfl
      simp only [Act.put, List.getElem_toArray, List.getElem_cons_zero, List.getElem_cons_succ, List.setIfInBounds_toArray, List.set_cons_zero, List.set_cons_succ]
      refine wpAnyH_take (i := 7) (v := ?_) rfl (by kernel_rfl) (by kernel_rfl) (by kernel_rfl) (fun _ _ _ h => h) (Or.inl ⟨by rfl, ?_⟩) (by assumption) ?_
      rotate_left
      · intro w hSw
        go_simp
        try with_reducible rfl
      simp only [Act.put, List.getElem_toArray, List.getElem_cons_zero, List.getElem_cons_succ, List.setIfInBounds_toArray, List.set_cons_zero, List.set_cons_succ]
      refine wpAnyH_ready (rs := [8]) (by kernel_rfl) (by simp) ?_
      refine AllReadyH.cons rfl (fun K hK => ?_) AllReadyH.nil
      obtain ⟨⟨z1, z2, z3, z4⟩, z5⟩ := hHeld
      go_simp
      rw [set_self z3]
      refine hK.out _ _ ⟨⟨z1, z2, z3, z4⟩, z5⟩ (fun hHeld => ?_)
      clear hK K z1 z2 z3 z4 z5
      refine wpAnyH_done (by kernel_rfl) ?_ _
      have B9 := aside hHeld.2
      clear hHeld SZ
      go_wp2
      go_roundw
      case rel => exact ⟨j + 1, by go_num, by omega, BA2.out.trans (B9.out.mono BA2.out.size)⟩
      case measure => simp [intOf]; omega
    · have KZr := aside (blk_on KZ2.out HB.out)
      have Bw := aside (B2.out.trans (HB.out.mono (by have h1 := B2.out.size; omega)))
      obtain ⟨f0, f1, f2, f3, f4, f5, f6⟩ := sep7 (blk_on KF2.out HB.out)
      obtain ⟨z0, z1, z2, z3, z4, z5, z6⟩ := sep7 KZr.out
      have y0 := frozen_of_row _ _ 0 _ _ KZr.out
      have y1 := frozen_of_row _ _ 1 _ _ KZr.out
      have y2 := frozen_of_row _ _ 2 _ _ KZr.out
      have y3 := frozen_of_row _ _ 3 _ _ KZr.out
      have y4 := frozen_of_row _ _ 4 _ _ KZr.out
      have y5 := frozen_of_row _ _ 5 _ _ KZr.out
      have y6 := frozen_of_row _ _ 6 _ _ KZr.out
      have KR := (set_in 6 (.slice (some ⟨g, 0, none⟩) len cp) (set_in 5 (.int .i64 tn) (set_in 4 (.int .i64 n) (set_in 3 (.int .i64 l) (set_in 2 (.int .i64 o) (set_in 1 (.int .i64 tz) (set_in 0 (.int .i64 fr) KZr.out)))))))
      simp only [List.setIfInBounds_toArray, List.set_cons_zero, List.set_cons_succ] at KR
      obtain ⟨s0, s1, s2, s3, s4, s5, s6⟩ := sep7 KR
      have HOF := aside ((own_apart (k := 6) (own_apart (k := 5) (own_apart (k := 4) (own_apart (k := 3) (own_apart (k := 2) (own_apart (k := 1) (own_apart (k := 0) HOr.out (fb + 1) (by have := HGB.out; omega) (.int .i64 fr)) (fb + 1) (by have := HGB.out; omega) (.int .i64 tz)) (fb + 1) (by have := HGB.out; omega) (.int .i64 o)) (fb + 1) (by have := HGB.out; omega) (.int .i64 l)) (fb + 1) (by have := HGB.out; omega) (.int .i64 n)) (fb + 1) (by have := HGB.out; omega) (.int .i64 tn)) (fb + 1) (by have := HGB.out; omega) (.slice (some ⟨g, 0, none⟩) len cp)))
      have BF := aside ((((((((Bw.out.setCell (p := ⟨fb + 1, 0, none⟩) (show w.heap.size ≤ fb + 1 by have := HFB.out; omega) (.int .i64 fr)).setCell (p := ⟨fb + 1, 1, none⟩) (show w.heap.size ≤ fb + 1 by have := HFB.out; omega) (.int .i64 tz)).setCell (p := ⟨fb + 1, 2, none⟩) (show w.heap.size ≤ fb + 1 by have := HFB.out; omega) (.int .i64 o)).setCell (p := ⟨fb + 1, 3, none⟩) (show w.heap.size ≤ fb + 1 by have := HFB.out; omega) (.int .i64 l)).setCell (p := ⟨fb + 1, 4, none⟩) (show w.heap.size ≤ fb + 1 by have := HFB.out; omega) (.int .i64 n)).setCell (p := ⟨fb + 1, 5, none⟩) (show w.heap.size ≤ fb + 1 by have := HFB.out; omega) (.int .i64 tn)).setCell (p := ⟨fb + 1, 6, none⟩) (show w.heap.size ≤ fb + 1 by have := HFB.out; omega) (.slice (some ⟨g, 0, none⟩) len cp)))
      have HS := aside (And.intro s0 (And.intro s1 (And.intro s2 (And.intro s3 (And.intro s4 (And.intro s5 s6))))))
      clear KR s0 s1 s2 s3 s4 s5 s6
      go_wp2
      obtain ⟨s0, s1, s2, s3, s4, s5, s6⟩ := HS.out
      exact bodyPost_ret (v := .agg #[.int .i64 fr, .int .i64 tz, .int .i64 o, .int .i64 l, .int .i64 n, .int .i64 tn, .slice (some ⟨g, 0, none⟩) len cp]) (by simp [results, Try.results22, go_sem, s0, s1, s2, s3, s4, s5, s6]) rfl ⟨g, cp, rfl, parts_of_row HOF.out (HN.out.in_ _), by have h1 := HGB.out; have h2 := HFB.out; omega, BF.out⟩
end Go.Proofs.Ytgfblndmblgeeaa
