/-
  Clone of a frame whose lists are none of them nil: parts and entries in memory of its own.
-/
import Derived.Test.YtoabncoigleiaaaBf8
namespace Go.Proofs.Ytoabncoigleiaaa
open Go.RowKit
set_option linter.unusedVariables false
/-- A list of parts appended to an empty row, as one operation. -/
theorem op_append_partsF {w : World} {o : Oper} {act : Act} {K : Act → World → Prop} {Q : Exit → Act → World → Prop} (s x : Operand)
    (ho : o.op = .call { callee := .builtin .append, args := #[s, x], argTypes := #[24, 24] })
    (B g0 c0 : Nat) (hs : act.eval s = .slice (some ⟨g0, 0, none⟩) 0 c0) (hA : w.ownsRow B 51 8 (.slice (some ⟨g0, 0, none⟩) 0 c0) 0 (ptCells [])) (y : Addr) (len cap : Nat) (P : Nat → Pm) (hx : act.eval x = .slice (some y) len cap) (hL : PartsIn w (some y) len cap P)
    (hlen : len * 96 ≤ 140737488351232) (hB : B ≤ w.heap.size)
    (h : ∀ g c w', w'.ownsRow B 51 8 (.slice (some ⟨g, 0, none⟩) len c) len (ptCells (firstP P len)) → w.grownBy w' (some g0) → K (act.put o.dst (.slice (some ⟨g, 0, none⟩) len c)) w') : o.wp Try.prog act w K Q := by
  obtain ⟨i0, hi, hz0, hz1, hz2⟩ := info_parts infoPart
  refine wp_append_own w s x _ ho B 51 i0 _ 8 96 Try.underlying24 hi hz0 hz1 hz2 rfl (by decide) _ _ _ hs hA y len cap (ptCells (firstP P len)) hx (by rw [ptCells_length, firstP_len]) (parts_cells hL) (ptCells_one _) (by unfold maxLen; omega) (by omega) hB ?_
  intro v' w' ho' hg' hfr
  rw [← ptCells_append, List.nil_append, Nat.zero_add] at ho'
  rcases ho'.2 with ⟨h1, h2⟩ | ⟨g, cap', cur, rfl, _⟩
  · exact absurd (hfr.1 h1).1 (by simp)
  · exact h g cap' w' ho' hg'
set_option maxHeartbeats 1600000 in
theorem clonePs_row (y : Addr) (len cap : Nat) (P : Nat → Pm) (w : World) (h : PartsIn w (some y) len cap P) (hz : len * 96 ≤ 140737488351232) :
    Calls Try.prog 36 #[.slice (some y) len cap] w fun e w' => ∃ g c, e = .returned (.slice (some ⟨g, 0, none⟩) len c) ∧ w'.ownsRow w.heap.size 51 8 (.slice (some ⟨g, 0, none⟩) len c) len (ptCells (firstP P len)) ∧ Below w.heap.size w w' := by
  have hnil : ∀ w, (binOp .eql 24 (.slice (some y) len cap) (.slice none 0 0)).run Try.prog w = .ok (.bool false) w := fun w => by kernel_rfl
  have O0 := aside (ownP_empty w w.heap.size (Nat.le_refl _))
  have BV := aside (bnew w (.cells #[] 51))
  have HL := aside (h.keep BV.out)
  have HZ := aside hz
  have HSZ := aside (show w.heap.size ≤ (w.alloc (.cells #[] 51)).heap.size from by rw [World.size_alloc]; omega)
  clear h hz
  go_enter Try.func36, Try.ntmps36
  go_wp2_with (at_builtin; refine wpList_plain rfl fun K hK => op_append_partsF _ _ rfl w.heap.size w.heap.size 0 (by rfl) O0.out y len cap P (by rfl) HL.out HZ.out HSZ.out ?_; intro g1 c1 w1 own1 gr1; refine hK _ _ ?_; refine Hid.out ?_)
  refine aside ?_
  have O1 := aside own1
  have B1 := aside (BV.out.trans (((Keeps.refl (fun x => x = w.heap.size) _).grown gr1 (fun k hk _ => (Option.some.inj hk).symm)).below HSZ.out (fun k hk e => by omega)))
  clear own1 gr1 O0 BV HL
  go_wp2
  go_ret
  exact ⟨_, _, rfl, O1.out, B1.out⟩
/-- A frame half cloned: the first j lists of entries are its own. -/
structure HalfF (w : World) (B g n cp : Nat) (P Q : Nat → Pm) (j : Nat) : Prop where
  row : w.ownsRow B 51 8 (.slice (some ⟨g, 0, none⟩) n cp) n (ptCells (firstP Q n))
  ent : ∀ i, i < j → ∃ ge, (Q i).ea = some ⟨ge, 0, none⟩ ∧ w.ownsRow B 55 5 (.slice (some ⟨ge, 0, none⟩) (Q i).el (Q i).ec) (Q i).el (entCells (firstEF (Q i).T (Q i).el))
  apart : ∀ i k, i < j → k < j → i ≠ k → (Q i).ea ≠ (Q k).ea
  keys : ∀ i, i < j → ∀ k, k < (Q i).el → ((Q i).T k).k.size ≤ 140737488351232
  old : ∀ i, j ≤ i → i < n → Q i = P i
theorem HalfF.on {w w' : World} {B g n cp j : Nat} {P Q : Nat → Pm} (h : HalfF w B g n cp P Q j) (b : Below w.heap.size w w') : HalfF w' B g n cp P Q j :=
  ⟨own_on h.row b, fun i hi => by obtain ⟨ge, h1, h2⟩ := h.ent i hi; exact ⟨ge, h1, own_on h2 b⟩, h.apart, h.keys, h.old⟩
theorem HalfF.own {w : World} {B g n cp : Nat} {P Q : Nat → Pm} (h : HalfF w B g n cp P Q n) : OwnF w B g n cp Q := ⟨h.row, h.ent, h.apart, h.keys⟩
theorem HalfF.put {w : World} {B g n cp j ge el ce : Nat} {P Q : Nat → Pm} {T : Nat → En} {p : Pm} (h : HalfF w B g n cp P Q j) (hj : j < n) (hq : Q j = p) (hown : w.ownsRow B 55 5 (.slice (some ⟨ge, 0, none⟩) el ce) el (entCells (firstEF T el))) (hap : ∀ i, i < j → (Q i).ea ≠ some ⟨ge, 0, none⟩) (hk : ∀ k, k < el → (T k).k.size ≤ 140737488351232) :
    HalfF (w.setCell ⟨g, j * 8 + 7, none⟩ (.slice (some ⟨ge, 0, none⟩) el ce)) B g n cp P (putP Q j (p.with (some ⟨ge, 0, none⟩) el ce T)) (j + 1) := by
  subst hq
  refine ⟨?_, fun i hi => ?_, fun i k hi hk' hne => ?_, fun i hi => ?_, fun i hi hn => ?_⟩
  · rw [firstP_put Q n j _ hj, ← ptCells_set (firstP Q n) j (Q j) ((Q j).with (some ⟨ge, 0, none⟩) el ce T) (by unfold firstP; rw [List.getElem?_map, List.getElem?_range hj]; rfl) (by rfl)]
    exact (h.row.stored (j * 8 + 7) _).1
  · by_cases e : i = j
    · subst e
      rw [putP_at]
      exact ⟨ge, rfl, own_apartF hown (fun q => by subst q; exact absurd (own_type hown h.row) (by decide)) _⟩
    · rw [putP_ne e]
      obtain ⟨q, k1, k2⟩ := h.ent i (by omega)
      exact ⟨q, k1, own_apartF k2 (fun u => by subst u; exact absurd (own_type k2 h.row) (by decide)) _⟩
  · by_cases e : i = j
    · subst e
      rw [putP_at, putP_ne (fun u => hne u.symm)]
      exact fun u => hap k (by omega) u.symm
    · rw [putP_ne e]
      by_cases e2 : k = j
      · subst e2
        rw [putP_at]
        exact hap i (by omega)
      · rw [putP_ne e2]
        exact h.apart i k (by omega) (by omega) hne
  · by_cases e : i = j
    · subst e
      rw [putP_at]; exact hk
    · rw [putP_ne e]; exact h.keys i (by omega)
  · rw [putP_ne (by omega)]
    exact h.old i (by omega) hn
theorem OwnF.far {w : World} {B g n cp b t : Nat} {P : Nat → Pm} {cs : Array Value} (h : OwnF w B g n cp P) (hk : w.heap[b]? = some (.cells cs t (0, 0))) (h1 : 51 ≠ t) (h2 : 55 ≠ t) (j : Nat) (u : Value) : OwnF (w.setCell ⟨b, j, none⟩ u) B g n cp P :=
  h.setc (fun e => own_blk h.row hk h1 e.symm) (fun i hi ge e q => by
    obtain ⟨g1, k1, k2⟩ := h.ent i hi
    rw [k1] at e
    injection e with e
    injection e with e _ _
    subst e
    exact own_blk k2 hk h2 q.symm) u
set_option maxHeartbeats 6400000 in
set_option maxRecDepth 100000 in
theorem cloneC_any (fr tz o l n tn : Int) (y : Addr) (len cap : Nat) (P : Nat → Pm) (w : World) (h : PartsIn w (some y) len cap P) (hz : len * 96 ≤ 140737488351232) (hOk : ∀ i, i < len → (∃ y, (P i).ea = some y) ∧ (P i).el * 56 ≤ 140737488351232) :
    Calls Try.prog 16 #[.agg #[.int .i64 fr, .int .i64 tz, .int .i64 o, .int .i64 l, .int .i64 n, .int .i64 tn, .slice (some y) len cap]] w fun e w' => ∃ g cp P', e = .returned (.agg #[.int .i64 fr, .int .i64 tz, .int .i64 o, .int .i64 l, .int .i64 n, .int .i64 tn, .slice (some ⟨g, 0, none⟩) len cp]) ∧ OwnF w' w.heap.size g len cp P' ∧ (∀ i, i < len → SamePm (P i) (P' i)) ∧ Below w.heap.size w w' := by
  have hmx : (len : Int) ≤ 9223372036854775807 := by omega
  have HE := aside h
  have HOK := aside hOk
  have BX := aside (bthen (bnew w (.cells #[.int .i64 fr, .int .i64 tz, .int .i64 o, .int .i64 l, .int .i64 n, .int .i64 tn, .slice (some y) len cap] 26)) (bnew _ (.cells #[.int .i64 0, .int .i64 0, .int .i64 0, .int .i64 0, .int .i64 0, .int .i64 0, .slice none 0 0] 26)))
  have CC := aside (clonePs_row y len cap P _ (h.keep BX.out) hz)
  have KF := aside (blk_on (heap_alloc_new w (.cells #[.int .i64 fr, .int .i64 tz, .int .i64 o, .int .i64 l, .int .i64 n, .int .i64 tn, .slice (some y) len cap] 26)) (bnew _ (.cells #[.int .i64 0, .int .i64 0, .int .i64 0, .int .i64 0, .int .i64 0, .int .i64 0, .slice none 0 0] 26)))
  have KZ := aside (heap_alloc_new (w.alloc (.cells #[.int .i64 fr, .int .i64 tz, .int .i64 o, .int .i64 l, .int .i64 n, .int .i64 tn, .slice (some y) len cap] 26)) (.cells #[.int .i64 0, .int .i64 0, .int .i64 0, .int .i64 0, .int .i64 0, .int .i64 0, .slice none 0 0] 26))
  have HSZ := aside (World.size_alloc w (.cells #[.int .i64 fr, .int .i64 tz, .int .i64 o, .int .i64 l, .int .i64 n, .int .i64 tn, .slice (some y) len cap] 26))
  rw [HSZ.out] at KZ
  clear h hz hOk
  go_enter Try.func16, Try.ntmps16
  go_wp2_with fail
  refine CC.out.mono ?_
  rintro e w1 ⟨g, cp, rfl, own, b1⟩
  have hs2 : w.heap.size + 1 < ((w.alloc (.cells #[.int .i64 fr, .int .i64 tz, .int .i64 o, .int .i64 l, .int .i64 n, .int .i64 tn, .slice (some y) len cap] 26)).alloc (.cells #[.int .i64 0, .int .i64 0, .int .i64 0, .int .i64 0, .int .i64 0, .int .i64 0, .slice none 0 0] 26)).heap.size := by rw [World.size_alloc, World.size_alloc]; omega
  have hgb0 := (own.lt g rfl).1
  have hgb : w.heap.size + 1 < g := by omega
  have HO := aside (own_low own (show w.heap.size ≤ _ by omega))
  have HGB := aside hgb
  have KF1 := aside (blk_on KF.out b1)
  have KZ1 := aside (blk_on KZ.out b1)
  have B1 := aside (bthen BX.out b1)
  obtain ⟨f0, f1, f2, f3, f4, f5, f6⟩ := sep7 KF1.out
  have fz6 := frozen_of_row _ _ 6 _ _ KF1.out
  clear own b1 hs2 hgb hgb0 KF KZ HSZ CC BX
  obtain ⟨fb, hfb⟩ : ∃ fb, w.heap.size = fb := ⟨_, rfl⟩
  rw [hfb] at HGB KF1 KZ1 HO f0 f1 f2 f3 f4 f5 f6 fz6 ⊢
  have HFB := aside hfb
  clear hfb
  go_upto_region 2 with fail
  have KF2 := aside (set_in 6 (.slice (some ⟨g, 0, none⟩) len cp) KF1.out)
  have KZ2 := aside (set_far1 KZ1.out (show fb + 1 ≠ fb by omega) 6 (.slice (some ⟨g, 0, none⟩) len cp))
  have HO2 := aside (own_apart (k := 6) HO.out fb (by have := HGB.out; omega) (.slice (some ⟨g, 0, none⟩) len cp))
  have B2 := aside (B1.out.setCell (p := ⟨fb, 6, none⟩) (show w.heap.size ≤ fb by have := HFB.out; omega) (.slice (some ⟨g, 0, none⟩) len cp))
  simp only [List.setIfInBounds_toArray, List.set_cons_zero, List.set_cons_succ] at KF2
  clear f0 f1 f2 f3 f4 f5 f6 fz6 KF1 KZ1 HO B1
  generalize w1.setCell ⟨fb, 6, none⟩ (.slice (some ⟨g, 0, none⟩) len cp) = X0 at KF2 KZ2 HO2 B2 ⊢
  obtain ⟨-, -, -, -, -, -, f6⟩ := sep7 KF2.out
  go_wp2
  clear f6
  go_loopw [12] (fun i wr => ∃ (j : Nat) (Q : Nat → Pm), i = .int .i64 (j : Int) ∧ j ≤ len ∧ Hid (HalfF wr fb g len cp P Q j) ∧ Hid (∀ i, i < j → SamePm (P i) (Q i)) ∧ Hid (wr.heap[fb]? = some (.cells #[.int .i64 fr, .int .i64 tz, .int .i64 o, .int .i64 l, .int .i64 n, .int .i64 tn, .slice (some ⟨g, 0, none⟩) len cp] 26 (0, 0))) ∧ Hid (wr.heap[fb + 1]? = some (.cells #[.int .i64 0, .int .i64 0, .int .i64 0, .int .i64 0, .int .i64 0, .int .i64 0, .slice none 0 0] 26 (0, 0))) ∧ Hid (Below w.heap.size w wr)) (fun i _ => len - (intOf i).toNat)
  case atStart => exact ⟨0, P, rfl, Nat.zero_le _, ⟨HO2.out, fun i hi => by omega, fun i k hi => by omega, fun i hi => by omega, fun i _ _ => rfl⟩, fun i hi => by omega, KF2.out, KZ2.out, B2.out⟩
  case round =>
    clear KF2 KZ2 HO2 B2
    obtain ⟨j, Q, rfl, hj, HH, HS, KFr, KZr, BW⟩ := hrel
    by_cases hlt : (j : Int) < (len : Int)
    · have hj0 : (0 : Int) ≤ (j : Int) := by omega
      have hltn : j < len := by omega
      obtain ⟨c0, c1, c2, c3, c4, c5, c6, c7⟩ := rowP_cells HH.out.row (i := j) (by rw [firstP_len]; omega)
      rw [firstP_nth Q hltn, HH.out.old j (Nat.le_refl _) hltn] at c0 c1 c2 c3 c4 c5 c6 c7
      rcases (HE.out.keep BW.out).2.2 with h0 | ⟨b, off, -, -, hc⟩
      · omega
      obtain ⟨-, hin⟩ := hc j hltn
      have hok := HOK.out j hltn
      obtain ⟨p, hp⟩ : ∃ p, P j = p := ⟨_, rfl⟩
      have HQJ := aside ((HH.out.old j (Nat.le_refl _) hltn).trans hp)
      have HP := aside hp
      rw [hp] at c0 c1 c2 c3 c4 c5 c6 c7 hin hok
      clear hp hc
      obtain ⟨kind, lo, hi, op, cnt, s0, s1, ea, el, ec, T⟩ := p
      dsimp only at c0 c1 c2 c3 c4 c5 c6 c7 hok
      obtain ⟨⟨ya, rfl⟩, hel⟩ := hok
      have HIN := aside (show EntsIn wr (some ya) el ec T from hin)
      have HKY := aside (ents_keys HIN.out)
      clear hin
      have HGL := aside (HH.out.row.lt g rfl).2
      obtain ⟨-, -, -, -, -, -, f6⟩ := sep7 KFr.out
      go_upto_region 5 with fail
      have K1 := heap_alloc_new wr (.cells #[.int .i64 kind, .string lo, .string hi, .bool op, .int .i64 cnt, .int .u64 s0, .int .u64 s1, .slice (some ya) el ec] 51)
      have BA := bnew wr (.cells #[.int .i64 kind, .string lo, .string hi, .bool op, .int .i64 cnt, .int .u64 s0, .int .u64 s1, .slice (some ya) el ec] 51)
      have DR0 := aside (Below.refl (wr.alloc (.cells #[.int .i64 kind, .string lo, .string hi, .bool op, .int .i64 cnt, .int .u64 s0, .int .u64 s1, .slice (some ya) el ec] 51)).heap.size (wr.alloc (.cells #[.int .i64 kind, .string lo, .string hi, .bool op, .int .i64 cnt, .int .u64 s0, .int .u64 s1, .slice (some ya) el ec] 51))).drew
      have H1 := HH.out.on BA
      have KF1 := blk_on KFr.out BA
      have KZ1 := blk_on KZr.out BA
      have BW1 := BW.out.trans (BA.mono BW.out.size)
      have E1 := HIN.out.keep BA
      have c71 := cell_in c7 BA
      obtain ⟨pb, hpb⟩ : ∃ pb, wr.heap.size = pb := ⟨_, rfl⟩
      rw [hpb] at K1 ⊢
      have HGN := aside (show g ≠ fb ∧ g ≠ fb + 1 ∧ g ≠ pb by have h1 := HGB.out; have h2 := HGL.out; omega)
      clear c0 c1 c2 c3 c4 c5 c6 c7 f6 hpb BA HGL HH KFr KZr BW HIN
      generalize wr.alloc (.cells #[.int .i64 kind, .string lo, .string hi, .bool op, .int .i64 cnt, .int .u64 s0, .int .u64 s1, .slice (some ya) el ec] 51) = X1 at K1 DR0 H1 KF1 KZ1 BW1 E1 c71 ⊢
      obtain ⟨-, -, -, -, -, -, -, p7⟩ := oct8 K1
      obtain ⟨-, -, -, -, -, -, f6⟩ := sep7 KF1
      have DR := DR0
      have HD := aside (H1.on DR.out)
      have KFD := aside (blk_on KF1 DR.out)
      have KZD := aside (blk_on KZ1 DR.out)
      have BWD := aside (BW1.trans (DR.out.mono BW1.size))
      have EI := aside (E1.keep DR.out)
      have c7' := cell_in c71 DR.out
      clear K1 DR0 H1 KF1 KZ1 BW1 E1 c71
      refine wp_region_held_drew (S := fun W => W.cell? ⟨fb, 6, none⟩ = some (.slice (some ⟨g, 0, none⟩) len cp) ∧ W.cell? ⟨pb, 7, none⟩ = some (.slice (some ya) el ec)) (by kernel_rfl) ⟨cell_in f6 DR.out, cell_in p7 DR.out⟩ (fun hHeld => ?_)
      refine wpAnyH_take (i := 0) (v := ?_) rfl (by kernel_rfl) (by kernel_rfl) (by kernel_rfl) (fun _ _ _ h => h) (Or.inl ⟨by rfl, ?_⟩) (by assumption) ?_
      rotate_left
      · intro w hSw
        go_simp
        try with_reducible rfl
      simp only [Act.put, List.getElem_toArray, List.getElem_cons_zero, List.setIfInBounds_toArray, List.set_cons_zero, List.set_cons_succ]
      refine wpAnyH_take (i := 1) (v := ?_) rfl (by kernel_rfl) (by kernel_rfl) (by kernel_rfl) (fun _ _ _ h => h) (Or.inl ⟨by rfl, ?_⟩) (by assumption) ?_
      rotate_left
      · intro w hSw
        go_simp
        try with_reducible rfl
      simp only [Act.put, List.getElem_toArray, List.getElem_cons_zero, List.getElem_cons_succ, List.setIfInBounds_toArray, List.set_cons_zero, List.set_cons_succ]
      refine wpAnyH_take (i := 2) (v := ?_) rfl (by kernel_rfl) (by kernel_rfl) (by kernel_rfl) (fun _ _ _ h => h) (Or.inl ⟨by rfl, ?_⟩) (by assumption) ?_
      rotate_left
      · intro w hSw
        go_simp
        try with_reducible rfl
      simp only [Act.put, List.getElem_toArray, List.getElem_cons_zero, List.getElem_cons_succ, List.setIfInBounds_toArray, List.set_cons_zero, List.set_cons_succ]
      refine wpAnyH_take (i := 3) (v := ?_) rfl (by kernel_rfl) (by kernel_rfl) (by kernel_rfl) (fun _ _ _ h => h) (Or.inl ⟨by rfl, ?_⟩) (by assumption) ?_
      rotate_left
      · intro w hSw
        go_simp
        try with_reducible rfl
      simp only [Act.put, List.getElem_toArray, List.getElem_cons_zero, List.getElem_cons_succ, List.setIfInBounds_toArray, List.set_cons_zero, List.set_cons_succ]
      refine wpAnyH_take (i := 4) (v := ?_) rfl (by kernel_rfl) (by kernel_rfl) (by kernel_rfl) (fun _ _ _ h => h) (Or.inl ⟨by rfl, ?_⟩) (by assumption) ?_
      rotate_left
      · intro w hSw
        go_simp
        try with_reducible rfl
      simp only [Act.put, List.getElem_toArray, List.getElem_cons_zero, List.getElem_cons_succ, List.setIfInBounds_toArray, List.set_cons_zero, List.set_cons_succ]
      refine wpAnyH_ready (rs := [5]) (by kernel_rfl) (by simp) ?_
      refine AllReadyH.cons rfl (fun K hK => ?_) AllReadyH.nil
      go_simp
      refine (cloneE_any ya el ec T _ EI.out hel).mono ?_
      rintro e w9 ⟨ge, ce, rfl, own5, bb⟩
      refine hK.out _ _ (⟨cell_in hHeld.1 bb, cell_in hHeld.2 bb⟩) (fun hHeld => ?_)
      clear hK K 
      have H9 := aside (HD.out.on bb)
      have KF9 := aside (blk_on KFD.out bb)
      have KZ9 := aside (blk_on KZD.out bb)
      have BW9 := aside (BWD.out.trans (bb.mono BWD.out.size))
      have c9 := cell_in c7' bb
      have z9 : w9.frozen? ⟨g, j * 8 + 7, none⟩ = false := H9.out.row.frozenAt (j * 8 + 7)
      have HGE := own5.lt ge rfl
      have OWN9 := aside (own_low own5 (show fb ≤ X1.drew.heap.size by have := BWD.out.size; have := HFB.out; omega))
      have HAP := aside (fun i (hi : i < j) => (show (Q i).ea ≠ some ⟨ge, 0, none⟩ from fun e => by
        obtain ⟨q, k1, k2⟩ := HD.out.ent i hi
        rw [k1] at e
        injection e with e
        injection e with e _ _
        have h3 := (k2.lt q rfl).2
        have h4 := HGE.1
        omega))
      clear own5 bb HD KFD KZD BWD c7' HGE EI
      refine wpAnyH_take (i := 6) (v := ?_) rfl (by kernel_rfl) (by kernel_rfl) (by kernel_rfl) (fun _ _ _ h => h) (Or.inl ⟨by rfl, ?_⟩) (by assumption) ?_
      rotate_left
      · intro w hSw
        go_simp
        try with_reducible rfl
      simp only [Act.put, List.getElem_toArray, List.getElem_cons_zero, List.getElem_cons_succ, List.setIfInBounds_toArray, List.set_cons_zero, List.set_cons_succ]
      refine wpAnyH_take (i := 7) (v := ?_) rfl (by kernel_rfl) (by kernel_rfl) (by kernel_rfl) (fun _ _ _ h => h) (Or.inl ⟨by rfl, ?_⟩) (by assumption) ?_
      rotate_left
      · intro w hSw
        go_simp
        try with_reducible rfl
      simp only [Act.put, List.getElem_toArray, List.getElem_cons_zero, List.getElem_cons_succ, List.setIfInBounds_toArray, List.set_cons_zero, List.set_cons_succ]
      refine wpAnyH_ready (rs := [8]) (by kernel_rfl) (by simp) ?_
      refine AllReadyH.cons rfl (fun K hK => ?_) AllReadyH.nil
      go_simp
      refine hK.out _ _ ⟨(World.cell?_setCell_far _ _ _ _ (show g ≠ fb from HGN.out.1)).trans hHeld.1, (World.cell?_setCell_far _ _ _ _ (show g ≠ pb from HGN.out.2.2)).trans hHeld.2⟩ (fun hHeld => ?_)
      clear hK K c9 z9 hHeld
      refine wpAnyH_done (by kernel_rfl) ?_ _
      have HN := aside (H9.out.put hltn HQJ.out OWN9.out HAP.out HKY.out)
      have KFN := aside (set_far1 KF9.out (fun e => HGN.out.1 e.symm) (j * 8 + 7) (.slice (some ⟨ge, 0, none⟩) el ce))
      have KZN := aside (set_far1 KZ9.out (fun e => HGN.out.2.1 e.symm) (j * 8 + 7) (.slice (some ⟨ge, 0, none⟩) el ce))
      have BWN := aside (BW9.out.setCell (p := ⟨g, j * 8 + 7, none⟩) (show w.heap.size ≤ g by have := HFB.out; have := HGB.out; omega) (.slice (some ⟨ge, 0, none⟩) el ce))
      clear H9 KF9 KZ9 BW9 OWN9 HAP
      go_wp2
      go_roundw
      case rel => exact ⟨j + 1, _, by go_num, by omega, HN.out, fun i hi => by
        by_cases e : i = j
        · subst e
          rw [putP_at, HP.out]
          exact ⟨rfl, rfl, rfl, rfl, rfl, rfl, rfl, rfl, fun _ _ => rfl⟩
        · rw [putP_ne e]
          exact HS.out i (by omega), KFN.out, KZN.out, BWN.out⟩
      case measure => simp [intOf]; omega
    · have hjl : j = len := by omega
      subst hjl
      obtain ⟨f0, f1, f2, f3, f4, f5, f6⟩ := sep7 KFr.out
      obtain ⟨z0, z1, z2, z3, z4, z5, z6⟩ := sep7 KZr.out
      have y0 := frozen_of_row _ _ 0 _ _ KZr.out
      have y1 := frozen_of_row _ _ 1 _ _ KZr.out
      have y2 := frozen_of_row _ _ 2 _ _ KZr.out
      have y3 := frozen_of_row _ _ 3 _ _ KZr.out
      have y4 := frozen_of_row _ _ 4 _ _ KZr.out
      have y5 := frozen_of_row _ _ 5 _ _ KZr.out
      have y6 := frozen_of_row _ _ 6 _ _ KZr.out
      have KR := (set_in 6 (.slice (some ⟨g, 0, none⟩) j cp) (set_in 5 (.int .i64 tn) (set_in 4 (.int .i64 n) (set_in 3 (.int .i64 l) (set_in 2 (.int .i64 o) (set_in 1 (.int .i64 tz) (set_in 0 (.int .i64 fr) KZr.out)))))))
      simp only [List.setIfInBounds_toArray, List.set_cons_zero, List.set_cons_succ] at KR
      obtain ⟨s0, s1, s2, s3, s4, s5, s6⟩ := sep7 KR
      have EG0 := HH.out.own
      have BG0 := BW.out
      have EG1 := EG0.far KZr.out (by decide) (by decide) 0 (.int .i64 fr)
      have BG1 := BG0.setCell (p := ⟨fb + 1, 0, none⟩) (show w.heap.size ≤ fb + 1 by have := HFB.out; omega) (.int .i64 fr)
      have EG2 := EG1.far (set_in 0 (.int .i64 fr) KZr.out) (by decide) (by decide) 1 (.int .i64 tz)
      have BG2 := BG1.setCell (p := ⟨fb + 1, 1, none⟩) (show w.heap.size ≤ fb + 1 by have := HFB.out; omega) (.int .i64 tz)
      have EG3 := EG2.far (set_in 1 (.int .i64 tz) (set_in 0 (.int .i64 fr) KZr.out)) (by decide) (by decide) 2 (.int .i64 o)
      have BG3 := BG2.setCell (p := ⟨fb + 1, 2, none⟩) (show w.heap.size ≤ fb + 1 by have := HFB.out; omega) (.int .i64 o)
      have EG4 := EG3.far (set_in 2 (.int .i64 o) (set_in 1 (.int .i64 tz) (set_in 0 (.int .i64 fr) KZr.out))) (by decide) (by decide) 3 (.int .i64 l)
      have BG4 := BG3.setCell (p := ⟨fb + 1, 3, none⟩) (show w.heap.size ≤ fb + 1 by have := HFB.out; omega) (.int .i64 l)
      have EG5 := EG4.far (set_in 3 (.int .i64 l) (set_in 2 (.int .i64 o) (set_in 1 (.int .i64 tz) (set_in 0 (.int .i64 fr) KZr.out)))) (by decide) (by decide) 4 (.int .i64 n)
      have BG5 := BG4.setCell (p := ⟨fb + 1, 4, none⟩) (show w.heap.size ≤ fb + 1 by have := HFB.out; omega) (.int .i64 n)
      have EG6 := EG5.far (set_in 4 (.int .i64 n) (set_in 3 (.int .i64 l) (set_in 2 (.int .i64 o) (set_in 1 (.int .i64 tz) (set_in 0 (.int .i64 fr) KZr.out))))) (by decide) (by decide) 5 (.int .i64 tn)
      have BG6 := BG5.setCell (p := ⟨fb + 1, 5, none⟩) (show w.heap.size ≤ fb + 1 by have := HFB.out; omega) (.int .i64 tn)
      have EG7 := EG6.far (set_in 5 (.int .i64 tn) (set_in 4 (.int .i64 n) (set_in 3 (.int .i64 l) (set_in 2 (.int .i64 o) (set_in 1 (.int .i64 tz) (set_in 0 (.int .i64 fr) KZr.out)))))) (by decide) (by decide) 6 (.slice (some ⟨g, 0, none⟩) j cp)
      have BG7 := BG6.setCell (p := ⟨fb + 1, 6, none⟩) (show w.heap.size ≤ fb + 1 by have := HFB.out; omega) (.slice (some ⟨g, 0, none⟩) j cp)
      have EG := aside EG7
      have BF := aside BG7
      have HS' := aside (And.intro s0 (And.intro s1 (And.intro s2 (And.intro s3 (And.intro s4 (And.intro s5 s6))))))
      clear KR s0 s1 s2 s3 s4 s5 s6 EG0 BG0 EG1 BG1 EG2 BG2 EG3 BG3 EG4 BG4 EG5 BG5 EG6 BG6 EG7 BG7
      go_wp2
      obtain ⟨s0, s1, s2, s3, s4, s5, s6⟩ := HS'.out
      exact bodyPost_ret (v := .agg #[.int .i64 fr, .int .i64 tz, .int .i64 o, .int .i64 l, .int .i64 n, .int .i64 tn, .slice (some ⟨g, 0, none⟩) j cp]) (by simp [results, Try.results16, go_sem, s0, s1, s2, s3, s4, s5, s6]) rfl ⟨g, cp, rfl, Q, by rw [HFB.out]; exact EG.out, HS.out, BF.out⟩
end Go.Proofs.Ytoabncoigleiaaa
