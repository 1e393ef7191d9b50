/-
  A lent frame used: its lists without the marks, which lie behind them.
  A lent frame is still what it was: the marks behind its lists, and the same frame before them.
-/
import Derived.Test.YtoabncoigleiaaaBf13
import Derived.Test.YtoabncoigleiaaaBf4
namespace Go.Proofs.Ytoabncoigleiaaa
open Go.RowKit
set_option linter.unusedVariables false
theorem LentF.on {w w' : World} {B g n cp : Nat} {P Q : Nat → Pm} {d : Nat → Nat} (h : LentF w B g n cp P Q d) (b : Below w.heap.size w w') : LentF w' B g n cp P Q d :=
  ⟨own_on h.row b, fun i hi => by obtain ⟨ge, h1, h2⟩ := h.ent i hi; exact ⟨ge, h1, own_on h2 b⟩, h.apart, h.keys, h.vals⟩
theorem LentF.far {w : World} {B g n cp b t : Nat} {P Q : Nat → Pm} {d : Nat → Nat} {cs : Array Value} (h : LentF w B g n cp P Q d) (hb : B ≤ b) (hk : w.heap[b]? = some (.cells cs t (0, 0))) (h1 : 55 ≠ t) (h2 : 51 ≠ t) (j : Nat) (u : Value) : LentF (w.setCell ⟨b, j, none⟩ u) B g n cp P Q d :=
  ⟨own_apartF h.row (fun e => own_blk h.row hk h2 e.symm) u, lent_ents h.ent hb hk h1 j u, h.apart, h.keys, h.vals⟩
theorem LentF.to {w : World} {B g n cp : Nat} {P Q : Nat → Pm} {d d' : Nat → Nat} (h : LentF w B g n cp P Q d) (e : ∀ i, i < n → d' i = d i) : LentF w B g n cp P Q d' :=
  ⟨h.row, h.ent, h.apart, h.keys, fun i hi => by rw [e i hi]; exact h.vals i hi⟩
theorem LentF.part {w : World} {B g n cp i : Nat} {P Q : Nat → Pm} {d : Nat → Nat} (h : LentF w B g n cp P Q d) (hi : i < n) : w.cell? ⟨g, i * 8 + 7, none⟩ = some (.slice (Q i).ea (Q i).el (Q i).ec) := by
  have h1 := rowP_cells h.row (i := i) (by rw [List.length_append, firstP_len]; omega)
  have h2 : nthP (firstP Q n ++ [pmK 77, pmK 78]) i = Q i := by
    unfold nthP firstP
    rw [List.getD, List.getElem?_append_left (by simp; exact hi), List.getElem?_map, List.getElem?_range hi]; rfl
  rw [h2] at h1
  exact h1.2.2.2.2.2.2.2
theorem LentF.put {w : World} {B g n cp j : Nat} {P Q : Nat → Pm} {d d' : Nat → Nat} (h : LentF w B g n cp P Q d) (hj : j < n) (e : ∀ i, i < n → d' i = if i = j then 0 else d i) :
    LentF (w.setCell ⟨g, j * 8 + 7, none⟩ (.slice (Q j).ea (P j).el (Q j).ec)) B g n cp P (putP Q j ((Q j).with (Q j).ea (P j).el (Q j).ec (P j).T)) d' := by
  refine ⟨?_, fun i hi => ?_, fun i k hi hk hne => ?_, h.keys, fun i hi => ?_⟩
  · have h0 : (firstP Q n ++ [pmK 77, pmK 78])[j]? = some (Q j) := by
      unfold firstP
      rw [List.getElem?_append_left (by simp; exact hj), List.getElem?_map, List.getElem?_range hj]; rfl
    have h1 := ptCells_set (firstP Q n ++ [pmK 77, pmK 78]) j (Q j) ((Q j).with (Q j).ea (P j).el (Q j).ec (P j).T) h0 (by rfl)
    rw [List.set_append_left _ _ (by rw [firstP_len]; exact hj), ← firstP_put Q n j _ hj] at h1
    rw [← h1]
    exact (h.row.stored (j * 8 + 7) _).1
  · obtain ⟨ge, k1, k2⟩ := h.ent i hi
    have k3 := own_apartF k2 (a := g) (k := j * 8 + 7) (fun q => by subst q; exact absurd (own_type k2 h.row) (by decide)) (.slice (Q j).ea (P j).el (Q j).ec)
    by_cases e : i = j
    · subst e
      rw [putP_at]
      exact ⟨ge, k1, k3⟩
    · rw [putP_ne e]
      exact ⟨ge, k1, k3⟩
  · have hq : ∀ x, (putP Q j ((Q j).with (Q j).ea (P j).el (Q j).ec (P j).T) x).ea = (Q x).ea := fun x => by
      by_cases e : x = j
      · subst e; rw [putP_at]; rfl
      · rw [putP_ne e]
    rw [hq, hq]
    exact h.apart i k hi hk hne
  · obtain ⟨l1, l2, l3, l4, l5, l6, l7, l8⟩ := h.vals i hi
    rw [e i hi]
    by_cases e : i = j
    · subst e
      rw [putP_at, if_pos rfl]
      exact ⟨l1, l2, l3, l4, l5, l6, l7, rfl⟩
    · rw [putP_ne e, if_neg e]
      exact ⟨l1, l2, l3, l4, l5, l6, l7, l8⟩
/-- What used tells. -/
def UsedR (w : World) (B g len cp : Nat) (P : Nat → Pm) (hd : Option Addr → Nat → Nat → Value) (e : Ending) (w' : World) : Prop := ∃ Q, e = .returned (hd (some ⟨g, 0, none⟩) len cp) ∧ LentF w' B g len cp P Q (fun _ => 0) ∧ Keeps (fun x => x = g) w w'
set_option maxHeartbeats 6400000 in
set_option maxRecDepth 100000 in
theorem used_any (fr tz o l n tn : Int) (B g len cp : Nat) (P Q : Nat → Pm) (w : World) (h : LentF w B g len cp P Q (fun _ => 2)) (hB : B ≤ w.heap.size) (hz : len ≤ 536870912) (hel : ∀ i, i < len → (P i).el ≤ 536870912) :
    Calls Try.prog 11 #[.agg #[.int .i64 fr, .int .i64 tz, .int .i64 o, .int .i64 l, .int .i64 n, .int .i64 tn, .slice (some ⟨g, 0, none⟩) (len + 2) cp]] w (UsedR w B g len cp P (fun x y z => .agg #[.int .i64 fr, .int .i64 tz, .int .i64 o, .int .i64 l, .int .i64 n, .int .i64 tn, .slice x y z])) := by
  have HZ := aside hz
  have HEL := aside hel
  have HB := aside hB
  have hcp : len + 2 ≤ cp := (row_max h.row).1
  have hcm : cp ≤ 9223372036854775807 := by have := (row_max h.row).2; unfold maxLen at this; omega
  have HCP := aside hcp
  have hmx : (len : Int) ≤ 9223372036854775807 := by omega
  have bn := bthen (bnew w (.cells #[.int .i64 fr, .int .i64 tz, .int .i64 o, .int .i64 l, .int .i64 n, .int .i64 tn, .slice (some ⟨g, 0, none⟩) (len + 2) cp] 26)) (bnew _ (.cells #[.int .i64 0, .int .i64 0, .int .i64 0, .int .i64 0, .int .i64 0, .int .i64 0, .slice none 0 0] 26))
  have K2 := aside (heap_alloc_new (w.alloc (.cells #[.int .i64 fr, .int .i64 tz, .int .i64 o, .int .i64 l, .int .i64 n, .int .i64 tn, .slice (some ⟨g, 0, none⟩) (len + 2) cp] 26)) (.cells #[.int .i64 0, .int .i64 0, .int .i64 0, .int .i64 0, .int .i64 0, .int .i64 0, .slice none 0 0] 26))
  have K1 := aside (blk_on (heap_alloc_new w (.cells #[.int .i64 fr, .int .i64 tz, .int .i64 o, .int .i64 l, .int .i64 n, .int .i64 tn, .slice (some ⟨g, 0, none⟩) (len + 2) cp] 26)) (bnew _ (.cells #[.int .i64 0, .int .i64 0, .int .i64 0, .int .i64 0, .int .i64 0, .int .i64 0, .slice none 0 0] 26)))
  simp only [World.size_alloc] at K2
  have HL := aside (h.on bn)
  have BB := aside (Keeps.of_below bn (fun x => x = g))
  clear h bn hz hel hB
  go_enter Try.func11, Try.ntmps11
  go_upto_region 1 with fail
  obtain ⟨i1, hi1⟩ : ∃ i1, w.heap.size = i1 := ⟨_, rfl⟩
  obtain ⟨i2, hi2⟩ : ∃ i2, i1 + 1 = i2 := ⟨_, rfl⟩
  have HI := aside (show B ≤ i1 ∧ B ≤ i2 ∧ w.heap.size ≤ i2 by have := HB.out; omega)
  rw [hi1, hi2] at K2
  rw [hi1] at K1
  rw [hi1, hi2]
  clear hi1 hi2
  generalize (w.alloc (.cells #[.int .i64 fr, .int .i64 tz, .int .i64 o, .int .i64 l, .int .i64 n, .int .i64 tn, .slice (some ⟨g, 0, none⟩) (len + 2) cp] 26)).alloc (.cells #[.int .i64 0, .int .i64 0, .int .i64 0, .int .i64 0, .int .i64 0, .int .i64 0, .slice none 0 0] 26) = X0 at K1 K2 HL BB ⊢
  obtain ⟨f0, f1, f2, f3, f4, f5, f6⟩ := sep7 K1.out
  have hs1 : ((len + 2 : Nat) : Int) - 2 = (len : Int) := by omega
  go_upto_region 2 with fail
  have bn := bnew X0 (.cells #[.int .i64 fr, .int .i64 tz, .int .i64 o, .int .i64 l, .int .i64 n, .int .i64 tn, .slice (some ⟨g, 0, none⟩) (len + 2) cp] 26)
  have K4 := aside (heap_alloc_new X0 (.cells #[.int .i64 fr, .int .i64 tz, .int .i64 o, .int .i64 l, .int .i64 n, .int .i64 tn, .slice (some ⟨g, 0, none⟩) (len + 2) cp] 26))
  have HI2X := aside (show i2 < X0.heap.size from (Array.getElem?_eq_some_iff.1 K2.out).1)
  replace K2 := aside (blk_on K2.out bn)
  replace HL := aside (HL.out.on bn)
  replace BB := aside (BB.out.alloc (.cells #[.int .i64 fr, .int .i64 tz, .int .i64 o, .int .i64 l, .int .i64 n, .int .i64 tn, .slice (some ⟨g, 0, none⟩) (len + 2) cp] 26))
  clear bn K1
  go_upto_region 3 with fail
  obtain ⟨i4, hi4⟩ : ∃ i4, X0.heap.size = i4 := ⟨_, rfl⟩
  have HI4 := aside (show B ≤ i4 ∧ i2 ≠ i4 ∧ w.heap.size ≤ i4 from by have h1 := HI2X.out; have h2 := HI.out; omega)
  rw [hi4] at K4 ⊢
  clear hi4 f0 f1 f2 f3 f4 f5 f6 HI2X
  generalize X0.alloc (.cells #[.int .i64 fr, .int .i64 tz, .int .i64 o, .int .i64 l, .int .i64 n, .int .i64 tn, .slice (some ⟨g, 0, none⟩) (len + 2) cp] 26) = X1 at K2 K4 HL BB ⊢
  obtain ⟨f0, f1, f2, f3, f4, f5, f6⟩ := sep7 K4.out
  have fz6 := frozen_of_row _ _ 6 _ _ K4.out
  go_upto_region 4 with fail
  have kz := set_in 6 (.slice (some ⟨g, 0, none⟩) len cp) K4.out
  simp only [List.setIfInBounds_toArray, List.set_cons_zero, List.set_cons_succ] at kz
  have K4b := aside K4.out
  replace K4 := aside kz
  replace K2 := aside (set_far1 K2.out HI4.out.2.1 6 (.slice (some ⟨g, 0, none⟩) len cp))
  replace HL := aside (HL.out.far HI4.out.1 K4b.out (by decide) (by decide) 6 (.slice (some ⟨g, 0, none⟩) len cp))
  replace BB := aside (BB.out.setCell (p := ⟨i4, 6, none⟩) (fun q => absurd q (Nat.not_lt.2 HI4.out.2.2)) (.slice (some ⟨g, 0, none⟩) len cp))
  clear kz f0 f1 f2 f3 f4 f5 f6 fz6 K4b
  generalize X1.setCell ⟨i4, 6, none⟩ (.slice (some ⟨g, 0, none⟩) len cp) = X2 at K2 K4 HL BB ⊢
  go_wp2
  go_loopw [5] (fun t wr => ∃ (j : Nat) (Q : Nat → Pm), t = .int .i64 (j : Int) ∧ j ≤ len ∧ Hid (LentF wr B g len cp P Q (fun i => if i < j then 0 else 2)) ∧ Hid (wr.heap[i2]? = some (.cells #[.int .i64 0, .int .i64 0, .int .i64 0, .int .i64 0, .int .i64 0, .int .i64 0, .slice none 0 0] 26 (0, 0))) ∧ Hid (wr.heap[i4]? = some (.cells #[.int .i64 fr, .int .i64 tz, .int .i64 o, .int .i64 l, .int .i64 n, .int .i64 tn, .slice (some ⟨g, 0, none⟩) len cp] 26 (0, 0))) ∧ Hid (Keeps (fun x => x = g) w wr)) (fun t _ => len - (intOf t).toNat)
  case atStart => exact ⟨0, Q, rfl, Nat.zero_le _, HL.out.to (fun i _ => by simp), K2.out, K4.out, BB.out⟩
  case round =>
    clear K2 K4 BB HL
    obtain ⟨j, Q, rfl, hj, HL, K2, K4, BB⟩ := hrel
    by_cases hlt : (j : Int) < (len : Int)
    · have hj0 : (0 : Int) ≤ (j : Int) := by omega
      obtain ⟨ge, hea, hown⟩ := HL.out.ent j (by omega)
      have hc7 := HL.out.part (i := j) (by omega)
      have hqe := (HL.out.vals j (by omega)).2.2.2.2.2.2.2
      simp only [Nat.lt_irrefl, if_false] at hqe
      rw [hea, hqe] at hc7
      have HEA := aside hea
      have hle := (row_max hown).1
      have hem : (Q j).ec ≤ 9223372036854775807 := by have := (row_max hown).2; unfold maxLen at this; omega
      have fz : wr.frozen? ⟨g, j * 8 + 7, none⟩ = false := by
        rcases HL.out.row.2 with ⟨h1, _⟩ | ⟨q, c, cur, h1, h2, h3, _⟩
        · cases h1
        · injection h1 with e1 _ _
          injection e1 with e1
          injection e1 with e1 _ _
          subst e1
          exact frozen_of_row _ _ _ _ _ h3
      have HGP := aside (show B ≤ g ∧ i4 ≠ g ∧ i2 ≠ g from ⟨(HL.out.row.lt g rfl).1, fun e => by subst e; exact (own_blk HL.out.row K4.out (by decide)) rfl, fun e => by subst e; exact (own_blk HL.out.row K2.out (by decide)) rfl⟩)
      have HN := aside (HL.out.put (j := j) (d' := fun i => if i < j + 1 then 0 else 2) (by omega) (fun i hi => by
        by_cases e : i = j
        · subst e; simp
        · by_cases e2 : i < j
          · rw [if_pos (by omega), if_neg e, if_pos e2]
          · rw [if_neg (by omega), if_neg e, if_neg e2]))
      generalize putP Q j ((Q j).with (Q j).ea (P j).el (Q j).ec (P j).T) = Q2 at HN
      rw [hea] at HN
      clear hown hqe hea
      generalize (P j).el = el at hc7 hle HN
      generalize (Q j).ec = ec at hc7 hle hem HN
      have K2' := aside (set_far1 K2.out (HGP.out.2.2) (j * 8 + 7) (.slice (some ⟨ge, 0, none⟩) el ec))
      have K4' := aside (set_far1 K4.out (HGP.out.2.1) (j * 8 + 7) (.slice (some ⟨ge, 0, none⟩) el ec))
      have BB' := aside (BB.out.setCell (p := ⟨g, j * 8 + 7, none⟩) (fun _ => rfl) (.slice (some ⟨ge, 0, none⟩) el ec))
      clear HL K2 K4 BB
      have hs2 : ((el + 2 : Nat) : Int) - 2 = (el : Int) := by omega
      go_wp2_with fail
      go_roundw
      case rel => exact ⟨j + 1, Q2, by go_num, by omega, HN.out, K2'.out, K4'.out, BB'.out⟩
      case measure => simp [intOf]; omega
    · have hjl : j = len := by omega
      subst hjl
      obtain ⟨f0, f1, f2, f3, f4, f5, f6⟩ := sep7 K4.out
      obtain ⟨a0, a1, a2, a3, a4, a5, a6, hkz⟩ : ∃ a0 a1 a2 a3 a4 a5 a6 : Value, wr.heap[i2]? = some (Obj.cells #[a0, a1, a2, a3, a4, a5, a6] 26 (0, 0)) := ⟨_, _, _, _, _, _, _, K2.out⟩
      replace K2 := aside hkz
      clear hkz
      obtain ⟨z0, z1, z2, z3, z4, z5, z6⟩ := sep7 K2.out
      have y0 := frozen_of_row _ _ 0 _ _ K2.out
      have y1 := frozen_of_row _ _ 1 _ _ K2.out
      have y2 := frozen_of_row _ _ 2 _ _ K2.out
      have y3 := frozen_of_row _ _ 3 _ _ K2.out
      have y4 := frozen_of_row _ _ 4 _ _ K2.out
      have y5 := frozen_of_row _ _ 5 _ _ K2.out
      have y6 := frozen_of_row _ _ 6 _ _ K2.out
      have kz := (set_in 6 (.slice (some ⟨g, 0, none⟩) j cp) (set_in 5 (.int .i64 tn) (set_in 4 (.int .i64 n) (set_in 3 (.int .i64 l) (set_in 2 (.int .i64 o) (set_in 1 (.int .i64 tz) (set_in 0 (.int .i64 fr) K2.out)))))))
      simp only [List.setIfInBounds_toArray, List.set_cons_zero, List.set_cons_succ] at kz
      have KR := aside kz
      have EG0 := HL.out
      have BG0 := BB.out
      have EG1 := EG0.far HI.out.2.1 K2.out (by decide) (by decide) 0 (.int .i64 fr)
      have BG1 := BG0.setCell (p := ⟨i2, 0, none⟩) (fun q => absurd q (Nat.not_lt.2 HI.out.2.2)) (.int .i64 fr)
      have EG2 := EG1.far HI.out.2.1 (set_in 0 (.int .i64 fr) K2.out) (by decide) (by decide) 1 (.int .i64 tz)
      have BG2 := BG1.setCell (p := ⟨i2, 1, none⟩) (fun q => absurd q (Nat.not_lt.2 HI.out.2.2)) (.int .i64 tz)
      have EG3 := EG2.far HI.out.2.1 (set_in 1 (.int .i64 tz) (set_in 0 (.int .i64 fr) K2.out)) (by decide) (by decide) 2 (.int .i64 o)
      have BG3 := BG2.setCell (p := ⟨i2, 2, none⟩) (fun q => absurd q (Nat.not_lt.2 HI.out.2.2)) (.int .i64 o)
      have EG4 := EG3.far HI.out.2.1 (set_in 2 (.int .i64 o) (set_in 1 (.int .i64 tz) (set_in 0 (.int .i64 fr) K2.out))) (by decide) (by decide) 3 (.int .i64 l)
      have BG4 := BG3.setCell (p := ⟨i2, 3, none⟩) (fun q => absurd q (Nat.not_lt.2 HI.out.2.2)) (.int .i64 l)
      have EG5 := EG4.far HI.out.2.1 (set_in 3 (.int .i64 l) (set_in 2 (.int .i64 o) (set_in 1 (.int .i64 tz) (set_in 0 (.int .i64 fr) K2.out)))) (by decide) (by decide) 4 (.int .i64 n)
      have BG5 := BG4.setCell (p := ⟨i2, 4, none⟩) (fun q => absurd q (Nat.not_lt.2 HI.out.2.2)) (.int .i64 n)
      have EG6 := EG5.far HI.out.2.1 (set_in 4 (.int .i64 n) (set_in 3 (.int .i64 l) (set_in 2 (.int .i64 o) (set_in 1 (.int .i64 tz) (set_in 0 (.int .i64 fr) K2.out))))) (by decide) (by decide) 5 (.int .i64 tn)
      have BG6 := BG5.setCell (p := ⟨i2, 5, none⟩) (fun q => absurd q (Nat.not_lt.2 HI.out.2.2)) (.int .i64 tn)
      have EG7 := EG6.far HI.out.2.1 (set_in 5 (.int .i64 tn) (set_in 4 (.int .i64 n) (set_in 3 (.int .i64 l) (set_in 2 (.int .i64 o) (set_in 1 (.int .i64 tz) (set_in 0 (.int .i64 fr) K2.out)))))) (by decide) (by decide) 6 (.slice (some ⟨g, 0, none⟩) j cp)
      have BG7 := BG6.setCell (p := ⟨i2, 6, none⟩) (fun q => absurd q (Nat.not_lt.2 HI.out.2.2)) (.slice (some ⟨g, 0, none⟩) j cp)
      have EG := aside (EG7.to (d' := fun _ => 0) (fun i hi => (if_pos hi).symm))
      have BG := aside BG7
      clear kz EG0 BG0 EG1 BG1 EG2 BG2 EG3 BG3 EG4 BG4 EG5 BG5 EG6 BG6 EG7 BG7 HL BB
      go_wp2
      obtain ⟨r0, r1, r2, r3, r4, r5, r6⟩ := sep7 KR.out
      exact bodyPost_ret (v := .agg #[.int .i64 fr, .int .i64 tz, .int .i64 o, .int .i64 l, .int .i64 n, .int .i64 tn, .slice (some ⟨g, 0, none⟩) j cp]) (by simp [results, Try.results11, go_sem, r0, r1, r2, r3, r4, r5, r6]) rfl ⟨Q, rfl, EG.out, BG.out⟩
end Go.Proofs.Ytoabncoigleiaaa
namespace Go.Proofs.Ytoabncoigleiaaa
open Go.RowKit
set_option linter.unusedVariables false
theorem extT_at (T : Nat → En) (n : Nat) : extT T n n = mkE := by
  unfold extT; rw [if_neg (Nat.lt_irrefl n), if_pos rfl]
theorem extT_at1 (T : Nat → En) (n : Nat) : extT T n (n + 1) = bhE := by
  unfold extT; rw [if_neg (by omega), if_neg (by omega)]
def UQ (P Q : Nat → Pm) : Nat → Pm := fun i => (Q i).with (Q i).ea (Q i).el (Q i).ec (P i).T
theorem marks_nth (Q : Nat → Pm) {n i : Nat} (hi : i < n) : nthP (firstP Q n ++ [pmK 77, pmK 78]) i = Q i := by
  unfold nthP firstP
  rw [List.getD, List.getElem?_append_left (by simp; exact hi), List.getElem?_map, List.getElem?_range hi]; rfl
theorem marks_77 (Q : Nat → Pm) (n : Nat) : nthP (firstP Q n ++ [pmK 77, pmK 78]) n = pmK 77 := by
  unfold nthP
  rw [List.getD, List.getElem?_append_right (by rw [firstP_len]; exact Nat.le_refl _), firstP_len, Nat.sub_self]; rfl
theorem marks_78 (Q : Nat → Pm) (n : Nat) : nthP (firstP Q n ++ [pmK 77, pmK 78]) (n + 1) = pmK 78 := by
  unfold nthP
  rw [List.getD, List.getElem?_append_right (by rw [firstP_len]; omega), firstP_len, Nat.add_sub_cancel_left]; rfl
theorem LentF.kinds {w : World} {B g n cp : Nat} {P Q : Nat → Pm} {d : Nat → Nat} (h : LentF w B g n cp P Q d) : w.cell? ⟨g, n * 8, none⟩ = some (.int .i64 77) ∧ w.cell? ⟨g, (n + 1) * 8, none⟩ = some (.int .i64 78) := by
  have h1 := (rowP_cells h.row (i := n) (by rw [List.length_append, firstP_len]; simp)).1
  have h2 := (rowP_cells h.row (i := n + 1) (by rw [List.length_append, firstP_len]; simp)).1
  rw [marks_77] at h1
  rw [marks_78] at h2
  exact ⟨h1, h2⟩
theorem LentF.mark {w : World} {B g n cp i : Nat} {P Q : Nat → Pm} (h : LentF w B g n cp P Q (fun _ => 0)) (hi : i < n) : ∃ ge, w.cell? ⟨g, i * 8 + 7, none⟩ = some (.slice (some ⟨ge, 0, none⟩) (P i).el (Q i).ec) ∧ (P i).el + 2 ≤ (Q i).ec ∧ (Q i).ec ≤ 9223372036854775807 ∧ w.cell? ⟨ge, (P i).el * 5, none⟩ = some (.string ⟨#[109, 97, 114, 107]⟩) ∧ w.cell? ⟨ge, ((P i).el + 1) * 5, none⟩ = some (.string ⟨#[98, 101, 104, 105, 110, 100]⟩) := by
  obtain ⟨ge, k1, k2⟩ := h.ent i hi
  have hp := h.part hi
  have hv := (h.vals i hi).2.2.2.2.2.2.2
  rw [k1, hv] at hp
  refine ⟨ge, hp, (row_max k2).1, by have := (row_max k2).2; unfold maxLen at this; omega, ?_, ?_⟩
  · have := (row_cells k2 (i := (P i).el) (by unfold firstEF; simp)).1
    rw [firstEF_get _ (by omega), extT_at] at this
    exact this
  · have := (row_cells k2 (i := (P i).el + 1) (by unfold firstEF; simp)).1
    rw [firstEF_get _ (by omega), extT_at1] at this
    exact this
theorem LentF.parts {w : World} {B g n cp : Nat} {P Q : Nat → Pm} (h : LentF w B g n cp P Q (fun _ => 0)) : PartsIn w (some ⟨g, 0, none⟩) n cp (UQ P Q) := by
  have hm := row_max h.row
  refine ⟨by omega, hm.2, .inr ⟨g, 0, rfl, (h.row.lt g rfl).2, fun i hi => ⟨?_, ?_⟩⟩⟩
  · have := rowP_cells h.row (i := i) (by rw [List.length_append, firstP_len]; omega)
    rw [marks_nth Q hi] at this
    simpa [PmAt, UQ, Pm.with] using this
  · obtain ⟨ge, k1, k2⟩ := h.ent i hi
    have hv := (h.vals i hi).2.2.2.2.2.2.2
    rw [Nat.add_zero] at hv
    show EntsIn w (Q i).ea (Q i).el (Q i).ec (P i).T
    rw [k1, hv]
    refine ⟨by have := (row_max k2).1; omega, (row_max k2).2, .inr ⟨ge, 0, rfl, (k2.lt ge rfl).2, fun k hk => ⟨?_, h.keys i hi k hk⟩⟩⟩
    have := row_cells k2 (i := k) (by unfold firstEF; simp; omega)
    rw [firstEF_get _ (by omega), extT_lt hk] at this
    simpa using this
theorem LentF.same {w : World} {B g n cp : Nat} {P Q R : Nat → Pm} (h : LentF w B g n cp P Q (fun _ => 0)) (hs : ∀ i, i < n → SamePm (R i) (P i)) : ∀ i, i < n → SamePm (UQ P Q i) (R i) := by
  intro i hi
  obtain ⟨l1, l2, l3, l4, l5, l6, l7, l8⟩ := h.vals i hi
  obtain ⟨m1, m2, m3, m4, m5, m6, m7, m8, m9⟩ := hs i hi
  refine ⟨l1.trans m1.symm, l2.trans m2.symm, l3.trans m3.symm, l4.trans m4.symm, l5.trans m5.symm, l6.trans m6.symm, l7.trans m7.symm, l8.trans m8.symm, fun k hk => ?_⟩
  have hk' : k < (Q i).el := hk
  exact (m9 k (by rw [l8] at hk'; omega)).symm
set_option maxHeartbeats 6400000 in
set_option maxRecDepth 100000 in
theorem still_any (fr tz o l n tn : Int) (B g len cp : Nat) (P Q : Nat → Pm) (b : Option Addr) (cb : Nat) (R : Nat → Pm) (w : World) (h : LentF w B g len cp P Q (fun _ => 0)) (hf : PartsIn w b len cb R) (hS : ∀ i, i < len → SamePm (R i) (P i)) :
    Calls Try.prog 14 #[.agg #[.int .i64 fr, .int .i64 tz, .int .i64 o, .int .i64 l, .int .i64 n, .int .i64 tn, .slice (some ⟨g, 0, none⟩) (len + 2) cp], .agg #[.int .i64 fr, .int .i64 tz, .int .i64 o, .int .i64 l, .int .i64 n, .int .i64 tn, .slice b len cb]] w fun e w' => e = .returned (.bool true) ∧ Below w.heap.size w w' := by
  have HM := aside (fun (i : Nat) (hi : i < len) => (h.on (bthen (bnew w (.cells #[.int .i64 fr, .int .i64 tz, .int .i64 o, .int .i64 l, .int .i64 n, .int .i64 tn, .slice (some ⟨g, 0, none⟩) (len + 2) cp] 26)) (bnew _ (.cells #[.int .i64 fr, .int .i64 tz, .int .i64 o, .int .i64 l, .int .i64 n, .int .i64 tn, .slice b len cb] 26)))).mark hi)
  have hkk := (h.on (bthen (bnew w (.cells #[.int .i64 fr, .int .i64 tz, .int .i64 o, .int .i64 l, .int .i64 n, .int .i64 tn, .slice (some ⟨g, 0, none⟩) (len + 2) cp] 26)) (bnew _ (.cells #[.int .i64 fr, .int .i64 tz, .int .i64 o, .int .i64 l, .int .i64 n, .int .i64 tn, .slice b len cb] 26)))).kinds
  have hcp : len + 2 ≤ cp := (row_max h.row).1
  have hcm : cp ≤ 9223372036854775807 := by have := (row_max h.row).2; unfold maxLen at this; omega
  have hmx : (len : Int) ≤ 9223372036854775807 := by omega
  have HP := aside (h.parts.keep (bthen (bnew w (.cells #[.int .i64 fr, .int .i64 tz, .int .i64 o, .int .i64 l, .int .i64 n, .int .i64 tn, .slice (some ⟨g, 0, none⟩) (len + 2) cp] 26)) (bnew _ (.cells #[.int .i64 fr, .int .i64 tz, .int .i64 o, .int .i64 l, .int .i64 n, .int .i64 tn, .slice b len cb] 26))))
  have HF := aside (hf.keep (bthen (bnew w (.cells #[.int .i64 fr, .int .i64 tz, .int .i64 o, .int .i64 l, .int .i64 n, .int .i64 tn, .slice (some ⟨g, 0, none⟩) (len + 2) cp] 26)) (bnew _ (.cells #[.int .i64 fr, .int .i64 tz, .int .i64 o, .int .i64 l, .int .i64 n, .int .i64 tn, .slice b len cb] 26))))
  have HS := aside (h.same hS)
  have BB := aside (bthen (bnew w (.cells #[.int .i64 fr, .int .i64 tz, .int .i64 o, .int .i64 l, .int .i64 n, .int .i64 tn, .slice (some ⟨g, 0, none⟩) (len + 2) cp] 26)) (bnew _ (.cells #[.int .i64 fr, .int .i64 tz, .int .i64 o, .int .i64 l, .int .i64 n, .int .i64 tn, .slice b len cb] 26)))
  have K1 := aside (blk_on (heap_alloc_new w (.cells #[.int .i64 fr, .int .i64 tz, .int .i64 o, .int .i64 l, .int .i64 n, .int .i64 tn, .slice (some ⟨g, 0, none⟩) (len + 2) cp] 26)) (bnew _ (.cells #[.int .i64 fr, .int .i64 tz, .int .i64 o, .int .i64 l, .int .i64 n, .int .i64 tn, .slice b len cb] 26)))
  have K2 := aside (heap_alloc_new (w.alloc (.cells #[.int .i64 fr, .int .i64 tz, .int .i64 o, .int .i64 l, .int .i64 n, .int .i64 tn, .slice (some ⟨g, 0, none⟩) (len + 2) cp] 26)) (.cells #[.int .i64 fr, .int .i64 tz, .int .i64 o, .int .i64 l, .int .i64 n, .int .i64 tn, .slice b len cb] 26))
  simp only [World.size_alloc] at K2
  clear h hf hS
  generalize UQ P Q = U at HP HS
  go_enter Try.func14, Try.ntmps14
  go_upto_region 1 with fail
  obtain ⟨i1, hi1⟩ : ∃ i1, w.heap.size = i1 := ⟨_, rfl⟩
  obtain ⟨i2, hi2⟩ : ∃ i2, i1 + 1 = i2 := ⟨_, rfl⟩
  rw [hi1, hi2] at K2
  rw [hi1] at K1
  rw [hi1, hi2]
  clear hi1 hi2
  generalize (w.alloc (.cells #[.int .i64 fr, .int .i64 tz, .int .i64 o, .int .i64 l, .int .i64 n, .int .i64 tn, .slice (some ⟨g, 0, none⟩) (len + 2) cp] 26)).alloc (.cells #[.int .i64 fr, .int .i64 tz, .int .i64 o, .int .i64 l, .int .i64 n, .int .i64 tn, .slice b len cb] 26) = X0 at K1 K2 HM hkk HP HF BB ⊢
  obtain ⟨hk7, hk8⟩ := hkk
  obtain ⟨f0, f1, f2, f3, f4, f5, f6⟩ := sep7 K1.out
  obtain ⟨e0, e1, e2, e3, e4, e5, e6⟩ := sep7 K2.out
  have hs1 : ((len + 2 : Nat) : Int) - 2 = (len : Int) := by omega
  go_upto_region 2 with fail
  go_upto_region 4 with fail
  go_wp2
  go_loopw [6] (fun t wr => ∃ (j : Nat), t = .int .i64 (j : Int) ∧ j ≤ len ∧ wr = X0) (fun t _ => len - (intOf t).toNat)
  case atStart => exact ⟨0, rfl, Nat.zero_le _, rfl⟩
  case round =>
    obtain ⟨j, rfl, hj, rfl⟩ := hrel
    by_cases hlt : (j : Int) < (len : Int)
    · have hj0 : (0 : Int) ≤ (j : Int) := by omega
      obtain ⟨ge, hc7, hle, hem, hm1, hm2⟩ := HM.out j (by omega)
      generalize (P j).el = el at hc7 hle hm1 hm2
      generalize (Q j).ec = ec at hc7 hle hem
      go_wp2_with fail
      go_roundw
      case rel => exact ⟨j + 1, by go_num, by omega, trivial⟩
      case measure => simp [intOf]; omega
    · have hjl : j = len := by omega
      subst hjl
      have bn := bnew wr (.cells #[.int .i64 fr, .int .i64 tz, .int .i64 o, .int .i64 l, .int .i64 n, .int .i64 tn, .slice (some ⟨g, 0, none⟩) (j + 2) cp] 26)
      have K3 := aside (heap_alloc_new wr (.cells #[.int .i64 fr, .int .i64 tz, .int .i64 o, .int .i64 l, .int .i64 n, .int .i64 tn, .slice (some ⟨g, 0, none⟩) (j + 2) cp] 26))
      clear hk7 hk8 HM
      go_upto_region 12 with fail
      obtain ⟨i3, hi3⟩ : ∃ i3, wr.heap.size = i3 := ⟨_, rfl⟩
      have fz6 := frozen_of_row _ _ 6 _ _ K3.out
      obtain ⟨g0, g1, g2, g3, g4, g5, g6⟩ := sep7 K3.out
      have b3 := (bn.setCell (p := ⟨wr.heap.size, 6, none⟩) (Nat.le_refl _) (.slice (some ⟨g, 0, none⟩) j cp))
      have kz := set_in 6 (.slice (some ⟨g, 0, none⟩) j cp) K3.out
      simp only [List.setIfInBounds_toArray, List.set_cons_zero, List.set_cons_succ] at kz
      have h1 := cell_in f6 bn
      have K2' := aside (blk_on K2.out b3)
      have HP' := aside (HP.out.keep b3)
      have HF' := aside (HF.out.keep b3)
      have BB' := aside (bthen BB.out b3)
      rw [hi3] at kz fz6 g0 g1 g2 g3 g4 g5 g6 K2' HP' HF' BB' ⊢
      clear b3 bn K3 f0 f1 f2 f3 f4 f5 f6 e0 e1 e2 e3 e4 e5 e6 hi3
      generalize wr.alloc (.cells #[.int .i64 fr, .int .i64 tz, .int .i64 o, .int .i64 l, .int .i64 n, .int .i64 tn, .slice (some ⟨g, 0, none⟩) (j + 2) cp] 26) = Y at *
      go_upto_region 13 with fail
      clear fz6 g0 g1 g2 g3 g4 g5 g6 h1
      generalize Y.setCell ⟨i3, 6, none⟩ (.slice (some ⟨g, 0, none⟩) j cp) = Z at kz K2' HP' HF' BB' ⊢
      obtain ⟨f0, f1, f2, f3, f4, f5, f6⟩ := sep7 kz
      obtain ⟨e0, e1, e2, e3, e4, e5, e6⟩ := sep7 K2'.out
      go_wp2_with fail
      refine (same_yes fr tz o l n tn _ j cp U b cb R Z HP'.out HF'.out HS.out).mono ?_
      rintro e w1 ⟨rfl, b1⟩
      go_wp2_with fail
      exact bodyPost_ret (v := .bool true) (by simp [results, Try.results14, go_sem]) rfl ⟨rfl, bthen BB'.out b1⟩
end Go.Proofs.Ytoabncoigleiaaa
