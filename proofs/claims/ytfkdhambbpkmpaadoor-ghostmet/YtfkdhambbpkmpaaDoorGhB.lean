/-
  Maps that are checked, one behind the other; the newest of two maps, either way round.
-/
import Derived.Test.YtfkdhambbpkmpaaDoorGhA
namespace Go.Proofs.YtfkdhambbpkmpaaDoor
open Go.RowKit
set_option linter.unusedVariables false

theorem prs_swap19 (a b : List En) : prs b a = (prs a b).map (fun p => (p.2, p.1)) := by
  induction a, b using prs.induct with
  | case1 => rw [prs_nil]; rfl
  | case2 x r ih => rw [prs_left, prs_right, ih]; rfl
  | case3 y s ih => rw [prs_left, prs_right, ih]; rfl
  | case4 x r y s h ih =>
    have h2 : kLt y.k x.k = false := by
      cases hh : kLt y.k x.k
      · rfl
      · have := kLt_trans h hh; rw [kLt_irrefl] at this; cases this
    rw [prs_lt r s h, prs_gt s r h2 h, ih]; rfl
  | case5 x r y s h h' ih => rw [prs_gt r s (by simpa using h) h', prs_lt s r h', ih]; rfl
  | case6 x r y s h h' ih => rw [prs_eq r s (by simpa using h) (by simpa using h'), prs_eq s r (by simpa using h') (by simpa using h), ih]; rfl
theorem prs_zip {α : Type} (f g : α → En) : ∀ P : List α, (∀ p ∈ P, (f p).k = (g p).k) → prs (P.map f) (P.map g) = P.map (fun p => (f p, g p))
  | [], _ => prs_nil
  | p :: P, h => by
    have hk := h p List.mem_cons_self
    rw [List.map_cons, List.map_cons, prs_eq _ _ (by rw [hk]; exact kLt_irrefl _) (by rw [hk]; exact kLt_irrefl _), prs_zip f g P (fun q hq => h q (List.mem_cons_of_mem _ hq))]
    rfl
theorem best_swap {x y : En} (h : (1 ≤ x.c ∧ 1 ≤ y.c ∧ 0 ≤ x.n ∧ 0 ≤ y.n ∧ x.k = y.k) ∨ (1 ≤ x.c ∧ 0 ≤ x.n ∧ y = eZ) ∨ (x = eZ ∧ 1 ≤ y.c ∧ 0 ≤ y.n)) : (En.best x y).k = (En.best y x).k ∧ (En.best x y).c = (En.best y x).c ∧ (En.best x y).n = (En.best y x).n := by
  rcases best_two x y with ⟨h1, h2⟩ | ⟨h1, h2⟩ <;> rcases best_two y x with ⟨h3, h4⟩ | ⟨h3, h4⟩ <;> rw [h1, h3]
  · omega
  · exact ⟨rfl, rfl, rfl⟩
  · exact ⟨rfl, rfl, rfl⟩
  · rcases h with ⟨-, -, -, -, h⟩ | ⟨h5, h6, h7⟩ | ⟨h5, h6, h7⟩
    · exact ⟨h, by omega, by omega⟩
    · exfalso
      rw [h7] at h4
      have e : eZ.c = 0 := rfl
      rw [e] at h4
      omega
    · exfalso
      rw [h5] at h2
      have e : eZ.c = 0 := rfl
      rw [e] at h2
      omega
/-- The newest of both, either way round, differ nowhere. -/
theorem mx_turned {a b : List En} (ha : MapL a) (hb : MapL b) : dfP (prs (mxL a b) (mxP (prs b a))) = [] := by
  rw [prs_swap19 a b]
  unfold mxP mxL
  rw [List.map_map, prs_zip]
  · unfold dfP
    rw [List.map_eq_nil_iff, List.filter_eq_nil_iff]
    intro p hp
    obtain ⟨x, hx, rfl⟩ := List.mem_map.1 hp
    obtain ⟨-, h2, h3⟩ := best_swap (pr_two ha hb hx)
    simp [vNe, Function.comp, h2, h3]
  · intro p hp
    exact (best_swap (pr_two ha hb hp)).1
/-- Lists in a row. -/
def ListsIn (w : World) (gb m : Nat) (ad : Nat → Option Addr) (ln cp : Nat → Nat) (T : Nat → Nat → En) : Prop := ∀ k, k < m → w.cell? ⟨gb, k, none⟩ = some (.slice (ad k) (ln k) (cp k)) ∧ EntsIn w (ad k) (ln k) (cp k) (T k)
/-- The first that is wrong. -/
def cmN (f : Nat → Int) : Nat → Int
  | 0 => 0
  | m + 1 => if cmN f m = 0 then f m else cmN f m
theorem cmN_stop {f : Nat → Int} {j : Nat} (h : cmN f j ≠ 0) : ∀ m, j ≤ m → cmN f m = cmN f j := by
  intro m hm
  obtain ⟨d, rfl⟩ : ∃ d, m = j + d := ⟨m - j, by omega⟩
  clear hm
  induction d with
  | zero => rfl
  | succ d ih =>
    show (if cmN f (j + d) = 0 then f (j + d) else cmN f (j + d)) = _
    rw [ih, if_neg h]
theorem cmN_ok {f : Nat → Int} : ∀ {m : Nat}, cmN f m = 0 ↔ ∀ i, i < m → f i = 0
  | 0 => ⟨fun _ i h => by omega, fun _ => rfl⟩
  | m + 1 => by
    show (if cmN f m = 0 then f m else cmN f m) = 0 ↔ _
    by_cases h : cmN f m = 0
    · rw [if_pos h]
      refine ⟨fun h0 i hi => ?_, fun h0 => h0 m (Nat.lt_succ_self m)⟩
      by_cases hm : i = m
      · rw [hm]; exact h0
      · exact cmN_ok.1 h i (by omega)
    · rw [if_neg h]
      exact ⟨fun h0 => absurd h0 h, fun h0 => cmN_ok.2 (fun i hi => h0 i (by omega))⟩
set_option maxHeartbeats 6400000 in
set_option maxRecDepth 100000 in
theorem cmaps_any (gb m cq : Nat) (ad : Nat → Option Addr) (ln cp : Nat → Nat) (T : Nat → Nat → En) (w : World) (hm : m ≤ 1000) (h : ListsIn w gb m ad ln cp T) :
    Calls Tryd.prog 19 #[.slice (some ⟨gb, 0, none⟩) m cq] w fun e w' => e = .returned (.int .i64 (cmN (fun k => chkH (T k) (ln k)) m)) ∧ Below w.heap.size w w' := by
  have HL := aside h
  have HF := aside (show ∀ j, cmN (fun k => chkH (T k) (ln k)) j = 0 → cmN (fun k => chkH (T k) (ln k)) (j + 1) = chkH (T j) (ln j) from fun j hj => by
    show (if _ = 0 then _ else _) = _
    rw [if_pos hj])
  have HS := aside (fun (j : Nat) (h0 : cmN (fun k => chkH (T k) (ln k)) j ≠ 0) (hj : j ≤ m) => cmN_stop h0 m hj)
  have HQ0 : cmN (fun k => chkH (T k) (ln k)) 0 = 0 := rfl
  obtain ⟨F, hF⟩ : ∃ F, cmN (fun k => chkH (T k) (ln k)) = F := ⟨_, rfl⟩
  rw [hF] at HF HS HQ0 ⊢
  have HQ := aside HQ0
  clear h hF HQ0
  go_enter Tryd.func19, Tryd.ntmps19
  go_wp2
  go_loopw [8] (fun i wr => ∃ k : Nat, i = .int .i64 (k : Int) ∧ k ≤ m ∧ Hid (F k = 0) ∧ Below w.heap.size w wr) (fun i _ => m - (intOf i).toNat)
  case atStart => exact ⟨0, rfl, Nat.zero_le _, HQ.out, Below.refl _ _⟩
  case round =>
    clear HQ
    obtain ⟨k, rfl, hk, HK, hB⟩ := hrel
    have HB := aside hB
    clear hB
    by_cases hlt : (k : Int) < (m : Int)
    · have hk0 : (0 : Int) ≤ (k : Int) := by omega
      obtain ⟨hcell, hE⟩ := HL.out k (by omega)
      have CK := aside (mchk_any (ad k) (ln k) (cp k) (T k) wr (hE.keep HB.out))
      have gcell := cell_in hcell HB.out
      have H1 := aside (HF.out k HK.out)
      have HR := aside (fun (h0 : F (k + 1) ≠ 0) => HS.out (k + 1) h0 (by omega))
      have hmx : (ln k : Int) ≤ 9223372036854775807 := by have h1 := hE.1; have h2 := hE.2.1; unfold maxLen at h2; omega
      unfold chkH at H1
      generalize ad k = a at *
      obtain ⟨n, hn⟩ : ∃ n, ln k = n := ⟨_, rfl⟩
      rw [hn] at CK H1 hmx gcell
      generalize cp k = cpk at *
      obtain ⟨q, hq⟩ : ∃ q, ckN (T k) n = q := ⟨_, rfl⟩
      rw [hq] at CK H1
      clear hcell hE hn hq
      go_wp2_with fail
      refine CK.out.mono ?_
      rintro e w1 ⟨rfl, bb⟩
      have B1 := aside (bthen HB.out bb)
      clear bb CK gcell
      by_cases h0 : q = 0
      · subst h0
        by_cases hl : (256 : Int) < (n : Int)
        · have HE := aside (show F m = 80 from by have h9 := H1.out; rw [if_pos rfl, if_pos (by omega)] at h9; rw [HR.out (by omega), h9])
          go_wp2
          go_ret
          exact ⟨by rw [HE.out]; rfl, B1.out⟩
        · have HE := aside (show F (k + 1) = 0 from by have h9 := H1.out; rw [if_pos rfl, if_neg (by omega)] at h9; exact h9)
          go_wp2
          go_roundw
          case rel => exact ⟨k + 1, by first | rfl | go_num, by omega, HE.out, B1.out⟩
          case measure => simp [intOf] <;> omega
      · have HE := aside (show F m = q from by have h9 := H1.out; rw [if_neg h0] at h9; rw [HR.out (by omega), h9])
        have hz : (q == 0) = false := by simpa using h0
        go_wp2
        go_ret
        exact ⟨by rw [HE.out]; rfl, B1.out⟩
    · obtain rfl : k = m := by omega
      go_wp2
      go_ret
      exact ⟨by rw [HK.out]; rfl, HB.out⟩
theorem four19 {w : World} {i : Nat} {a b c d : Value} {T : TypeId} (h : w.heap[i]? = some (.cells #[a, b, c, d] T (0, 0))) : w.cell? ⟨i, 0, none⟩ = some a ∧ w.cell? ⟨i, 1, none⟩ = some b ∧ w.cell? ⟨i, 2, none⟩ = some c ∧ w.cell? ⟨i, 3, none⟩ = some d := by
  simp [World.cell?, h]
theorem set_one19 {w : World} {b k : Nat} {cs : Array Value} {t : TypeId} (h : w.heap[b]? = some (.cells cs t (0, 0))) (u : Value) : (w.setCell ⟨b, k, none⟩ u).heap[b]? = some (.cells (cs.setIfInBounds k u) t (0, 0)) := by
  rw [heap_setCell_same w b k _ _ _ h]
theorem set_four19 {w : World} {b : Nat} {x y z d : Value} {t : TypeId} (h : w.heap[b]? = some (.cells #[x, y, z, d] t (0, 0))) (u v r s : Value) : ((((w.setCell ⟨b, 0, none⟩ u).setCell ⟨b, 1, none⟩ v).setCell ⟨b, 2, none⟩ r).setCell ⟨b, 3, none⟩ s).heap[b]? = some (.cells #[u, v, r, s] t (0, 0)) := by
  have h1 := set_one19 (k := 3) (set_one19 (k := 2) (set_one19 (k := 1) (set_one19 (k := 0) h u) v) r) s
  simpa using h1
theorem bel_four19 {B : Nat} {w0 w : World} {b : Nat} (h : Below B w0 w) (hb : B ≤ b) (u v r s : Value) : Below B w0 ((((w.setCell ⟨b, 0, none⟩ u).setCell ⟨b, 1, none⟩ v).setCell ⟨b, 2, none⟩ r).setCell ⟨b, 3, none⟩ s) :=
  (((h.setCell (p := ⟨b, 0, none⟩) hb u).setCell (p := ⟨b, 1, none⟩) hb v).setCell (p := ⟨b, 2, none⟩) hb r).setCell (p := ⟨b, 3, none⟩) hb s
end Go.Proofs.YtfkdhambbpkmpaaDoor
