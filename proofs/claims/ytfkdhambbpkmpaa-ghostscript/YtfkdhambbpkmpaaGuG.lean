/-
  Sees of any list, by any node.
-/
import Derived.Test.YtfkdhambbpkmpaaGuF
namespace Go.Proofs.Ytfkdhambbpkmpaa
open Go.RowKit
set_option linter.unusedVariables false

theorem prs_swapG (a b : List En) : prs b a = (prs a b).map (fun p => (p.2, p.1)) := by
  induction a, b using prs.induct with
  | case1 => rw [prs_nil]; rfl
  | case2 x r ih => rw [prs_left, prs_right, ih]; rfl
  | case3 y s ih => rw [prs_left, prs_right, ih]; rfl
  | case4 x r y s h ih =>
    have h2 : kLt y.k x.k = false := by
      cases hh : kLt y.k x.k
      · rfl
      · have := kLt_trans h hh; rw [kLt_irrefl] at this; cases this
    rw [prs_lt r s h, prs_gt s r h2 h, ih]; rfl
  | case5 x r y s h h' ih => rw [prs_gt r s (by simpa using h) h', prs_lt s r h', ih]; rfl
  | case6 x r y s h h' ih => rw [prs_eq r s (by simpa using h) (by simpa using h'), prs_eq s r (by simpa using h') (by simpa using h), ih]; rfl
theorem scan_some {L : List En} {k : ByteArray} {c : Int} : ∀ {P : List (En × En)}, scanP L P = some (k, c) → ¬ c = 0
  | [], h => by cases h
  | x :: r, h => by
    have h1 : (match scan1 L x with | some z => some z | none => scanP L r) = some (k, c) := h
    cases hx : scan1 L x with
    | none => rw [hx] at h1; exact scan_some h1
    | some z =>
      rw [hx] at h1
      injection h1 with h1
      subst h1
      unfold scan1 at hx
      split at hx
      · injection hx with hx
        injection hx with _ hx
        omega
      · split at hx
        · injection hx with hx
          injection hx with _ hx
          omega
        · cases hx
theorem scan_none {L : List En} : ∀ {P : List (En × En)}, scanP L P = none → ∀ x ∈ P, enEqB x.1 eZ = true ∧ wrB L x.2 = true
  | [], _, x, hx => by cases hx
  | y :: r, h, x, hx => by
    have h1 : (match scan1 L y with | some z => some z | none => scanP L r) = none := h
    cases hy : scan1 L y with
    | some z => rw [hy] at h1; cases h1
    | none =>
      rw [hy] at h1
      rcases List.mem_cons.1 hx with e | hx
      · subst e
        unfold scan1 at hy
        split at hy
        · cases hy
        · rename_i h2
          split at hy
          · cases hy
          · rename_i h3
            exact ⟨by simpa using h2, by simpa using h3⟩
      · exact scan_none h1 x hx
theorem Gh.oneW {w : World} {B p m N : Nat} {L : List En} {H : Nat → Hd} (h : Gh w B p m N L H) : OneW L := by
  obtain ⟨D, -, hR⟩ := h.mp
  exact hR.one
/-- Where Sees tells no error the list is above what was held, and all of it was written. -/
theorem sees_up {L l0 l : List En} (h1 : OneW L) (m0 : MapL l0) (ml : MapL l) (h : scanP L (prs (lkL l0 l) l) = none) : abL l l0 = true ∧ ∀ e ∈ l, e ∈ L := by
  have mk := lk_map m0 ml
  have hk : lkL l0 l = [] := by
    cases hl : lkL l0 l with
    | nil => rfl
    | cons x r =>
      exfalso
      have hx : x ∈ lkL l0 l := by rw [hl]; exact List.mem_cons_self
      have hex : ∃ y, (x, y) ∈ prs (lkL l0 l) l := by
        by_cases hy : ∃ y ∈ l, x.k = y.k
        · obtain ⟨y, hy, hk⟩ := hy
          exact ⟨y, (mem_prs _ _ mk.rises ml.rises (x, y)).2 (.inl ⟨hx, hy, hk⟩)⟩
        · exact ⟨eZ, (mem_prs _ _ mk.rises ml.rises (x, eZ)).2 (.inr (.inl ⟨hx, rfl, fun y hym hk => hy ⟨y, hym, hk.symm⟩⟩))⟩
      obtain ⟨y, hy⟩ := hex
      have h2 := (enEqB_iff x eZ).1 (scan_none h _ hy).1
      have h3 := (chk_pos (mk.chk x hx)).1
      rw [h2] at h3
      exact absurd h3 (by decide)
  refine ⟨?_, fun e he => ?_⟩
  · unfold abL
    rw [prs_swapG l0 l, List.all_map]
    rw [List.all_eq_true]
    intro p hp
    by_cases hn : En.newer p.1 p.2 = true
    · exfalso
      have : p.1 ∈ lkL l0 l := by
        unfold lkL
        exact List.mem_map.2 ⟨p, List.mem_filter.2 ⟨hp, hn⟩, rfl⟩
      rw [hk] at this
      cases this
    · simp [Function.comp, hn]
  · rw [hk] at h
    have hm : (eZ, e) ∈ prs [] l := (mem_prs [] l List.Pairwise.nil ml.rises (eZ, e)).2 (.inr (.inr ⟨rfl, he, fun x hx => by cases hx⟩))
    exact (wrB_iff h1 e).1 (scan_none h _ hm).2
/-- What Sees does. -/
def SeeAll (w : World) (B p m N : Nat) (L : List En) (H : Nat → Hd) (node : Int) (l : List En) (e : Ending) (w' : World) : Prop :=
  ∃ k c, e = .returned (.tuple #[.string k, .int .i64 c]) ∧ Keeps (fun x => x = p) w w' ∧ ((¬ c = 0 ∧ Gh w' B p m N L H) ∨ (c = 0 ∧ ∃ H', Gh w' B p m N L H' ∧ (heldG H' node).l = l ∧ (heldG H' node).n = l.length ∧ abL l (heldG H node).l = true ∧ MapL l ∧ ∀ e ∈ l, e ∈ L))
theorem gsees_all {w : World} {B p m N : Nat} {L : List En} {H : Nat → Hd} (h : Gh w B p m N L H) (node : Int) (b : Option Addr) (lb cb : Nat) (T : Nat → En) (hT : EntsIn w b lb cb T) (hf : (b = none ∧ lb = 0 ∧ cb = 0) ∨ ∃ y, b = some y) (hl : lb ≤ 1073741824) (hB : B ≤ w.heap.size) :
    Calls Try.prog 14 #[.pointer (some ⟨p, 0, none⟩), .int .i64 node, .slice b lb cb] w fun e w' => SeeAll w B p m N L H node (firstE T lb) e w' := by
  by_cases hn : 0 ≤ node ∧ node < 8
  · obtain ⟨i, rfl⟩ : ∃ i : Nat, node = (i : Int) := ⟨node.toNat, by omega⟩
    have hi : i < 8 := by omega
    have hg : ∀ H : Nat → Hd, heldG H (i : Int) = H i := fun H => by unfold heldG; rw [if_pos hn, Int.toNat_natCast]
    by_cases hm : MapL (firstE T lb)
    · refine (gsees_any h i hi b lb cb T hT hf hl hm hB).mono ?_
      rintro e w' (⟨k, c, hs, rfl, hG, hb⟩ | ⟨hs, rfl, hb, hd, h1, h2, -, hG⟩)
      · exact ⟨k, c, rfl, Keeps.of_below hb _, .inl ⟨scan_some hs, hG⟩⟩
      · obtain ⟨h3, h4⟩ := sees_up h.oneW (h.maps i hi) hm hs
        refine ⟨_, 0, rfl, hb, .inr ⟨rfl, _, hG, ?_, ?_, ?_, hm, h4⟩⟩
        · rw [hg]; unfold updH; rw [if_pos rfl]; exact h1
        · rw [hg]; unfold updH; rw [if_pos rfl, h2, firstE_len]
        · rw [hg]; exact h3
    · have hc : ¬ ckN T lb = 0 := fun h0 => hm ((ck_map lb).1 h0)
      refine (gsees_bad h i hi b lb cb T hT hf hl (c := ckN T lb) (fun A hA => ?_) hc).mono ?_
      · unfold ck2
        rw [if_neg]
        have : ckN A (H i).n = 0 := (ck_map _).2 (by rw [hA]; exact h.maps i hi)
        rw [this]; simp
      · rintro e w' ⟨rfl, hG, hb⟩
        exact ⟨_, _, rfl, Keeps.of_below hb _, .inl ⟨hc, hG⟩⟩
  · refine (gsees_node h node hn b lb cb).mono ?_
    rintro e w' ⟨rfl, hG, hb⟩
    exact ⟨_, _, rfl, Keeps.of_below hb _, .inl ⟨by decide, hG⟩⟩
end Go.Proofs.Ytfkdhambbpkmpaa
