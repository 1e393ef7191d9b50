/-
  What follows of a frame that may be: its ranges rise, and the keys of all its entries.
-/
import Derived.Test.YtgfblndmblgeeaaFrRow
import Derived.Test.YtgfblndmblgeeaaYSRise
import Derived.Test.YtgfblndmblgeeaaFrWt
import Derived.Test.YtgfblndmblgeeaaLFrFirst
namespace Go.Proofs.Ytgfblndmblgeeaa
open Go.RowKit
set_option linter.unusedVariables false
theorem kLt_le {a b c : ByteArray} (h : kLt a b = true) (h2 : kLt c b = false) : kLt a c = true := by
  unfold kLt at *
  cases h3 : Op.bytesLess b.toList c.toList
  · have e := L_total _ _ h3 h2
    rw [← e]; exact h
  · exact L_trans _ _ _ h h3
theorem le_kLt {a b c : ByteArray} (h : kLt b a = false) (h2 : kLt b c = true) : kLt a c = true := by
  unfold kLt at *
  cases h3 : Op.bytesLess a.toList b.toList
  · have e := L_total _ _ h3 h
    rw [e]; exact h2
  · exact L_trans _ _ _ h3 h2
theorem le_le {a b c : ByteArray} (h : kLt b a = false) (h2 : kLt c b = false) : kLt c a = false := by
  cases h3 : kLt c a
  · rfl
  · have := kLt_le h3 h
    rw [this] at h2; cases h2
theorem kLt_tr {a b c : ByteArray} (h : kLt a b = true) (h2 : kLt b c = true) : kLt a c = true := L_trans _ _ _ h h2
theorem ptN_all {P : Nat → Pm} : ∀ {n : Nat}, ptN P n = 0 → ∀ i, i < n → ptAt P i = 0 := by
  intro n
  induction n with
  | zero => intro _ i hi; omega
  | succ n ih =>
    intro h i hi
    have h0 : ptN P n = 0 := by
      by_cases g : ptN P n = 0
      · exact g
      · rw [ptN_stay g (n + 1) (by omega)] at h; exact absurd h g
    rcases Nat.lt_or_ge i n with g | g
    · exact ih h0 i g
    · obtain rfl : i = n := by omega
      rw [← ptN_step h0]; exact h
theorem itN_all {r : Rg} {T : Nat → En} : ∀ {n : Nat}, itN r T n = 0 → ∀ i, i < n → itAt r T i = 0 := by
  intro n
  induction n with
  | zero => intro _ i hi; omega
  | succ n ih =>
    intro h i hi
    have h0 : itN r T n = 0 := by
      by_cases g : itN r T n = 0
      · exact g
      · rw [itN_stay g (n + 1) (by omega)] at h; exact absurd h g
    rcases Nat.lt_or_ge i n with g | g
    · exact ih h0 i g
    · obtain rfl : i = n := by omega
      rw [← itN_step h0]; exact h
theorem itAt_zero {r : Rg} {T : Nat → En} {i : Nat} (h : itAt r T i = 0) : r.has (T i).k = true ∧ (0 < i → kLt (T (i - 1)).k (T i).k = true) := by
  unfold itAt at h
  by_cases g : (T i).chk = 0
  · rw [if_neg (by simp [g])] at h
    by_cases g2 : r.has (T i).k = false ∨ (0 < i ∧ kLt (T (i - 1)).k (T i).k = false)
    · rw [if_pos g2] at h; cases h
    · refine ⟨?_, fun hi => ?_⟩
      · cases e : r.has (T i).k
        · exact absurd (.inl e) g2
        · rfl
      · cases e : kLt (T (i - 1)).k (T i).k
        · exact absurd (.inr ⟨hi, e⟩) g2
        · rfl
  · rw [if_pos g] at h; exact absurd h g
/-- A part that may be, behind those ahead of it. -/
structure GoodP (P : Nat → Pm) (i : Nat) : Prop where
  chk : (P i).rg.chk = 0
  emp : (P i).rg.emp = false
  op : ahOp P i = false
  lo : kLt (P i).lo (ahHi P i) = false
  its : ∀ k, k < (P i).el → itAt (P i).rg (P i).T k = 0
theorem good_of {P : Nat → Pm} {i : Nat} (h : ptAt P i = 0) : GoodP P i := by
  unfold ptAt Pm.chk at h
  cases h1 : (P i).alone
  · rw [if_pos h1] at h; cases h
  · rw [if_neg (by simp [h1])] at h
    by_cases h2 : (P i).rg.chk = 0
    · rw [if_neg (by simp [h2])] at h
      by_cases h3 : (P i).rg.emp = true ∨ ahOp P i = true ∨ kLt (P i).lo (ahHi P i) = true
      · rw [if_pos h3] at h; cases h
      · rw [if_neg h3] at h
        refine ⟨h2, ?_, ?_, ?_, ?_⟩
        · cases e : (P i).rg.emp
          · rfl
          · exact absurd (.inl e) h3
        · cases e : ahOp P i
          · rfl
          · exact absurd (.inr (.inl e)) h3
        · cases e : kLt (P i).lo (ahHi P i)
          · rfl
          · exact absurd (.inr (.inr e)) h3
        · by_cases h4 : (P i).kind = 1
          · unfold Pm.alone at h1
            rw [if_pos h4] at h1
            intro k hk
            have : (P i).el = 0 := by simpa using h1
            omega
          · rw [if_neg h4] at h
            unfold Pm.its at h
            by_cases h5 : itN (P i).rg (P i).T (P i).el = 0
            · exact fun k hk => itN_all h5 k hk
            · rw [if_pos h5] at h; exact absurd h h5
    · rw [if_pos h2] at h; exact absurd h h2
theorem chk_le {p : Rg} (h : p.chk = 0) (ho : p.op = false) : kLt p.hi p.lo = false := by
  unfold Rg.chk at h
  split at h
  · cases h
  · split at h
    · cases h
    · rename_i g
      rw [ho] at g
      simp only [Bool.false_and, Bool.not_false, Bool.true_and, Bool.false_or] at g
      cases e : kLt p.hi p.lo
      · rfl
      · exfalso
        apply g
        have e1 : Op.bytesLess p.lo.toList p.hi.toList = false := by
          cases q : Op.bytesLess p.lo.toList p.hi.toList
          · rfl
          · have := L_trans _ _ _ q e
            rw [L_irrefl] at this; cases this
        have e2 : (p.lo.toList == p.hi.toList) = false := by
          rw [beq_eq_false_iff_ne]; intro q
          unfold kLt at e; rw [q, L_irrefl] at e; cases e
        rw [e1, e2]; rfl
theorem has_ge {p : Rg} {k : ByteArray} (h : p.has k = true) : kLt k p.lo = false := by
  unfold Rg.has at h
  simp only [Bool.and_eq_true, Bool.not_eq_true'] at h
  exact h.1.2
theorem has_lt {p : Rg} {k : ByteArray} (h : p.has k = true) (ho : p.op = false) : kLt k p.hi = true := by
  unfold Rg.has at h
  simp only [Bool.and_eq_true] at h
  rw [ho, Bool.false_or] at h
  exact h.2
/-- The keys of a part, of the first n parts. -/
def keysP (p : Pm) (k : Nat) : List ByteArray := (List.range k).map fun i => (p.T i).k
def keysL (P : Nat → Pm) : Nat → List ByteArray
  | 0 => []
  | n + 1 => keysL P n ++ keysP (P n) (P n).el
theorem keysP_len (p : Pm) (k : Nat) : (keysP p k).length = k := by simp [keysP]
theorem keysL_len (P : Nat → Pm) : ∀ n, (keysL P n).length = totE P n
  | 0 => rfl
  | n + 1 => by simp only [keysL, List.length_append, keysL_len P n, keysP_len, totE]
theorem keysP_snoc (p : Pm) (k : Nat) : keysP p (k + 1) = keysP p k ++ [(p.T k).k] := by unfold keysP; rw [List.range_succ, List.map_append]; rfl
abbrev RisesB (l : List ByteArray) : Prop := l.Pairwise (fun a b => kLt a b = true)
theorem snoc_rises {l : List ByteArray} {x : ByteArray} (h : RisesB l) (h2 : ∀ y ∈ l, kLt y x = true) : RisesB (l ++ [x]) :=
  List.pairwise_append.2 ⟨h, List.pairwise_singleton _ _, fun a ha b hb => by rw [List.mem_singleton] at hb; subst hb; exact h2 a ha⟩
theorem keysP_rises {p : Pm} (h : ∀ k, k < p.el → itAt p.rg p.T k = 0) : ∀ k, k ≤ p.el → RisesB (keysP p k) := by
  intro k
  induction k with
  | zero => intro _; exact List.Pairwise.nil
  | succ k ih =>
    intro hk
    rw [keysP_snoc]
    refine snoc_rises (ih (by omega)) ?_
    cases k with
    | zero => intro y hy; simp [keysP] at hy
    | succ k =>
      have h1 := (itAt_zero (h (k + 1) (by omega))).2 (by omega)
      rw [show k + 1 - 1 = k from rfl] at h1
      intro y hy
      rw [keysP_snoc] at hy
      rcases List.mem_append.1 hy with hy | hy
      · have h2 := ih (by omega)
        rw [keysP_snoc] at h2
        exact kLt_tr ((List.pairwise_append.1 h2).2.2 y hy _ (List.mem_singleton.2 rfl)) h1
      · rw [List.mem_singleton] at hy; subst hy; exact h1
theorem keysP_mem {p : Pm} {k : Nat} {b : ByteArray} (h : b ∈ keysP p k) : ∃ i, i < k ∧ b = (p.T i).k := by
  unfold keysP at h
  obtain ⟨i, hi, rfl⟩ := List.mem_map.1 h
  exact ⟨i, List.mem_range.1 hi, rfl⟩
theorem keys_below {P : Nat → Pm} : ∀ n, (∀ i, i < n → GoodP P i) → ahOp P n = false → ∀ a ∈ keysL P n, kLt a (ahHi P n) = true
  | 0, _, _ => fun a ha => by simp [keysL] at ha
  | n + 1, hg, ho => fun a ha => by
    have g := hg n (by omega)
    simp only [keysL, List.mem_append] at ha
    simp only [ahHi]
    simp only [ahOp] at ho
    rcases ha with ha | ha
    · have h1 := keys_below n (fun i hi => hg i (by omega)) g.op a ha
      have h2 : kLt a (P n).lo = true := kLt_le h1 g.lo
      exact kLt_le h2 (chk_le g.chk ho)
    · obtain ⟨i, hi, rfl⟩ := keysP_mem ha
      exact has_lt (itAt_zero (g.its i hi)).1 ho
theorem keysL_rises {P : Nat → Pm} : ∀ n, (∀ i, i < n → GoodP P i) → RisesB (keysL P n)
  | 0, _ => List.Pairwise.nil
  | n + 1, hg => by
    have g := hg n (by omega)
    refine List.pairwise_append.2 ⟨keysL_rises n (fun i hi => hg i (by omega)), keysP_rises g.its _ (Nat.le_refl _), fun a ha b hb => ?_⟩
    have h1 := keys_below n (fun i hi => hg i (by omega)) g.op a ha
    obtain ⟨i, hi, rfl⟩ := keysP_mem hb
    exact kLt_le (kLt_le h1 g.lo) (has_ge (itAt_zero (g.its i hi)).1)
theorem rises_good {P : Nat → Pm} {n : Nat} (hg : ∀ i, i < n → GoodP P i) : rises (fun i => (P i).rg) n = true := by
  unfold rises
  rw [Bool.and_eq_true]
  refine ⟨?_, ?_⟩
  · rw [Bool.not_eq_true']
    unfold anyE
    rw [List.any_eq_false]
    intro i hi
    rw [(hg i (List.mem_range.1 hi)).emp]
    simp
  · rw [List.all_eq_true]
    intro x hx
    unfold upto at hx
    obtain ⟨i, hi, rfl⟩ := List.mem_map.1 hx
    have hi' := List.mem_range.1 hi
    have g := hg (i + 1) (by omega)
    have h1 := g.op
    have h2 := g.lo
    simp only [ahOp, ahHi] at h1 h2
    unfold kLt at h2
    unfold okP
    simp only [Pm.rg]
    rw [h1, h2]; rfl
theorem goods {P : Nat → Pm} {n : Nat} (h : psChk P n = 0) : n ≤ 768 ∧ totE P n ≤ 256 ∧ ∀ i, i < n → GoodP P i := by
  unfold psChk at h
  by_cases g : 768 < n ∨ 256 < totE P n
  · rw [if_pos g] at h; cases h
  · rw [if_neg g] at h
    exact ⟨by omega, by omega, fun i hi => good_of (ptN_all h i hi)⟩
/-- Ranges as cells. -/
def rgVals (q : Rg) : List Value := [.string q.lo, .string q.hi, .bool q.op]
def rgCells : List Rg → List Value
  | [] => []
  | e :: r => rgVals e ++ rgCells r
theorem rgCells_length : ∀ l : List Rg, (rgCells l).length = l.length * 3
  | [] => rfl
  | e :: r => by simp only [rgCells, List.length_append, rgCells_length r, List.length_cons, rgVals]; simp; omega
theorem rgCells_append : ∀ l m : List Rg, rgCells (l ++ m) = rgCells l ++ rgCells m
  | [], _ => rfl
  | e :: r, m => by simp [rgCells, rgCells_append r m]
theorem rgCells_at : ∀ (l : List Rg) (i r : Nat) (e : Rg), l[i]? = some e → r < 3 → (rgCells l)[i * 3 + r]? = (rgVals e)[r]?
  | [], i, r, e, h, _ => by simp at h
  | x :: t, 0, r, e, h, hr => by
    simp at h; subst h
    simp only [rgCells]
    rw [List.getElem?_append_left (by simp [rgVals]; omega)]
    simp
  | x :: t, i + 1, r, e, h, hr => by
    simp only [rgCells]
    rw [List.getElem?_append_right (by simp [rgVals]; omega)]
    have := rgCells_at t i r e (by simpa using h) hr
    rw [← this]
    congr 1
    simp [rgVals]
    omega
theorem infoRgF : (Try.prog.info? 43).map (fun i => (i.zero, i.size, i.bytes)) = some (some (.agg #[.string ⟨#[]⟩, .string ⟨#[]⟩, .bool false]), 3, 40) := by kernel_rfl
def rgsL (P : Nat → Pm) (n : Nat) : List Rg := (List.range n).map fun i => (P i).rg
theorem rgsL_snoc (P : Nat → Pm) (n : Nat) : rgsL P (n + 1) = rgsL P n ++ [(P n).rg] := by unfold rgsL; rw [List.range_succ, List.map_append]; rfl
/-- Texts as cells. -/
def strC (l : List ByteArray) : List Value := l.map Value.string
theorem strC_append (l : List ByteArray) (s : ByteArray) : strC (l ++ [s]) = strC l ++ [.string s] := by simp [strC]
theorem infoStr : (Try.prog.info? 9).map (fun i => (i.zero, i.size, i.bytes)) = some (some (.string ⟨#[]⟩), 1, 16) := by kernel_rfl
/-- A block that is no row stays under an append to a row. -/
theorem blk_grown {w w' : World} {k r : Nat} {o : Obj} (h : w.heap[k]? = some o) (hg : w.grownBy w' (some r)) (hne : k ≠ r) : w'.heap[k]? = some o := by
  obtain ⟨_, _, _, _, hb⟩ := hg
  rw [hb k (Array.getElem?_eq_some_iff.1 h).1 (fun e => hne (by cases e; rfl))]
  exact h
theorem own_grown {w w' : World} {B e s g n c r : Nat} {xs : List Value} (h : w.ownsRow B e s (.slice (some ⟨g, 0, none⟩) n c) n xs) (hg : w.grownBy w' (some r)) (hne : g ≠ r) : w'.ownsRow B e s (.slice (some ⟨g, 0, none⟩) n c) n xs := by
  refine ⟨h.1, ?_⟩
  rcases h.2 with ⟨h1, _⟩ | ⟨g', cap, cur, h1, h2, h3, h4⟩
  · cases h1
  · injection h1 with e1 e2 e3
    injection e1 with e1
    injection e1 with e1
    subst e1
    exact .inr ⟨g, cap, cur, by rw [e3], h2, blk_grown h3 hg hne, h4⟩
theorem own_type {w : World} {B B' e e' s s' g n n' c c' : Nat} {xs ys : List Value} (h : w.ownsRow B e s (.slice (some ⟨g, 0, none⟩) n c) n xs) (h' : w.ownsRow B' e' s' (.slice (some ⟨g, 0, none⟩) n' c') n' ys) : e = e' := by
  rcases h.2 with ⟨h1, _⟩ | ⟨g1, cap, cur, h1, h2, h3, h4⟩
  · cases h1
  · rcases h'.2 with ⟨k1, _⟩ | ⟨g2, cap2, cur2, k1, k2, k3, k4⟩
    · cases k1
    · injection h1 with e1 e2 e3
      injection e1 with e1
      injection e1 with e1
      injection k1 with d1 d2 d3
      injection d1 with d1
      injection d1 with d1
      subst e1
      subst d1
      rw [h3] at k3
      injection k3 with k3
      injection k3 with _ k3 _
end Go.Proofs.Ytgfblndmblgeeaa
