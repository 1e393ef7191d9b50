/-
  Alarms that are set one behind the other, from the front, and from the back where there is none of the name yet: the same list, plain.
-/
import Derived.Test.YtoajgacofmodoaaTmM
namespace Go.Proofs.Ytoajgacofmodoaa
open Go.RowKit
set_option linter.unusedVariables false

/-- Set from the front. -/
def aS (N : Nat → Nam) (T : Nat → Int) : Nat → List Alm
  | 0 => []
  | k + 1 => setA (N k) (T k) (aS N T k)
/-- One step from the back. -/
def bStep (N : Nat → Nam) (T : Nat → Int) (tl i : Nat) (L : List Alm) : List Alm := if i < tl ∧ tOk (T i) ∧ lookA (N i) L = none then putA (N i) (T i) L else L
def bS (N : Nat → Nam) (T : Nat → Int) (len tl : Nat) : Nat → List Alm
  | 0 => []
  | m + 1 => bStep N T tl (len - 1 - m) (bS N T len tl m)
theorem aS_len (N : Nat → Nam) (T : Nat → Int) : ∀ k, (aS N T k).length ≤ k
  | 0 => Nat.le_refl _
  | k + 1 => by
    have h1 := aS_len N T k
    have h2 := setA_len (N k) (T k) (aS N T k)
    show (setA (N k) (T k) (aS N T k)).length ≤ k + 1
    omega
theorem bS_len (N : Nat → Nam) (T : Nat → Int) (len tl : Nat) : ∀ m, (bS N T len tl m).length ≤ m
  | 0 => Nat.le_refl _
  | m + 1 => by
    have h1 := bS_len N T len tl m
    show (bStep N T tl (len - 1 - m) (bS N T len tl m)).length ≤ m + 1
    unfold bStep
    split
    · rw [putA_len]; have := wo_le (N (len - 1 - m)) (bS N T len tl m); omega
    · omega
theorem aS_gl (N : Nat → Nam) (T : Nat → Int) : ∀ k, Gl (aS N T k)
  | 0 => Gl.nil
  | k + 1 => (aS_gl N T k).set _ _
theorem bS_gl (N : Nat → Nam) (T : Nat → Int) (len tl : Nat) : ∀ m, Gl (bS N T len tl m)
  | 0 => Gl.nil
  | m + 1 => by
    show Gl (bStep N T tl (len - 1 - m) (bS N T len tl m))
    unfold bStep
    split
    · exact (bS_gl N T len tl m).put _ _
    · exact bS_gl N T len tl m
theorem mem_aS (N : Nat → Nam) (T : Nat → Int) (n : Nam) (t : Int) : ∀ k, (n, t) ∈ aS N T k ↔ ∃ i, i < k ∧ N i = n ∧ T i = t ∧ tOk t ∧ ∀ j, i < j → j < k → tOk (T j) → N j ≠ n
  | 0 => ⟨fun h => by simp [aS] at h, fun ⟨i, hi, _⟩ => by omega⟩
  | k + 1 => by
    have ih := mem_aS N T n t k
    show (n, t) ∈ setA (N k) (T k) (aS N T k) ↔ _
    unfold setA
    by_cases hk : tOk (T k)
    · rw [if_pos hk, mem_putA, ih]
      constructor
      · rintro (h | ⟨⟨i, hi, h1, h2, h3, h4⟩, hne⟩)
        · injection h with e1 e2
          exact ⟨k, Nat.lt_succ_self k, e1.symm, e2.symm, by rw [e2]; exact hk, fun j h1 h2 => by omega⟩
        · refine ⟨i, by omega, h1, h2, h3, fun j hj hj2 hj3 => ?_⟩
          by_cases e : j = k
          · subst e; exact fun e2 => hne e2.symm
          · exact h4 j hj (by omega) hj3
      · rintro ⟨i, hi, h1, h2, h3, h4⟩
        by_cases e : i = k
        · subst e
          exact .inl (by rw [h1, h2])
        · refine .inr ⟨⟨i, by omega, h1, h2, h3, fun j hj hj2 hj3 => h4 j hj (by omega) hj3⟩, fun e2 => h4 k (by omega) (by omega) hk e2.symm⟩
    · rw [if_neg hk, ih]
      constructor
      · rintro ⟨i, hi, h1, h2, h3, h4⟩
        refine ⟨i, by omega, h1, h2, h3, fun j hj hj2 hj3 => ?_⟩
        by_cases e : j = k
        · subst e; exact absurd hj3 hk
        · exact h4 j hj (by omega) hj3
      · rintro ⟨i, hi, h1, h2, h3, h4⟩
        have hik : i ≠ k := fun e => by subst e; rw [h2] at hk; exact hk h3
        exact ⟨i, by omega, h1, h2, h3, fun j hj hj2 hj3 => h4 j hj (by omega) hj3⟩
theorem mem_bS (N : Nat → Nam) (T : Nat → Int) (len tl : Nat) (n : Nam) (t : Int) : ∀ m, m ≤ len → ((n, t) ∈ bS N T len tl m ↔ ∃ i, len ≤ i + m ∧ i < len ∧ i < tl ∧ N i = n ∧ T i = t ∧ tOk t ∧ ∀ j, i < j → j < len → j < tl → tOk (T j) → N j ≠ n)
  | 0, _ => ⟨fun h => by simp [bS] at h, fun ⟨i, hi, hi2, _⟩ => by omega⟩
  | m + 1, hm => by
    have ih := fun s => mem_bS N T len tl n s m (by omega)
    obtain ⟨q, hq⟩ : ∃ q, len - 1 - m = q := ⟨_, rfl⟩
    have hqm : q + m + 1 = len := by omega
    show (n, t) ∈ bStep N T tl (len - 1 - m) (bS N T len tl m) ↔ _
    rw [hq]
    unfold bStep
    by_cases hc : q < tl ∧ tOk (T q) ∧ lookA (N q) (bS N T len tl m) = none
    · rw [if_pos hc, mem_putA, ih]
      obtain ⟨c1, c2, c3⟩ := hc
      constructor
      · rintro (h | ⟨⟨i, hi, h0, h00, h1, h2, h3, h4⟩, hne⟩)
        · injection h with e1 e2
          subst e1 e2
          refine ⟨q, by omega, by omega, c1, rfl, rfl, c2, fun j h1 h2 h3 h4 h5 => ?_⟩
          -- a later one of that name would be there
          have hx : ∃ s, (N q, s) ∈ bS N T len tl m := by
            have key : ∀ d j, j + d = len → q < j → j < len → j < tl → tOk (T j) → N j = N q → ∃ s, (N q, s) ∈ bS N T len tl m := by
              intro d
              induction d using Nat.strongRecOn with
              | ind d ihd =>
                intro j hd g1 g2 g3 g4 g5
                by_cases hl : ∃ j', j < j' ∧ j' < len ∧ j' < tl ∧ tOk (T j') ∧ N j' = N q
                · obtain ⟨j', l1, l2, l3, l4, l5⟩ := hl
                  exact ihd (len - j') (by omega) j' (by omega) (by omega) l2 l3 l4 l5
                · refine ⟨T j, (mem_bS N T len tl (N q) (T j) m (by omega)).2 ⟨j, by omega, g2, g3, g5, rfl, g4, fun j' l1 l2 l3 l4 l5 => hl ⟨j', l1, l2, l3, l4, l5⟩⟩⟩
            exact key (len - j) j (by omega) h1 h2 h3 h4 h5
          obtain ⟨s, hs⟩ := hx
          exact lookA_none c3 s hs
        · exact ⟨i, by omega, h0, h00, h1, h2, h3, h4⟩
      · rintro ⟨i, hi, h0, h00, h1, h2, h3, h4⟩
        by_cases e : i = q
        · subst e; exact .inl (by rw [h1, h2])
        · refine .inr ⟨⟨i, by omega, h0, h00, h1, h2, h3, h4⟩, fun e2 => ?_⟩
          have hm2 := (ih t).2 ⟨i, by omega, h0, h00, h1, h2, h3, h4⟩
          rw [show n = N q from e2] at hm2
          exact lookA_none c3 t hm2
    · rw [if_neg hc, ih]
      constructor
      · rintro ⟨i, hi, h0, h00, h1, h2, h3, h4⟩
        exact ⟨i, by omega, h0, h00, h1, h2, h3, h4⟩
      · rintro ⟨i, hi, h0, h00, h1, h2, h3, h4⟩
        by_cases e : i = q
        · subst e
          exfalso
          refine hc ⟨h00, by rw [h2]; exact h3, ?_⟩
          cases hl : lookA (N i) (bS N T len tl m) with
          | none => rfl
          | some s =>
            exfalso
            have h5 := lookA_mem hl
            obtain ⟨j, j1, j2, j3, j4, j5, j6, j7⟩ := (mem_bS N T len tl (N i) s m (by omega)).1 h5
            exact h4 j (by omega) j2 j3 (by rw [j5]; exact j6) (by rw [j4, h1])
        · exact ⟨i, by omega, h0, h00, h1, h2, h3, h4⟩
/-- Both ways come to one list. -/
theorem aS_bS (N : Nat → Nam) (T : Nat → Int) (len tl : Nat) : aS N T (min len tl) = bS N T len tl len := by
  refine srt_ext (aS_gl _ _ _).srt (bS_gl _ _ _ _ _).srt (fun ⟨n, t⟩ => ?_)
  rw [mem_aS, mem_bS N T len tl n t len (Nat.le_refl _)]
  constructor
  · rintro ⟨i, hi, h1, h2, h3, h4⟩
    exact ⟨i, by omega, by omega, by omega, h1, h2, h3, fun j a b c d => h4 j a (by omega) d⟩
  · rintro ⟨i, hi, h0, h00, h1, h2, h3, h4⟩
    exact ⟨i, by omega, h1, h2, h3, fun j a b c => h4 j a (by omega) (by omega) c⟩

end Go.Proofs.Ytoajgacofmodoaa
