/-
  Plain laws of maps: lacking nothing goes through; two that lack nothing of each other differ nowhere.
-/
import Derived.Test.YtfkdhambbpkmpaaDoorMgPl2
namespace Go.Proofs.YtfkdhambbpkmpaaDoor
open Go.RowKit
set_option linter.unusedVariables false

theorem ab_self {a : List En} (ha : MapL a) : abL a a = true := (ab_iff ha ha).2 (fun y hy => ⟨y, hy, rfl, newer_self y⟩)
theorem ab_trans {a b c : List En} (ha : MapL a) (hb : MapL b) (hc : MapL c) (h1 : abL a b = true) (h2 : abL b c = true) : abL a c = true := by
  rw [ab_iff ha hb] at h1
  rw [ab_iff hb hc] at h2
  refine (ab_iff ha hc).2 (fun z hz => ?_)
  obtain ⟨y, hy, hk, hn⟩ := h2 z hz
  obtain ⟨x, hx, hk2, hn2⟩ := h1 y hy
  exact ⟨x, hx, hk2.trans hk, newer_tr hn hn2⟩
theorem vNe_no {x y : En} (h1 : En.newer x y = false) (h2 : En.newer y x = false) : vNe (x, y) = false := by
  rw [newer_not] at h1 h2
  have e1 : x.c = y.c := by omega
  have e2 : x.n = y.n := by omega
  simp [vNe, e1, e2]
theorem vNe_same {x y : En} (h : vNe (x, y) = false) : x.c = y.c ∧ x.n = y.n := by
  simpa [vNe] using h
theorem df_nil {a b : List En} : dfL a b = [] ↔ ∀ p ∈ prs a b, vNe p = false := by
  unfold dfL dmL
  rw [List.map_eq_nil_iff, List.map_eq_nil_iff, List.filter_eq_nil_iff]
  constructor
  · intro h p hp; simpa using h p hp
  · intro h p hp; simp [h p hp]
theorem ab_diff {a b : List En} (ha : MapL a) (hb : MapL b) : (abL a b && abL b a) = ((dfL a b).length == 0) := by
  have key : (abL a b = true ∧ abL b a = true) ↔ dfL a b = [] := by
    rw [ab_iff ha hb, ab_iff hb ha, df_nil]
    constructor
    · rintro ⟨h1, h2⟩ ⟨x, y⟩ hp
      rcases (mem_prs a b ha.rises hb.rises _).1 hp with ⟨g1, g2, g3⟩ | ⟨g1, g2, g3⟩ | ⟨g1, g2, g3⟩ <;> dsimp only at g1 g2 g3
      · obtain ⟨x', k1, k2, k3⟩ := h1 y g2
        obtain ⟨y', j1, j2, j3⟩ := h2 x g1
        rw [key_one ha.rises k1 g1 (k2.trans g3.symm)] at k3
        rw [key_one hb.rises j1 g2 (j2.trans g3)] at j3
        exact vNe_no j3 k3
      · obtain ⟨y', j1, j2, j3⟩ := h2 x g1
        exact absurd j2 (g3 y' j1)
      · obtain ⟨x', k1, k2, k3⟩ := h1 y g2
        exact absurd k2 (g3 x' k1)
    · intro h
      constructor
      · intro y hy
        by_cases hq : ∃ x ∈ a, x.k = y.k
        · obtain ⟨x, hx, hk⟩ := hq
          have := vNe_same (h (x, y) ((mem_prs a b ha.rises hb.rises _).2 (.inl ⟨hx, hy, hk⟩)))
          exact ⟨x, hx, hk, by rw [newer_not]; omega⟩
        · have := vNe_same (h (eZ, y) ((mem_prs a b ha.rises hb.rises _).2 (.inr (.inr ⟨rfl, hy, fun x hx hk => hq ⟨x, hx, hk⟩⟩))))
          have h1 := (hb.pos hy).1
          have h2 : (eZ : En).c = 0 := rfl
          omega
      · intro x hx
        by_cases hq : ∃ y ∈ b, y.k = x.k
        · obtain ⟨y, hy, hk⟩ := hq
          have := vNe_same (h (x, y) ((mem_prs a b ha.rises hb.rises _).2 (.inl ⟨hx, hy, hk.symm⟩)))
          exact ⟨y, hy, hk, by rw [newer_not]; omega⟩
        · have := vNe_same (h (x, eZ) ((mem_prs a b ha.rises hb.rises _).2 (.inr (.inl ⟨hx, rfl, fun y hy hk => hq ⟨y, hy, hk⟩⟩))))
          have h1 := (ha.pos hx).1
          have h2 : (eZ : En).c = 0 := rfl
          omega
  cases hl : ((dfL a b).length == 0)
  · cases h1 : abL a b <;> cases h2 : abL b a <;> simp
    have := key.1 ⟨h1, h2⟩
    rw [this] at hl
    cases hl
  · have hn : dfL a b = [] := List.length_eq_zero_iff.1 (by simpa using hl)
    obtain ⟨h1, h2⟩ := key.2 hn
    rw [h1, h2]
    rfl
theorem ab_eq {a b : List En} (ha : MapL a) (hb : MapL b) (hc : CleanL a b) (h1 : abL a b = true) (h2 : abL b a = true) : a = b := by
  rw [ab_iff ha hb] at h1
  rw [ab_iff hb ha] at h2
  refine rises_mem ha.rises hb.rises (fun x => ⟨fun hx => ?_, fun hx => ?_⟩)
  · obtain ⟨y, hy, hk, hn⟩ := h2 x hx
    obtain ⟨x', hx', hk2, hn2⟩ := h1 y hy
    rw [key_one ha.rises hx' hx (hk2.trans hk)] at hn2
    rw [newer_not] at hn hn2
    rw [hc x hx y hy hk.symm (by omega) (by omega)]
    exact hy
  · obtain ⟨y, hy, hk, hn⟩ := h1 x hx
    obtain ⟨x', hx', hk2, hn2⟩ := h2 y hy
    rw [key_one hb.rises hx' hx (hk2.trans hk)] at hn2
    rw [newer_not] at hn hn2
    rw [← hc y hy x hx hk (by omega) (by omega)]
    exact hy

end Go.Proofs.YtfkdhambbpkmpaaDoor
