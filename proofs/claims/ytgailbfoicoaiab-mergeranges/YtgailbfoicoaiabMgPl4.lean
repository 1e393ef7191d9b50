/-
  Plain laws of maps: what is lacked and what differs; what is in a range.
-/
import Derived.Test.YtgailbfoicoaiabMgPl3
import Derived.Test.YtgailbfoicoaiabMgInL
namespace Go.Proofs.Ytgailbfoicoaiab
open Go.RowKit
set_option linter.unusedVariables false

/-- Who takes what it lacks has the newest of both. -/
theorem mx_lack {a b : List En} (ha : MapL a) (hb : MapL b) (hc : CleanL a b) : mxL b (lkL a b) = mxL b a := by
  have h1 := (Nws.list hb).max (Nws.list (lk_map ha hb))
  have h2 := (Nws.list hb).max (Nws.list ha)
  have h3 : Nws (fun x => x ∈ b ∨ x ∈ a) (mxL b (lkL a b)) := by
    refine ⟨h1.map, fun y hy => ?_, fun e he => ?_⟩
    · rcases h1.src y hy with h | h
      · exact .inl h
      · exact .inr ((mem_lk ha hb y).1 h).1
    · rcases he with he | he
      · exact h1.best e (.inl he)
      · by_cases hq : e ∈ lkL a b
        · exact h1.best e (.inr hq)
        · have : ∃ y ∈ b, y.k = e.k ∧ En.newer e y = false := by
            apply Classical.byContradiction
            intro hn
            apply hq
            refine (mem_lk ha hb e).2 ⟨he, fun y hy hk => ?_⟩
            cases hh : En.newer e y
            · exact absurd ⟨y, hy, hk, hh⟩ hn
            · rfl
          obtain ⟨y, hy, hk, hn⟩ := this
          obtain ⟨z, hz, hzk, hzn⟩ := h1.best y (.inl hy)
          exact ⟨z, hz, hzk.trans hk, newer_tr hn hzn⟩
  exact h3.one h2 (one2 hb ha hc.symm)

theorem vNe_new (p : En × En) : vNe p = (En.newer p.1 p.2 || En.newer p.2 p.1) := by
  cases h1 : En.newer p.1 p.2 <;> cases h2 : En.newer p.2 p.1
  · exact vNe_no (x := p.1) (y := p.2) h1 h2
  all_goals
    cases h : vNe p
    · have := vNe_same (x := p.1) (y := p.2) h
      first | (rw [newer_iff] at h1; omega) | (rw [newer_iff] at h2; omega)
    · rfl
theorem mem_dm {a b : List En} (ha : MapL a) (hb : MapL b) (x : En) : x ∈ dmL a b ↔ x ∈ lkL a b ∨ x ∈ lkL b a := by
  unfold dmL
  rw [List.mem_map]
  constructor
  · rintro ⟨⟨p, q⟩, hp, rfl⟩
    rw [List.mem_filter, mem_prs a b ha.rises hb.rises] at hp
    obtain ⟨hp, hv⟩ := hp
    rcases hp with ⟨h1, h2, h3⟩ | ⟨h1, h2, h3⟩ | ⟨h1, h2, h3⟩ <;> dsimp only at h1 h2 h3 ⊢
    · rcases best_pick p q with ⟨e, g⟩ | ⟨e, g⟩ <;> rw [e]
      · refine .inr ((mem_lk hb ha q).2 ⟨h2, fun y hy hk => ?_⟩)
        rw [key_one ha.rises hy h1 (hk.trans h3.symm)]
        exact g
      · refine .inl ((mem_lk ha hb p).2 ⟨h1, fun y hy hk => ?_⟩)
        rw [key_one hb.rises hy h2 (hk.trans h3)]
        rw [vNe_new] at hv
        dsimp only at hv
        rw [g, Bool.or_false] at hv
        exact hv
    · subst h2
      rw [best_zr (ha.pos h1)]
      exact .inl ((mem_lk ha hb p).2 ⟨h1, fun y hy hk => absurd hk (h3 y hy)⟩)
    · subst h1
      rw [best_zl (hb.pos h2)]
      exact .inr ((mem_lk hb ha q).2 ⟨h2, fun y hy hk => absurd hk (h3 y hy)⟩)
  · rintro (h | h)
    · obtain ⟨h1, h2⟩ := (mem_lk ha hb x).1 h
      by_cases hq : ∃ y ∈ b, y.k = x.k
      · obtain ⟨y, hy, hk⟩ := hq
        refine ⟨(x, y), List.mem_filter.2 ⟨(mem_prs a b ha.rises hb.rises _).2 (.inl ⟨h1, hy, hk.symm⟩), ?_⟩, ?_⟩
        · rw [vNe_new]; dsimp only; rw [h2 y hy hk]; rfl
        · show En.best x y = x
          unfold En.best
          rw [newer_tot (h2 y hy hk)]
          rfl
      · refine ⟨(x, eZ), List.mem_filter.2 ⟨(mem_prs a b ha.rises hb.rises _).2 (.inr (.inl ⟨h1, rfl, fun y hy hk => hq ⟨y, hy, hk⟩⟩)), ?_⟩, best_zr (ha.pos h1)⟩
        rw [vNe_new]; dsimp only; rw [(newer_z (ha.pos h1)).2]; rfl
    · obtain ⟨h1, h2⟩ := (mem_lk hb ha x).1 h
      by_cases hq : ∃ y ∈ a, y.k = x.k
      · obtain ⟨y, hy, hk⟩ := hq
        refine ⟨(y, x), List.mem_filter.2 ⟨(mem_prs a b ha.rises hb.rises _).2 (.inl ⟨hy, h1, hk⟩), ?_⟩, ?_⟩
        · rw [vNe_new]; dsimp only; rw [h2 y hy hk, Bool.or_true]
        · show En.best y x = x
          unfold En.best
          rw [h2 y hy hk]
          rfl
      · refine ⟨(eZ, x), List.mem_filter.2 ⟨(mem_prs a b ha.rises hb.rises _).2 (.inr (.inr ⟨rfl, h1, fun y hy hk => hq ⟨y, hy, hk⟩⟩)), ?_⟩, best_zl (hb.pos h1)⟩
        rw [vNe_new]; dsimp only; rw [(newer_z (hb.pos h1)).2, Bool.or_true]
theorem mem_mxlk {a b : List En} (ha : MapL a) (hb : MapL b) (x : En) : x ∈ mxL (lkL a b) (lkL b a) ↔ x ∈ lkL a b ∨ x ∈ lkL b a := by
  have no : ∀ y z, y ∈ lkL a b → z ∈ lkL b a → y.k ≠ z.k := by
    intro y z hy hz hk
    have h1 := ((mem_lk ha hb y).1 hy).2 z ((mem_lk hb ha z).1 hz).1 hk.symm
    have h2 := ((mem_lk hb ha z).1 hz).2 y ((mem_lk ha hb y).1 hy).1 hk
    rw [newer_tot h1] at h2
    cases h2
  rw [mem_mx (lk_map ha hb) (lk_map hb ha)]
  constructor
  · rintro (h | h)
    · exact .inl h.1
    · exact .inr h.1
  · rintro (h | h)
    · exact .inl ⟨h, fun y hy hk => absurd hk.symm (no x y h hy)⟩
    · exact .inr ⟨h, fun y hy hk => absurd hk (no y x hy h)⟩
theorem dm_rises {a b : List En} (ha : MapL a) (hb : MapL b) : RisesE (dmL a b) :=
  List.Pairwise.sublist (List.Sublist.map _ List.filter_sublist) (mx_rises a b ha hb)
theorem dm_mx {a b : List En} (ha : MapL a) (hb : MapL b) : dmL a b = mxL (lkL a b) (lkL b a) :=
  rises_mem (dm_rises ha hb) (mx_rises _ _ (lk_map ha hb) (lk_map hb ha)) (fun x => (mem_dm ha hb x).trans (mem_mxlk ha hb x).symm)

theorem prs_swap (a b : List En) : prs b a = (prs a b).map (fun p => (p.2, p.1)) := by
  induction a, b using prs.induct with
  | case1 => rw [prs_nil]; rfl
  | case2 x r ih => rw [prs_left, prs_right, ih]; rfl
  | case3 y s ih => rw [prs_left, prs_right, ih]; rfl
  | case4 x r y s h ih =>
    have h2 : kLt y.k x.k = false := by
      cases hh : kLt y.k x.k
      · rfl
      · have := kLt_trans h hh; rw [kLt_irrefl] at this; cases this
    rw [prs_lt r s h, prs_gt s r h2 h, ih]; rfl
  | case5 x r y s h h' ih => rw [prs_gt r s (by simpa using h) h', prs_lt s r h', ih]; rfl
  | case6 x r y s h h' ih => rw [prs_eq r s (by simpa using h) (by simpa using h'), prs_eq s r (by simpa using h') (by simpa using h), ih]; rfl
theorem dm_len (a b : List En) : (dmL a b).length = (lkL a b).length + (lkL b a).length := by
  have key : ∀ l : List (En × En), (l.filter vNe).length = (l.filter (fun p => En.newer p.1 p.2)).length + ((l.map (fun p => (p.2, p.1))).filter (fun p => En.newer p.1 p.2)).length := by
    intro l
    induction l with
    | nil => rfl
    | cons p t ih =>
      rw [List.map_cons]
      simp only [List.filter_cons]
      rw [vNe_new]
      cases h1 : En.newer p.1 p.2 <;> cases h2 : En.newer p.2 p.1
      · simpa using ih
      · simp only [Bool.or_true, if_true, Bool.false_eq_true, if_false, List.length_cons]; omega
      · simp only [Bool.or_false, if_true, Bool.false_eq_true, if_false, List.length_cons]; omega
      · rw [newer_tot h1] at h2; cases h2
  unfold dmL lkL
  rw [List.length_map, List.length_map, List.length_map, key, ← prs_swap]

/-- What is in a range of the newest of both is the newest of what is in it of each. -/
theorem mx_in {a b : List En} (ha : MapL a) (hb : MapL b) (r : Rg) : inL r (mxL a b) = mxL (inL r a) (inL r b) := by
  have ma : MapL (inL r a) := mapL_sub ha List.filter_sublist
  have mb : MapL (inL r b) := mapL_sub hb List.filter_sublist
  have mm := mapL_sub (mx_map ha hb) (l := inL r (mxL a b)) List.filter_sublist
  have mem : ∀ (l : List En) (x : En), x ∈ inL r l ↔ x ∈ l ∧ Rg.has r x.k = true := fun l x => by unfold inL; rw [List.mem_filter]
  refine rises_mem mm.rises (mx_rises _ _ ma mb) (fun x => ?_)
  rw [mem, mem_mx ha hb, mem_mx ma mb]
  constructor
  · rintro ⟨h | h, hr⟩
    · exact .inl ⟨(mem a x).2 ⟨h.1, hr⟩, fun y hy hk => h.2 y ((mem b y).1 hy).1 hk⟩
    · exact .inr ⟨(mem b x).2 ⟨h.1, hr⟩, fun y hy hk => h.2 y ((mem a y).1 hy).1 hk⟩
  · rintro (h | h)
    · have hx := (mem a x).1 h.1
      exact ⟨.inl ⟨hx.1, fun y hy hk => h.2 y ((mem b y).2 ⟨hy, by rw [hk]; exact hx.2⟩) hk⟩, hx.2⟩
    · have hx := (mem b x).1 h.1
      exact ⟨.inr ⟨hx.1, fun y hy hk => h.2 y ((mem a y).2 ⟨hy, by rw [hk]; exact hx.2⟩) hk⟩, hx.2⟩
theorem in_map {a : List En} (ha : MapL a) (r : Rg) : MapL (inL r a) := mapL_sub ha List.filter_sublist
theorem ckL_map {l : List En} (h : MapL l) : ckL l = 0 := ck_list.2 h
theorem ckRL_map {l : List En} (h : MapL l) (r : Rg) : ckRL l r = r.chk := by unfold ckRL; rw [if_neg (by simp [ckL_map h])]

end Go.Proofs.Ytgailbfoicoaiab
