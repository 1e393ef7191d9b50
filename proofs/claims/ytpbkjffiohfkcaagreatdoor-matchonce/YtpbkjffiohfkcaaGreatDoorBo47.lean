/-
  Entries that were taken come again: plain.
  Print, and what it stands on.
  Print.
-/
import Derived.Test.YtpbkjffiohfkcaaGreatDoorBo38
import Derived.Test.YtpbkjffiohfkcaaGreatDoorBo30
import Derived.Deep.Cut
namespace Go.Proofs.YtpbkjffiohfkcaaGreatDoor
open Go.RowKit
set_option linter.unusedVariables false
/-- Who is found under a key is there. -/
theorem look_inT {k : ByteArray} {l : List En} {o : En} (h : lookE k l = some o) : o ∈ l ∧ o.k = k := by
  unfold lookE at h
  have h1 := List.find?_some h
  have h2 := List.mem_of_find?_eq_some h
  simp only [Bool.and_eq_true, Bool.not_eq_true'] at h1
  exact ⟨h2, kLt_total h1.2 h1.1⟩
theorem look_outT {k : ByteArray} {l : List En} (h : lookE k l = none) : ∀ y ∈ l, y.k ≠ k := by
  unfold lookE at h
  rw [List.find?_eq_none] at h
  rintro y hy rfl
  have := h y hy
  rw [kLt_irrefl] at this
  simp at this
theorem look_atT {l : List En} (h : RisesE l) {y : En} (hy : y ∈ l) : lookE y.k l = some y := by
  cases hl : lookE y.k l with
  | none => exact absurd rfl (look_outT hl y hy)
  | some o =>
    obtain ⟨h1, h2⟩ := look_inT hl
    rw [key_one h h1 hy h2]
theorem mem_insT {e : En} {l : List En} (h : RisesE l) (x : En) : x ∈ insE e l ↔ x = e ∨ (x ∈ l ∧ x.k ≠ e.k) := by
  induction l with
  | nil => simp [insE]
  | cons y l ih =>
    have h1 := rises_consE.1 h
    unfold insE
    by_cases g : kLt e.k y.k = true
    · rw [if_pos g]
      constructor
      · intro hx
        rcases List.mem_cons.1 hx with rfl | hx
        · exact .inl rfl
        · refine .inr ⟨hx, fun c => ?_⟩
          rcases List.mem_cons.1 hx with rfl | hx
          · rw [c, kLt_irrefl] at g; cases g
          · have := kLt_trans g (h1.1 x hx)
            rw [c, kLt_irrefl] at this; cases this
      · rintro (rfl | ⟨hx, -⟩)
        · exact List.mem_cons_self
        · exact List.mem_cons_of_mem _ hx
    · rw [if_neg g]
      by_cases g2 : kLt y.k e.k = true
      · rw [if_pos g2, List.mem_cons, ih h1.2, List.mem_cons]
        constructor
        · rintro (rfl | rfl | ⟨hx, hk⟩)
          · exact .inr ⟨.inl rfl, kLt_ne g2⟩
          · exact .inl rfl
          · exact .inr ⟨.inr hx, hk⟩
        · rintro (rfl | ⟨rfl | hx, hk⟩)
          · exact .inr (.inl rfl)
          · exact .inl rfl
          · exact .inr (.inr ⟨hx, hk⟩)
      · rw [if_neg g2]
        have he : y.k = e.k := kLt_total (by simpa using g2) (by simpa using g)
        rw [List.mem_cons, List.mem_cons]
        constructor
        · rintro (rfl | hx)
          · exact .inl rfl
          · refine .inr ⟨.inr hx, fun c => ?_⟩
            have := h1.1 x hx
            rw [he, c, kLt_irrefl] at this; cases this
        · rintro (rfl | ⟨rfl | hx, hk⟩)
          · exact .inl rfl
          · exact absurd he hk
          · exact .inr hx
theorem rises_inT {e : En} {l : List En} (h : RisesE l) : RisesE (insE e l) := rises_of_map (by rw [← ins_map]; exact rises_ins _ (rises_map h))
/-- What is taken of an entry, told by what is held under its key. -/
theorem tk_look {e : En} {l : List En} (hc : e.chk = 0) : tkSay e l = if roomB e.k l = false then ((80 : Int), false) else match lookE e.k l with | none => ((0 : Int), true) | some o => ((0 : Int), En.newer e o) := by
  unfold tkSay
  rw [if_neg (by simp [hc])]
  rfl
/-- An entry was taken, passed by, or found no room: seen behind. -/
def Seen (l : List En) (e : En) : Prop := (∃ o ∈ l, o.k = e.k ∧ En.newer e o = false) ∨ ((∀ y ∈ l, y.k ≠ e.k) ∧ 256 ≤ l.length)
theorem seen_step {s : TkS} (h : MapL s.l) {e : En} (hc : e.chk = 0) : Seen (tkStep s e).l e := by
  have hs := tk_look (e := e) (l := s.l) hc
  unfold tkStep
  by_cases hr : roomB e.k s.l = false
  · rw [if_pos hr] at hs
    rw [hs, if_neg (by simp), if_pos rfl]
    refine .inr ?_
    unfold roomB at hr
    cases hl : lookE e.k s.l with
    | none =>
      rw [hl] at hr
      exact ⟨look_outT hl, by simpa using hr⟩
    | some o => rw [hl] at hr; simp at hr
  · rw [if_neg hr] at hs
    cases hl : lookE e.k s.l with
    | none =>
      rw [hl] at hs
      dsimp only at hs
      rw [hs, if_pos rfl]
      exact .inl ⟨e, (mem_insT h.rises e).2 (.inl rfl), rfl, newer_self e⟩
    | some o =>
      rw [hl] at hs
      dsimp only at hs
      cases hn : En.newer e o
      · rw [hn] at hs
        rw [hs, if_neg (by simp), if_neg (by simp)]
        obtain ⟨h1, h2⟩ := look_inT hl
        exact .inl ⟨o, h1, h2, hn⟩
      · rw [hn] at hs
        rw [hs, if_pos rfl]
        exact .inl ⟨e, (mem_insT h.rises e).2 (.inl rfl), rfl, newer_self e⟩
theorem step_lenT {s : TkS} (h : MapL s.l) (e : En) : s.l.length ≤ (tkStep s e).l.length := by
  unfold tkStep
  split
  · show s.l.length ≤ (insE e s.l).length
    rw [insE_plc]
    have := plc_le e.k s.l
    simp only [List.length_append, List.length_take, List.length_drop, List.length_singleton]
    split <;> omega
  · split <;> exact Nat.le_refl _
/-- What was seen stays so. -/
theorem seen_on {s : TkS} (h : MapL s.l ∧ s.l.length ≤ 256) {x e : En} (hx : Seen s.l x) : Seen (tkStep s e).l x := by
  rcases hx with ⟨o, h1, h2, h3⟩ | ⟨h1, h2⟩
  · unfold tkStep
    split
    · rename_i hy
      show Seen (insE e s.l) x
      by_cases hk : o.k = e.k
      · have ho : lookE e.k s.l = some o := by rw [← hk]; exact look_atT h.1.rises h1
        have hc := (tk_yes hy).2.1
        have hs := tk_look (e := e) (l := s.l) hc
        rw [if_neg (by rw [(tk_yes hy).2.2]; simp), ho] at hs
        dsimp only at hs
        rw [hs] at hy
        refine .inl ⟨e, (mem_insT h.1.rises e).2 (.inl rfl), by rw [← hk, h2], newer_tr h3 (newer_tot hy)⟩
      · exact .inl ⟨o, (mem_insT h.1.rises o).2 (.inr ⟨h1, hk⟩), h2, h3⟩
    · split
      · exact .inl ⟨o, h1, h2, h3⟩
      · exact .inl ⟨o, h1, h2, h3⟩
  · unfold tkStep
    split
    · rename_i hy
      show Seen (insE e s.l) x
      have hr := (tk_yes hy).2.2
      unfold roomB at hr
      cases hl : lookE e.k s.l with
      | none => rw [hl] at hr; simp at hr; omega
      | some o =>
        obtain ⟨g1, g2⟩ := look_inT hl
        refine .inr ⟨fun y hy2 => ?_, ?_⟩
        · rcases (mem_insT h.1.rises y).1 hy2 with rfl | ⟨hy3, -⟩
          · rw [← g2]; exact h1 o g1
          · exact h1 y hy3
        · have := step_lenT (s := s) h.1 e
          unfold tkStep at this
          rw [if_pos hy] at this
          exact Nat.le_trans h2 this
    · split
      · exact .inr ⟨h1, h2⟩
      · exact .inr ⟨h1, h2⟩
theorem rev_indE {P : List En → Prop} (h0 : P []) (hs : ∀ l e, P l → P (l ++ [e])) (l : List En) : P l := by
  have h : ∀ r : List En, P r.reverse := by
    intro r
    induction r with
    | nil => exact h0
    | cons e r ih => rw [List.reverse_cons]; exact hs _ _ ih
  have := h l.reverse
  rwa [List.reverse_reverse] at this
theorem step_okE {s : TkS} (h : MapL s.l ∧ s.l.length ≤ 256) (e : En) : MapL (tkStep s e).l ∧ (tkStep s e).l.length ≤ 256 := by
  unfold tkStep
  split
  · rename_i hy
    obtain ⟨-, h2, h3⟩ := tk_yes hy
    exact ⟨take_map h.1 h2, take_len h.1.rises h.2 h3⟩
  · split
    · exact h
    · exact h
theorem tkAll_okE {s : TkS} (h : MapL s.l ∧ s.l.length ≤ 256) (E : List En) : MapL (tkAll s E).l ∧ (tkAll s E).l.length ≤ 256 := by
  refine rev_indE (P := fun E => MapL (tkAll s E).l ∧ (tkAll s E).l.length ≤ 256) h (fun E e ih => ?_) E
  rw [tkAll_snoc]
  exact step_okE ih e
theorem tkAll_seen {s : TkS} (h : MapL s.l ∧ s.l.length ≤ 256) : ∀ E : List En, (∀ e ∈ E, e.chk = 0) → ∀ e ∈ E, Seen (tkAll s E).l e := by
  intro E
  refine rev_indE (P := fun E => (∀ e ∈ E, e.chk = 0) → ∀ e ∈ E, Seen (tkAll s E).l e) (fun _ e he => by cases he) (fun E x ih hc e he => ?_) E
  rw [tkAll_snoc]
  have hok := tkAll_okE h E
  rcases List.mem_append.1 he with he | he
  · exact seen_on hok (ih (fun e he => hc e (List.mem_append_left _ he)) e he)
  · obtain rfl : e = x := by simpa using he
    exact seen_step hok.1 (hc e (List.mem_append_right _ (by simp)))
/-- What was seen is not taken again: refused, just if its key is not there. -/
theorem seen_again {s : TkS} {e : En} (h : MapL s.l) (hc : e.chk = 0) (hs : Seen s.l e) : tkStep s e = ⟨s.l, s.c, s.n, s.f + (if (lookE e.k s.l).isSome = true then 0 else 1)⟩ := by
  have ht := tk_look (e := e) (l := s.l) hc
  rcases hs with ⟨o, h1, h2, h3⟩ | ⟨h1, h2⟩
  · have ho : lookE e.k s.l = some o := by rw [← h2]; exact look_atT h.rises h1
    have hr : roomB e.k s.l = true := by unfold roomB; rw [ho]; simp
    rw [if_neg (by rw [hr]; simp), ho] at ht
    dsimp only at ht
    rw [h3] at ht
    unfold tkStep
    rw [ht, if_neg (by simp), if_neg (by simp), ho]
    simp
  · have ho : lookE e.k s.l = none := by
      cases hl : lookE e.k s.l with
      | none => rfl
      | some o => exact absurd (look_inT hl).2 (h1 o (look_inT hl).1)
    have hr : roomB e.k s.l = false := by unfold roomB; rw [ho]; simp; omega
    rw [if_pos hr] at ht
    unfold tkStep
    rw [ht, if_neg (by simp), if_pos rfl, ho]
    simp
theorem has_keyT {l : List En} (h : RisesE l) {k : ByteArray} : (lookE k l).isSome = true ↔ ∃ y ∈ l, y.k = k := by
  constructor
  · intro hs
    cases hl : lookE k l with
    | none => rw [hl] at hs; simp at hs
    | some o => exact ⟨o, look_inT hl⟩
  · rintro ⟨y, hy, rfl⟩
    rw [look_atT h hy]; rfl
/-- Whether a key that was seen is there stays as it is. -/
theorem key_onT {s : TkS} (h : MapL s.l ∧ s.l.length ≤ 256) {x e : En} (hx : Seen s.l x) : (lookE x.k (tkStep s e).l).isSome = (lookE x.k s.l).isSome := by
  have hr : RisesE (tkStep s e).l := (step_okE h e).1.rises
  unfold tkStep at hr ⊢
  split at hr
  · rename_i hy
    rw [if_pos hy]
    dsimp only at hr ⊢
    have hroom := (tk_yes hy).2.2
    rw [Bool.eq_iff_iff, has_keyT hr, has_keyT h.1.rises]
    constructor
    · rintro ⟨y, hy2, hk⟩
      rcases (mem_insT h.1.rises y).1 hy2 with rfl | ⟨hy3, -⟩
      · rcases hx with ⟨o, h1, h2, -⟩ | ⟨h1, h2⟩
        · exact ⟨o, h1, h2⟩
        · unfold roomB at hroom
          cases hl : lookE y.k s.l with
          | none => rw [hl] at hroom; simp at hroom; omega
          | some o => exact ⟨o, (look_inT hl).1, (look_inT hl).2.trans hk⟩
      · exact ⟨y, hy3, hk⟩
    · rintro ⟨y, hy2, hk⟩
      by_cases hke : y.k = e.k
      · exact ⟨e, (mem_insT h.1.rises e).2 (.inl rfl), by rw [← hke, hk]⟩
      · exact ⟨y, (mem_insT h.1.rises y).2 (.inr ⟨hy2, hke⟩), hk⟩
  · rename_i hy
    rw [if_neg hy]
    split <;> rfl
/-- How many keys are not there. -/
def lackN (l E : List En) : Nat := E.countP (fun e => !(lookE e.k l).isSome)
theorem step_fT {s : TkS} (h : MapL s.l) {e : En} (hc : e.chk = 0) : (tkStep s e).f = s.f + (if (lookE e.k (tkStep s e).l).isSome = true then 0 else 1) := by
  have hs := tk_look (e := e) (l := s.l) hc
  by_cases hr : roomB e.k s.l = false
  · rw [if_pos hr] at hs
    have e1 : tkStep s e = ⟨s.l, s.c, s.n, s.f + 1⟩ := by unfold tkStep; rw [hs, if_neg (by simp), if_pos rfl]
    rw [e1]
    have : (lookE e.k s.l).isSome = false := by
      unfold roomB at hr
      cases hl : (lookE e.k s.l).isSome
      · rfl
      · rw [hl] at hr; simp at hr
    simp [this]
  · rw [if_neg hr] at hs
    cases hl : lookE e.k s.l with
    | none =>
      rw [hl] at hs
      dsimp only at hs
      have e1 : tkStep s e = ⟨insE e s.l, ckm s.c e.c, s.n + 1, s.f⟩ := by unfold tkStep; rw [hs, if_pos rfl]
      rw [e1]
      dsimp only
      rw [if_pos ((has_keyT (rises_inT h.rises)).2 ⟨e, (mem_insT h.rises e).2 (.inl rfl), rfl⟩)]
      rfl
    | some o =>
      rw [hl] at hs
      dsimp only at hs
      cases hn : En.newer e o
      · rw [hn] at hs
        have e1 : tkStep s e = s := by unfold tkStep; rw [hs, if_neg (by simp), if_neg (by simp)]
        rw [e1, hl]; rfl
      · rw [hn] at hs
        have e1 : tkStep s e = ⟨insE e s.l, ckm s.c e.c, s.n + 1, s.f⟩ := by unfold tkStep; rw [hs, if_pos rfl]
        rw [e1]
        dsimp only
        rw [if_pos ((has_keyT (rises_inT h.rises)).2 ⟨e, (mem_insT h.rises e).2 (.inl rfl), rfl⟩)]
        rfl
/-- The first time as many are refused as keys are not there behind. -/
theorem tkAll_f {s : TkS} (h : MapL s.l ∧ s.l.length ≤ 256) : ∀ E : List En, (∀ e ∈ E, e.chk = 0) → (tkAll s E).f = s.f + lackN (tkAll s E).l E := by
  intro E
  refine rev_indE (P := fun E => (∀ e ∈ E, e.chk = 0) → (tkAll s E).f = s.f + lackN (tkAll s E).l E) (fun _ => rfl) (fun E x ih hc => ?_) E
  have hcE : ∀ e ∈ E, e.chk = 0 := fun e he => hc e (List.mem_append_left _ he)
  have hok := tkAll_okE h E
  have hse := tkAll_seen h E hcE
  have e1 : lackN (tkStep (tkAll s E) x).l E = lackN (tkAll s E).l E := by
    unfold lackN
    refine List.countP_congr (fun e he => ?_)
    rw [key_onT hok (hse e he)]
  rw [tkAll_snoc, step_fT hok.1 (hc x (List.mem_append_right _ (by simp))), ih hcE]
  unfold lackN at e1 ⊢
  rw [List.countP_append, e1]
  simp only [List.countP_cons, List.countP_nil]
  cases (lookE x.k (tkStep (tkAll s E) x).l).isSome <;> simp <;> omega
/-- What was seen, all of it, once more. -/
theorem tkAll_again {L : List En} {c : Int} (h : MapL L) : ∀ E : List En, (∀ e ∈ E, e.chk = 0) → (∀ e ∈ E, Seen L e) → tkAll ⟨L, c, 0, 0⟩ E = ⟨L, c, 0, lackN L E⟩ := by
  intro E
  refine rev_indE (P := fun E => (∀ e ∈ E, e.chk = 0) → (∀ e ∈ E, Seen L e) → tkAll ⟨L, c, 0, 0⟩ E = ⟨L, c, 0, lackN L E⟩) (fun _ _ => rfl) (fun E x ih hc hs => ?_) E
  rw [tkAll_snoc, ih (fun e he => hc e (List.mem_append_left _ he)) (fun e he => hs e (List.mem_append_left _ he))]
  rw [seen_again (s := ⟨L, c, 0, lackN L E⟩) h (hc x (List.mem_append_right _ (by simp))) (hs x (List.mem_append_right _ (by simp)))]
  unfold lackN
  rw [List.countP_append]
  simp only [List.countP_cons, List.countP_nil]
  cases (lookE x.k L).isSome <;> simp
theorem tkAll_more {s : TkS} : ∀ E : List En, (tkAll s E).l.length + s.n ≤ s.l.length + (tkAll s E).n := by
  intro E
  refine rev_indE (P := fun E => (tkAll s E).l.length + s.n ≤ s.l.length + (tkAll s E).n) (Nat.le_refl _) (fun E e ih => ?_) E
  rw [tkAll_snoc]
  unfold tkStep
  split
  · have := insE_len_le e (tkAll s E).l
    dsimp only
    omega
  · split
    · exact ih
    · exact ih
/-- Entries that are newer than all that come stay, and no others come of them. -/
theorem step_memT {s : TkS} (h : MapL s.l) {x e : En} (hn : e.k = x.k → En.newer x e = true) : x ∈ (tkStep s e).l ↔ x ∈ s.l := by
  unfold tkStep
  split
  · rename_i hy
    dsimp only
    rw [mem_insT h.rises]
    constructor
    · rintro (rfl | ⟨hx, -⟩)
      · have := hn rfl
        rw [newer_self] at this; cases this
      · exact hx
    · intro hx
      refine .inr ⟨hx, fun hk => ?_⟩
      have hc := (tk_yes hy).2.1
      have hs := tk_look (e := e) (l := s.l) hc
      rw [if_neg (by rw [(tk_yes hy).2.2]; simp), ← hk, look_atT h.rises hx] at hs
      dsimp only at hs
      rw [hs] at hy
      have h1 := newer_tot (hn hk.symm)
      dsimp only at hy
      rw [h1] at hy; cases hy
  · split <;> exact Iff.rfl
theorem tkAll_mem {s : TkS} (h : MapL s.l ∧ s.l.length ≤ 256) {x : En} : ∀ E : List En, (∀ e ∈ E, e.k = x.k → En.newer x e = true) → (x ∈ (tkAll s E).l ↔ x ∈ s.l) := by
  intro E
  refine rev_indE (P := fun E => (∀ e ∈ E, e.k = x.k → En.newer x e = true) → (x ∈ (tkAll s E).l ↔ x ∈ s.l)) (fun _ => Iff.rfl) (fun E e ih hn => ?_) E
  rw [tkAll_snoc, step_memT (tkAll_okE h E).1 (hn e (List.mem_append_right _ (by simp)))]
  exact ih (fun e he => hn e (List.mem_append_left _ he))
/-- What the sender lacks is the same behind as ahead. -/
theorem lk_again {s : TkS} (h : MapL s.l ∧ s.l.length ≤ 256) {E : List En} (hE : MapL E) (f : En → Bool) : lkL ((tkAll s E).l.filter f) E = lkL (s.l.filter f) E := by
  have h1 : MapL ((tkAll s E).l.filter f) := mapL_sub (tkAll_okE h E).1 List.filter_sublist
  have h2 : MapL (s.l.filter f) := mapL_sub h.1 List.filter_sublist
  refine rises_mem (lk_map h1 hE).rises (lk_map h2 hE).rises (fun x => ?_)
  rw [mem_lk h1 hE, mem_lk h2 hE, List.mem_filter, List.mem_filter]
  constructor
  · rintro ⟨⟨a, b⟩, c⟩
    exact ⟨⟨(tkAll_mem h E c).1 a, b⟩, c⟩
  · rintro ⟨⟨a, b⟩, c⟩
    exact ⟨⟨(tkAll_mem h E c).2 a, b⟩, c⟩
end Go.Proofs.YtpbkjffiohfkcaaGreatDoor
namespace Go.Proofs.YtpbkjffiohfkcaaGreatDoor
open Go.RowKit
set_option linter.unusedVariables false
end Go.Proofs.YtpbkjffiohfkcaaGreatDoor
namespace Go.Proofs.YtpbkjffiohfkcaaGreatDoor
open Go.RowKit
set_option linter.unusedVariables false
end Go.Proofs.YtpbkjffiohfkcaaGreatDoor
