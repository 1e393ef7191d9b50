/-
  Entries that were taken come again: plain.
-/
import Derived.Test.YtpbkjffiohfkcaaGreatDoorBq29
import Derived.Test.YtpbkjffiohfkcaaGreatDoorBq1
import Derived.Test.YtpbkjffiohfkcaaGreatDoorBq15
import Derived.Test.YtpbkjffiohfkcaaGreatDoorBq28
namespace Go.Proofs.YtpbkjffiohfkcaaGreatDoor
open Go.RowKit
set_option linter.unusedVariables false
theorem look_inT {k : ByteArray} {l : List En} {o : En} (h : lookE k l = some o) : o ∈ l ∧ o.k = k := by
 unfold lookE at h
 have h1 := List.find?_some h
 have h2 := List.mem_of_find?_eq_some h
 simp only [Bool.and_eq_true, Bool.not_eq_true'] at h1
 exact ⟨h2, kLt_total h1.2 h1.1⟩
theorem look_outT {k : ByteArray} {l : List En} (h : lookE k l = none) : ∀ y ∈ l, y.k ≠ k := by
 unfold lookE at h
 rw [List.find?_eq_none] at h
 rintro y hy rfl
 have := h y hy
 rw [kLt_irrefl] at this
 simp at this
theorem look_atT {l : List En} (h : RisesE l) {y : En} (hy : y ∈ l) : lookE y.k l = some y := by
 cases hl : lookE y.k l with
 | none => exact absurd rfl (look_outT hl y hy)
 | some o =>
  obtain ⟨h1, h2⟩ := look_inT hl
  rw [key_one h h1 hy h2]
theorem mem_insT {e : En} {l : List En} (h : RisesE l) (x : En) : x ∈ insE e l ↔ x = e ∨ (x ∈ l ∧ x.k ≠ e.k) := by
 induction l with
 | nil => simp [insE]
 | cons y l ih =>
  have h1 := rises_consE.1 h
  unfold insE
  by_cases g : kLt e.k y.k = true
  ·rw [if_pos g]
   constructor
   ·intro hx
    rcases List.mem_cons.1 hx with rfl | hx
    ·exact .inl rfl
    ·refine .inr ⟨hx, fun c => ?_⟩
     rcases List.mem_cons.1 hx with rfl | hx
     ·rw [c, kLt_irrefl] at g; cases g
     ·have := kLt_trans g (h1.1 x hx)
      rw [c, kLt_irrefl] at this; cases this
   ·rintro (rfl | ⟨hx, -⟩)
    ·exact List.mem_cons_self
    ·exact List.mem_cons_of_mem _ hx
  ·rw [if_neg g]
   by_cases g2 : kLt y.k e.k = true
   ·rw [if_pos g2, List.mem_cons, ih h1.2, List.mem_cons]
    constructor
    ·rintro (rfl | rfl | ⟨hx, hk⟩)
     ·exact .inr ⟨.inl rfl, kLt_ne g2⟩
     ·exact .inl rfl
     ·exact .inr ⟨.inr hx, hk⟩
    ·rintro (rfl | ⟨rfl | hx, hk⟩)
     ·exact .inr (.inl rfl)
     ·exact .inl rfl
     ·exact .inr (.inr ⟨hx, hk⟩)
   ·rw [if_neg g2]
    have he : y.k = e.k := kLt_total (by simpa using g2) (by simpa using g)
    rw [List.mem_cons, List.mem_cons]
    constructor
    ·rintro (rfl | hx)
     ·exact .inl rfl
     ·refine .inr ⟨.inr hx, fun c => ?_⟩
      have := h1.1 x hx
      rw [he, c, kLt_irrefl] at this; cases this
    ·rintro (rfl | ⟨rfl | hx, hk⟩)
     ·exact .inl rfl
     ·exact absurd he hk
     ·exact .inr hx
theorem rises_inT {e : En} {l : List En} (h : RisesE l) : RisesE (insE e l) := rises_of_map (by rw [← ins_map]; exact rises_ins _ (rises_map h))
theorem tk_look {e : En} {l : List En} (hc : e.chk = 0) : tkSay e l = if roomB e.k l = false then ((80 : Int), false) else match lookE e.k l with | none => ((0 : Int), true) | some o => ((0 : Int), En.newer e o) := by
 unfold tkSay
 rw [if_neg (by simp [hc])]
 rfl
def Seen (l : List En) (e : En) : Prop := (∃ o ∈ l, o.k = e.k ∧ En.newer e o = false) ∨ ((∀ y ∈ l, y.k ≠ e.k) ∧ 256 ≤ l.length)
theorem seen_step {s : TkS} (h : MapL s.l) {e : En} (hc : e.chk = 0) : Seen (tkStep s e).l e := by
 have hs := tk_look (e := e) (l := s.l) hc
 unfold tkStep
 by_cases hr : roomB e.k s.l = false
 ·rw [if_pos hr] at hs
  rw [hs, if_neg (by simp), if_pos rfl]
  refine .inr ?_
  unfold roomB at hr
  cases hl : lookE e.k s.l with
  | none =>
   rw [hl] at hr
   exact ⟨look_outT hl, by simpa using hr⟩
  | some o => rw [hl] at hr; simp at hr
 ·rw [if_neg hr] at hs
  cases hl : lookE e.k s.l with
  | none =>
   rw [hl] at hs
   dsimp only at hs
   rw [hs, if_pos rfl]
   exact .inl ⟨e, (mem_insT h.rises e).2 (.inl rfl), rfl, newer_self e⟩
  | some o =>
   rw [hl] at hs
   dsimp only at hs
   cases hn : En.newer e o
   ·rw [hn] at hs
    rw [hs, if_neg (by simp), if_neg (by simp)]
    obtain ⟨h1, h2⟩ := look_inT hl
    exact .inl ⟨o, h1, h2, hn⟩
   ·rw [hn] at hs
    rw [hs, if_pos rfl]
    exact .inl ⟨e, (mem_insT h.rises e).2 (.inl rfl), rfl, newer_self e⟩
theorem step_lenT {s : TkS} (h : MapL s.l) (e : En) : s.l.length ≤ (tkStep s e).l.length := by
 unfold tkStep
 split
 ·show s.l.length ≤ (insE e s.l).length
  rw [insE_plc]
  have := plc_le e.k s.l
  simp only [List.length_append, List.length_take, List.length_drop, List.length_singleton]
  split <;> omega
 ·split <;> exact Nat.le_refl _
theorem seen_on {s : TkS} (h : MapL s.l ∧ s.l.length ≤ 256) {x e : En} (hx : Seen s.l x) : Seen (tkStep s e).l x := by
 rcases hx with ⟨o, h1, h2, h3⟩ | ⟨h1, h2⟩
 ·unfold tkStep
  split
  ·rename_i hy
   show Seen (insE e s.l) x
   by_cases hk : o.k = e.k
   ·have ho : lookE e.k s.l = some o := by rw [← hk]; exact look_atT h.1.rises h1
    have hc := (tk_yes hy).2.1
    have hs := tk_look (e := e) (l := s.l) hc
    rw [if_neg (by rw [(tk_yes hy).2.2]; simp), ho] at hs
    dsimp only at hs
    rw [hs] at hy
    refine .inl ⟨e, (mem_insT h.1.rises e).2 (.inl rfl), by rw [← hk, h2], newer_tr h3 (newer_tot hy)⟩
   ·exact .inl ⟨o, (mem_insT h.1.rises o).2 (.inr ⟨h1, hk⟩), h2, h3⟩
  ·split
   ·exact .inl ⟨o, h1, h2, h3⟩
   ·exact .inl ⟨o, h1, h2, h3⟩
 ·unfold tkStep
  split
  ·rename_i hy
   show Seen (insE e s.l) x
   have hr := (tk_yes hy).2.2
   unfold roomB at hr
   cases hl : lookE e.k s.l with
   | none => rw [hl] at hr; simp at hr; omega
   | some o =>
    obtain ⟨g1, g2⟩ := look_inT hl
    refine .inr ⟨fun y hy2 => ?_, ?_⟩
    ·rcases (mem_insT h.1.rises y).1 hy2 with rfl | ⟨hy3, -⟩
     ·rw [← g2]; exact h1 o g1
     ·exact h1 y hy3
    ·have := step_lenT (s := s) h.1 e
     unfold tkStep at this
     rw [if_pos hy] at this
     exact Nat.le_trans h2 this
  ·split
   ·exact .inr ⟨h1, h2⟩
   ·exact .inr ⟨h1, h2⟩
theorem rev_indE {P : List En → Prop} (h0 : P []) (hs : ∀ l e, P l → P (l ++ [e])) (l : List En) : P l := by
 have h : ∀ r : List En, P r.reverse := by
  intro r
  induction r with
  | nil => exact h0
  | cons e r ih => rw [List.reverse_cons]; exact hs _ _ ih
 have := h l.reverse
 rwa [List.reverse_reverse] at this
theorem step_okE {s : TkS} (h : MapL s.l ∧ s.l.length ≤ 256) (e : En) : MapL (tkStep s e).l ∧ (tkStep s e).l.length ≤ 256 := by
 unfold tkStep
 split
 ·rename_i hy
  obtain ⟨-, h2, h3⟩ := tk_yes hy
  exact ⟨take_map h.1 h2, take_len h.1.rises h.2 h3⟩
 ·split
  ·exact h
  ·exact h
theorem tkAll_okE {s : TkS} (h : MapL s.l ∧ s.l.length ≤ 256) (E : List En) : MapL (tkAll s E).l ∧ (tkAll s E).l.length ≤ 256 := by
 refine rev_indE (P := fun E => MapL (tkAll s E).l ∧ (tkAll s E).l.length ≤ 256) h (fun E e ih => ?_) E
 rw [tkAll_snoc]
 exact step_okE ih e
theorem tkAll_seen {s : TkS} (h : MapL s.l ∧ s.l.length ≤ 256) : ∀ E : List En, (∀ e ∈ E, e.chk = 0) → ∀ e ∈ E, Seen (tkAll s E).l e := by
 intro E
 refine rev_indE (P := fun E => (∀ e ∈ E, e.chk = 0) → ∀ e ∈ E, Seen (tkAll s E).l e) (fun _ e he => by cases he) (fun E x ih hc e he => ?_) E
 rw [tkAll_snoc]
 have hok := tkAll_okE h E
 rcases List.mem_append.1 he with he | he
 ·exact seen_on hok (ih (fun e he => hc e (List.mem_append_left _ he)) e he)
 ·obtain rfl : e = x := by simpa using he
  exact seen_step hok.1 (hc e (List.mem_append_right _ (by simp)))
theorem seen_again {s : TkS} {e : En} (h : MapL s.l) (hc : e.chk = 0) (hs : Seen s.l e) : tkStep s e = ⟨s.l, s.c, s.n, s.f + (if (lookE e.k s.l).isSome = true then 0 else 1)⟩ := by
 have ht := tk_look (e := e) (l := s.l) hc
 rcases hs with ⟨o, h1, h2, h3⟩ | ⟨h1, h2⟩
 ·have ho : lookE e.k s.l = some o := by rw [← h2]; exact look_atT h.rises h1
  have hr : roomB e.k s.l = true := by unfold roomB; rw [ho]; simp
  rw [if_neg (by rw [hr]; simp), ho] at ht
  dsimp only at ht
  rw [h3] at ht
  unfold tkStep
  rw [ht, if_neg (by simp), if_neg (by simp), ho]
  simp
 ·have ho : lookE e.k s.l = none := by
    cases hl : lookE e.k s.l with
    | none => rfl
    | some o => exact absurd (look_inT hl).2 (h1 o (look_inT hl).1)
  have hr : roomB e.k s.l = false := by unfold roomB; rw [ho]; simp; omega
  rw [if_pos hr] at ht
  unfold tkStep
  rw [ht, if_neg (by simp), if_pos rfl, ho]
  simp
theorem has_keyT {l : List En} (h : RisesE l) {k : ByteArray} : (lookE k l).isSome = true ↔ ∃ y ∈ l, y.k = k := by
 constructor
 ·intro hs
  cases hl : lookE k l with
  | none => rw [hl] at hs; simp at hs
  | some o => exact ⟨o, look_inT hl⟩
 ·rintro ⟨y, hy, rfl⟩
  rw [look_atT h hy]; rfl
theorem key_onT {s : TkS} (h : MapL s.l ∧ s.l.length ≤ 256) {x e : En} (hx : Seen s.l x) : (lookE x.k (tkStep s e).l).isSome = (lookE x.k s.l).isSome := by
 have hr : RisesE (tkStep s e).l := (step_okE h e).1.rises
 unfold tkStep at hr ⊢
 split at hr
 ·rename_i hy
  rw [if_pos hy]
  dsimp only at hr ⊢
  have hroom := (tk_yes hy).2.2
  rw [Bool.eq_iff_iff, has_keyT hr, has_keyT h.1.rises]
  constructor
  ·rintro ⟨y, hy2, hk⟩
   rcases (mem_insT h.1.rises y).1 hy2 with rfl | ⟨hy3, -⟩
   ·rcases hx with ⟨o, h1, h2, -⟩ | ⟨h1, h2⟩
    ·exact ⟨o, h1, h2⟩
    ·unfold roomB at hroom
     cases hl : lookE y.k s.l with
     | none => rw [hl] at hroom; simp at hroom; omega
     | some o => exact ⟨o, (look_inT hl).1, (look_inT hl).2.trans hk⟩
   ·exact ⟨y, hy3, hk⟩
  ·rintro ⟨y, hy2, hk⟩
   by_cases hke : y.k = e.k
   ·exact ⟨e, (mem_insT h.1.rises e).2 (.inl rfl), by rw [← hke, hk]⟩
   ·exact ⟨y, (mem_insT h.1.rises y).2 (.inr ⟨hy2, hke⟩), hk⟩
 ·rename_i hy
  rw [if_neg hy]
  split <;> rfl
def lackN (l E : List En) : Nat := E.countP (fun e => !(lookE e.k l).isSome)
theorem step_fT {s : TkS} (h : MapL s.l) {e : En} (hc : e.chk = 0) : (tkStep s e).f = s.f + (if (lookE e.k (tkStep s e).l).isSome = true then 0 else 1) := by
 have hs := tk_look (e := e) (l := s.l) hc
 by_cases hr : roomB e.k s.l = false
 ·rw [if_pos hr] at hs
  have e1 : tkStep s e = ⟨s.l, s.c, s.n, s.f + 1⟩ := by unfold tkStep; rw [hs, if_neg (by simp), if_pos rfl]
  rw [e1]
  have : (lookE e.k s.l).isSome = false := by
   unfold roomB at hr
   cases hl : (lookE e.k s.l).isSome
   ·rfl
   ·rw [hl] at hr; simp at hr
  simp [this]
 ·rw [if_neg hr] at hs
  cases hl : lookE e.k s.l with
  | none =>
   rw [hl] at hs
   dsimp only at hs
   have e1 : tkStep s e = ⟨insE e s.l, ckm s.c e.c, s.n + 1, s.f⟩ := by unfold tkStep; rw [hs, if_pos rfl]
   rw [e1]
   dsimp only
   rw [if_pos ((has_keyT (rises_inT h.rises)).2 ⟨e, (mem_insT h.rises e).2 (.inl rfl), rfl⟩)]
   rfl
  | some o =>
   rw [hl] at hs
   dsimp only at hs
   cases hn : En.newer e o
   ·rw [hn] at hs
    have e1 : tkStep s e = s := by unfold tkStep; rw [hs, if_neg (by simp), if_neg (by simp)]
    rw [e1, hl]; rfl
   ·rw [hn] at hs
    have e1 : tkStep s e = ⟨insE e s.l, ckm s.c e.c, s.n + 1, s.f⟩ := by unfold tkStep; rw [hs, if_pos rfl]
    rw [e1]
    dsimp only
    rw [if_pos ((has_keyT (rises_inT h.rises)).2 ⟨e, (mem_insT h.rises e).2 (.inl rfl), rfl⟩)]
    rfl
theorem tkAll_f {s : TkS} (h : MapL s.l ∧ s.l.length ≤ 256) : ∀ E : List En, (∀ e ∈ E, e.chk = 0) → (tkAll s E).f = s.f + lackN (tkAll s E).l E := by
 intro E
 refine rev_indE (P := fun E => (∀ e ∈ E, e.chk = 0) → (tkAll s E).f = s.f + lackN (tkAll s E).l E) (fun _ => rfl) (fun E x ih hc => ?_) E
 have hcE : ∀ e ∈ E, e.chk = 0 := fun e he => hc e (List.mem_append_left _ he)
 have hok := tkAll_okE h E
 have hse := tkAll_seen h E hcE
 have e1 : lackN (tkStep (tkAll s E) x).l E = lackN (tkAll s E).l E := by
  unfold lackN
  refine List.countP_congr (fun e he => ?_)
  rw [key_onT hok (hse e he)]
 rw [tkAll_snoc, step_fT hok.1 (hc x (List.mem_append_right _ (by simp))), ih hcE]
 unfold lackN at e1 ⊢
 rw [List.countP_append, e1]
 simp only [List.countP_cons, List.countP_nil]
 cases (lookE x.k (tkStep (tkAll s E) x).l).isSome <;> simp <;> omega
theorem tkAll_again {L : List En} {c : Int} (h : MapL L) : ∀ E : List En, (∀ e ∈ E, e.chk = 0) → (∀ e ∈ E, Seen L e) → tkAll ⟨L, c, 0, 0⟩ E = ⟨L, c, 0, lackN L E⟩ := by
 intro E
 refine rev_indE (P := fun E => (∀ e ∈ E, e.chk = 0) → (∀ e ∈ E, Seen L e) → tkAll ⟨L, c, 0, 0⟩ E = ⟨L, c, 0, lackN L E⟩) (fun _ _ => rfl) (fun E x ih hc hs => ?_) E
 rw [tkAll_snoc, ih (fun e he => hc e (List.mem_append_left _ he)) (fun e he => hs e (List.mem_append_left _ he))]
 rw [seen_again (s := ⟨L, c, 0, lackN L E⟩) h (hc x (List.mem_append_right _ (by simp))) (hs x (List.mem_append_right _ (by simp)))]
 unfold lackN
 rw [List.countP_append]
 simp only [List.countP_cons, List.countP_nil]
 cases (lookE x.k L).isSome <;> simp
theorem tkAll_more {s : TkS} : ∀ E : List En, (tkAll s E).l.length + s.n ≤ s.l.length + (tkAll s E).n := by
 intro E
 refine rev_indE (P := fun E => (tkAll s E).l.length + s.n ≤ s.l.length + (tkAll s E).n) (Nat.le_refl _) (fun E e ih => ?_) E
 rw [tkAll_snoc]
 unfold tkStep
 split
 ·have := insE_len_le e (tkAll s E).l
  dsimp only
  omega
 ·split
  ·exact ih
  ·exact ih
theorem step_memT {s : TkS} (h : MapL s.l) {x e : En} (hn : e.k = x.k → En.newer x e = true) : x ∈ (tkStep s e).l ↔ x ∈ s.l := by
 unfold tkStep
 split
 ·rename_i hy
  dsimp only
  rw [mem_insT h.rises]
  constructor
  ·rintro (rfl | ⟨hx, -⟩)
   ·have := hn rfl
    rw [newer_self] at this; cases this
   ·exact hx
  ·intro hx
   refine .inr ⟨hx, fun hk => ?_⟩
   have hc := (tk_yes hy).2.1
   have hs := tk_look (e := e) (l := s.l) hc
   rw [if_neg (by rw [(tk_yes hy).2.2]; simp), ← hk, look_atT h.rises hx] at hs
   dsimp only at hs
   rw [hs] at hy
   have h1 := newer_tot (hn hk.symm)
   dsimp only at hy
   rw [h1] at hy; cases hy
 ·split <;> exact Iff.rfl
theorem tkAll_mem {s : TkS} (h : MapL s.l ∧ s.l.length ≤ 256) {x : En} : ∀ E : List En, (∀ e ∈ E, e.k = x.k → En.newer x e = true) → (x ∈ (tkAll s E).l ↔ x ∈ s.l) := by
 intro E
 refine rev_indE (P := fun E => (∀ e ∈ E, e.k = x.k → En.newer x e = true) → (x ∈ (tkAll s E).l ↔ x ∈ s.l)) (fun _ => Iff.rfl) (fun E e ih hn => ?_) E
 rw [tkAll_snoc, step_memT (tkAll_okE h E).1 (hn e (List.mem_append_right _ (by simp)))]
 exact ih (fun e he => hn e (List.mem_append_left _ he))
theorem lk_again {s : TkS} (h : MapL s.l ∧ s.l.length ≤ 256) {E : List En} (hE : MapL E) (f : En → Bool) : lkL ((tkAll s E).l.filter f) E = lkL (s.l.filter f) E := by
 have h1 : MapL ((tkAll s E).l.filter f) := mapL_sub (tkAll_okE h E).1 List.filter_sublist
 have h2 : MapL (s.l.filter f) := mapL_sub h.1 List.filter_sublist
 refine rises_mem (lk_map h1 hE).rises (lk_map h2 hE).rises (fun x => ?_)
 rw [mem_lk h1 hE, mem_lk h2 hE, List.mem_filter, List.mem_filter]
 constructor
 ·rintro ⟨⟨a, b⟩, c⟩
  exact ⟨⟨(tkAll_mem h E c).1 a, b⟩, c⟩
 ·rintro ⟨⟨a, b⟩, c⟩
  exact ⟨⟨(tkAll_mem h E c).2 a, b⟩, c⟩
end Go.Proofs.YtpbkjffiohfkcaaGreatDoor
namespace Go.Proofs.YtpbkjffiohfkcaaGreatDoor
open Go.RowKit
set_option linter.unusedVariables false
set_option maxHeartbeats 3200000 in
set_option maxRecDepth 100000 in
theorem qhold (e : En) {w : World} {sb g tb : Nat} {nd ck : Int} {Ls : List En} (h : Sto w sb g tb nd ck Ls) (L : Lanes w) (hl : Ls.length ≤ 1000000) (hk : e.k.size ≤ 140737488351232) :
    Calls Tryz.prog 57 #[.pointer (some ⟨sb, 0, none⟩), .agg #[.string e.k, .int .i64 e.c, .int .i64 e.n, .string e.v, .bool e.d]] w fun r w' => r = .returned (.tuple #[]) ∧ Sto w' sb g tb nd (ckm ck e.c) (insE e Ls) ∧ Keeps (Of sb g tb) w w' ∧ Lanes w' := by
 obtain ⟨T, n, h1, h2⟩ := h
 exact (shold e h1 L h2 hl hk).mono fun r w' ⟨e1, e2, e3⟩ => ⟨e1, ⟨_, _, e2, h2.put e⟩, e3, L.keeps e3 (L.apart h1)⟩
set_option maxHeartbeats 3200000 in
set_option maxRecDepth 100000 in
theorem sload (nd ck : Int) (a : Option Addr) (len cap : Nat) (T : Nat → En) (w : World) (h : EntsIn w a len cap T) (L : Lanes w) (hO : LdOk nd ck (firstE T len)) :
    Calls Tryz.prog 30 #[.int .i64 nd, .int .i64 ck, .slice a len cap] w fun e w' => Below w.heap.size w w' ∧ Lanes w' ∧ ∃ sb g tb, e = .returned (.tuple #[.pointer (some ⟨sb, 0, none⟩), .int .i64 0]) ∧ Sto w' sb g tb nd ck (firstE T len) ∧ w.heap.size ≤ sb ∧ w.heap.size ≤ g ∧ w.heap.size ≤ tb := by
 have HE := aside h
 have HO := aside hO
 have L0 := aside L
 clear L h
 have hnd : 0 ≤ nd ∧ nd < 8 := by have := hO.nd; simpa [nodeB] using this
 obtain ⟨hn1, hn2⟩ := hnd
 have h1 : ¬ nd < 0 := by omega
 have h2 : ¬ 8 ≤ nd := by omega
 have h3 : ¬ ck < 0 := by have := hO.c0; omega
 have h4 : ¬ 1099511627776 < ck := by have := hO.c1; omega
 have h5 : ¬ (256 : Int) < (len : Int) := by have := hO.len; rw [firstE_len] at this; omega
 have hmx : (len : Int) ≤ 9223372036854775807 := by omega
 clear hO hn1 hn2
 have C := aside (sempty nd ck w)
 go_enter Tryz.func30, Tryz.ntmps30
 go_wp2_with fail
 refine C.out.mono ?_
 rintro e w0 ⟨sb, g, tb, rfl, hs, b0, l1, l2, l3⟩
 have HS0 := aside (show Sto w0 sb g tb nd ck (firstE T 0) from ⟨_, _, hs, Hol.nil⟩)
 have B0 := aside b0
 have LL := aside (L0.out.keep b0)
 have HG := aside (show w.heap.size ≤ sb ∧ w.heap.size ≤ g ∧ w.heap.size ≤ tb from ⟨l1, l2, l3⟩)
 clear hs b0 l1 l2 l3 C h1 h2 h3 h4
 go_wp2
 go_loopw [36] (fun i wr => ∃ j : Nat, i = .int .i64 (j : Int) ∧ j ≤ len ∧ Sto wr sb g tb nd ck (firstE T j) ∧ Lanes wr ∧ Below w.heap.size w wr) (fun i _ => len - (intOf i).toNat)
 case atStart => exact ⟨0, rfl, Nat.zero_le _, HS0.out, LL.out, B0.out⟩
 case round =>
  obtain ⟨j, rfl, hj, hS, hL, hB⟩ := hrel
  have HB := aside hB
  have HS1 := aside hS
  have HL1 := aside hL
  clear hB hS hL LL B0 HS0
  by_cases hlt : (j : Int) < (len : Int)
  ·have hE := HE.out.keep HB.out
   rcases hE.2.2 with h0 | ⟨b, off, rfl, hb, hc⟩
   ·omega
   obtain ⟨⟨c0, c1, c2, c3, c4⟩, -⟩ := hc j (by omega)
   have hq : (T j).chk = 0 := HO.out.map.chk _ (first_mem (by omega))
   have HQ := aside hq
   have hver : (T j).c ≤ ck := HO.out.ver _ (first_mem (by omega))
   have HV := aside hver
   have hj0 : (0 : Int) ≤ (j : Int) := by omega
   have HCC := aside hc
   clear hc hE hver
   obtain ⟨t, ht⟩ : ∃ t, T j = t := ⟨_, rfl⟩
   have HT := aside ht
   rw [ht] at c0 c1 c2 c3 c4 hq HQ HV
   have CQ := aside (fun W => chk_of t W hq _ ichk_any)
   clear ht hq
   go_wp2_with fail
   refine (CQ.out _).mono ?_
   rintro e w1 ⟨rfl, b1⟩
   have BN := bthen (bnew wr (.cells #[.string t.k, .int .i64 t.c, .int .i64 t.n, .string t.v, .bool t.d] 77)) b1
   have B2 := aside (HB.out.trans (BN.mono HB.out.size))
   have HS := aside (HS1.out.below BN)
   have HL := aside (HL1.out.keep BN)
   have KB := aside (blk_on (heap_alloc_new wr (.cells #[.string t.k, .int .i64 t.c, .int .i64 t.n, .string t.v, .bool t.d] 77)) b1)
   obtain ⟨⟨e0, -⟩, -⟩ := box5 KB.out
   have HC2 := aside (fun (i : Nat) (hi : i < len) => cell_in (HCC.out i hi).1.1 BN)
   generalize wr.heap.size = bx at *
   clear b1 c0 c1 c2 c3 c4 CQ HCC BN HS1 HL1
   cases j with
   | zero =>
    go_wp2_with fail
    refine wp_region_held_drew (S := fun W => Below w1.heap.size w1 W) (by kernel_rfl) ((Below.refl _ w1).drew) (fun hHeld => ?_)
    refine tk 0 rfl _ ?_
    refine tk 1 rfl _ ?_
    refine tk 2 rfl _ ?_
    refine tn 3 rfl ?_
    refine tn 4 rfl ?_
    refine tn 5 rfl ?_
    refine tn 6 rfl ?_
    refine tn 7 rfl ?_
    refine tn 8 rfl ?_
    refine tn 9 rfl ?_
    refine tn 10 rfl ?_
    refine tn 11 rfl ?_
    refine tk 12 rfl _ ?_
    refine tk 13 rfl _ ?_
    refine wpAnyH_done (by kernel_rfl) ?_ _
    have B3 := aside hHeld
    clear hHeld e0
    have KX := aside (blk_on KB.out B3.out)
    obtain ⟨⟨y0, y1, y2, y3, y4⟩, -⟩ := box5 KX.out
    have hv : ¬ ck < t.c := by have := HV.out; omega
    have hS9 := HS.out.below B3.out
    have CH := aside (fun W (hW : Sto W sb g tb nd ck (firstE T 0)) (hL : Lanes W) => qhold t hW hL (by rw [firstE_len]; have := HO.out.len; rw [firstE_len] at this; omega) (key_small HQ.out))
    go_wp2_with fail
    refine (CH.out _ hS9 (HL.out.keep B3.out)).mono ?_
    rintro e9 w9 ⟨rfl, s9, k9, l9⟩
    rw [ckm_low HV.out, ← HT.out, ld_step HO.out.map (by omega)] at s9
    have S9 := aside s9
    have L9 := aside l9
    have B9 := aside (B2.out.trans ((B3.out.mono B2.out.size).trans (k9.below (by have := B2.out.size; have := B3.out.size; omega) (fun k hk => by have := HG.out; unfold Of; omega))))
    clear s9 l9 k9 CH y0 y1 y2 y3 y4 hS9
    go_wp2
    go_roundw
    case rel => exact ⟨0 + 1, by go_num, by omega, S9.out, L9.out, B9.out⟩
    case measure => simp [intOf]; omega
   | succ k =>
    have d0 := HC2.out k (by omega)
    have hris : kLt (T k).k (T (k + 1)).k = true := by
     have h9 := (mapL_sub HO.out.map (first_sub T (show k + 2 ≤ len by omega))).rises
     rw [firstE_succ, rises_snoc] at h9
     exact h9.2 _ (first_mem (by omega))
    rw [HT.out] at hris
    obtain ⟨u, hu⟩ : ∃ u, T k = u := ⟨_, rfl⟩
    rw [hu] at d0 hris
    have HR := aside hris
    clear hu HC2 hris
    have hk0 : (0 : Int) ≤ (k : Int) := by omega
    have hk1 : (k : Int) < (len : Int) := by omega
    have hk2 : (0 : Int) ≤ (k : Int) + 1 := by omega
    have hk3 : (0 : Int) < (k : Int) + 1 := by omega
    have hk4 : (k : Int) + 1 < (len : Int) := by omega
    have hw2 : IntKind.i64.wrap (k : Int) = (k : Int) := by simp only [IntKind.wrap_i64]; omega
    go_wp2_with fail
    refine wp_region_held_drew (S := fun W => Below w1.heap.size w1 W ∧ W.cell? ⟨b, off + k * 5, none⟩ = some (.string u.k) ∧ W.cell? ⟨bx, 0, none⟩ = some (.string t.k)) (by kernel_rfl) ⟨(Below.refl _ w1).drew, d0, e0⟩ (fun hHeld => ?_)
    refine tk 0 rfl _ ?_
    refine tk 1 rfl _ ?_
    refine tk 2 rfl _ ?_
    refine tk 3 rfl _ ?_
    refine tk 4 rfl _ ?_
    refine tk 5 rfl _ ?_
    refine tk 6 rfl _ ?_
    refine tk 7 rfl _ ?_
    refine tk 8 rfl _ ?_
    refine tk 9 rfl _ ?_
    refine tk 10 rfl _ ?_
    refine wpAnyH_take (i := 11) (v := .bool (!kLt u.k t.k)) rfl (by kernel_rfl) (by kernel_rfl) (by kernel_rfl) (fun _ _ _ h => h) (Or.inl ⟨by rfl, ?_⟩) (by assumption) ?_
    ·intro w hSw
     go_simp
     exact leq_eq _ _
    simp only [Act.put, List.getElem_toArray, List.getElem_cons_zero, List.getElem_cons_succ, List.setIfInBounds_toArray, List.set_cons_zero, List.set_cons_succ]
    refine tk 12 rfl _ ?_
    refine tk 13 rfl _ ?_
    refine wpAnyH_done (by kernel_rfl) ?_ _
    have B3 := aside hHeld.1
    clear hHeld hw2 e0 d0
    cases hkk : kLt u.k t.k
    ·rw [HR.out] at hkk
     cases hkk
    ·clear hkk
     have KX := aside (blk_on KB.out B3.out)
     obtain ⟨⟨y0, y1, y2, y3, y4⟩, -⟩ := box5 KX.out
     have hv : ¬ ck < t.c := by have := HV.out; omega
     have hS9 := HS.out.below B3.out
     have CH := aside (fun W (hW : Sto W sb g tb nd ck (firstE T (k + 1))) (hL : Lanes W) => qhold t hW hL (by rw [firstE_len]; have := HO.out.len; rw [firstE_len] at this; omega) (key_small HQ.out))
     go_wp2_with fail
     refine (CH.out _ hS9 (HL.out.keep B3.out)).mono ?_
     rintro e9 w9 ⟨rfl, s9, k9, l9⟩
     rw [ckm_low HV.out, ← HT.out, ld_step HO.out.map (by omega)] at s9
     have S9 := aside s9
     have L9 := aside l9
     have B9 := aside (B2.out.trans ((B3.out.mono B2.out.size).trans (k9.below (by have := B2.out.size; have := B3.out.size; omega) (fun k hk => by have := HG.out; unfold Of; omega))))
     clear s9 l9 k9 CH y0 y1 y2 y3 y4 hS9
     go_wp2
     go_roundw
     case rel => exact ⟨(k + 1) + 1, by go_num, by omega, S9.out, L9.out, B9.out⟩
     case measure => simp [intOf]; omega
  ·have hjl : j = len := by omega
   subst hjl
   go_wp2
   go_ret2
   refine ⟨HB.out, HL1.out, ?_⟩
   exact ⟨sb, rfl, g, tb, HS1.out, HG.out⟩
end Go.Proofs.YtpbkjffiohfkcaaGreatDoor
namespace Go.Proofs.YtpbkjffiohfkcaaGreatDoor
open Go.RowKit
set_option linter.unusedVariables false
theorem two_cells {w : World} {i : Nat} {a b : Value} {T : TypeId} (h : w.heap[i]? = some (.cells #[a, b] T (0, 0))) : w.cell? ⟨i, 0, none⟩ = some a ∧ w.cell? ⟨i, 1, none⟩ = some b := ⟨by simp [World.cell?, h], by simp [World.cell?, h]⟩
theorem Lanes.apart0 {w : World} (L : Lanes w) : ∀ (cs : Array Value) (T : TypeId), w.heap[0]? = some (.cells cs T (0, 0)) → cs.size = 2 → False := fun cs T h hs => by
 have h5 := L.c5
 simp only [World.cell?, h] at h5
 have : cs[5]? = none := by rw [Array.getElem?_eq_none_iff]; omega
 simp [this] at h5
def RtSay (w : World) (nd : Int) (l : List En) (e : Ending) (w' : World) : Prop := ∃ q, e = .returned (.bool q) ∧ (q = true ↔ LdOk nd 1099511627776 l) ∧ Below w.heap.size w w'
set_option maxHeartbeats 3200000 in
set_option maxRecDepth 100000 in
theorem right13_any (nd : Int) (a : Option Addr) (len cap : Nat) (T : Nat → En) (w : World) (h : EntsIn w a len cap T) (hform : (a = none ∧ len = 0 ∧ cap = 0) ∨ ∃ y, a = some y) : Calls Tryz.prog 9 #[.int .i64 nd, .slice a len cap] w fun e w' => RtSay w nd (firstE T len) e w' := by
 have C := aside (rload nd 1099511627776 a len cap T w h hform)
 clear h hform
 go_enter Tryz.func9, Tryz.ntmps9
 go_wp2_with fail
 refine C.out.mono ?_
 rintro e w1 ⟨b1, ⟨hO, db, rfl, -, -⟩ | ⟨hN, c, hc, rfl⟩⟩
 ·have HO := aside hO
  have B1 := aside b1
  clear b1 hO C
  go_wp2
  go_ret
  exact ⟨true, rfl, ⟨fun _ => HO.out, fun _ => rfl⟩, B1.out⟩
 ·have HN := aside hN
  have B1 := aside b1
  have hcb : (c == 0) = false := by simpa using hc
  clear b1 hN C
  go_wp2
  go_ret
  exact ⟨false, rfl, ⟨fun e => (by cases e), fun e => absurd e HN.out⟩, B1.out⟩
theorem DSt.set {w : World} {B db : Nat} {nd ck : Int} {l : List En} (h : DSt w B db nd ck l) {b : Nat} (hb : b < B) (hd : B ≤ db) (k : Nat) (u : Value) : DSt (w.setCell ⟨b, k, none⟩ u) B db nd ck l := by
 obtain ⟨v, h1, h2⟩ := h
 exact ⟨v, by rw [heap_setCell_other _ _ _ _ (by simp; omega)]; exact h1, own_set h2 hb k u⟩
structure Pair2 (w : World) (B sb g tb db : Nat) (nd ck : Int) (l : List En) : Prop where
 code : Sto w sb g tb nd ck l
 doc : DSt w B db nd ck l
 lanes : Lanes w
 s : B ≤ sb
 g : B ≤ g
 t : B ≤ tb
 d : B ≤ db
theorem Pair2.below {w w' : World} {B sb g tb db : Nat} {nd ck : Int} {l : List En} (h : Pair2 w B sb g tb db nd ck l) (b : Below w.heap.size w w') : Pair2 w' B sb g tb db nd ck l :=
 ⟨h.code.below b, h.doc.below b, h.lanes.keep b, h.s, h.g, h.t, h.d⟩
def MkSay (w : World) (nd : Int) (l : List En) (e : Ending) (w' : World) : Prop := ∃ sb g tb db, e = .returned (.tuple #[.agg #[.pointer (some ⟨sb, 0, none⟩), .pointer (some ⟨db, 0, none⟩)], .bool true]) ∧ Pair2 w' (w.heap.size + 1) sb g tb db nd 1099511627776 l ∧ Below w.heap.size w w'
set_option maxHeartbeats 3200000 in
set_option maxRecDepth 100000 in
theorem made13_any (nd : Int) (a : Option Addr) (len cap : Nat) (T : Nat → En) (w : World) (h : EntsIn w a len cap T) (hform : (a = none ∧ len = 0 ∧ cap = 0) ∨ ∃ y, a = some y) (L : Lanes w) (hO : LdOk nd 1099511627776 (firstE T len)) : Calls Tryz.prog 10 #[.int .i64 nd, .slice a len cap] w fun e w' => MkSay w nd (firstE T len) e w' := by
 have BZ := aside (bnew w (.cells #[.pointer none, .pointer none] 29))
 have KZ := aside (heap_alloc_new w (.cells #[.pointer none, .pointer none] 29))
 have C1 := aside (rload nd 1099511627776 a len cap T _ (h.keep BZ.out) hform)
 have C2 := aside (fun W (b : Below w.heap.size w W) => sload nd 1099511627776 a len cap T W (h.keep b) (L.keep b) hO)
 have HO := aside hO
 clear h hform L hO
 go_enter Tryz.func10, Tryz.ntmps10
 go_wp2_with fail
 refine C1.out.mono ?_
 rintro e w1 ⟨b1, ⟨-, db, rfl, hd, ds⟩ | ⟨hN, c, hc, rfl⟩⟩
 rotate_left
 ·exact absurd HO.out hN
 have B1 := aside (bthen BZ.out b1)
 have K1 := aside (blk_on KZ.out b1)
 have D1 := aside ds
 have HD := aside (show w.heap.size + 1 ≤ db from by simpa using hd)
 clear b1 ds hd KZ BZ C1
 go_wp2_with fail
 refine (C2.out _ B1.out).mono ?_
 rintro e w2 ⟨b2, l2, sb, g, tb, rfl, s2, h1, h2, h3⟩
 have K2 := aside (blk_on K1.out b2)
 have HG := aside (show w1.heap.size ≤ sb ∧ w1.heap.size ≤ g ∧ w1.heap.size ≤ tb from ⟨h1, h2, h3⟩)
 have Z1 := aside (show w.heap.size + 1 ≤ w1.heap.size from lt_of_blk K1.out)
 have B2 := aside (bthen B1.out b2)
 have D2 := aside (D1.out.below b2)
 rw [World.size_alloc] at D2
 have S2 := aside s2
 have L2 := aside l2
 clear b2 s2 l2 h1 h2 h3 K1 D1 B1 C2
 obtain ⟨pb, hpb⟩ : ∃ pb, w.heap.size = pb := ⟨_, rfl⟩
 rw [hpb] at K2 D2 HD Z1 ⊢
 have z0 := (two_cells K2.out).1
 have z1 := (two_cells K2.out).2
 have y0 := frozen_of_row _ _ 0 _ _ K2.out
 have y1 := frozen_of_row _ _ 1 _ _ K2.out
 have KR := set_in 1 (.pointer (some ⟨db, 0, none⟩)) (set_in 0 (.pointer (some ⟨sb, 0, none⟩)) K2.out)
 simp only [List.setIfInBounds_toArray, List.set_cons_zero, List.set_cons_succ] at KR
 have HKR := aside KR
 have KF := aside (((Keeps.refl (fun x => x = pb) w2).setCell (p := ⟨pb, 0, none⟩) (fun _ => rfl) (.pointer (some ⟨sb, 0, none⟩))).setCell (p := ⟨pb, 1, none⟩) (fun _ => rfl) (.pointer (some ⟨db, 0, none⟩)))
 have SF := aside (S2.out.set K2.out (by decide) (by decide) (by decide) (by decide) KF.out)
 have LF := aside (L2.out.keeps KF.out (fun e => by have h9 := L2.out.apart0; have h8 := K2.out; subst e; exact h9 _ _ h8 rfl))
 have DF := aside ((D2.out.set (b := pb) (by omega) HD.out 0 (.pointer (some ⟨sb, 0, none⟩))).set (b := pb) (by omega) HD.out 1 (.pointer (some ⟨db, 0, none⟩)))
 have BF := aside ((B2.out.setCell (p := ⟨pb, 0, none⟩) (by simp; omega) (.pointer (some ⟨sb, 0, none⟩))).setCell (p := ⟨pb, 1, none⟩) (by simp; omega) (.pointer (some ⟨db, 0, none⟩)))
 clear KR KF D2 S2 L2 B2
 go_wp2
 obtain ⟨r0, r1⟩ := two_cells HKR.out
 exact bodyPost_ret (v := .tuple #[.agg #[.pointer (some ⟨sb, 0, none⟩), .pointer (some ⟨db, 0, none⟩)], .bool true]) (by simp [results, Tryz.results10, go_sem, r0, r1]) rfl ⟨sb, g, tb, db, rfl, ⟨SF.out, by rw [hpb]; exact DF.out, LF.out, by have h1 := HG.out; have h2 := Z1.out; omega, by have h1 := HG.out; have h2 := Z1.out; omega, by have h1 := HG.out; have h2 := Z1.out; omega, by have h1 := HD.out; omega⟩, BF.out⟩
end Go.Proofs.YtpbkjffiohfkcaaGreatDoor
