/-
  Plain mathematics: a sorted list is what its look-ups are; rows put in another order.
-/
import Derived.Test.YtnlmlhoddchgbaaTrRank
namespace Go.Proofs.Ytnlmlhoddchgbaa
open Go.RowKit
set_option linter.unusedVariables false
variable {β α : Type}

/-- From the end of a list. -/
theorem snocInd {γ : Type} {P : List γ → Prop} (nil : P []) (snoc : ∀ (l : List γ) (y : γ), P l → P (l ++ [y])) (l : List γ) : P l := by
  have h : ∀ m : List γ, P m.reverse := fun m => by
    induction m with
    | nil => exact nil
    | cons a m ih => rw [List.reverse_cons]; exact snoc _ _ ih
  have h2 := h l.reverse
  rwa [List.reverse_reverse] at h2

/-- Two keys are one. -/
def kEq (a b : ByteArray) : Bool := !kLt a b && !kLt b a

theorem kEq_iff {a b : ByteArray} : kEq a b = true ↔ a = b := by
  unfold kEq
  constructor
  · intro h
    simp only [Bool.and_eq_true, Bool.not_eq_true'] at h
    exact kLt_total h.1 h.2
  · rintro rfl; simp [kLt_irrefl]

theorem kEq_ne {a b : ByteArray} (h : a ≠ b) : kEq a b = false := by
  cases h2 : kEq a b
  · rfl
  · exact absurd (kEq_iff.1 h2) h

theorem look_cons (k : ByteArray) (y : Rw β α) (l : List (Rw β α)) : look k (y :: l) = if kEq k y.k then some y else look k l := by
  unfold look kEq
  rw [List.find?_cons]
  split <;> rename_i h <;> simp [h]

theorem look_low {k : ByteArray} {y : Rw β α} {l : List (Rw β α)} (h : Rises (y :: l)) (hk : kLt k y.k = true) : look k (y :: l) = none :=
  look_none (fun x hx => by
    rcases List.mem_cons.1 hx with rfl | hx
    · exact .inl hk
    · exact .inl (kLt_trans hk ((rises_cons h).1 x hx)))

theorem look_ins (k' : ByteArray) (k : ByteArray) (v : β) (s : α) : ∀ l : List (Rw β α), Rises l → look k' (ins k v s l) = if kEq k' k then some ⟨k, v, s⟩ else look k' l
  | [], _ => by simp only [ins]; rw [look_cons]
  | y :: l, h => by
    have ih := look_ins k' k v s l (rises_cons h).2
    simp only [ins]
    split
    · rw [look_cons]
    · rename_i q1
      split
      · rename_i q2
        rw [look_cons, look_cons, ih]
        by_cases e1 : kEq k' y.k = true
        · have e1' := kEq_iff.1 e1
          have : kEq k' k = false := kEq_ne (fun e => by rw [← e, e1', kLt_irrefl] at q2; cases q2)
          simp [e1, this]
        · simp [e1]
      · rename_i q2
        have e : k = y.k := kLt_total (by simpa using q1) (by simpa using q2)
        rw [look_cons, look_cons]
        dsimp only
        rw [e]
        split <;> rfl

/-- A sorted list is what its look-ups are. -/
theorem rises_ext : ∀ {l m : List (Rw β α)}, Rises l → Rises m → (∀ k, look k l = look k m) → l = m
  | [], [], _, _, _ => rfl
  | [], y :: m, _, _, h => by
    have := h y.k
    rw [look_cons, kEq_iff.2 rfl] at this
    simp [look] at this
  | y :: l, [], _, _, h => by
    have := h y.k
    rw [look_cons, kEq_iff.2 rfl] at this
    simp [look] at this
  | y :: l, z :: m, hl, hm, h => by
    have e : y = z := by
      have h1 := h y.k
      have h2 := h z.k
      rw [look_cons (k := y.k) (y := y), if_pos (kEq_iff.2 rfl)] at h1
      rw [look_cons (k := z.k) (y := z), if_pos (kEq_iff.2 rfl)] at h2
      cases q1 : kLt y.k z.k
      · cases q2 : kLt z.k y.k
        · rw [look_cons, if_pos (kEq_iff.2 (kLt_total q1 q2))] at h1
          exact Option.some.inj h1
        · rw [look_low hl q2] at h2; cases h2
      · rw [look_low hm q1] at h1; cases h1
    subst e
    have hr := rises_ext (rises_cons hl).2 (rises_cons hm).2 (fun k => by
      have hk := h k
      rw [look_cons, look_cons] at hk
      by_cases q : kEq k y.k = true
      · have q' := kEq_iff.1 q
        subst q'
        rw [look_none (fun x hx => .inl ((rises_cons hl).1 x hx)), look_none (fun x hx => .inl ((rises_cons hm).1 x hx))]
      · rw [if_neg q, if_neg q] at hk
        exact hk)
    rw [hr]

/-- A tree of rows, the last one put last. -/
def treeL (l : List (Rw β α)) : Tr β α := l.foldl (fun t y => Tr.put y.k y.v y.s t) .nil

theorem treeL_snoc (l : List (Rw β α)) (y : Rw β α) : treeL (l ++ [y]) = Tr.put y.k y.v y.s (treeL l) := by simp [treeL]

theorem gd_treeL (z : α → Nat) (l : List (Rw β α)) : (treeL l).bal ∧ Rises (treeL l).rows := by
  induction l using snocInd with
  | nil => exact ⟨trivial, List.Pairwise.nil⟩
  | snoc l y ih =>
    rw [treeL_snoc]
    exact ⟨(Tr.bal_put _ _ _ _ ih.1).1, by rw [rows_put _ _ _ _ ih.2]; exact rises_ins _ ih.2⟩

/-- The last row of a key. -/
def lastOf (k : ByteArray) (l : List (Rw β α)) : Option (Rw β α) := l.reverse.find? (fun y => kEq k y.k)

theorem look_treeL (k : ByteArray) (l : List (Rw β α)) : look k (treeL l).rows = lastOf k l := by
  induction l using snocInd with
  | nil => rfl
  | snoc l y ih =>
    have hr := (gd_treeL (fun _ => 0) l).2
    rw [treeL_snoc, rows_put _ _ _ _ hr, look_ins _ _ _ _ _ hr, ih]
    unfold lastOf
    rw [List.reverse_append]
    simp only [List.reverse_cons, List.reverse_nil, List.nil_append, List.cons_append, List.find?_cons]
    cases kEq k y.k <;> rfl

theorem lastOf_perm {l m : List (Rw β α)} (hp : l.Perm m) (hn : l.Pairwise (fun a b => a.k ≠ b.k)) (k : ByteArray) : lastOf k l = lastOf k m := by
  have hn2 : m.Pairwise (fun a b => a.k ≠ b.k) := hp.pairwise hn (fun h e => h e.symm)
  have key : ∀ {l : List (Rw β α)}, l.Pairwise (fun a b => a.k ≠ b.k) → ∀ y, lastOf k l = some y ↔ y ∈ l ∧ y.k = k := by
    intro l hl y
    unfold lastOf
    have hl2 : l.reverse.Pairwise (fun a b => a.k ≠ b.k) := by rw [List.pairwise_reverse]; exact hl.imp (fun h e => h e.symm)
    constructor
    · intro h
      exact ⟨List.mem_reverse.1 (List.mem_of_find?_eq_some h), (kEq_iff.1 (by simpa using List.find?_some h)).symm⟩
    · rintro ⟨h1, h2⟩
      have h1 := List.mem_reverse.2 h1
      generalize l.reverse = r at *
      clear hl
      induction r with
      | nil => cases h1
      | cons a r ih =>
        rw [List.find?_cons]
        rw [List.pairwise_cons] at hl2
        rcases List.mem_cons.1 h1 with rfl | h1
        · rw [kEq_iff.2 h2.symm]
        · have : kEq k a.k = false := kEq_ne (fun e => hl2.1 y h1 (by rw [h2, e]))
          rw [this]
          exact ih hl2.2 h1
  cases h1 : lastOf k l with
  | none =>
    cases h2 : lastOf k m with
    | none => rfl
    | some y =>
      have := (key hn2 y).1 h2
      have := (key hn y).2 ⟨hp.mem_iff.2 this.1, this.2⟩
      rw [h1] at this; cases this
  | some y =>
    have := (key hn y).1 h1
    exact ((key hn2 y).2 ⟨hp.mem_iff.1 this.1, this.2⟩).symm

theorem treeL_perm {l m : List (Rw β α)} (hp : l.Perm m) (hn : l.Pairwise (fun a b => a.k ≠ b.k)) : (treeL l).rows = (treeL m).rows :=
  rises_ext (gd_treeL (fun _ => 0) l).2 (gd_treeL (fun _ => 0) m).2 (fun k => by rw [look_treeL, look_treeL, lastOf_perm hp hn])

/-- Of each key the last row. -/
def lasts : List (Rw β α) → List (Rw β α)
  | [] => []
  | y :: l => if l.any (fun x => kEq x.k y.k) then lasts l else y :: lasts l

theorem lasts_mem : ∀ (l : List (Rw β α)) (x : Rw β α), x ∈ lasts l → x ∈ l
  | [], x, h => by cases h
  | y :: l, x, h => by
    simp only [lasts] at h
    split at h
    · exact List.mem_cons_of_mem _ (lasts_mem l x h)
    · rcases List.mem_cons.1 h with rfl | h
      · exact List.mem_cons_self
      · exact List.mem_cons_of_mem _ (lasts_mem l x h)

theorem lasts_apart : ∀ l : List (Rw β α), (lasts l).Pairwise (fun a b => a.k ≠ b.k)
  | [] => List.Pairwise.nil
  | y :: l => by
    simp only [lasts]
    split
    · exact lasts_apart l
    · rename_i h
      rw [List.pairwise_cons]
      refine ⟨fun b hb e => h ?_, lasts_apart l⟩
      rw [List.any_eq_true]
      exact ⟨b, lasts_mem l b hb, kEq_iff.2 e.symm⟩

theorem lastOf_cons (k : ByteArray) (y : Rw β α) (l : List (Rw β α)) : lastOf k (y :: l) = match lastOf k l with | some z => some z | none => if kEq k y.k then some y else none := by
  unfold lastOf
  rw [List.reverse_cons, List.find?_append]
  cases l.reverse.find? (fun y => kEq k y.k) with
  | some z => rfl
  | none => simp only [Option.none_or, List.find?_cons, List.find?_nil]; cases kEq k y.k <;> rfl

theorem lastOf_lasts (k : ByteArray) : ∀ l : List (Rw β α), lastOf k (lasts l) = lastOf k l
  | [] => rfl
  | y :: l => by
    have ih := lastOf_lasts k l
    simp only [lasts]
    rw [lastOf_cons k y l]
    split
    · rename_i h
      rw [ih]
      cases hl : lastOf k l with
      | some z => rfl
      | none =>
        have : kEq k y.k = false := by
          apply kEq_ne
          intro e
          subst e
          rw [List.any_eq_true] at h
          obtain ⟨x, hx, e2⟩ := h
          unfold lastOf at hl
          rw [List.find?_eq_none] at hl
          exact hl x (List.mem_reverse.2 hx) (by rw [kEq_iff.2 (kEq_iff.1 e2).symm])
        simp [this]
    · rw [lastOf_cons, ih]

/-- Rows put in another order, the last one of each key, make the same tree. -/
theorem treeL_turned {l m : List (Rw β α)} (hp : (lasts l).Perm m) : (treeL m).rows = (treeL l).rows := by
  rw [← treeL_perm hp (lasts_apart l)]
  exact rises_ext (gd_treeL (fun _ => 0) _).2 (gd_treeL (fun _ => 0) _).2 (fun k => by rw [look_treeL, look_treeL, lastOf_lasts])

theorem ins_new {k : ByteArray} {v : β} {s : α} : ∀ l : List (Rw β α), (∀ y ∈ l, y.k ≠ k) → (ins k v s l).length = l.length + 1
  | [], _ => rfl
  | y :: l, h => by
    have ih := ins_new (k := k) (v := v) (s := s) l (fun x hx => h x (List.mem_cons_of_mem _ hx))
    simp only [ins]
    split
    · rfl
    · rename_i q1
      split
      · simp [ih]
      · rename_i q2
        exact absurd (kLt_total (by simpa using q1) (by simpa using q2)).symm (h y List.mem_cons_self)

theorem cnt_treeL {l : List (Rw β α)} (h : l.Pairwise (fun a b => a.k ≠ b.k)) : (treeL l).cnt = l.length := by
  induction l using snocInd with
  | nil => rfl
  | snoc l y ih =>
    rw [List.pairwise_append] at h
    have hr := (gd_treeL (fun _ => 0) l).2
    rw [treeL_snoc, ← Tr.rows_length, rows_put _ _ _ _ hr, ins_new, Tr.rows_length, ih h.1]
    · simp
    · intro x hx e
      have h1 := look_treeL x.k l
      obtain ⟨q, hq⟩ := List.getElem?_of_mem hx
      rw [look_self hr hq] at h1
      unfold lastOf at h1
      have hm := List.mem_reverse.1 (List.mem_of_find?_eq_some h1.symm)
      exact h.2.2 x hm y (List.mem_singleton.2 rfl) e

end Go.Proofs.Ytnlmlhoddchgbaa
