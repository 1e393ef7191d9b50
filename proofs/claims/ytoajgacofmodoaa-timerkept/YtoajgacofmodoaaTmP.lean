/-
  Alarms, plain: their order, lists of them in it; an alarm set, one dropped, one looked up.
-/
import Derived.Test.YtoajgacofmodoaaFrName
namespace Go.Proofs.Ytoajgacofmodoaa
open Go.RowKit
set_option linter.unusedVariables false

abbrev Nam := Int × Int × Int
abbrev Alm := Nam × Int
/-- The order of alarms: by their times, then by their names. -/
def acmp (a b : Alm) : Int := if a.2 < b.2 then -1 else if b.2 < a.2 then 1 else Nm.cmp a.1.1 a.1.2.1 a.1.2.2 b.1.1 b.1.2.1 b.1.2.2
def alt (a b : Alm) : Prop := acmp a b < 0
instance (a b : Alm) : Decidable (alt a b) := inferInstanceAs (Decidable (acmp a b < 0))
theorem alt_iff (a b : Alm) : alt a b ↔ (a.2 < b.2 ∨ (a.2 = b.2 ∧ (a.1.1 < b.1.1 ∨ (a.1.1 = b.1.1 ∧ (a.1.2.1 < b.1.2.1 ∨ (a.1.2.1 = b.1.2.1 ∧ a.1.2.2 < b.1.2.2)))))) := by
  unfold alt acmp
  by_cases h1 : a.2 < b.2
  · simp [h1]
  · by_cases h2 : b.2 < a.2
    · rw [if_neg h1, if_pos h2]
      exact ⟨fun h => absurd h (by decide), fun h => by omega⟩
    · rw [if_neg h1, if_neg h2]
      rcases Nm.three a.1.1 a.1.2.1 a.1.2.2 b.1.1 b.1.2.1 b.1.2.2 with ⟨e, h⟩ | ⟨e, h⟩ | ⟨e, h⟩
      · rw [e]; exact ⟨fun h => absurd h (by decide), fun h => by omega⟩
      · rw [e]; exact ⟨fun h => absurd h (by decide), fun h => by omega⟩
      · rw [e]; exact ⟨fun _ => .inr ⟨by omega, h⟩, fun _ => by decide⟩
theorem alt_irr (a : Alm) : ¬ alt a a := by rw [alt_iff]; omega
theorem alt_trans {a b c : Alm} (h1 : alt a b) (h2 : alt b c) : alt a c := by rw [alt_iff] at h1 h2 ⊢; omega
theorem alt_tri (a b : Alm) : alt a b ∨ a = b ∨ alt b a := by
  rw [alt_iff, alt_iff]
  obtain ⟨⟨o, l, n⟩, t⟩ := a
  obtain ⟨⟨p, m, k⟩, s⟩ := b
  simp only [Prod.mk.injEq]
  omega
theorem alt_not {a b : Alm} (h : ¬ alt a b) (hne : a ≠ b) : alt b a := by
  rcases alt_tri a b with h1 | h1 | h1
  · exact absurd h1 h
  · exact absurd h1 hne
  · exact h1

/-- A list of alarms in their order, no name twice. -/
structure Gl (L : List Alm) : Prop where
  srt : L.Pairwise alt
  dis : L.Pairwise (fun a b => a.1 ≠ b.1)
theorem Gl.nil : Gl [] := ⟨List.Pairwise.nil, List.Pairwise.nil⟩
/-- The alarms but that of a name. -/
def wo (n : Nam) (L : List Alm) : List Alm := L.filter (fun a => decide (a.1 ≠ n))
/-- One more, in its place. -/
def insA (a : Alm) : List Alm → List Alm
  | [] => [a]
  | b :: r => if alt b a then b :: insA a r else a :: b :: r
def putA (n : Nam) (t : Int) (L : List Alm) : List Alm := insA (n, t) (wo n L)
def lookA (n : Nam) (L : List Alm) : Option Int := (L.find? (fun a => decide (a.1 = n))).map (·.2)
/-- Times that may be. -/
def tOk (t : Int) : Prop := 0 ≤ t ∧ t ≤ 1099511627776
instance (t : Int) : Decidable (tOk t) := inferInstanceAs (Decidable (0 ≤ t ∧ t ≤ 1099511627776))
def setA (n : Nam) (t : Int) (L : List Alm) : List Alm := if tOk t then putA n t L else L

theorem mem_wo {n : Nam} {L : List Alm} {x : Alm} : x ∈ wo n L ↔ x ∈ L ∧ x.1 ≠ n := by simp [wo]
theorem Gl.wo {L : List Alm} (h : Gl L) (n : Nam) : Gl (wo n L) := ⟨h.srt.filter _, h.dis.filter _⟩
theorem mem_insA {a x : Alm} : ∀ {L : List Alm}, x ∈ insA a L ↔ x = a ∨ x ∈ L
  | [] => by simp [insA]
  | b :: r => by
    unfold insA
    split
    · rw [List.mem_cons, mem_insA (L := r), List.mem_cons]
      constructor
      · rintro (h | h | h)
        · exact .inr (.inl h)
        · exact .inl h
        · exact .inr (.inr h)
      · rintro (h | h | h)
        · exact .inr (.inl h)
        · exact .inl h
        · exact .inr (.inr h)
    · rw [List.mem_cons, List.mem_cons]
theorem insA_srt {a : Alm} : ∀ {L : List Alm}, L.Pairwise alt → (∀ x ∈ L, x ≠ a) → (insA a L).Pairwise alt
  | [], _, _ => by simp [insA]
  | b :: r, h, hn => by
    obtain ⟨h1, h2⟩ := List.pairwise_cons.1 h
    unfold insA
    split
    · rename_i hb
      refine List.pairwise_cons.2 ⟨fun x hx => ?_, insA_srt h2 (fun x hx => hn x (by simp [hx]))⟩
      rcases mem_insA.1 hx with rfl | hx
      · exact hb
      · exact h1 x hx
    · rename_i hb
      have hab := alt_not hb (hn b (by simp))
      refine List.pairwise_cons.2 ⟨fun x hx => ?_, h⟩
      rcases List.mem_cons.1 hx with rfl | hx
      · exact hab
      · exact alt_trans hab (h1 x hx)
theorem insA_perm {a : Alm} : ∀ {L : List Alm}, (insA a L).Perm (a :: L)
  | [] => .refl _
  | b :: r => by
    unfold insA
    split
    · exact (insA_perm.cons b).trans (.swap a b r)
    · exact .refl _
theorem insA_dis {a : Alm} {L : List Alm} (h : L.Pairwise (fun a b => a.1 ≠ b.1)) (hn : ∀ x ∈ L, a.1 ≠ x.1) : (insA a L).Pairwise (fun a b => a.1 ≠ b.1) :=
  (insA_perm.pairwise_iff (fun {x y} (h : x.1 ≠ y.1) => h.symm)).2 (List.pairwise_cons.2 ⟨hn, h⟩)
theorem insA_len (a : Alm) (L : List Alm) : (insA a L).length = L.length + 1 := by rw [insA_perm.length_eq]; rfl
theorem mem_putA {n : Nam} {t : Int} {L : List Alm} {x : Alm} : x ∈ putA n t L ↔ x = (n, t) ∨ (x ∈ L ∧ x.1 ≠ n) := by
  unfold putA; rw [mem_insA, mem_wo]
theorem Gl.put {L : List Alm} (h : Gl L) (n : Nam) (t : Int) : Gl (putA n t L) :=
  ⟨insA_srt (h.wo n).srt (fun x hx e => (mem_wo.1 hx).2 (by rw [e])), insA_dis (h.wo n).dis (fun x hx e => (mem_wo.1 hx).2 e.symm)⟩
theorem Gl.set {L : List Alm} (h : Gl L) (n : Nam) (t : Int) : Gl (setA n t L) := by
  unfold setA
  split
  · exact h.put n t
  · exact h
theorem Gl.one {L : List Alm} (h : Gl L) {n : Nam} {t s : Int} (h1 : (n, t) ∈ L) (h2 : (n, s) ∈ L) : t = s := by
  have : ∀ {L : List Alm}, L.Pairwise (fun a b => a.1 ≠ b.1) → (n, t) ∈ L → (n, s) ∈ L → t = s := by
    intro L
    induction L with
    | nil => intro _ h1; simp at h1
    | cons b r ih =>
      intro hp h1 h2
      obtain ⟨p1, p2⟩ := List.pairwise_cons.1 hp
      rcases List.mem_cons.1 h1 with e1 | e1
      · rcases List.mem_cons.1 h2 with e2 | e2
        · have := e1.trans e2.symm
          simpa using this
        · exact absurd (by rw [← e1]) (p1 _ e2)
      · rcases List.mem_cons.1 h2 with e2 | e2
        · exact absurd (by rw [← e2]) (p1 _ e1)
        · exact ih p2 e1 e2
  exact this h.dis h1 h2
theorem lookA_mem {L : List Alm} {n : Nam} {t : Int} (h : lookA n L = some t) : (n, t) ∈ L := by
  unfold lookA at h
  cases hf : L.find? (fun a => decide (a.1 = n)) with
  | none => rw [hf] at h; simp at h
  | some x =>
    rw [hf] at h
    have h1 := List.mem_of_find?_eq_some hf
    have h2 : x.1 = n := by simpa using List.find?_some hf
    have h3 : x.2 = t := by simpa using h
    rw [← h2, ← h3]; exact h1
theorem lookA_none {L : List Alm} {n : Nam} (h : lookA n L = none) : ∀ t, (n, t) ∉ L := by
  intro t ht
  unfold lookA at h
  rw [Option.map_eq_none_iff, List.find?_eq_none] at h
  exact h _ ht (by simp)
theorem Gl.look {L : List Alm} (h : Gl L) {n : Nam} {t : Int} (hm : (n, t) ∈ L) : lookA n L = some t := by
  cases hl : lookA n L with
  | none => exact absurd hm (lookA_none hl t)
  | some s => rw [h.one (lookA_mem hl) hm]
theorem wo_none {L : List Alm} {n : Nam} (h : ∀ t, (n, t) ∉ L) : wo n L = L := by
  unfold wo
  rw [List.filter_eq_self]
  intro a ha
  simp only [decide_eq_true_eq]
  intro e
  exact h a.2 (by rw [← e]; exact ha)
theorem wo_len {L : List Alm} (h : Gl L) {n : Nam} {t : Int} (hm : (n, t) ∈ L) : (wo n L).length + 1 = L.length := by
  have : ∀ {L : List Alm}, L.Pairwise (fun a b => a.1 ≠ b.1) → (n, t) ∈ L → (wo n L).length + 1 = L.length := by
    intro L
    induction L with
    | nil => intro _ h1; simp at h1
    | cons b r ih =>
      intro hp h1
      obtain ⟨p1, p2⟩ := List.pairwise_cons.1 hp
      by_cases e : b.1 = n
      · have : wo n (b :: r) = wo n r := by unfold wo; rw [List.filter_cons_of_neg (by simpa using e)]
        rw [this, wo_none (fun s hs => p1 _ hs e), List.length_cons]
      · have : wo n (b :: r) = b :: wo n r := by unfold wo; rw [List.filter_cons_of_pos (by simpa using e)]
        have hr : (n, t) ∈ r := by
          rcases List.mem_cons.1 h1 with e1 | e1
          · exact absurd (by rw [← e1]) e
          · exact e1
        rw [this, List.length_cons, List.length_cons, ih p2 hr]
  exact this h.dis hm
theorem putA_len (n : Nam) (t : Int) (L : List Alm) : (putA n t L).length = (wo n L).length + 1 := insA_len _ _
theorem wo_le (n : Nam) (L : List Alm) : (wo n L).length ≤ L.length := List.length_filter_le _ _
theorem setA_len (n : Nam) (t : Int) (L : List Alm) : (setA n t L).length ≤ L.length + 1 := by
  unfold setA
  split
  · rw [putA_len]; have := wo_le n L; omega
  · omega
/-- Two lists in order with the same alarms are one. -/
theorem srt_ext : ∀ {L M : List Alm}, L.Pairwise alt → M.Pairwise alt → (∀ x, x ∈ L ↔ x ∈ M) → L = M
  | [], [], _, _, _ => rfl
  | [], b :: s, _, _, h => by have := (h b).2 (by simp); simp at this
  | a :: r, [], _, _, h => by have := (h a).1 (by simp); simp at this
  | a :: r, b :: s, h1, h2, h => by
    obtain ⟨a1, a2⟩ := List.pairwise_cons.1 h1
    obtain ⟨b1, b2⟩ := List.pairwise_cons.1 h2
    have hab : a = b := by
      rcases List.mem_cons.1 ((h a).1 (by simp)) with e | ha
      · exact e
      · rcases List.mem_cons.1 ((h b).2 (by simp)) with e | hb
        · exact e.symm
        · exact absurd (alt_trans (a1 b hb) (b1 a ha)) (alt_irr a)
    subst hab
    rw [srt_ext a2 b2 (fun p => ⟨fun hp => by
      rcases List.mem_cons.1 ((h p).1 (by simp [hp])) with e | hp'
      · exact absurd (e ▸ a1 p hp) (alt_irr _)
      · exact hp', fun hp => by
      rcases List.mem_cons.1 ((h p).2 (by simp [hp])) with e | hp'
      · exact absurd (e ▸ b1 p hp) (alt_irr _)
      · exact hp'⟩)]
theorem Gl.tail {a : Alm} {r : List Alm} (h : Gl (a :: r)) : Gl r := ⟨(List.pairwise_cons.1 h.srt).2, (List.pairwise_cons.1 h.dis).2⟩
theorem drop_head {a : Alm} {r : List Alm} (h : Gl (a :: r)) : wo a.1 (a :: r) = r := by
  have : wo a.1 (a :: r) = wo a.1 r := by unfold wo; rw [List.filter_cons_of_neg (by simp)]
  rw [this, wo_none (fun t ht => (List.pairwise_cons.1 h.dis).1 _ ht rfl)]
/-- The least one is the first. -/
theorem Gl.least {L : List Alm} (h : Gl L) {m : Alm} (hm : m ∈ L) (hl : ∀ x ∈ L, x = m ∨ alt m x) : ∃ r, L = m :: r := by
  cases L with
  | nil => simp at hm
  | cons a r =>
    refine ⟨r, ?_⟩
    rcases List.mem_cons.1 hm with e | e
    · rw [e]
    · have h1 := (List.pairwise_cons.1 h.srt).1 m e
      rcases hl a (by simp) with e2 | e2
      · rw [e2]
      · exact absurd (alt_trans h1 e2) (alt_irr _)

end Go.Proofs.Ytoajgacofmodoaa
