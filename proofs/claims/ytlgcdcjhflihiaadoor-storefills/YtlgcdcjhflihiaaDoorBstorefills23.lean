/-
  Plain mathematics: ranks and places of a sorted list, folds of its parts.
  The walk over a whole tree; Span.
  A region that draws its order and whose stores come last: what holds ahead of the first store lets loads be taken first.
-/
import Derived.Test.YtlgcdcjhflihiaaDoorBstorefills22
import Derived.Test.YtlgcdcjhflihiaaDoorBstorefills5
import Derived.Test.YtlgcdcjhflihiaaDoorBstorefills2
import Derived.OrdersHeld
import Derived.Deep.RegionHeld
namespace Go.Proofs.YtlgcdcjhflihiaaDoor
open Go.RowKit
set_option linter.unusedVariables false
variable {β α : Type}
theorem rises_cons {a : Rw β α} {l : List (Rw β α)} (h : Rises (a :: l)) : (∀ y ∈ l, kLt a.k y.k = true) ∧ Rises l := by
  unfold Rises at *
  rwa [List.pairwise_cons] at h

theorem rank_high {key : ByteArray} {a : Rw β α} {l : List (Rw β α)} (h : Rises (a :: l)) (hk : kLt a.k key = false) : rankL key (a :: l) = 0 :=
  rank_none (fun y hy => by
    rcases List.mem_cons.1 hy with rfl | hy
    · exact hk
    · cases h2 : kLt y.k key
      · rfl
      · have := kLt_trans ((rises_cons h).1 y hy) h2
        rw [hk] at this; cases this)

theorem rank_lt {key : ByteArray} : ∀ {l : List (Rw β α)} {q : Nat} {y : Rw β α}, Rises l → l[q]? = some y → kLt y.k key = decide (q < rankL key l)
  | [], q, y, _, h => by simp at h
  | a :: l, q, y, hr, h => by
    obtain ⟨h1, h2⟩ := rises_cons hr
    cases hk : kLt a.k key
    · rw [rank_high hr hk]
      cases q with
      | zero => simp at h; subst h; simp [hk]
      | succ q =>
        simp at h
        have hm := List.mem_of_getElem? h
        cases h3 : kLt y.k key
        · simp
        · have := kLt_trans (h1 y hm) h3
          rw [hk] at this; cases this
    · rw [rank_cons, hk]
      cases q with
      | zero =>
        simp at h; subst h
        rw [hk]
        symm
        apply decide_eq_true
        simp
        omega
      | succ q =>
        simp at h
        rw [rank_lt h2 h]
        congr 1
        simp
        omega

theorem rank_at {l : List (Rw β α)} {q : Nat} {y : Rw β α} (hr : Rises l) (h : l[q]? = some y) : rankL y.k l = q := by
  have h1 := rank_lt (key := y.k) hr h
  rw [kLt_irrefl] at h1
  have h2 : ¬ q < rankL y.k l := of_decide_eq_false h1.symm
  have hlt := (List.getElem?_eq_some_iff.1 h).1
  by_cases h3 : q = 0
  · subst h3
    cases l with
    | nil => simp at h
    | cons a l => simp at h; subst h; exact rank_high hr (kLt_irrefl _)
  · -- the row ahead is lower
    have hq : q - 1 < l.length := by omega
    have h4 := rank_lt (key := y.k) hr (List.getElem?_eq_getElem hq)
    have h5 : kLt l[q - 1].k y.k = true := by
      have hp := List.pairwise_iff_getElem.1 hr (q - 1) q hq hlt (by omega)
      rw [(List.getElem?_eq_some_iff.1 h).2] at hp
      exact hp
    rw [h5] at h4
    have h6 : q - 1 < rankL y.k l := of_decide_eq_true h4.symm
    omega

theorem look_at {key : ByteArray} {l : List (Rw β α)} {y : Rw β α} (hr : Rises l) (h : look key l = some y) : l[rankL key l]? = some y ∧ y.k = key := by
  unfold look at h
  have h1 := List.mem_of_find?_eq_some h
  have h2 := List.find?_some h
  simp only [Bool.and_eq_true, Bool.not_eq_true'] at h2
  have e : y.k = key := kLt_total h2.2 h2.1
  obtain ⟨q, hlt, hq⟩ := List.mem_iff_getElem.1 h1
  have h3 : l[q]? = some y := List.getElem?_eq_some_iff.2 ⟨hlt, hq⟩
  have h4 := rank_at hr h3
  rw [← e, h4]
  exact ⟨h3, rfl⟩

theorem lower_at {t : Tr β α} (h : Rises t.rows) {q : Nat} {l r : Tr β α} {k : ByteArray} {v : β} {s : α} (hy : t.rows[q]? = some ⟨k, v, s⟩) : Tr.lower k t = q := by
  rw [lower_rank k t h]; exact rank_at h hy

/-- Whether there is a row of a key, told by Rank and At. -/
theorem has_at {t : Tr β α} (h : Rises t.rows) (key : ByteArray) : (!(Tr.found key t).isNil) = (!(Tr.nth t (Tr.lower key t : Int)).isNil && ((Tr.nth t (Tr.lower key t : Int)).key.toList == key.toList)) := by
  have h1 := look_found key t h
  have h2 := nth_rows t (Tr.lower key t)
  rw [lower_rank key t h] at h2 ⊢
  cases hF : Tr.found key t with
  | nil =>
    cases hN : Tr.nth t (rankL key t.rows : Int) with
    | nil => rfl
    | node l k v s r =>
      rw [hN] at h2
      have hne : (k.toList == key.toList) = false := by
        rw [beq_eq_false_iff_ne]
        intro e
        have e := toList_inj e
        subst e
        have := look_self h h2.symm
        rw [h1, hF] at this
        cases this
      simp [Tr.isNil, Tr.key, hne]
  | node l k v s r =>
    rw [hF] at h1
    obtain ⟨h3, h4⟩ := look_at h h1
    dsimp only at h4
    subst h4
    rw [h3] at h2
    cases hN : Tr.nth t (rankL k t.rows : Int) with
    | nil => rw [hN] at h2; cases h2
    | node l' k' v' s' r' =>
      rw [hN] at h2
      simp only [Option.some.injEq, Rw.mk.injEq] at h2
      obtain ⟨rfl, -, -⟩ := h2
      simp [Tr.isNil, Tr.key]

theorem seg_append (l : List (Rw β α)) {i j k : Nat} (h1 : i ≤ j) (h2 : j ≤ k) (h3 : k ≤ l.length) : seg l i j ++ seg l j k = seg l i k := by
  unfold seg
  have e : l.take k = l.take j ++ (l.take k).drop j := by
    have := List.take_append_drop j (l.take k)
    rw [List.take_take, Nat.min_eq_left h2] at this
    exact this.symm
  conv => rhs; rw [e]
  rw [List.drop_append_of_le_length (by rw [List.length_take]; omega)]

theorem seg_nil (l : List (Rw β α)) (j : Nat) : seg l j j = [] := by
  unfold seg
  rw [List.drop_of_length_le (by rw [List.length_take]; omega)]

theorem fol_join {J : α → α → α} {e : α} (m : Mon J e) (t : Tr β α) {i j k : Nat} (h1 : i ≤ j) (h2 : j ≤ k) (h3 : k ≤ t.cnt) : J (Tr.fol J e t (i : Int) (j : Int)) (Tr.fol J e t (j : Int) (k : Int)) = Tr.fol J e t (i : Int) (k : Int) := by
  rw [fol_nat m t i j (by omega), fol_nat m t j k h3, fol_nat m t i k h3, ← foldL_append m, seg_append _ h1 h2 (by rw [Tr.rows_length]; exact h3)]

theorem fol_none {J : α → α → α} {e : α} (m : Mon J e) (t : Tr β α) {j : Nat} (h : j ≤ t.cnt) : Tr.fol J e t (j : Int) (j : Int) = e := by
  rw [fol_nat m t j j h, seg_nil, foldL_nil]

end Go.Proofs.YtlgcdcjhflihiaaDoor
namespace Go.Proofs.YtlgcdcjhflihiaaDoor
open Go.RowKit Go.Shelf
set_option linter.unusedVariables false

theorem walkE {Ok : Rw En Tl → Prop} {l m N : Nat} {J Jx : List (Rw En Tl) → World → Prop} {Kp : World → World → Prop} (hKp : ∀ A B, Kp A B → Stay 120 A B) (hd : ∀ s W, J s W → J s W.drew) (hY : YOk Ok l m N Kp J Jx) :
    ∀ T : Tr En Tl, T.cnt ≤ 4611686018427387904 → (∀ x ∈ T.rows, Ok x) → WalkOk l N J Jx T
  | .nil, _, _ => fun I K p pre W hT hI hK hJ hN hK2 => by
    have h : K ≤ I := by simp [Tr.cnt] at hK; omega
    rw [sgI h]
    exact walkNone l J Jx pre I K p W h hJ
  | .node lt k v s rt, hc, hok => fun I K p pre W hT hI hK hJ hN hK2 => by
    by_cases h : K ≤ I
    · rw [sgI h]
      exact walkNone l J Jx pre I K p W h hJ
    have hcl : lt.cnt ≤ 4611686018427387904 := by simp only [Tr.cnt] at hc; omega
    have hcr : rt.cnt ≤ 4611686018427387904 := by simp only [Tr.cnt] at hc; omega
    have ihl := walkE hKp hd hY lt hcl (fun x hx => hok x (by simp [Tr.rows, hx]))
    have ihr := walkE hKp hd hY rt hcr (fun x hx => hok x (by simp [Tr.rows, hx]))
    obtain ⟨b, lp, rp, rfl, hb, hl, hr⟩ := hT
    have hcn : (Tr.node lt k v s rt).cnt = lt.cnt + 1 + rt.cnt := rfl
    rw [hcn] at hK hc
    have hll := Tr.rows_length lt
    have hrl := Tr.rows_length rt
    have hsg := seg_node lt.rows rt.rows ⟨k, v, s⟩ (i := I.toNat) (j := K.toNat) (by omega)
    have e1 : (Tr.node lt k v s rt).rows = lt.rows ++ ⟨k, v, s⟩ :: rt.rows := rfl
    have hlen : ∀ (R : List (Rw En Tl)) (a c : Nat), (seg R a c).length ≤ c - a := fun R a c => by unfold seg; simp; omega
    rw [e1, hsg]
    by_cases h2 : (lt.cnt : Int) < K
    · have e2 : min K.toNat lt.rows.length = ((lt.cnt : Int)).toNat := by omega
      rw [e2]
      have L1 := hlen lt.rows I.toNat ((lt.cnt : Int)).toNat
      by_cases h3 : I ≤ (lt.cnt : Int)
      · rw [if_pos ⟨by omega, by omega⟩, show I.toNat - lt.rows.length - 1 = (0 : Int).toNat from by omega, show K.toNat - lt.rows.length - 1 = (K - (lt.cnt : Int) - 1).toNat from by omega]
        refine walkOwn hKp hd hY hb (rowsE hl) (ihl I (lt.cnt : Int) lp pre W hl hI (by omega) hJ (by omega) (by omega)) (fun W' hs hJ' => ihr 0 (K - (lt.cnt : Int) - 1) rp _ W' (hr.on hs) (by omega) (by omega) hJ' ?_ (by omega)) (by omega) h3 h2 (by rw [IntKind.wrap_i64]; omega) (by rw [IntKind.wrap_i64]; omega) (by rw [IntKind.wrap_i64]; omega) (by rw [IntKind.wrap_i64]; omega) rfl ?_ (hok _ (by simp [Tr.rows]))
        · simp only [List.length_append, List.length_singleton]; omega
        · simp only [List.length_append]; omega
      · rw [if_neg (by omega), show I.toNat - lt.rows.length - 1 = (I - (lt.cnt : Int) - 1).toNat from by omega, show K.toNat - lt.rows.length - 1 = (K - (lt.cnt : Int) - 1).toNat from by omega]
        have L0 : seg lt.rows I.toNat ((lt.cnt : Int)).toNat = [] := seg_none _ (by omega)
        refine walkHigh hKp hd hY hb (rowsE hl) (ihl I (lt.cnt : Int) lp pre W hl hI (by omega) hJ (by omega) (by omega)) (fun W' hs hJ' => ihr (I - (lt.cnt : Int) - 1) (K - (lt.cnt : Int) - 1) rp _ W' (hr.on hs) (by omega) (by omega) hJ' ?_ (by omega)) (by omega) h3 h2 (by rw [IntKind.wrap_i64]; omega) (by rw [IntKind.wrap_i64]; omega) (by rw [IntKind.wrap_i64]; omega) (by rw [IntKind.wrap_i64]; omega) rfl
        rw [L0]; simp only [List.length_append, List.length_nil]; omega
    · have e2 : min K.toNat lt.rows.length = K.toNat := by omega
      rw [e2, if_neg (by omega), show seg rt.rows (I.toNat - lt.rows.length - 1) (K.toNat - lt.rows.length - 1) = seg rt.rows (0 : Int).toNat (K - (lt.cnt : Int) - 1).toNat from by rw [seg_none _ (by omega), seg_none _ (by omega)]]
      have L1 := hlen lt.rows I.toNat K.toNat
      refine walkLow hKp hd hY hb (rowsE hl) (ihl I K lp pre W hl hI (by omega) hJ (by omega) (by omega)) (fun W' hs hJ' => ihr 0 (K - (lt.cnt : Int) - 1) rp _ W' (hr.on hs) (by omega) (by omega) hJ' ?_ (by omega)) (by omega) (by omega) h2 (by rw [IntKind.wrap_i64]; omega) (by rw [IntKind.wrap_i64]; omega) (by rw [IntKind.wrap_i64]; omega) (by rw [IntKind.wrap_i64]; omega) rfl
      simp only [List.length_append]; omega

end Go.Proofs.YtlgcdcjhflihiaaDoor
namespace Go.Proofs.YtlgcdcjhflihiaaDoor
open Go.RowKit
set_option linter.unusedVariables false
section
variable {P : Program} {ops : Array Oper} {Q : Exit → Act → World → Prop} {md : Region.Mode} {S : World → Prop} {z : Nat}
/-- Whatever order is picked: behind each operation that comes ahead of number z, S holds. -/
def Until (P : Program) (md : Region.Mode) (ops : Array Oper) (Q : Exit → Act → World → Prop) (S : World → Prop) (z : Nat) : Nat → Array Bool → Act → World → Prop
  | 0, listed, a, w => Region.ready md ops listed = [] ∧ Q .normal a w
  | f + 1, listed, a, w => (Region.ready md ops listed = [] → Q .normal a w) ∧ ∀ i ∈ Region.ready md ops listed,
      wpOp P ops Q i (fun a' w' => if i = z then wpAny P md ops Q f (listed.setIfInBounds i true) a' w' else S w' ∧ Until P md ops Q S z f (listed.setIfInBounds i true) a' w') a w

theorem Until.any : ∀ (f : Nat) (listed : Array Bool) (a : Act) (w : World), Until P md ops Q S z f listed a w → wpAny P md ops Q f listed a w
  | 0, _, _, _, h => h
  | f + 1, _, _, _, h => ⟨h.1, fun i hi => wpOp_mono (fun a' w' h' => by
      by_cases e : i = z
      · rwa [if_pos e] at h'
      · rw [if_neg e] at h'; exact Until.any f _ a' w' h'.2) (h.2 i hi)⟩

/-- Each of U waits for i or for another one of U. -/
def waits (md : Region.Mode) (ops : Array Oper) (i : Nat) (U : List Nat) : Bool :=
  U.all fun u => match ops[u]? with
    | some o => o.after.any fun e => Region.binds md e && (e.on == i || U.contains e.on)
    | none => false

def unlisted (listed : Array Bool) (U : List Nat) : Prop := ∀ u ∈ U, listed.getD u true = false

theorem unlisted_dec {listed : Array Bool} {U : List Nat} (h : (U.all fun u => !(listed.getD u true)) = true) : unlisted listed U := by
  intro u hu
  have := List.all_eq_true.1 h u hu
  simpa using this

theorem getD_low {listed : Array Bool} {j : Nat} (h : listed.getD j true = false) : listed.getD j false = false := by
  rcases Nat.lt_or_ge j listed.size with h' | h'
  · simp [h'] at h ⊢; exact h
  · simp [Array.getElem?_eq_none h'] at h

theorem waits_not {i : Nat} {U : List Nat} {listed : Array Bool} (hw : waits md ops i U = true) (hi : listed.getD i true = false) (hU : unlisted listed U) : ∀ u ∈ U, u ∉ Region.ready md ops listed := by
  intro u hu hr
  obtain ⟨-, o, ho, hall⟩ := mem_ready.1 hr
  have h1 := List.all_eq_true.1 hw u hu
  rw [ho] at h1
  simp only [Array.any_eq_true', Bool.and_eq_true, Bool.or_eq_true, beq_iff_eq, List.contains_iff_mem] at h1
  obtain ⟨e, he, hb, hon⟩ := h1
  have h2 := hall e he hb
  have h3 : listed.getD e.on true = false := by
    rcases hon with hon | hon
    · rw [hon]; exact hi
    · exact hU _ hon
  rw [getD_low h3] at h2
  cases h2

theorem free_on {i j : Nat} {oi : Oper} {listed : Array Bool} (hjun : listed.getD j true = false)
    (hfree : ∀ k ok, ops[k]? = some ok → k ≠ i → listed.getD k true = false → (∀ e ∈ ok.after, Region.binds md e = true → e.on ≠ i) → oi.apart ops ok = true) :
    ∀ k ok, ops[k]? = some ok → k ≠ i → (listed.setIfInBounds j true).getD k true = false → (∀ e ∈ ok.after, Region.binds md e = true → e.on ≠ i) → oi.apart ops ok = true := by
  intro k ok hk hki hun hno
  refine hfree k ok hk hki ?_ hno
  by_cases e : j = k
  · subst e; exact hjun
  · rwa [getD_set_ne true e] at hun

theorem not_after {i j : Nat} {listed : Array Bool} (hi : listed.getD i true = false) {oj : Oper} (hall : ∀ e ∈ oj.after, Region.binds md e = true → listed.getD e.on false = true) : ∀ e ∈ oj.after, Region.binds md e = true → e.on ≠ i := by
  intro e he hb heq
  have h1 := hall e he hb
  rw [heq, getD_low hi] at h1
  cases h1

/-- What yields in every world that meets S is taken first, where number z waits for it. -/
theorem Until.first {i : Nat} {oi : Oper} {v : Value} {U : List Nat} (hi : ops[i]? = some oi) (hsel : ∀ (j : Nat) (o : Oper) cs b, ops[j]? = some o → o.op ≠ .select cs b)
    (hQ : ∀ c a w, Q (.panic c) (a.put oi.dst v) w → Q (.panic c) a w) (hw : waits md ops i U = true) (hz : z ∈ U) (hzi : i ≠ z) :
    ∀ (f : Nat) (listed : Array Bool) (a : Act) (w : World),
      (∀ k ok, ops[k]? = some ok → k ≠ i → listed.getD k true = false → (∀ e ∈ ok.after, Region.binds md e = true → e.on ≠ i) → oi.apart ops ok = true) →
      i ∈ Region.ready md ops listed → unlisted listed U → YieldsIf P ops S oi v a → S w →
      Until P md ops Q S z f (listed.setIfInBounds i true) (a.put oi.dst v) w → Until P md ops Q S z (f + 1) listed a w := by
  intro f
  induction f with
  | zero =>
    intro listed a w _ hr hU hy hS H
    refine ⟨fun h => (by rw [h] at hr; cases hr), fun j hj => ?_⟩
    by_cases hji : j = i
    · subst hji
      exact hy.wpOp hi hS (by rw [if_neg hzi]; exact ⟨hS, H⟩)
    · have := ready_mono hj hji
      rw [H.1] at this
      cases this
  | succ f ih =>
    intro listed a w hfree hr hU hy hS H
    refine ⟨fun h => (by rw [h] at hr; cases hr), fun j hj => ?_⟩
    by_cases hji : j = i
    · subst hji
      exact hy.wpOp hi hS (by rw [if_neg hzi]; exact ⟨hS, H⟩)
    · have hi0 := (mem_ready.1 hr).1
      have hno := waits_not hw hi0 hU
      have hjz : j ≠ z := fun e => hno z hz (e ▸ hj)
      obtain ⟨hjun, oj, hoj, hall⟩ := mem_ready.1 hj
      have h1 := H.2 j (ready_mono hj hji)
      simp only [if_neg hjz] at h1 ⊢
      have h2 := wpOp_putIf hoj (hfree j oj hoj hji hjun (not_after (j := j) hi0 hall)) (fun cs b => hsel i oi cs b hi) (fun cs b => hsel j oj cs b hoj) hQ hy h1
      refine wpOp_mono (fun a' w' h3 => ⟨h3.2.1, ih (listed.setIfInBounds j true) a' w' (free_on hjun hfree) (ready_mono hr (Ne.symm hji)) ?_ h3.1 h3.2.1 ?_⟩) h2
      · intro u hu
        have : j ≠ u := fun e => hno u hu (e ▸ hj)
        rw [getD_set_ne true this]
        exact hU u hu
      · rw [Array.setIfInBounds_comm _ _ hji]
        exact h3.2.2

/-- What yields in whatever world is taken first. -/
theorem Until.firstY {i : Nat} {oi : Oper} {v : Value} (hi : ops[i]? = some oi) (hsel : ∀ (j : Nat) (o : Oper) cs b, ops[j]? = some o → o.op ≠ .select cs b)
    (hQ : ∀ c a w, Q (.panic c) (a.put oi.dst v) w → Q (.panic c) a w) (hzi : i ≠ z) :
    ∀ (f : Nat) (listed : Array Bool) (a : Act) (w : World),
      (∀ k ok, ops[k]? = some ok → k ≠ i → listed.getD k true = false → (∀ e ∈ ok.after, Region.binds md e = true → e.on ≠ i) → oi.apart ops ok = true) →
      i ∈ Region.ready md ops listed → YieldsIf P ops (fun _ => True) oi v a → S w →
      Until P md ops Q S z f (listed.setIfInBounds i true) (a.put oi.dst v) w → Until P md ops Q S z (f + 1) listed a w := by
  intro f
  induction f with
  | zero =>
    intro listed a w _ hr hy hS H
    refine ⟨fun h => (by rw [h] at hr; cases hr), fun j hj => ?_⟩
    by_cases hji : j = i
    · subst hji
      exact hy.wpOp hi trivial (by rw [if_neg hzi]; exact ⟨hS, H⟩)
    · have := ready_mono hj hji
      rw [H.1] at this
      cases this
  | succ f ih =>
    intro listed a w hfree hr hy hS H
    refine ⟨fun h => (by rw [h] at hr; cases hr), fun j hj => ?_⟩
    by_cases hji : j = i
    · subst hji
      exact hy.wpOp hi trivial (by rw [if_neg hzi]; exact ⟨hS, H⟩)
    · have hi0 := (mem_ready.1 hr).1
      obtain ⟨hjun, oj, hoj, hall⟩ := mem_ready.1 hj
      have h1 := H.2 j (ready_mono hj hji)
      have h2 := wpOp_putIf hoj (hfree j oj hoj hji hjun (not_after (j := j) hi0 hall)) (fun cs b => hsel i oi cs b hi) (fun cs b => hsel j oj cs b hoj) hQ hy h1
      refine wpOp_mono (fun a' w' h3 => ?_) h2
      by_cases hjz : j = z
      · have h4 := h3.2
        rw [if_pos hjz] at h4 ⊢
        refine wpAny_first hi hsel hQ f (listed.setIfInBounds j true) a' w' (free_on hjun hfree) (ready_mono hr (Ne.symm hji)) (h3.1.imp (fun ⟨p, q⟩ => ⟨p, fun w => q w trivial⟩) id) ?_
        rw [Array.setIfInBounds_comm _ _ hji]
        exact h4
      · have h4 := h3.2
        rw [if_neg hjz] at h4 ⊢
        refine ⟨h4.1, ih (listed.setIfInBounds j true) a' w' (free_on hjun hfree) (ready_mono hr (Ne.symm hji)) h3.1 h4.1 ?_⟩
        rw [Array.setIfInBounds_comm _ _ hji]
        exact h4.2

theorem Until.take {i : Nat} {oi : Oper} {v : Value} {f : Nat} {listed : Array Bool} {a : Act} {w : World} (U : List Nat) (hi : ops[i]? = some oi)
    (hs : Region.noSelect ops = true) (hf : Region.free md ops listed i = true) (hr : (Region.ready md ops listed).contains i = true) (hw : waits md ops i U = true) (hz : U.contains z = true) (hzi : (i == z) = false)
    (hU : (U.all fun u => !(listed.getD u true)) = true)
    (hQ : ∀ c a w, Q (.panic c) (a.put oi.dst v) w → Q (.panic c) a w) (hy : YieldsIf P ops S oi v a) (hS : S w)
    (h : Until P md ops Q S z f (listed.setIfInBounds i true) (a.put oi.dst v) w) : Until P md ops Q S z (f + 1) listed a w :=
  Until.first hi (Region.noSelect_spec hs) hQ hw (by simpa using hz) (by simpa using hzi) f listed a w (Region.free_spec hi hf) (by simpa using hr) (unlisted_dec hU) hy hS h

theorem Until.takeY {i : Nat} {oi : Oper} {v : Value} {f : Nat} {listed : Array Bool} {a : Act} {w : World} (hi : ops[i]? = some oi)
    (hs : Region.noSelect ops = true) (hf : Region.free md ops listed i = true) (hr : (Region.ready md ops listed).contains i = true) (hzi : (i == z) = false)
    (hQ : ∀ c a w, Q (.panic c) (a.put oi.dst v) w → Q (.panic c) a w) (hy : YieldsIf P ops (fun _ => True) oi v a) (hS : S w)
    (h : Until P md ops Q S z f (listed.setIfInBounds i true) (a.put oi.dst v) w) : Until P md ops Q S z (f + 1) listed a w :=
  Until.firstY hi (Region.noSelect_spec hs) hQ (by simpa using hzi) f listed a w (Region.free_spec hi hf) (by simpa using hr) hy hS h

/-- One alone may come up, ahead of number z. -/
theorem Until.step {i : Nat} {o : Oper} {f : Nat} {listed : Array Bool} {a : Act} {w : World} (hr : Region.ready md ops listed = [i]) (ho : ops[i]? = some o) (hzi : (i == z) = false)
    (h : ∀ K' : Act → World → Prop, Shut (∀ a w, S w → (S w → Until P md ops Q S z f (listed.setIfInBounds i true) a w) → K' a w) → if Region.wanted o (yielded ops a.tmps) = true then Oper.wp P o a w K' Q else K' (a.put o.dst undef) w) :
    Until P md ops Q S z (f + 1) listed a w := by
  refine ⟨fun h0 => (by rw [hr] at h0; cases h0), ?_⟩
  rw [hr]
  intro j hj
  rcases List.mem_singleton.1 hj with rfl
  rw [show (fun a' w' => if j = z then wpAny P md ops Q f (listed.setIfInBounds j true) a' w' else S w' ∧ Until P md ops Q S z f (listed.setIfInBounds j true) a' w') = (fun a' w' => S w' ∧ Until P md ops Q S z f (listed.setIfInBounds j true) a' w') from by
    funext a' w'; rw [if_neg (by simpa using hzi)]]
  exact wpOp_step ho (fun K' hK => h K' (fun a w hS hW => hK a w ⟨hS, hW hS⟩))

/-- Number z comes up: from here on nothing is held. -/
theorem Until.last {o : Oper} {f : Nat} {listed : Array Bool} {a : Act} {w : World} (hr : Region.ready md ops listed = [z]) (ho : ops[z]? = some o)
    (h : ∀ K' : Act → World → Prop, Shut (∀ a w, wpAny P md ops Q f (listed.setIfInBounds z true) a w → K' a w) → if Region.wanted o (yielded ops a.tmps) = true then Oper.wp P o a w K' Q else K' (a.put o.dst undef) w) :
    Until P md ops Q S z (f + 1) listed a w := by
  refine ⟨fun h0 => (by rw [hr] at h0; cases h0), ?_⟩
  rw [hr]
  intro j hj
  rcases List.mem_singleton.1 hj with rfl
  rw [show (fun a' w' => if j = j then wpAny P md ops Q f (listed.setIfInBounds j true) a' w' else S w' ∧ Until P md ops Q S j f (listed.setIfInBounds j true) a' w') = (fun a' w' => wpAny P md ops Q f (listed.setIfInBounds j true) a' w') from by
    funext a' w'; rw [if_pos rfl]]
  exact wpOp_step ho (fun K' hK => h K' hK)

theorem wp_region_until {id : Nat} {a : Act} {w : World} (hm : P.follows .mixedOrders = true) (hS : S w.drew)
    (h : S w.drew → Until P .any ops Q S z ops.size (Array.replicate ops.size false) a w.drew) : (Code.region id ops true).wp P Q a w :=
  wp_region_any hm (Until.any _ _ _ _ (h hS))

end
end Go.Proofs.YtlgcdcjhflihiaaDoor
