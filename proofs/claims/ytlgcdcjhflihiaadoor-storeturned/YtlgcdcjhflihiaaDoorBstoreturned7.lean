/-
  Plain mathematics: ranks and places of a sorted list, folds of its parts.
  The walk over a whole tree; Span.
  A region that draws its order and whose stores come last: what holds ahead of the first store lets loads be taken first.
  Span: an iterator over the rows that there were.
  Iterators that go over another iterator: what they may ask of the one who ranges over them, and a law for the loop.
  The words of a key and a version, plain, and what both lanes come to.
  Plain mathematics of stores: entries by rising keys, what is put, found, counted and summed up.
  A store in memory: its own block, its meter, its tree.
  Versions: which may be, how they compare, which is the next; the code's calls and the document's own, each as a plain function.
  Entries: which may be, which is newer, the better of two; the next version; the code's calls and the document's own.
  The law ItemOrder, walked: it returns true at any three versions.
  long, Newer and Best, the code's and the document's own, by contracts; and the plain laws of the better of two.
  Plain mathematics of ranges of keys: which may be, which are empty, which keys they hold.
  Check, the code's and the document's own: each returns the number that the plain function gives, and writes nothing that was there.
  Empty and Holds, the code's and the document's own: each returns what the plain function gives, and writes nothing that was there.
-/
import Derived.Test.YtlgcdcjhflihiaaDoorBstoreturned6
import Derived.Test.YtlgcdcjhflihiaaDoorBstoreturned2
import Derived.Test.YtlgcdcjhflihiaaDoorBstoreturned1
import Derived.OrdersHeld
import Derived.Deep.RegionHeld
import Derived.RangeFuncNested
import Derived.Below
import Derived.Laws.StructEq
import Derived.Test.YtlgcdcjhflihiaaDoorProg
import Derived.WalkKit
import Derived.Laws.Cover1
import Derived.WalkSpells
import Derived.WalkLawsBesides
import Derived.KernelRfl
import Derived.Laws.IdiomStrings
namespace Go.Proofs.YtlgcdcjhflihiaaDoor
open Go.RowKit
set_option linter.unusedVariables false
variable {β α : Type}
theorem rises_cons {a : Rw β α} {l : List (Rw β α)} (h : Rises (a :: l)) : (∀ y ∈ l, kLt a.k y.k = true) ∧ Rises l := by
  unfold Rises at *
  rwa [List.pairwise_cons] at h

theorem rank_high {key : ByteArray} {a : Rw β α} {l : List (Rw β α)} (h : Rises (a :: l)) (hk : kLt a.k key = false) : rankL key (a :: l) = 0 :=
  rank_none (fun y hy => by
    rcases List.mem_cons.1 hy with rfl | hy
    · exact hk
    · cases h2 : kLt y.k key
      · rfl
      · have := kLt_trans ((rises_cons h).1 y hy) h2
        rw [hk] at this; cases this)

theorem rank_lt {key : ByteArray} : ∀ {l : List (Rw β α)} {q : Nat} {y : Rw β α}, Rises l → l[q]? = some y → kLt y.k key = decide (q < rankL key l)
  | [], q, y, _, h => by simp at h
  | a :: l, q, y, hr, h => by
    obtain ⟨h1, h2⟩ := rises_cons hr
    cases hk : kLt a.k key
    · rw [rank_high hr hk]
      cases q with
      | zero => simp at h; subst h; simp [hk]
      | succ q =>
        simp at h
        have hm := List.mem_of_getElem? h
        cases h3 : kLt y.k key
        · simp
        · have := kLt_trans (h1 y hm) h3
          rw [hk] at this; cases this
    · rw [rank_cons, hk]
      cases q with
      | zero =>
        simp at h; subst h
        rw [hk]
        symm
        apply decide_eq_true
        simp
        omega
      | succ q =>
        simp at h
        rw [rank_lt h2 h]
        congr 1
        simp
        omega

theorem rank_at {l : List (Rw β α)} {q : Nat} {y : Rw β α} (hr : Rises l) (h : l[q]? = some y) : rankL y.k l = q := by
  have h1 := rank_lt (key := y.k) hr h
  rw [kLt_irrefl] at h1
  have h2 : ¬ q < rankL y.k l := of_decide_eq_false h1.symm
  have hlt := (List.getElem?_eq_some_iff.1 h).1
  by_cases h3 : q = 0
  · subst h3
    cases l with
    | nil => simp at h
    | cons a l => simp at h; subst h; exact rank_high hr (kLt_irrefl _)
  · -- the row ahead is lower
    have hq : q - 1 < l.length := by omega
    have h4 := rank_lt (key := y.k) hr (List.getElem?_eq_getElem hq)
    have h5 : kLt l[q - 1].k y.k = true := by
      have hp := List.pairwise_iff_getElem.1 hr (q - 1) q hq hlt (by omega)
      rw [(List.getElem?_eq_some_iff.1 h).2] at hp
      exact hp
    rw [h5] at h4
    have h6 : q - 1 < rankL y.k l := of_decide_eq_true h4.symm
    omega

theorem look_at {key : ByteArray} {l : List (Rw β α)} {y : Rw β α} (hr : Rises l) (h : look key l = some y) : l[rankL key l]? = some y ∧ y.k = key := by
  unfold look at h
  have h1 := List.mem_of_find?_eq_some h
  have h2 := List.find?_some h
  simp only [Bool.and_eq_true, Bool.not_eq_true'] at h2
  have e : y.k = key := kLt_total h2.2 h2.1
  obtain ⟨q, hlt, hq⟩ := List.mem_iff_getElem.1 h1
  have h3 : l[q]? = some y := List.getElem?_eq_some_iff.2 ⟨hlt, hq⟩
  have h4 := rank_at hr h3
  rw [← e, h4]
  exact ⟨h3, rfl⟩

theorem lower_at {t : Tr β α} (h : Rises t.rows) {q : Nat} {l r : Tr β α} {k : ByteArray} {v : β} {s : α} (hy : t.rows[q]? = some ⟨k, v, s⟩) : Tr.lower k t = q := by
  rw [lower_rank k t h]; exact rank_at h hy

/-- Whether there is a row of a key, told by Rank and At. -/
theorem has_at {t : Tr β α} (h : Rises t.rows) (key : ByteArray) : (!(Tr.found key t).isNil) = (!(Tr.nth t (Tr.lower key t : Int)).isNil && ((Tr.nth t (Tr.lower key t : Int)).key.toList == key.toList)) := by
  have h1 := look_found key t h
  have h2 := nth_rows t (Tr.lower key t)
  rw [lower_rank key t h] at h2 ⊢
  cases hF : Tr.found key t with
  | nil =>
    cases hN : Tr.nth t (rankL key t.rows : Int) with
    | nil => rfl
    | node l k v s r =>
      rw [hN] at h2
      have hne : (k.toList == key.toList) = false := by
        rw [beq_eq_false_iff_ne]
        intro e
        have e := toList_inj e
        subst e
        have := look_self h h2.symm
        rw [h1, hF] at this
        cases this
      simp [Tr.isNil, Tr.key, hne]
  | node l k v s r =>
    rw [hF] at h1
    obtain ⟨h3, h4⟩ := look_at h h1
    dsimp only at h4
    subst h4
    rw [h3] at h2
    cases hN : Tr.nth t (rankL k t.rows : Int) with
    | nil => rw [hN] at h2; cases h2
    | node l' k' v' s' r' =>
      rw [hN] at h2
      simp only [Option.some.injEq, Rw.mk.injEq] at h2
      obtain ⟨rfl, -, -⟩ := h2
      simp [Tr.isNil, Tr.key]

theorem seg_append (l : List (Rw β α)) {i j k : Nat} (h1 : i ≤ j) (h2 : j ≤ k) (h3 : k ≤ l.length) : seg l i j ++ seg l j k = seg l i k := by
  unfold seg
  have e : l.take k = l.take j ++ (l.take k).drop j := by
    have := List.take_append_drop j (l.take k)
    rw [List.take_take, Nat.min_eq_left h2] at this
    exact this.symm
  conv => rhs; rw [e]
  rw [List.drop_append_of_le_length (by rw [List.length_take]; omega)]

theorem seg_nil (l : List (Rw β α)) (j : Nat) : seg l j j = [] := by
  unfold seg
  rw [List.drop_of_length_le (by rw [List.length_take]; omega)]

theorem fol_join {J : α → α → α} {e : α} (m : Mon J e) (t : Tr β α) {i j k : Nat} (h1 : i ≤ j) (h2 : j ≤ k) (h3 : k ≤ t.cnt) : J (Tr.fol J e t (i : Int) (j : Int)) (Tr.fol J e t (j : Int) (k : Int)) = Tr.fol J e t (i : Int) (k : Int) := by
  rw [fol_nat m t i j (by omega), fol_nat m t j k h3, fol_nat m t i k h3, ← foldL_append m, seg_append _ h1 h2 (by rw [Tr.rows_length]; exact h3)]

theorem fol_none {J : α → α → α} {e : α} (m : Mon J e) (t : Tr β α) {j : Nat} (h : j ≤ t.cnt) : Tr.fol J e t (j : Int) (j : Int) = e := by
  rw [fol_nat m t j j h, seg_nil, foldL_nil]

end Go.Proofs.YtlgcdcjhflihiaaDoor
namespace Go.Proofs.YtlgcdcjhflihiaaDoor
open Go.RowKit Go.Shelf
set_option linter.unusedVariables false

theorem walkE {l m N : Nat} {J Jx : List (Rw En Tl) → World → Prop} {Kp : World → World → Prop} (hKp : ∀ A B, Kp A B → Stay 120 A B) (hd : ∀ s W, J s W → J s W.drew) (hY : YOk l m N Kp J Jx) :
    ∀ T : Tr En Tl, T.cnt ≤ 4611686018427387904 → WalkOk l N J Jx T
  | .nil, _ => fun I K p pre W hT hI hK hJ hN hK2 => by
    have h : K ≤ I := by simp [Tr.cnt] at hK; omega
    rw [sgI h]
    exact walkNone l J Jx pre I K p W h hJ
  | .node lt k v s rt, hc => fun I K p pre W hT hI hK hJ hN hK2 => by
    by_cases h : K ≤ I
    · rw [sgI h]
      exact walkNone l J Jx pre I K p W h hJ
    have hcl : lt.cnt ≤ 4611686018427387904 := by simp only [Tr.cnt] at hc; omega
    have hcr : rt.cnt ≤ 4611686018427387904 := by simp only [Tr.cnt] at hc; omega
    have ihl := walkE hKp hd hY lt hcl
    have ihr := walkE hKp hd hY rt hcr
    obtain ⟨b, lp, rp, rfl, hb, hl, hr⟩ := hT
    have hcn : (Tr.node lt k v s rt).cnt = lt.cnt + 1 + rt.cnt := rfl
    rw [hcn] at hK hc
    have hll := Tr.rows_length lt
    have hrl := Tr.rows_length rt
    have hsg := seg_node lt.rows rt.rows ⟨k, v, s⟩ (i := I.toNat) (j := K.toNat) (by omega)
    have e1 : (Tr.node lt k v s rt).rows = lt.rows ++ ⟨k, v, s⟩ :: rt.rows := rfl
    have hlen : ∀ (R : List (Rw En Tl)) (a c : Nat), (seg R a c).length ≤ c - a := fun R a c => by unfold seg; simp; omega
    rw [e1, hsg]
    by_cases h2 : (lt.cnt : Int) < K
    · have e2 : min K.toNat lt.rows.length = ((lt.cnt : Int)).toNat := by omega
      rw [e2]
      have L1 := hlen lt.rows I.toNat ((lt.cnt : Int)).toNat
      by_cases h3 : I ≤ (lt.cnt : Int)
      · rw [if_pos ⟨by omega, by omega⟩, show I.toNat - lt.rows.length - 1 = (0 : Int).toNat from by omega, show K.toNat - lt.rows.length - 1 = (K - (lt.cnt : Int) - 1).toNat from by omega]
        refine walkOwn hKp hd hY hb (rowsE hl) (ihl I (lt.cnt : Int) lp pre W hl hI (by omega) hJ (by omega) (by omega)) (fun W' hs hJ' => ihr 0 (K - (lt.cnt : Int) - 1) rp _ W' (hr.on hs) (by omega) (by omega) hJ' ?_ (by omega)) (by omega) h3 h2 (by rw [IntKind.wrap_i64]; omega) (by rw [IntKind.wrap_i64]; omega) (by rw [IntKind.wrap_i64]; omega) (by rw [IntKind.wrap_i64]; omega) rfl ?_
        · simp only [List.length_append, List.length_singleton]; omega
        · simp only [List.length_append]; omega
      · rw [if_neg (by omega), show I.toNat - lt.rows.length - 1 = (I - (lt.cnt : Int) - 1).toNat from by omega, show K.toNat - lt.rows.length - 1 = (K - (lt.cnt : Int) - 1).toNat from by omega]
        have L0 : seg lt.rows I.toNat ((lt.cnt : Int)).toNat = [] := seg_none _ (by omega)
        refine walkHigh hKp hd hY hb (rowsE hl) (ihl I (lt.cnt : Int) lp pre W hl hI (by omega) hJ (by omega) (by omega)) (fun W' hs hJ' => ihr (I - (lt.cnt : Int) - 1) (K - (lt.cnt : Int) - 1) rp _ W' (hr.on hs) (by omega) (by omega) hJ' ?_ (by omega)) (by omega) h3 h2 (by rw [IntKind.wrap_i64]; omega) (by rw [IntKind.wrap_i64]; omega) (by rw [IntKind.wrap_i64]; omega) (by rw [IntKind.wrap_i64]; omega) rfl
        rw [L0]; simp only [List.length_append, List.length_nil]; omega
    · have e2 : min K.toNat lt.rows.length = K.toNat := by omega
      rw [e2, if_neg (by omega), show seg rt.rows (I.toNat - lt.rows.length - 1) (K.toNat - lt.rows.length - 1) = seg rt.rows (0 : Int).toNat (K - (lt.cnt : Int) - 1).toNat from by rw [seg_none _ (by omega), seg_none _ (by omega)]]
      have L1 := hlen lt.rows I.toNat K.toNat
      refine walkLow hKp hd hY hb (rowsE hl) (ihl I K lp pre W hl hI (by omega) hJ (by omega) (by omega)) (fun W' hs hJ' => ihr 0 (K - (lt.cnt : Int) - 1) rp _ W' (hr.on hs) (by omega) (by omega) hJ' ?_ (by omega)) (by omega) (by omega) h2 (by rw [IntKind.wrap_i64]; omega) (by rw [IntKind.wrap_i64]; omega) (by rw [IntKind.wrap_i64]; omega) (by rw [IntKind.wrap_i64]; omega) rfl
      simp only [List.length_append]; omega

end Go.Proofs.YtlgcdcjhflihiaaDoor
namespace Go.Proofs.YtlgcdcjhflihiaaDoor
open Go.RowKit
set_option linter.unusedVariables false
section
variable {P : Program} {ops : Array Oper} {Q : Exit → Act → World → Prop} {md : Region.Mode} {S : World → Prop} {z : Nat}
/-- Whatever order is picked: behind each operation that comes ahead of number z, S holds. -/
def Until (P : Program) (md : Region.Mode) (ops : Array Oper) (Q : Exit → Act → World → Prop) (S : World → Prop) (z : Nat) : Nat → Array Bool → Act → World → Prop
  | 0, listed, a, w => Region.ready md ops listed = [] ∧ Q .normal a w
  | f + 1, listed, a, w => (Region.ready md ops listed = [] → Q .normal a w) ∧ ∀ i ∈ Region.ready md ops listed,
      wpOp P ops Q i (fun a' w' => if i = z then wpAny P md ops Q f (listed.setIfInBounds i true) a' w' else S w' ∧ Until P md ops Q S z f (listed.setIfInBounds i true) a' w') a w

theorem Until.any : ∀ (f : Nat) (listed : Array Bool) (a : Act) (w : World), Until P md ops Q S z f listed a w → wpAny P md ops Q f listed a w
  | 0, _, _, _, h => h
  | f + 1, _, _, _, h => ⟨h.1, fun i hi => wpOp_mono (fun a' w' h' => by
      by_cases e : i = z
      · rwa [if_pos e] at h'
      · rw [if_neg e] at h'; exact Until.any f _ a' w' h'.2) (h.2 i hi)⟩

/-- Each of U waits for i or for another one of U. -/
def waits (md : Region.Mode) (ops : Array Oper) (i : Nat) (U : List Nat) : Bool :=
  U.all fun u => match ops[u]? with
    | some o => o.after.any fun e => Region.binds md e && (e.on == i || U.contains e.on)
    | none => false

def unlisted (listed : Array Bool) (U : List Nat) : Prop := ∀ u ∈ U, listed.getD u true = false

theorem unlisted_dec {listed : Array Bool} {U : List Nat} (h : (U.all fun u => !(listed.getD u true)) = true) : unlisted listed U := by
  intro u hu
  have := List.all_eq_true.1 h u hu
  simpa using this

theorem getD_low {listed : Array Bool} {j : Nat} (h : listed.getD j true = false) : listed.getD j false = false := by
  rcases Nat.lt_or_ge j listed.size with h' | h'
  · simp [h'] at h ⊢; exact h
  · simp [Array.getElem?_eq_none h'] at h

theorem waits_not {i : Nat} {U : List Nat} {listed : Array Bool} (hw : waits md ops i U = true) (hi : listed.getD i true = false) (hU : unlisted listed U) : ∀ u ∈ U, u ∉ Region.ready md ops listed := by
  intro u hu hr
  obtain ⟨-, o, ho, hall⟩ := mem_ready.1 hr
  have h1 := List.all_eq_true.1 hw u hu
  rw [ho] at h1
  simp only [Array.any_eq_true', Bool.and_eq_true, Bool.or_eq_true, beq_iff_eq, List.contains_iff_mem] at h1
  obtain ⟨e, he, hb, hon⟩ := h1
  have h2 := hall e he hb
  have h3 : listed.getD e.on true = false := by
    rcases hon with hon | hon
    · rw [hon]; exact hi
    · exact hU _ hon
  rw [getD_low h3] at h2
  cases h2

theorem free_on {i j : Nat} {oi : Oper} {listed : Array Bool} (hjun : listed.getD j true = false)
    (hfree : ∀ k ok, ops[k]? = some ok → k ≠ i → listed.getD k true = false → (∀ e ∈ ok.after, Region.binds md e = true → e.on ≠ i) → oi.apart ops ok = true) :
    ∀ k ok, ops[k]? = some ok → k ≠ i → (listed.setIfInBounds j true).getD k true = false → (∀ e ∈ ok.after, Region.binds md e = true → e.on ≠ i) → oi.apart ops ok = true := by
  intro k ok hk hki hun hno
  refine hfree k ok hk hki ?_ hno
  by_cases e : j = k
  · subst e; exact hjun
  · rwa [getD_set_ne true e] at hun

theorem not_after {i j : Nat} {listed : Array Bool} (hi : listed.getD i true = false) {oj : Oper} (hall : ∀ e ∈ oj.after, Region.binds md e = true → listed.getD e.on false = true) : ∀ e ∈ oj.after, Region.binds md e = true → e.on ≠ i := by
  intro e he hb heq
  have h1 := hall e he hb
  rw [heq, getD_low hi] at h1
  cases h1

/-- What yields in every world that meets S is taken first, where number z waits for it. -/
theorem Until.first {i : Nat} {oi : Oper} {v : Value} {U : List Nat} (hi : ops[i]? = some oi) (hsel : ∀ (j : Nat) (o : Oper) cs b, ops[j]? = some o → o.op ≠ .select cs b)
    (hQ : ∀ c a w, Q (.panic c) (a.put oi.dst v) w → Q (.panic c) a w) (hw : waits md ops i U = true) (hz : z ∈ U) (hzi : i ≠ z) :
    ∀ (f : Nat) (listed : Array Bool) (a : Act) (w : World),
      (∀ k ok, ops[k]? = some ok → k ≠ i → listed.getD k true = false → (∀ e ∈ ok.after, Region.binds md e = true → e.on ≠ i) → oi.apart ops ok = true) →
      i ∈ Region.ready md ops listed → unlisted listed U → YieldsIf P ops S oi v a → S w →
      Until P md ops Q S z f (listed.setIfInBounds i true) (a.put oi.dst v) w → Until P md ops Q S z (f + 1) listed a w := by
  intro f
  induction f with
  | zero =>
    intro listed a w _ hr hU hy hS H
    refine ⟨fun h => (by rw [h] at hr; cases hr), fun j hj => ?_⟩
    by_cases hji : j = i
    · subst hji
      exact hy.wpOp hi hS (by rw [if_neg hzi]; exact ⟨hS, H⟩)
    · have := ready_mono hj hji
      rw [H.1] at this
      cases this
  | succ f ih =>
    intro listed a w hfree hr hU hy hS H
    refine ⟨fun h => (by rw [h] at hr; cases hr), fun j hj => ?_⟩
    by_cases hji : j = i
    · subst hji
      exact hy.wpOp hi hS (by rw [if_neg hzi]; exact ⟨hS, H⟩)
    · have hi0 := (mem_ready.1 hr).1
      have hno := waits_not hw hi0 hU
      have hjz : j ≠ z := fun e => hno z hz (e ▸ hj)
      obtain ⟨hjun, oj, hoj, hall⟩ := mem_ready.1 hj
      have h1 := H.2 j (ready_mono hj hji)
      simp only [if_neg hjz] at h1 ⊢
      have h2 := wpOp_putIf hoj (hfree j oj hoj hji hjun (not_after (j := j) hi0 hall)) (fun cs b => hsel i oi cs b hi) (fun cs b => hsel j oj cs b hoj) hQ hy h1
      refine wpOp_mono (fun a' w' h3 => ⟨h3.2.1, ih (listed.setIfInBounds j true) a' w' (free_on hjun hfree) (ready_mono hr (Ne.symm hji)) ?_ h3.1 h3.2.1 ?_⟩) h2
      · intro u hu
        have : j ≠ u := fun e => hno u hu (e ▸ hj)
        rw [getD_set_ne true this]
        exact hU u hu
      · rw [Array.setIfInBounds_comm _ _ hji]
        exact h3.2.2

/-- What yields in whatever world is taken first. -/
theorem Until.firstY {i : Nat} {oi : Oper} {v : Value} (hi : ops[i]? = some oi) (hsel : ∀ (j : Nat) (o : Oper) cs b, ops[j]? = some o → o.op ≠ .select cs b)
    (hQ : ∀ c a w, Q (.panic c) (a.put oi.dst v) w → Q (.panic c) a w) (hzi : i ≠ z) :
    ∀ (f : Nat) (listed : Array Bool) (a : Act) (w : World),
      (∀ k ok, ops[k]? = some ok → k ≠ i → listed.getD k true = false → (∀ e ∈ ok.after, Region.binds md e = true → e.on ≠ i) → oi.apart ops ok = true) →
      i ∈ Region.ready md ops listed → YieldsIf P ops (fun _ => True) oi v a → S w →
      Until P md ops Q S z f (listed.setIfInBounds i true) (a.put oi.dst v) w → Until P md ops Q S z (f + 1) listed a w := by
  intro f
  induction f with
  | zero =>
    intro listed a w _ hr hy hS H
    refine ⟨fun h => (by rw [h] at hr; cases hr), fun j hj => ?_⟩
    by_cases hji : j = i
    · subst hji
      exact hy.wpOp hi trivial (by rw [if_neg hzi]; exact ⟨hS, H⟩)
    · have := ready_mono hj hji
      rw [H.1] at this
      cases this
  | succ f ih =>
    intro listed a w hfree hr hy hS H
    refine ⟨fun h => (by rw [h] at hr; cases hr), fun j hj => ?_⟩
    by_cases hji : j = i
    · subst hji
      exact hy.wpOp hi trivial (by rw [if_neg hzi]; exact ⟨hS, H⟩)
    · have hi0 := (mem_ready.1 hr).1
      obtain ⟨hjun, oj, hoj, hall⟩ := mem_ready.1 hj
      have h1 := H.2 j (ready_mono hj hji)
      have h2 := wpOp_putIf hoj (hfree j oj hoj hji hjun (not_after (j := j) hi0 hall)) (fun cs b => hsel i oi cs b hi) (fun cs b => hsel j oj cs b hoj) hQ hy h1
      refine wpOp_mono (fun a' w' h3 => ?_) h2
      by_cases hjz : j = z
      · have h4 := h3.2
        rw [if_pos hjz] at h4 ⊢
        refine wpAny_first hi hsel hQ f (listed.setIfInBounds j true) a' w' (free_on hjun hfree) (ready_mono hr (Ne.symm hji)) (h3.1.imp (fun ⟨p, q⟩ => ⟨p, fun w => q w trivial⟩) id) ?_
        rw [Array.setIfInBounds_comm _ _ hji]
        exact h4
      · have h4 := h3.2
        rw [if_neg hjz] at h4 ⊢
        refine ⟨h4.1, ih (listed.setIfInBounds j true) a' w' (free_on hjun hfree) (ready_mono hr (Ne.symm hji)) h3.1 h4.1 ?_⟩
        rw [Array.setIfInBounds_comm _ _ hji]
        exact h4.2

theorem Until.take {i : Nat} {oi : Oper} {v : Value} {f : Nat} {listed : Array Bool} {a : Act} {w : World} (U : List Nat) (hi : ops[i]? = some oi)
    (hs : Region.noSelect ops = true) (hf : Region.free md ops listed i = true) (hr : (Region.ready md ops listed).contains i = true) (hw : waits md ops i U = true) (hz : U.contains z = true) (hzi : (i == z) = false)
    (hU : (U.all fun u => !(listed.getD u true)) = true)
    (hQ : ∀ c a w, Q (.panic c) (a.put oi.dst v) w → Q (.panic c) a w) (hy : YieldsIf P ops S oi v a) (hS : S w)
    (h : Until P md ops Q S z f (listed.setIfInBounds i true) (a.put oi.dst v) w) : Until P md ops Q S z (f + 1) listed a w :=
  Until.first hi (Region.noSelect_spec hs) hQ hw (by simpa using hz) (by simpa using hzi) f listed a w (Region.free_spec hi hf) (by simpa using hr) (unlisted_dec hU) hy hS h

theorem Until.takeY {i : Nat} {oi : Oper} {v : Value} {f : Nat} {listed : Array Bool} {a : Act} {w : World} (hi : ops[i]? = some oi)
    (hs : Region.noSelect ops = true) (hf : Region.free md ops listed i = true) (hr : (Region.ready md ops listed).contains i = true) (hzi : (i == z) = false)
    (hQ : ∀ c a w, Q (.panic c) (a.put oi.dst v) w → Q (.panic c) a w) (hy : YieldsIf P ops (fun _ => True) oi v a) (hS : S w)
    (h : Until P md ops Q S z f (listed.setIfInBounds i true) (a.put oi.dst v) w) : Until P md ops Q S z (f + 1) listed a w :=
  Until.firstY hi (Region.noSelect_spec hs) hQ (by simpa using hzi) f listed a w (Region.free_spec hi hf) (by simpa using hr) hy hS h

/-- One alone may come up, ahead of number z. -/
theorem Until.step {i : Nat} {o : Oper} {f : Nat} {listed : Array Bool} {a : Act} {w : World} (hr : Region.ready md ops listed = [i]) (ho : ops[i]? = some o) (hzi : (i == z) = false)
    (h : ∀ K' : Act → World → Prop, Shut (∀ a w, S w → (S w → Until P md ops Q S z f (listed.setIfInBounds i true) a w) → K' a w) → if Region.wanted o (yielded ops a.tmps) = true then Oper.wp P o a w K' Q else K' (a.put o.dst undef) w) :
    Until P md ops Q S z (f + 1) listed a w := by
  refine ⟨fun h0 => (by rw [hr] at h0; cases h0), ?_⟩
  rw [hr]
  intro j hj
  rcases List.mem_singleton.1 hj with rfl
  rw [show (fun a' w' => if j = z then wpAny P md ops Q f (listed.setIfInBounds j true) a' w' else S w' ∧ Until P md ops Q S z f (listed.setIfInBounds j true) a' w') = (fun a' w' => S w' ∧ Until P md ops Q S z f (listed.setIfInBounds j true) a' w') from by
    funext a' w'; rw [if_neg (by simpa using hzi)]]
  exact wpOp_step ho (fun K' hK => h K' (fun a w hS hW => hK a w ⟨hS, hW hS⟩))

/-- Number z comes up: from here on nothing is held. -/
theorem Until.last {o : Oper} {f : Nat} {listed : Array Bool} {a : Act} {w : World} (hr : Region.ready md ops listed = [z]) (ho : ops[z]? = some o)
    (h : ∀ K' : Act → World → Prop, Shut (∀ a w, wpAny P md ops Q f (listed.setIfInBounds z true) a w → K' a w) → if Region.wanted o (yielded ops a.tmps) = true then Oper.wp P o a w K' Q else K' (a.put o.dst undef) w) :
    Until P md ops Q S z (f + 1) listed a w := by
  refine ⟨fun h0 => (by rw [hr] at h0; cases h0), ?_⟩
  rw [hr]
  intro j hj
  rcases List.mem_singleton.1 hj with rfl
  rw [show (fun a' w' => if j = j then wpAny P md ops Q f (listed.setIfInBounds j true) a' w' else S w' ∧ Until P md ops Q S j f (listed.setIfInBounds j true) a' w') = (fun a' w' => wpAny P md ops Q f (listed.setIfInBounds j true) a' w') from by
    funext a' w'; rw [if_pos rfl]]
  exact wpOp_step ho (fun K' hK => h K' hK)

theorem wp_region_until {id : Nat} {a : Act} {w : World} (hm : P.follows .mixedOrders = true) (hS : S w.drew)
    (h : S w.drew → Until P .any ops Q S z ops.size (Array.replicate ops.size false) a w.drew) : (Code.region id ops true).wp P Q a w :=
  wp_region_any hm (Until.any _ _ _ _ (h hS))

end
end Go.Proofs.YtlgcdcjhflihiaaDoor
namespace Go.Proofs.YtlgcdcjhflihiaaDoor
open Go.RowKit Go.Shelf
set_option linter.unusedVariables false

/-- An iterator over the rows of the tree at p, from I on below K. -/
def SpanV (w : World) (lb : Array Value) (p : Option Addr) (I K : Int) : Prop :=
  ∃ rb ib jb : Nat, lb = #[.pointer (some ⟨rb, 0, none⟩), .pointer (some ⟨ib, 0, none⟩), .pointer (some ⟨jb, 0, none⟩)] ∧ w.heap[rb]? = some (.cells #[.pointer p] 109 (0, 0)) ∧ w.heap[ib]? = some (.cells #[.int .i64 I] 3 (0, 0)) ∧ w.heap[jb]? = some (.cells #[.int .i64 K] 3 (0, 0))

theorem SpanV.below {w w' : World} {lb : Array Value} {p : Option Addr} {I K : Int} (h : SpanV w lb p I K) (b : Below w.heap.size w w') : SpanV w' lb p I K := by
  obtain ⟨rb, ib, jb, h1, h2, h3, h4⟩ := h
  exact ⟨rb, ib, jb, h1, blk_on h2 b, blk_on h3 b, blk_on h4 b⟩

set_option maxHeartbeats 3200000 in
set_option maxRecDepth 100000 in
theorem yspan (I K : Int) {w : World} {tb : Nat} {jv : Value} {p : Option Addr} (ht : TObjE w tb jv p) :
    Calls Tryd.prog 40 #[.pointer (some ⟨tb, 0, none⟩), .int .i64 I, .int .i64 K] w fun e w' => ∃ lb, e = .returned (.func (.func 58) #[] lb) ∧ SpanV w' lb p I K ∧ Below w.heap.size w w' := by
  have hmf : ∀ (fn : Fn) (first cap : Array Value) (w : World), (Instr.makeFunc fn first cap).run Tryd.prog w = .ok (.func fn first cap) w := fun _ _ _ _ => rfl
  have b0 := bnew w (.cells #[.int .i64 I] 3)
  have b1 := bnew (w.alloc (.cells #[.int .i64 I] 3)) (.cells #[.int .i64 K] 3)
  have b2 := bnew ((w.alloc (.cells #[.int .i64 I] 3)).alloc (.cells #[.int .i64 K] 3)) (.cells #[.pointer p] 109)
  have G0 := aside (blk_on (blk_on (heap_alloc_new w (.cells #[.int .i64 I] 3)) b1) b2)
  have g1 := blk_on (heap_alloc_new (w.alloc (.cells #[.int .i64 I] 3)) (.cells #[.int .i64 K] 3)) b2
  have g2 := heap_alloc_new ((w.alloc (.cells #[.int .i64 I] 3)).alloc (.cells #[.int .i64 K] 3)) (.cells #[.pointer p] 109)
  simp only [World.size_alloc] at g1 g2
  have G1 := aside g1
  have G2 := aside g2
  have B := aside (bthen (bthen b0 b1) b2)
  have ht' : TObjE ((w.alloc (.cells #[.int .i64 I] 3)).alloc (.cells #[.int .i64 K] 3)) tb jv p := blk_on (blk_on ht b0) b1
  obtain ⟨-, -, -, -, r0, -⟩ := tobjE ht'
  clear ht ht' g1 g2 b0 b1 b2
  go_enter Tryd.func40, Tryd.ntmps40
  go_wp2
  go_ret
  exact ⟨_, rfl, ⟨_, _, _, rfl, G2.out, G0.out, G1.out⟩, B.out⟩

/-- The rows that such an iterator hands out. -/
def spanL (T : Tr En Tl) (I K : Int) : List (Rw En Tl) := seg T.rows (max I 0).toNat (min K (T.cnt : Int)).toNat

theorem max_if (I : Int) : (if I < 0 then 0 else I) = max I 0 := by omega
theorem min_if (K c : Int) : (if c < K then c else K) = min K c := by omega

set_option maxHeartbeats 6400000 in
set_option maxRecDepth 100000 in
theorem span1 {w : World} {p : Option Addr} {T : Tr En Tl} {I K : Int} {lb : Array Value} (h : SpanV w lb p I K) (hT : IsTE w p T) (hc : T.cnt ≤ 4611686018427387904) (hK : -4611686018427387904 ≤ K) {n N : Nat} (hN : (spanL T I K).length ≤ N) {Kp : World → World → Prop} (hKp : ∀ A B, Kp A B → Stay 120 A B) :
    SeqStopsK Fence.wide n Tryd.prog 58 lb encs2 Kp (fun ys => ys = spanL T I K) (fun q => q <+: spanL T I K) N w := by
  intro l J Jx W hW hJ hJx hY h0
  have h' := h.below hW
  obtain ⟨rb, ib, jb, rfl, g0, g1, g2⟩ := h'
  have hT' : IsTE W p T := hT.on (fun _ _ e => blk_on e hW)
  have hd : ∀ s W, J s W → J s W.drew := fun s W1 hs => hJ s W1 W1.drew none hs ⟨rfl, rfl, rfl, Nat.le_refl _, fun _ _ _ => rfl⟩ (fun r e => by cases e)
  refine callsIn_wide.2 ?_
  have CW := aside (walkE hKp hd hY T hc (max I 0) (min K (T.cnt : Int)) p [] W.drew (hT'.on (Stay.refl _ _).drew) (by omega) (by omega) (hd _ _ h0) (by
    have e1 : (spanL T I K).length = (min K (T.cnt : Int)).toNat - (max I 0).toNat := by
      unfold spanL seg
      have := Tr.rows_length T
      simp only [List.length_drop, List.length_take]
      omega
    simp only [List.length_nil]
    omega) (by omega))
  have CR := aside (rowsE (hT'.on (Stay.refl _ W).drew))
  rw [show seg T.rows (max I 0).toNat (min K (T.cnt : Int)).toNat = spanL T I K from rfl] at CW
  generalize spanL T I K = sg at *
  have HS := aside (show W.cell? ⟨rb, 0, none⟩ = some (.pointer p) ∧ W.cell? ⟨ib, 0, none⟩ = some (.int .i64 I) ∧ W.cell? ⟨jb, 0, none⟩ = some (.int .i64 K) from ⟨cell_one g0, cell_one g1, cell_one g2⟩)
  obtain ⟨c, hcc⟩ : ∃ c : Int, (T.cnt : Int) = c := ⟨_, rfl⟩
  rw [hcc] at CW CR
  obtain ⟨a, ha⟩ : ∃ a : Int, max I 0 = a := ⟨_, rfl⟩
  obtain ⟨b, hb⟩ : ∃ b : Int, min K c = b := ⟨_, rfl⟩
  rw [ha, hb] at CW
  have HA := aside ((max_if I).trans ha)
  have HB := aside ((min_if K c).trans hb)
  clear h hT hT' g0 g1 g2 hY h0 hd hcc ha hb hc hK hN hJ hJx hW
  show Calls Tryd.prog 58 #[.func (.yield l) #[] #[], .pointer (some ⟨rb, 0, none⟩), .pointer (some ⟨ib, 0, none⟩), .pointer (some ⟨jb, 0, none⟩)] W _
  go_enter Tryd.func58, Tryd.ntmps58
  go_wp2_with fail
  refine wp_region_until (z := 8) (S := fun X => X.cell? ⟨rb, 0, none⟩ = some (.pointer p) ∧ X.cell? ⟨ib, 0, none⟩ = some (.int .i64 I) ∧ X.cell? ⟨jb, 0, none⟩ = some (.int .i64 K)) (by kernel_rfl) HS.out (fun hHeld => ?_)
  refine Until.take (i := 0) (v := ?_) [8] rfl (by kernel_rfl) (by kernel_rfl) (by kernel_rfl) (by kernel_rfl) (by rfl) (by rfl) (by kernel_rfl) (fun _ _ _ h => h) (Or.inl ⟨by rfl, ?_⟩) (by assumption) ?_
  rotate_left
  · intro w hSw
    go_simp
    try with_reducible rfl
  simp only [Act.put, List.getElem_toArray, List.getElem_cons_zero, List.setIfInBounds_toArray, List.set_cons_zero, List.set_cons_succ]
  refine Until.take (i := 1) (v := ?_) [2, 8] rfl (by kernel_rfl) (by kernel_rfl) (by kernel_rfl) (by kernel_rfl) (by rfl) (by rfl) (by kernel_rfl) (fun _ _ _ h => h) (Or.inl ⟨by rfl, ?_⟩) (by assumption) ?_
  rotate_left
  · intro w hSw
    go_simp
    try with_reducible rfl
  simp only [Act.put, List.getElem_toArray, List.getElem_cons_zero, List.getElem_cons_succ, List.setIfInBounds_toArray, List.set_cons_zero, List.set_cons_succ]
  refine Until.take (i := 2) (v := ?_) [8] rfl (by kernel_rfl) (by kernel_rfl) (by kernel_rfl) (by kernel_rfl) (by rfl) (by rfl) (by kernel_rfl) (fun _ _ _ h => h) (Or.inl ⟨by rfl, ?_⟩) (by assumption) ?_
  rotate_left
  · intro w hSw
    go_simp
    try with_reducible rfl
  simp only [Act.put, List.getElem_toArray, List.getElem_cons_zero, List.getElem_cons_succ, List.setIfInBounds_toArray, List.set_cons_zero, List.set_cons_succ]
  rw [HA.out]
  refine Until.take (i := 3) (v := ?_) [6, 8] rfl (by kernel_rfl) (by kernel_rfl) (by kernel_rfl) (by kernel_rfl) (by rfl) (by rfl) (by kernel_rfl) (fun _ _ _ h => h) (Or.inl ⟨by rfl, ?_⟩) (by assumption) ?_
  rotate_left
  · intro w hSw
    go_simp
    try with_reducible rfl
  simp only [Act.put, List.getElem_toArray, List.getElem_cons_zero, List.getElem_cons_succ, List.setIfInBounds_toArray, List.set_cons_zero, List.set_cons_succ]
  refine Until.take (i := 4) (v := ?_) [5, 6, 8] rfl (by kernel_rfl) (by kernel_rfl) (by kernel_rfl) (by kernel_rfl) (by rfl) (by rfl) (by kernel_rfl) (fun _ _ _ h => h) (Or.inl ⟨by rfl, ?_⟩) (by assumption) ?_
  rotate_left
  · intro w hSw
    go_simp
    try with_reducible rfl
  simp only [Act.put, List.getElem_toArray, List.getElem_cons_zero, List.getElem_cons_succ, List.setIfInBounds_toArray, List.set_cons_zero, List.set_cons_succ]
  refine Until.takeY (i := 7) (v := ?_) rfl (by kernel_rfl) (by kernel_rfl) (by kernel_rfl) (by rfl) (fun _ _ _ h => h) (Or.inl ⟨by rfl, ?_⟩) (by assumption) ?_
  rotate_left
  · intro w hSw
    go_simp
    try with_reducible rfl
  simp only [Act.put, List.getElem_toArray, List.getElem_cons_zero, List.getElem_cons_succ, List.setIfInBounds_toArray, List.set_cons_zero, List.set_cons_succ]
  refine Until.step (i := 5) (by kernel_rfl) rfl (by rfl) (fun K' hK' => ?_)
  go_simp
  refine CR.out.mono ?_
  rintro e w9 ⟨rfl, rfl⟩
  refine hK'.out _ _ hHeld (fun hHeld => ?_)
  clear hK' K'
  refine Until.take (i := 6) (v := ?_) [8] rfl (by kernel_rfl) (by kernel_rfl) (by kernel_rfl) (by kernel_rfl) (by rfl) (by rfl) (by kernel_rfl) (fun _ _ _ h => h) (Or.inl ⟨by rfl, ?_⟩) (by assumption) ?_
  rotate_left
  · intro w hSw
    go_simp
    try with_reducible rfl
  simp only [Act.put, List.getElem_toArray, List.getElem_cons_zero, List.getElem_cons_succ, List.setIfInBounds_toArray, List.set_cons_zero, List.set_cons_succ]
  rw [HB.out]
  refine Until.last (by kernel_rfl) rfl (fun K' hK' => ?_)
  go_simp
  refine CW.out.mono ?_
  rintro e w8 (⟨rfl, h1, h2⟩ | ⟨rfl, q, h1, h2⟩)
  · refine hK'.out _ _ ?_
    clear hK' K'
    refine wpAny_of_held (S := fun _ => True) _ _ _ _ ?_
    refine wpAnyH_done (by kernel_rfl) ?_ _
    have H1 := aside h1
    clear h1 h2
    go_wp2
    go_end0
    exact ⟨⟨_, rfl⟩, .inl ⟨_, rfl, by have h9 := H1.out; simpa using h9⟩⟩
  · refine hK'.out _ _ ?_
    clear hK' K'
    refine wpAny_of_held (S := fun _ => True) _ _ _ _ ?_
    refine wpAnyH_done (by kernel_rfl) ?_ _
    have H1 := aside h1
    have H2 := aside h2
    clear h1 h2
    go_wp2
    go_end0
    exact ⟨⟨_, rfl⟩, .inr ⟨q, by have h9 := H1.out; simpa using h9, H2.out⟩⟩

end Go.Proofs.YtlgcdcjhflihiaaDoor
namespace Go.Proofs.YtlgcdcjhflihiaaDoor
open Go.RowKit Go.Shelf
set_option linter.unusedVariables false

/-- What the iterator g does with whatever yield: it hands out all of S, or is stopped. The invariants may not mind what becomes of blocks that are no cells and were laid since. -/
def SeqO {α : Type} (P : Program) (g : Nat) (lb : Array Value) (encs : α → Array Value) (Kp : World → World → Prop) (S Sp : List α → Prop) (N : Nat) (w : World) : Prop :=
  ∀ (m l : Nat) (J Jx : List α → World → Prop) (W : World), Below w.heap.size w W → OwnFrom W.heap.size J → OwnFrom W.heap.size Jx →
    (∀ pre x W1, J pre W1 → pre.length < N → YieldAt Fence.wide m P l (encs x) W1 fun e W' =>
      KeepsFrom W.heap.size W1 W' ∧ ((e = .returned (.bool true) ∧ J (pre ++ [x]) W' ∧ Kp W1 W') ∨ (e = .returned (.bool false) ∧ Jx (pre ++ [x]) W'))) →
    J [] W →
    Calls P g (#[.func (.yield l) #[] #[]] ++ lb) W fun e W' => (∃ v, e = .returned v) ∧ ((∃ xs, S xs ∧ J xs W') ∨ (∃ pre, Sp pre ∧ Jx pre W'))

theorem ownFrom_abides {β : Type} {B : Nat} {J : β → World → Prop} (h : OwnFrom B J) : AbidesFrom B J := fun s W W' row hs hg hr =>
  h s W W' row hs hg (fun r e => by obtain ⟨h1, o, h2, h3⟩ := hr r e; exact ⟨h1, o, h2, Obj.not_cells_of_walk h3⟩)

theorem SeqO.of_stops {α : Type} {P : Program} {g : Nat} {lb : Array Value} {encs : α → Array Value} {Kp : World → World → Prop} {S Sp : List α → Prop} {N : Nat} {w : World} (h : ∀ n, SeqStopsK Fence.wide n P g lb encs Kp S Sp N w) : SeqO P g lb encs Kp S Sp N w :=
  fun m l J Jx W hW hJ hJx hY h0 => callsIn_wide.1 (h (m + 1) l J Jx W hW (ownFrom_abides hJ) (ownFrom_abides hJx) (fun pre x W1 hp hl => (hY pre x W1 hp hl).mono (fun _ _ h => h.2)) h0)

theorem SeqO.of_below {α : Type} {P : Program} {g : Nat} {lb : Array Value} {encs : α → Array Value} {Kp : World → World → Prop} {S Sp : List α → Prop} {N : Nat} {w w' : World} (h : SeqO P g lb encs Kp S Sp N w) (b : Below w.heap.size w w') : SeqO P g lb encs Kp S Sp N w' :=
  fun m l J Jx W hW => h m l J Jx W (b.trans (hW.mono b.size))

/-- The two blocks in which a loop keeps its own state. -/
structure Bk (B : Nat) (r : Loop) (W : World) : Prop where
  lp : W.heap[B + 1]? = some (.loop r)
  def_ : W.heap[B]? = some (.deferred (some []))

theorem Bk.put {B : Nat} {r : Loop} {W : World} (h : Bk B r W) (r' : Loop) : Bk B r' (W.putObj (B + 1) (.loop r')) :=
  ⟨World.putObj_heap_same (Array.getElem?_eq_some_iff.1 h.lp).1, (World.putObj_heap_other (by omega)).trans h.def_⟩
theorem Bk.kept {B : Nat} {r : Loop} {W W' : World} (h : Bk B r W) (k : KeepsFrom B W W') : Bk B r W' :=
  ⟨k.same _ _ (by omega) h.lp rfl, k.same _ _ (Nat.le_refl _) h.def_ rfl⟩
theorem Bk.grown {B C : Nat} {r : Loop} {W W' : World} {row : Option Nat} (h : Bk B r W) (hC : B + 2 ≤ C) (g : W.grownBy W' row) (hr : ∀ i, row = some i → C ≤ i) : Bk B r W' :=
  ⟨(g.block _ (Array.getElem?_eq_some_iff.1 h.lp).1 (fun e => by have := hr _ e.symm; omega)).trans h.lp, (g.block _ (Array.getElem?_eq_some_iff.1 h.def_).1 (fun e => by have := hr _ e.symm; omega)).trans h.def_⟩
theorem Bk.own {β : Type} {B C : Nat} {r : Loop} {I : β → World → Prop} (hI : OwnFrom B I) (hC : B + 2 ≤ C) : OwnFrom C (fun s W => I s W ∧ Bk B r W) :=
  fun s W W' row hs g hr => ⟨hI s W W' row hs.1 g (fun i e => ⟨by have := (hr i e).1; omega, (hr i e).2⟩), hs.2.grown hC g (fun i e => (hr i e).1)⟩

theorem keepsFrom_up {B C : Nat} {W W' : World} (h : KeepsFrom B W W') (hBC : B ≤ C) : KeepsFrom C W W' := ⟨h.size, fun k o hk => h.same k o (by omega)⟩
theorem keepsFrom_put (B l : Nat) (W : World) (o : Obj) (h : l < B) : KeepsFrom B W (W.putObj l o) := ⟨by simp, fun k o' hk e _ => (World.putObj_heap_other (by omega)).trans e⟩

/-- A loop over such an iterator. -/
theorem rangeO {P : Program} {n : Nat} {α : Type} {g : Operand} {ps : Array Tmp} {assign body : Code} {Q : Exit → Act → World → Prop} {a : Act} {w : World}
    {gf : Nat} {lb : Array Value} (hg : a.eval g = .func (.func gf) #[] lb) (eg : ∀ args w, (callFunc gf args).run P w = .ok (.enter gf args) w)
    {encs : α → Array Value} {Kp : World → World → Prop} {S Sp : List α → Prop} {N : Nat} {w0 : World} (hseq : SeqO P gf lb encs Kp S Sp N w0)
    (hKt : ∀ {A B C : World}, Kp A B → Kp B C → Kp A C) (hKb : ∀ (W : World) (l : Nat) (o o' : Obj), w.heap.size ≤ l → W.heap[l]? = some o → o.isCells = false → Kp W (W.putObj l o')) (hb0 : Below w0.heap.size w0 w) (hps : ∀ x, (encs x).size = ps.size)
    (I : List α → World → Prop) (Ix : Code → List α → World → Prop) (hI : OwnFrom w.heap.size I) (hIx : ∀ c, OwnFrom w.heap.size (Ix c)) (h0 : I [] w) (Ax : α → Act → World → Prop) (hAx : ∀ x a', OwnFrom w.heap.size (fun (_ : Unit) W => Ax x a' W))
    (hassign : ∀ (l : Nat) (pre : List α) (x : α) (W : World) (K : Act → World → Prop), I pre W → (∀ a' W', KeepsFrom w.heap.size W W' → Kp W W' → I pre W' → Ax x a' W' → K a' W') →
      assign.wpIn (Fence.wide.inRound l) (n - 1 - 1) P (Exit.then K (fun _ _ _ => False)) { tmps := (ps.zip (encs x)).foldl (fun t (p, v) => t.setIfInBounds p v) a.tmps, defers := [] } W)
    (hbody : ∀ (l : Nat) (pre : List α) (x : α) (a' : Act) (W : World), I pre W → Ax x a' W → pre.length < N → body.wpIn (Fence.wide.inRound l) (n - 1 - 1) P (ownPostG w.heap.size Kp I Ix (pre ++ [x]) W) a' W)
    (hdone : ∀ (D : Nat) (xs : List α) (W : World), w.heap.size ≤ D → S xs → I xs W → W.heap[D]? = some (.deferred (some [])) → Q .normal { a with defers := { target := .collected D, args := #[] } :: a.defers } W)
    (hstop : ∀ (D : Nat) (c : Code) (pre : List α) (W : World), w.heap.size ≤ D → Sp pre → Ix c pre W → W.heap[D]? = some (.deferred (some [])) → c.wpIn Fence.wide n P Q { a with defers := { target := .collected D, args := #[] } :: a.defers } W) :
    (Code.rangeFunc g ps assign body).wpIn Fence.wide n P Q a w := by
  refine wpIn_rangeFunc fun fn hfn => ?_
  obtain ⟨B, hB⟩ : ∃ B, w.heap.size = B := ⟨_, rfl⟩
  obtain ⟨R, hR⟩ : ∃ R : LoopState → Option Code → Loop, R = fun st pe => { state := st, pending := pe, fn, tmps := a.tmps, params := ps, assign, body, defers := B } := ⟨_, rfl⟩
  obtain ⟨V, hV⟩ : ∃ V, (w.alloc (.deferred (some []))).alloc (.loop (R .ready none)) = V := ⟨_, rfl⟩
  have bV : Below w.heap.size w V := by rw [← hV]; exact ((Below.refl _ w).alloc (Nat.le_refl _) _).alloc (by simp) _
  have sV : V.heap.size = B + 2 := by rw [← hV, ← hB]; simp
  have kV : Bk B (R .ready none) V := by
    rw [← hV, ← hB]
    have h2 := heap_alloc_new (w.alloc (.deferred (some []))) (.loop (R .ready none))
    rw [World.size_alloc] at h2
    exact ⟨h2, (Below.heap_alloc _ _ _ (by simp)).trans (heap_alloc_new w _)⟩
  have iV : I [] V := by rw [← hV]; exact hI.alloc _ (hI.alloc _ h0)
  rw [hB] at hI hIx hAx hKb hassign hbody hdone hstop
  refine ⟨B + 1, [{ target := .collected B, args := #[] }], V, { target := .fn (.func gf) lb, args := #[.func (.yield (B + 1)) #[] #[]] }, V, gf, #[.func (.yield (B + 1)) #[] #[]] ++ lb, V, ?_, ?_, fun _ _ => trivial, ?_, fun h => (by cases h), ?_⟩
  · rw [← hV, hR, ← hB]; exact run_enterLoop_outer _ _ _ _ _
  · simp only [resolve, hg]
    simp [go_sem]
  · simp [invoke, go_sem, eg]
  refine callsIn_wide.2 ?_
  -- the iterator is told: the invariant, and the loop's own blocks
  refine (hseq (n - 1 - 1) (B + 1) (fun pre W => I pre W ∧ Bk B (R .ready none) W) (fun pre W => ∃ c, Ix c pre W ∧ Bk B (R .done (some c)) W) V (hb0.trans (bV.mono hb0.size)) (Bk.own hI (by omega))
    (fun s W W' row hs g hr => by
      obtain ⟨c, h1, h2⟩ := hs
      exact ⟨c, Bk.own (hIx c) (Nat.le_of_eq sV.symm) s W W' row ⟨h1, h2⟩ g hr⟩) ?_ ⟨iV, kV⟩).mono ?_
  · rintro pre x W ⟨hi, hk⟩ hlen
    have hy := run_yield (P := P) (args := encs x) hk.lp (by rw [hR]; exact hps x)
    rw [hR] at hy
    refine ⟨fn, _, assign, body, hy, roundIn_of_wpIn hfn (hassign _ pre x W _ hi ?_)⟩
    intro a' Wa kf kp ia ax
    have ka := hk.kept kf
    refine ⟨_, run_beginRound ka.lp (by rw [hR]), ?_⟩
    have kb := ka.put { R .ready none with state := .busy }
    refine wpIn_mono (hbody _ pre x a' _ (hI.putObj _ ia (by omega) ka.lp rfl) ((hAx x a').putObj (s := ()) _ ax (by omega) ka.lp rfl) hlen) ?_
    have turn : ∀ (j : Option Code) (W3 : World), KeepsFrom B (Wa.putObj (B + 1) (.loop { R .ready none with state := .busy })) W3 →
        ∃ W4, KeepsFrom (B + 2) W W4 ∧ W4 = W3.putObj (B + 1) (.loop (R (if j.isNone then .ready else .done) j)) ∧ (Instr.endRound (B + 1) j).run P W3 = .ok (.bool j.isNone) W4 ∧ Bk B (R (if j.isNone then .ready else .done) j) W4 ∧ (∃ o, W3.heap[B + 1]? = some o ∧ o.isCells = false) := fun j W3 k3 => by
      have k4 := kb.kept k3
      have e := run_endRound (P := P) j k4.lp
      refine ⟨_, (((keepsFrom_up kf (by omega)).trans (keepsFrom_put _ _ _ _ (by omega))).trans (keepsFrom_up k3 (by omega))).trans (keepsFrom_put _ _ _ _ (by omega)), rfl, ?_, k4.put _, _, k4.lp, rfl⟩
      rw [hR] at e ⊢
      exact e
    have leave : ∀ (c : Code) (W3 : World), KeepsFrom B (Wa.putObj (B + 1) (.loop { R .ready none with state := .busy })) W3 → Ix c (pre ++ [x]) W3 →
        ∃ W4, KeepsFrom (B + 2) W W4 ∧ (Instr.endRound (B + 1) (some c)).run P W3 = .ok (.bool false) W4 ∧ ∃ c, Ix c (pre ++ [x]) W4 ∧ Bk B (R .done (some c)) W4 := fun c W3 k3 i3 => by
      obtain ⟨W4, kk, rfl, e, k4, o, h1, h2⟩ := turn (some c) W3 k3
      exact ⟨_, kk, e, c, (hIx c).putObj _ i3 (by omega) h1 h2, k4⟩
    rintro ex a3 W3 hp
    cases ex with
    | normal =>
      obtain ⟨W4, kk, rfl, e, k4, o, h1, h2⟩ := turn none W3 hp.1
      exact ⟨_, _, e, (by rw [sV]; exact kk), .inl ⟨rfl, ⟨hI.putObj _ hp.2.2 (by omega) h1 h2, k4⟩, hKt kp (hKt (hKt (hKb _ _ _ _ (by omega) ka.lp rfl) hp.2.1) (hKb _ _ _ _ (by omega) h1 h2))⟩⟩
    | ret => obtain ⟨W4, kk, e, i4⟩ := leave .ret W3 hp.1 hp.2; exact ⟨_, _, e, (by rw [sV]; exact kk), .inr ⟨rfl, i4⟩⟩
    | exit id => obtain ⟨W4, kk, e, i4⟩ := leave (.exit id) W3 hp.1 hp.2; exact ⟨_, _, e, (by rw [sV]; exact kk), .inr ⟨rfl, i4⟩⟩
    | goto t => obtain ⟨W4, kk, e, i4⟩ := leave (.goto t) W3 hp.1 hp.2; exact ⟨_, _, e, (by rw [sV]; exact kk), .inr ⟨rfl, i4⟩⟩
    | panic c => exact hp.elim
    | outgrown => exact hp.elim
  · rintro e W2 ⟨⟨v, rfl⟩, ⟨xs, hS, hi, hk⟩ | ⟨pre, hSp, c, hi, hk⟩⟩
    · refine ⟨none, _, ?_, hdone B xs _ (Nat.le_refl _) hS (hI.putObj (.loop { R .ready none with state := .exhausted }) hi (by omega) hk.lp rfl) (hk.put _).def_⟩
      have e := run_endLoop (P := P) hk.lp (by rw [hR]; simp)
      rw [hR] at e ⊢
      exact e
    · refine ⟨some c, _, ?_, hstop B c pre _ (Nat.le_refl _) hSp ((hIx c).putObj (.loop { R .done (some c) with state := .exhausted }) hi (by omega) hk.lp rfl) (hk.put _).def_⟩
      have e := run_endLoop (P := P) hk.lp (by rw [hR]; simp)
      rw [hR] at e ⊢
      exact e

end Go.Proofs.YtlgcdcjhflihiaaDoor
namespace Go.Proofs.YtlgcdcjhflihiaaDoor
set_option linter.unusedVariables false
/-- Bytes as a number, the first byte the lowest one. -/
def leB : List UInt8 → Nat
  | [] => 0
  | b :: r => b.toNat + 256 * leB r

theorem leB_lt : ∀ l : List UInt8, leB l < 256 ^ l.length
  | [] => by simp [leB]
  | b :: r => by
    have h := leB_lt r
    have hb := b.toNat_lt
    simp only [leB, List.length_cons, Nat.pow_succ]
    omega

theorem leB_snoc (b : UInt8) : ∀ l : List UInt8, leB (l ++ [b]) = leB l + 256 ^ l.length * b.toNat
  | [] => by simp [leB]
  | a :: r => by
    simp only [List.cons_append, leB, leB_snoc b r, List.length_cons, Nat.pow_succ]
    rw [Nat.mul_add, Nat.add_assoc, ← Nat.mul_assoc, Nat.mul_comm 256 (256 ^ r.length)]

/-- The word that begins at byte m. -/
def wordN (k : List UInt8) (m : Nat) : Nat := leB ((k.drop m).take 8)

theorem wordN_lt (k : List UInt8) (m : Nat) : wordN k m < 18446744073709551616 := by
  have h := leB_lt ((k.drop m).take 8)
  have hl : ((k.drop m).take 8).length ≤ 8 := by simp; omega
  have : 256 ^ ((k.drop m).take 8).length ≤ 256 ^ 8 := Nat.pow_le_pow_right (by decide) hl
  unfold wordN
  omega

/-- The first j words of a key. -/
def keyW (k : List UInt8) (j : Nat) : List Int := (List.range j).map fun m => (wordN k (8 * m) : Int)

theorem keyW_succ (k : List UInt8) (j : Nat) : keyW k (j + 1) = keyW k j ++ [(wordN k (8 * j) : Int)] := by simp [keyW, List.range_succ]

theorem keyW_length (k : List UInt8) (j : Nat) : (keyW k j).length = j := by simp [keyW]

/-- How many words a key has. -/
def keyN (n : Nat) : Nat := (n + 7) / 8

/-- All words of a key and a version. -/
def wordsI (k : ByteArray) (c n : Int) : List Int := (k.size : Int) :: keyW k.data.toList (keyN k.size) ++ [IntKind.u64.wrap c, IntKind.u64.wrap n]

def lane0 (ws : List Int) : Int := ws.foldl (mixI 11400714819323198485 29) 2611923443488327891

def lane1 (ws : List Int) : Int := ws.foldl (mixI 14029467366897019727 32) 1376283091369227076

theorem lane0_snoc (ws : List Int) (u : Int) : lane0 (ws ++ [u]) = mixI 11400714819323198485 29 (lane0 ws) u := by simp [lane0]

theorem lane1_snoc (ws : List Int) (u : Int) : lane1 (ws ++ [u]) = mixI 14029467366897019727 32 (lane1 ws) u := by simp [lane1]

/-- What an entry comes to, lane by lane. -/
def of0 (k : ByteArray) (c n : Int) : Int := lane0 (wordsI k c n)

def of1 (k : ByteArray) (c n : Int) : Int := lane1 (wordsI k c n)

def ofV (k : ByteArray) (c n : Int) : Value := .agg #[.int .u64 (of0 k c n), .int .u64 (of1 k c n)]

theorem wordsI_snoc (k : ByteArray) (c n : Int) : wordsI k c n = (((k.size : Int) :: keyW k.data.toList (keyN k.size)) ++ [IntKind.u64.wrap c]) ++ [IntKind.u64.wrap n] := by simp [wordsI]

/-- The list that the document's loop has made of the first i bytes. -/
def doneW (k : List UInt8) (i : Nat) : List Int := keyW k (i / 8) ++ (if i % 8 = 0 then [] else [(leB ((k.drop (8 * (i / 8))).take (i % 8)) : Int)])

theorem doneW_zero (k : List UInt8) : doneW k 0 = [] := by simp [doneW, keyW]

theorem doneW_all (k : List UInt8) : doneW k k.length = keyW k (keyN k.length) := by
  unfold doneW keyN
  by_cases h : k.length % 8 = 0
  · rw [if_pos h, List.append_nil, show (k.length + 7) / 8 = k.length / 8 from by omega]
  · rw [if_neg h, show (k.length + 7) / 8 = k.length / 8 + 1 from by omega, keyW_succ]
    congr 3
    unfold wordN
    rw [List.take_of_length_le (by simp; omega), List.take_of_length_le (by simp; omega)]

/-- The part word at byte i, ahead of it and behind it. -/
def partN (k : List UInt8) (i : Nat) : Nat := leB ((k.drop (8 * (i / 8))).take (i % 8))

theorem partN_lt (k : List UInt8) (i : Nat) : partN k i < 256 ^ (i % 8) := by
  have h := leB_lt ((k.drop (8 * (i / 8))).take (i % 8))
  have hl : ((k.drop (8 * (i / 8))).take (i % 8)).length ≤ i % 8 := by simp; omega
  have : 256 ^ ((k.drop (8 * (i / 8))).take (i % 8)).length ≤ 256 ^ (i % 8) := Nat.pow_le_pow_right (by decide) hl
  unfold partN
  omega

theorem doneW_next (k : List UInt8) (i : Nat) (h : i < k.length) : doneW k (i + 1) = keyW k (i / 8) ++ [((partN k i + k[i].toNat * 256 ^ (i % 8) : Nat) : Int)] := by
  have hd : (k.drop (8 * (i / 8))).take (i % 8 + 1) = (k.drop (8 * (i / 8))).take (i % 8) ++ [k[i]] := by
    rw [List.take_add_one]
    congr 1
    rw [List.getElem?_drop, show 8 * (i / 8) + i % 8 = i from by omega, List.getElem?_eq_getElem h]
    rfl
  have hv : leB ((k.drop (8 * (i / 8))).take (i % 8 + 1)) = partN k i + k[i].toNat * 256 ^ (i % 8) := by
    rw [hd, leB_snoc, show ((k.drop (8 * (i / 8))).take (i % 8)).length = i % 8 from by rw [List.length_take, List.length_drop]; omega]
    unfold partN
    rw [Nat.mul_comm k[i].toNat]
  unfold doneW
  by_cases h7 : i % 8 = 7
  · rw [if_pos (by omega), List.append_nil, show (i + 1) / 8 = i / 8 + 1 from by omega, keyW_succ, ← hv, h7]
    rfl
  · rw [if_neg (by omega), show (i + 1) / 8 = i / 8 from by omega, show (i + 1) % 8 = i % 8 + 1 from by omega, hv]

theorem doneW_here (k : List UInt8) (i : Nat) (h : i % 8 ≠ 0) : doneW k i = keyW k (i / 8) ++ [(partN k i : Int)] := by
  unfold doneW
  rw [if_neg h]
  rfl

theorem doneW_edge (k : List UInt8) (i : Nat) (h : i % 8 = 0) : doneW k i = keyW k (i / 8) ∧ partN k i = 0 := by
  unfold doneW partN
  rw [if_pos h, h]
  simp [leB]

theorem sum_lt (k : List UInt8) (i : Nat) (c : UInt8) : partN k i + c.toNat * 256 ^ (i % 8) < 18446744073709551616 := by
  have h := partN_lt k i
  have hc := c.toNat_lt
  have h8 : i % 8 < 8 := by omega
  generalize i % 8 = r at *
  generalize partN k i = p at *
  generalize c.toNat = q at *
  match r, h8 with
  | 0, _ | 1, _ | 2, _ | 3, _ | 4, _ | 5, _ | 6, _ | 7, _ => simp at h ⊢; omega

end Go.Proofs.YtlgcdcjhflihiaaDoor
namespace Go.Proofs.YtlgcdcjhflihiaaDoor
open Go.RowKit
set_option linter.unusedVariables false

theorem mixI_range (f : Int) (s : Nat) (x u : Int) : 0 ≤ mixI f s x u ∧ mixI f s x u < 18446744073709551616 := by
  have h : ∀ z : Int, 0 ≤ IntKind.u64.wrap z ∧ IntKind.u64.wrap z < 18446744073709551616 := fun z => by rw [IntKind.wrap_u64]; omega
  exact h _

theorem of0_range (k : ByteArray) (c n : Int) : 0 ≤ of0 k c n ∧ of0 k c n < 18446744073709551616 := by
  unfold of0; rw [wordsI_snoc, lane0_snoc]; exact mixI_range _ _ _ _
theorem of1_range (k : ByteArray) (c n : Int) : 0 ≤ of1 k c n ∧ of1 k c n < 18446744073709551616 := by
  unfold of1; rw [wordsI_snoc, lane1_snoc]; exact mixI_range _ _ _ _

/-- What an entry comes to. -/
def tof (e : En) : Tl := ⟨1, UInt64.ofNat (of0 e.k e.c e.n).toNat, UInt64.ofNat (of1 e.k e.c e.n).toNat⟩
theorem tof_n (e : En) : (tof e).n = 1 := rfl
theorem tof_a (e : En) : (tof e).a = of0 e.k e.c e.n := by
  have := of0_range e.k e.c e.n
  show ((UInt64.ofNat (of0 e.k e.c e.n).toNat).toNat : Int) = _
  rw [UInt64.toNat_ofNat']
  omega
theorem tof_b (e : En) : (tof e).b = of1 e.k e.c e.n := by
  have := of1_range e.k e.c e.n
  show ((UInt64.ofNat (of1 e.k e.c e.n).toNat).toNat : Int) = _
  rw [UInt64.toNat_ofNat']
  omega

theorem mon_tl : Mon tJoin tZero :=
  ⟨tJoin_assoc, fun a => by simp [tJoin, tZero], fun a => by simp [tJoin, tZero]⟩

/-- The row of an entry. -/
def rwE (e : En) : Rw En Tl := ⟨e.k, e, tof e⟩

/-- Keys rise. -/
def RisesE (l : List En) : Prop := l.Pairwise (fun a b => kLt a.k b.k = true)

/-- An entry put among sorted ones. -/
def insE (e : En) : List En → List En
  | [] => [e]
  | y :: l => if kLt e.k y.k then e :: y :: l else if kLt y.k e.k then y :: insE e l else e :: l

/-- The entry under a key. -/
def lookE (k : ByteArray) (l : List En) : Option En := l.find? (fun y => !kLt k y.k && !kLt y.k k)

/-- How many keys are below one. -/
def belE (k : ByteArray) (l : List En) : Nat := (l.filter (fun y => kLt y.k k)).length

/-- What entries come to. -/
def talL (l : List En) : Tl := l.foldl (fun a e => tJoin a (tof e)) tZero

theorem rises_map {l : List En} (h : RisesE l) : Rises (l.map rwE) := by
  unfold Rises RisesE at *
  rw [List.pairwise_map]
  exact h
theorem ins_map (e : En) : ∀ l : List En, ins e.k e (tof e) (l.map rwE) = (insE e l).map rwE
  | [] => rfl
  | y :: l => by
    simp only [List.map_cons, ins, insE, ins_map e l]
    show (if kLt e.k y.k then _ else if kLt y.k e.k then _ else _) = _
    split
    · rfl
    · split <;> rfl
theorem rises_of_map {l : List En} (h : Rises (l.map rwE)) : RisesE l := by
  unfold Rises RisesE at *
  rw [List.pairwise_map] at h
  exact h
theorem look_map (k : ByteArray) (l : List En) : look k (l.map rwE) = (lookE k l).map rwE := by
  unfold look lookE
  rw [List.find?_map]
  rfl
theorem rank_map (k : ByteArray) (l : List En) : rankL k (l.map rwE) = belE k l := by
  unfold rankL belE
  rw [List.filter_map, List.length_map]
  rfl
theorem foldL_map (l : List En) : foldL tJoin tZero (l.map rwE) = talL l := by
  unfold foldL talL
  rw [List.foldl_map]
  rfl
theorem seg_map (l : List En) (i j : Nat) : seg (l.map rwE) i j = ((l.take j).drop i).map rwE := by
  unfold seg
  rw [← List.map_take, ← List.map_drop]
theorem talL_append (a b : List En) : talL (a ++ b) = tJoin (talL a) (talL b) := by
  rw [← foldL_map, ← foldL_map, ← foldL_map, List.map_append, foldL_append mon_tl]
theorem talL_nil : talL [] = tZero := rfl
theorem talL_one (e : En) : talL [e] = tof e := by simp [talL, mon_tl.left]

/-- The tree T holds the entries L. -/
structure Hol (T : Tr En Tl) (L : List En) : Prop where
  bal : T.bal
  rows : T.rows = L.map rwE
  rises : RisesE L

theorem wt_cnt : ∀ T : Tr En Tl, T.wt tSz = T.cnt
  | .nil => rfl
  | .node l k v s r => by simp only [Tr.wt, Tr.cnt, wt_cnt l, wt_cnt r, tSz]

theorem Hol.nil : Hol .nil [] := ⟨trivial, rfl, List.Pairwise.nil⟩
theorem Hol.cnt {T : Tr En Tl} {L : List En} (h : Hol T L) : T.cnt = L.length := by rw [← Tr.rows_length, h.rows, List.length_map]
theorem Hol.gd {T : Tr En Tl} {L : List En} (h : Hol T L) : Gd tSz T L.length :=
  ⟨h.bal, by rw [h.rows]; exact rises_map h.rises, by rw [wt_cnt, h.cnt]; exact Nat.le_refl _⟩
theorem Hol.put {T : Tr En Tl} {L : List En} (h : Hol T L) (e : En) : Hol (Tr.put e.k e (tof e) T) (insE e L) := by
  have hr : (Tr.put e.k e (tof e) T).rows = (insE e L).map rwE := by rw [rows_put _ _ _ _ h.gd.rises, h.rows, ins_map]
  exact ⟨(Tr.bal_put _ _ _ T h.bal).1, hr, rises_of_map (by rw [← hr]; exact (h.gd.put e.k e (tof e)).rises)⟩
theorem Hol.found {T : Tr En Tl} {L : List En} (h : Hol T L) (k : ByteArray) : (Tr.found k T).val eNone = (lookE k L).getD eNone ∧ (!(Tr.found k T).isNil) = (lookE k L).isSome := by
  have h1 := look_found k T h.gd.rises
  rw [h.rows, look_map] at h1
  cases hF : Tr.found k T with
  | nil =>
    rw [hF] at h1
    cases hL : lookE k L with
    | none => exact ⟨rfl, rfl⟩
    | some x => rw [hL] at h1; cases h1
  | node l k' v s r =>
    rw [hF] at h1
    cases hL : lookE k L with
    | none => rw [hL] at h1; cases h1
    | some x =>
      rw [hL] at h1
      injection h1 with h1
      have : x = v := congrArg Rw.v h1
      subst this
      exact ⟨rfl, rfl⟩
theorem Hol.lower {T : Tr En Tl} {L : List En} (h : Hol T L) (k : ByteArray) : Tr.lower k T = belE k L := by
  rw [lower_rank k T h.gd.rises, h.rows, rank_map]
theorem Hol.fold {T : Tr En Tl} {L : List En} (h : Hol T L) (i j : Nat) (hj : j ≤ L.length) : Tr.fol tJoin tZero T (i : Int) (j : Int) = talL ((L.take j).drop i) := by
  rw [fol_nat mon_tl T i j (by rw [h.cnt]; exact hj), h.rows, seg_map, foldL_map]

theorem belE_le (k : ByteArray) (L : List En) : belE k L ≤ L.length := List.length_filter_le _ _

/-- The keys below one are the first. -/
theorem filter_low {k : ByteArray} : ∀ {L : List En}, RisesE L → L.filter (fun y => kLt y.k k) = L.take (belE k L)
  | [], _ => rfl
  | y :: L, h => by
    unfold RisesE at h
    rw [List.pairwise_cons] at h
    cases hq : kLt y.k k
    · have hn : (y :: L).filter (fun y => kLt y.k k) = [] := by
        rw [List.filter_eq_nil_iff]
        intro x hx
        rcases List.mem_cons.1 hx with rfl | hx
        · simp [hq]
        · cases hq2 : kLt x.k k
          · simp
          · have := kLt_trans (h.1 x hx) hq2
            rw [hq] at this; cases this
      unfold belE
      rw [hn]
      rfl
    · have ih := filter_low (k := k) (L := L) h.2
      have e : belE k (y :: L) = belE k L + 1 := by unfold belE; rw [List.filter_cons_of_pos (by simpa using hq)]; rfl
      rw [e, List.filter_cons_of_pos (by simpa using hq), List.take_succ_cons, ih]
theorem filter_high {k : ByteArray} : ∀ {L : List En}, RisesE L → L.filter (fun y => !kLt y.k k) = L.drop (belE k L)
  | [], _ => rfl
  | y :: L, h => by
    unfold RisesE at h
    rw [List.pairwise_cons] at h
    cases hq : kLt y.k k
    · have hn : ∀ x ∈ y :: L, kLt x.k k = false := fun x hx => by
        rcases List.mem_cons.1 hx with rfl | hx
        · exact hq
        · cases hq2 : kLt x.k k
          · rfl
          · have := kLt_trans (h.1 x hx) hq2
            rw [hq] at this; cases this
      have h1 : belE k (y :: L) = 0 := by
        unfold belE
        rw [List.filter_eq_nil_iff.2 (fun x hx => by simp [hn x hx])]
        rfl
      rw [h1, List.drop_zero, List.filter_eq_self]
      intro x hx
      simp [hn x hx]
    · have ih := filter_high (k := k) (L := L) h.2
      have e : belE k (y :: L) = belE k L + 1 := by unfold belE; rw [List.filter_cons_of_pos (by simpa using hq)]; rfl
      rw [e, List.filter_cons_of_neg (by simp [hq]), List.drop_succ_cons, ih]

/-- Whether a key is in a range that may be. -/
def inR (lo hi : ByteArray) (op : Bool) (e : En) : Bool := !kLt e.k lo && (op || kLt e.k hi)

/-- Where the rows of a range end. -/
def endE (hi : ByteArray) (op : Bool) (L : List En) : Nat := if op then L.length else belE hi L

theorem endE_le (hi : ByteArray) (op : Bool) (L : List En) : endE hi op L ≤ L.length := by
  unfold endE; split
  · exact Nat.le_refl _
  · exact belE_le _ _

theorem rank_take {lo hi : ByteArray} {L : List En} (hs : RisesE L) (h : kLt hi lo = false) : belE lo (L.take (belE hi L)) = belE lo L := by
  rw [← filter_low hs]
  unfold belE
  rw [List.filter_filter]
  congr 1
  apply List.filter_congr
  intro x _
  cases h1 : kLt x.k lo
  · simp
  · simp [kLt_trans_le h1 h]

/-- The rows of a range. -/
theorem seg_range {lo hi : ByteArray} {op : Bool} {L : List En} (hs : RisesE L) (h : op = true ∨ kLt hi lo = false) : (L.take (endE hi op L)).drop (belE lo L) = L.filter (inR lo hi op) := by
  cases op with
  | true =>
    have : inR lo hi true = fun y => !kLt y.k lo := by funext y; simp [inR]
    rw [this, filter_high hs]
    simp [endE]
  | false =>
    have h' : kLt hi lo = false := by rcases h with h | h; cases h; exact h
    have hs2 : RisesE (L.take (belE hi L)) := List.Pairwise.sublist (List.take_sublist _ _) hs
    show (L.take (belE hi L)).drop (belE lo L) = _
    rw [← rank_take hs h', ← filter_high hs2, ← filter_low hs, List.filter_filter]
    apply List.filter_congr
    intro x _
    simp [inR]

end Go.Proofs.YtlgcdcjhflihiaaDoor
namespace Go.Proofs.YtlgcdcjhflihiaaDoor
open Go.RowKit
set_option linter.unusedVariables false

/-- The join of the meter in the block g. -/
def jvE (g : Nat) : Value := .func (.func 66) #[.pointer (some ⟨g, 0, none⟩)] #[]

theorem bothJv (g : Nat) : BothOkE (jvE g) (some g) := bothE g

/-- The store in the block sb: its node, its clock, its tree T (in the block tb, with the meter in g that says n joins). -/
structure IsSt (w : World) (sb g tb : Nat) (nd ck : Int) (T : Tr En Tl) (n : Nat) : Prop where
  blk : w.heap[sb]? = some (.cells #[.int .i64 nd, .int .i64 ck, .pointer (some ⟨g, 0, none⟩), .pointer (some ⟨tb, 0, none⟩)] 82 (0, 0))
  cnt : CntE (some g) n w
  tree : TreeE w tb (jvE g) T

/-- Which blocks a store's call may turn. -/
def Of (sb g tb : Nat) : Nat → Prop := fun x => x = sb ∨ x = tb ∨ x = g

theorem quad {w : World} {i : Nat} {a b c d : Value} {T : TypeId} (h : w.heap[i]? = some (.cells #[a, b, c, d] T (0, 0))) :
    w.cell? ⟨i, 0, none⟩ = some a ∧ w.cell? ⟨i, 1, none⟩ = some b ∧ w.cell? ⟨i, 2, none⟩ = some c ∧ w.cell? ⟨i, 3, none⟩ = some d ∧ w.frozen? ⟨i, 1, none⟩ = false :=
  ⟨by simp [World.cell?, h], by simp [World.cell?, h], by simp [World.cell?, h], by simp [World.cell?, h], frozen_of_row w i 1 _ _ h⟩

theorem IsSt.below {w w' : World} {sb g tb : Nat} {nd ck : Int} {T : Tr En Tl} {n : Nat} (h : IsSt w sb g tb nd ck T n) (b : Below w.heap.size w w') : IsSt w' sb g tb nd ck T n :=
  ⟨blk_on h.blk b, h.cnt.below b, h.tree.below b⟩
theorem IsSt.drew {w : World} {sb g tb : Nat} {nd ck : Int} {T : Tr En Tl} {n : Nat} (h : IsSt w sb g tb nd ck T n) : IsSt w.drew sb g tb nd ck T n := h.below ((Below.refl _ _).drew)
theorem IsSt.alloc {w : World} {sb g tb : Nat} {nd ck : Int} {T : Tr En Tl} {n : Nat} (h : IsSt w sb g tb nd ck T n) (o : Obj) : IsSt (w.alloc o) sb g tb nd ck T n := h.below (bnew _ _)
theorem IsSt.lt {w : World} {sb g tb : Nat} {nd ck : Int} {T : Tr En Tl} {n : Nat} (h : IsSt w sb g tb nd ck T n) : sb < w.heap.size ∧ g < w.heap.size ∧ tb < w.heap.size :=
  ⟨lt_of_blk h.blk, lt_of_blk (h.cnt g rfl), h.tree.lt⟩
theorem IsSt.apart {w : World} {sb g tb : Nat} {nd ck : Int} {T : Tr En Tl} {n : Nat} (h : IsSt w sb g tb nd ck T n) : sb ≠ g ∧ sb ≠ tb ∧ tb ≠ g := by
  obtain ⟨p, ht, _⟩ := h.tree
  unfold TObjE at ht
  have h1 := h.blk
  have h2 := h.cnt g rfl
  refine ⟨?_, ?_, ?_⟩ <;> rintro rfl
  · rw [h1] at h2; simp at h2
  · rw [h1] at ht; simp at ht
  · rw [ht] at h2; simp at h2
/-- A block of another type is none of the store's. -/
theorem IsSt.not {w : World} {sb g tb : Nat} {nd ck : Int} {T : Tr En Tl} {n : Nat} (h : IsSt w sb g tb nd ck T n) {i : Nat} {cs : Array Value} {U : TypeId} (hi : w.heap[i]? = some (.cells cs U (0, 0))) (h1 : U ≠ 82) (h2 : U ≠ 111) (h3 : U ≠ 149) : ¬ Of sb g tb i := by
  obtain ⟨p, ht, _⟩ := h.tree
  unfold TObjE at ht
  rintro (rfl | rfl | rfl)
  · rw [h.blk] at hi; simp at hi; exact h1 hi.2.symm
  · rw [ht] at hi; simp at hi; exact h2 hi.2.symm
  · rw [h.cnt _ rfl] at hi; simp at hi; exact h3 hi.2.symm
theorem IsSt.stay {w w' : World} {sb g tb : Nat} {nd ck : Int} {T : Tr En Tl} {n : Nat} (h : IsSt w sb g tb nd ck T n) {U : TypeId} (k : Keeps (Of sb g tb) w w') (h1 : U ≠ 82) (h2 : U ≠ 111) (h3 : U ≠ 149) : Stay U w w' :=
  (Stay.refl _ w).keeps k (fun i cs hi => h.not hi h1 h2 h3)
/-- A store stays as it is while another one, apart from it, is turned. -/
theorem IsSt.keep {w w' : World} {sb g tb sb' g' tb' : Nat} {nd ck nd' ck' : Int} {T T' : Tr En Tl} {n n' : Nat} (h : IsSt w sb g tb nd ck T n) (h' : IsSt w sb' g' tb' nd' ck' T' n') (k : Keeps (Of sb' g' tb') w w') (a1 : sb ≠ sb') (a2 : g ≠ g') (a3 : tb ≠ tb') : IsSt w' sb g tb nd ck T n := by
  obtain ⟨p, ht, hT⟩ := h.tree
  obtain ⟨p', ht', _⟩ := h'.tree
  have hst := h'.stay (U := 120) k (by decide) (by decide) (by decide)
  unfold TObjE at ht ht'
  refine ⟨blk_keep h.blk k ?_, fun b e => ?_, ⟨p, blk_keep ht k ?_, hT.on hst⟩⟩
  · rintro (e | e | e)
    · exact a1 e
    · have := h.blk; rw [e, ht'] at this; simp at this
    · have := h.blk; rw [e, h'.cnt _ rfl] at this; simp at this
  · cases e
    refine blk_keep (h.cnt g rfl) k ?_
    rintro (e | e | e)
    · have := h.cnt g rfl; rw [e, h'.blk] at this; simp at this
    · have := h.cnt g rfl; rw [e, ht'] at this; simp at this
    · exact a2 e
  · rintro (e | e | e)
    · rw [e, h'.blk] at ht; simp at ht
    · exact a3 e
    · rw [e, h'.cnt _ rfl] at ht; simp at ht

theorem Lanes.apart {w : World} (L : Lanes w) {sb g tb : Nat} {nd ck : Int} {T : Tr En Tl} {n : Nat} (h : IsSt w sb g tb nd ck T n) : ¬ Of sb g tb 0 := by
  obtain ⟨p, ht, _⟩ := h.tree
  unfold TObjE at ht
  have h1 := L.c0
  rintro (e | e | e)
  · have := h.blk; rw [← e] at this; simp [World.cell?, this] at h1
  · rw [← e] at ht; simp [World.cell?, ht] at h1
  · have := h.cnt g rfl; rw [← e] at this; simp [World.cell?, this] at h1
theorem Lanes.keeps {w w' : World} (L : Lanes w) {S : Nat → Prop} (k : Keeps S w w') (hS : ¬ S 0) : Lanes w' := by
  have h0 := L.pos
  have c : ∀ {i : Nat} {v : Value}, w.cell? ⟨0, i, none⟩ = some v → w'.cell? ⟨0, i, none⟩ = some v := fun {i v} e => (k.cell (p := ⟨0, i, none⟩) h0 hS).trans e
  exact ⟨c L.c0, c L.c1, c L.c2, c L.c3, c L.c4, c L.c5⟩
theorem Lanes.drew {w : World} (L : Lanes w) : Lanes w.drew := L.keep ((Below.refl _ _).drew)

end Go.Proofs.YtlgcdcjhflihiaaDoor
namespace Go.Proofs.YtlgcdcjhflihiaaDoor
open Go.RowKit
theorem ret_i64 {a b : Int} (h : a = b) : Ending.returned (.int .i64 a) = .returned (.int .i64 b) := by rw [h]

/-- Two numbers. -/
def Vs.c2 (x y : Int) : Int := if y < x then 1 else if x < y then -1 else 0

/-- Two versions. -/
def Vs.cmp (a n b m : Int) : Int := if b < a then 1 else if a < b then -1 else Vs.c2 n m

/-- Whether a version may be. -/
def Vs.chk (c n : Int) : Int := if c < 1 ∨ 1099511627776 < c ∨ n < 0 ∨ 8 ≤ n then 30 else 0

/-- The next version: its numbers, and the error. -/
def Vs.nx (clock node : Int) : Int × Int × Int :=
  if node < 0 ∨ 8 ≤ node ∨ clock < 0 ∨ 1099511627776 < clock then (0, 0, 30) else if clock = 1099511627776 then (0, 0, 33) else (clock + 1, node, 0)

def Vs.nxV (r : Int × Int × Int) : Value := .tuple #[.agg #[.int .i64 r.1, .int .i64 r.2.1], .int .i64 r.2.2]

set_option maxHeartbeats 400000 in
theorem isNaN_any (x : Int) (w : World) : Calls Tryd.prog 91 #[.int .i64 x] w fun e w' => e = .returned (.bool false) ∧ w' = w := by
  go_enter Tryd.func91, Tryd.ntmps91
  go_wp2
  go_ret
  exact ⟨by simp, rfl⟩

theorem c2_lt {x y : Int} (h : x < y) : Vs.c2 x y = -1 := by unfold Vs.c2; rw [if_neg (by omega), if_pos h]

theorem c2_gt {x y : Int} (h : y < x) : Vs.c2 x y = 1 := by unfold Vs.c2; rw [if_pos h]

theorem c2_eq (x : Int) : Vs.c2 x x = 0 := by unfold Vs.c2; rw [if_neg (by omega), if_neg (by omega)]

set_option maxHeartbeats 400000 in
theorem cmpI_any (x y : Int) (w : World) : Calls Tryd.prog 76 #[.int .i64 x, .int .i64 y] w fun e w' => e = .returned (.int .i64 (Vs.c2 x y)) ∧ w' = w := by
  rcases Int.lt_trichotomy x y with h | h | h
  · go_enter Tryd.func76, Tryd.ntmps76
    go_wp2_with (go_at_call 91; refine (isNaN_any _ _).mono ?_; rintro e w1 ⟨rfl, rfl⟩)
    go_ret
    exact ⟨ret_i64 (c2_lt h).symm, rfl⟩
  · subst h
    go_enter Tryd.func76, Tryd.ntmps76
    go_wp2_with (go_at_call 91; refine (isNaN_any _ _).mono ?_; rintro e w1 ⟨rfl, rfl⟩)
    go_ret
    exact ⟨ret_i64 (c2_eq x).symm, rfl⟩
  · have h' : ¬ x < y := by omega
    go_enter Tryd.func76, Tryd.ntmps76
    go_wp2_with (go_at_call 91; refine (isNaN_any _ _).mono ?_; rintro e w1 ⟨rfl, rfl⟩)
    go_ret
    exact ⟨ret_i64 (c2_gt h).symm, rfl⟩

theorem cmpI_at {x y q : Int} (h : Vs.c2 x y = q) (w : World) : Calls Tryd.prog 76 #[.int .i64 x, .int .i64 y] w fun e w' => e = .returned (.int .i64 q) ∧ w' = w := by
  subst h; exact cmpI_any x y w

theorem cmp_lt {a b : Int} (h : a < b) (n m : Int) : Vs.cmp a n b m = -1 := by unfold Vs.cmp; rw [if_neg (by omega), if_pos h]

theorem cmp_gt {a b : Int} (h : b < a) (n m : Int) : Vs.cmp a n b m = 1 := by unfold Vs.cmp; rw [if_pos h]

theorem cmp_eq (a n m : Int) : Vs.cmp a n a m = Vs.c2 n m := by unfold Vs.cmp; rw [if_neg (by omega), if_neg (by omega)]

set_option maxHeartbeats 400000 in
theorem compare_any (a n b m : Int) (w : World) : Calls Tryd.prog 55 #[.agg #[.int .i64 a, .int .i64 n], .agg #[.int .i64 b, .int .i64 m]] w fun e w' => e = .returned (.int .i64 (Vs.cmp a n b m)) ∧ Below w.heap.size w w' := by
  rcases Int.lt_trichotomy a b with h | h | h
  · go_enter Tryd.func55, Tryd.ntmps55
    go_wp2_with (go_at_call 76; refine (cmpI_at (c2_lt h) _).mono ?_; rintro e w1 ⟨rfl, rfl⟩)
    go_ret
    exact ⟨ret_i64 (cmp_lt h n m).symm, bthen (bnew w _) (bnew _ _)⟩
  · subst h
    go_enter Tryd.func55, Tryd.ntmps55
    go_wp2_with fail
    refine (cmpI_at (c2_eq a) _).mono ?_
    rintro e w1 ⟨rfl, rfl⟩
    go_wp2_with fail
    refine (cmpI_any n m _).mono ?_
    rintro e w1 ⟨rfl, rfl⟩
    go_wp2
    go_ret
    exact ⟨ret_i64 (cmp_eq a n m).symm, bthen (bnew w _) (bnew _ _)⟩
  · go_enter Tryd.func55, Tryd.ntmps55
    go_wp2_with (go_at_call 76; refine (cmpI_at (c2_gt h) _).mono ?_; rintro e w1 ⟨rfl, rfl⟩)
    go_ret
    exact ⟨ret_i64 (cmp_gt h n m).symm, bthen (bnew w _) (bnew _ _)⟩


theorem chk_bad1 {c : Int} (n : Int) (h : c < 1) : Vs.chk c n = 30 := by unfold Vs.chk; rw [if_pos (.inl h)]

theorem chk_bad2 {c : Int} (n : Int) (h : 1099511627776 < c) : Vs.chk c n = 30 := by unfold Vs.chk; rw [if_pos (.inr (.inl h))]

theorem chk_bad3 (c : Int) {n : Int} (h : n < 0) : Vs.chk c n = 30 := by unfold Vs.chk; rw [if_pos (.inr (.inr (.inl h)))]

theorem chk_bad4 (c : Int) {n : Int} (h : 8 ≤ n) : Vs.chk c n = 30 := by unfold Vs.chk; rw [if_pos (.inr (.inr (.inr h)))]

theorem chk_ok {c n : Int} (h1 : ¬ c < 1) (h2 : ¬ 1099511627776 < c) (h3 : ¬ n < 0) (h4 : ¬ 8 ≤ n) : Vs.chk c n = 0 := by unfold Vs.chk; rw [if_neg (by omega)]

/-- Whether a number is a node's. -/
def nodeB (n : Int) : Bool := decide (0 ≤ n) && decide (n < 8)

theorem node_no1 {n : Int} (h : n < 0) : nodeB n = false := by simp [nodeB]; omega

theorem node_no2 {n : Int} (h : 8 ≤ n) : nodeB n = false := by simp [nodeB]; omega

theorem node_yes {n : Int} (h1 : ¬ n < 0) (h2 : ¬ 8 ≤ n) : nodeB n = true := by simp [nodeB]; omega

set_option maxHeartbeats 400000 in
theorem isNode_any (n : Int) (w : World) : Calls Tryd.prog 74 #[.int .i64 n] w fun e w' => e = .returned (.bool (nodeB n)) ∧ w' = w := by
  by_cases h1 : n < 0
  · have h1' : ¬ 0 ≤ n := by omega
    go_enter Tryd.func74, Tryd.ntmps74
    go_wp2
    go_ret
    exact ⟨ret_bool (by simp [nodeB]; omega), rfl⟩
  · have h1' : 0 ≤ n := by omega
    go_enter Tryd.func74, Tryd.ntmps74
    go_wp2
    go_ret
    exact ⟨ret_bool (by simp [nodeB]; omega), rfl⟩

theorem isNode_at {n : Int} {q : Bool} (h : nodeB n = q) (w : World) : Calls Tryd.prog 74 #[.int .i64 n] w fun e w' => e = .returned (.bool q) ∧ w' = w := by
  subst h; exact isNode_any n w

set_option maxHeartbeats 800000 in
theorem checkVersion_any (c n : Int) (w : World) : Calls Tryd.prog 53 #[.agg #[.int .i64 c, .int .i64 n]] w fun e w' => e = .returned (.int .i64 (Vs.chk c n)) ∧ Below w.heap.size w w' := by
  by_cases h1 : c < 1
  · go_enter Tryd.func53, Tryd.ntmps53
    go_wp2
    go_ret
    exact ⟨ret_i64 (chk_bad1 n h1).symm, bnew w _⟩
  by_cases h2 : 1099511627776 < c
  · go_enter Tryd.func53, Tryd.ntmps53
    go_wp2
    go_ret
    exact ⟨ret_i64 (chk_bad2 n h2).symm, bnew w _⟩
  by_cases h3 : n < 0
  · go_enter Tryd.func53, Tryd.ntmps53
    go_wp2_with (go_at_call 74; refine (isNode_at (node_no1 h3) _).mono ?_; rintro e w1 ⟨rfl, rfl⟩)
    go_ret
    exact ⟨ret_i64 (chk_bad3 c h3).symm, bnew w _⟩
  by_cases h4 : 8 ≤ n
  · go_enter Tryd.func53, Tryd.ntmps53
    go_wp2_with (go_at_call 74; refine (isNode_at (node_no2 h4) _).mono ?_; rintro e w1 ⟨rfl, rfl⟩)
    go_ret
    exact ⟨ret_i64 (chk_bad4 c h4).symm, bnew w _⟩
  · go_enter Tryd.func53, Tryd.ntmps53
    go_wp2_with (go_at_call 74; refine (isNode_at (node_yes h3 h4) _).mono ?_; rintro e w1 ⟨rfl, rfl⟩)
    go_ret
    exact ⟨ret_i64 (chk_ok (by omega) (by omega) (by omega) (by omega)).symm, bnew w _⟩


theorem checkVersion_at {c n q : Int} (h : Vs.chk c n = q) (w : World) : Calls Tryd.prog 53 #[.agg #[.int .i64 c, .int .i64 n]] w fun e w' => e = .returned (.int .i64 q) ∧ Below w.heap.size w w' := by
  subst h; exact checkVersion_any c n w


end Go.Proofs.YtlgcdcjhflihiaaDoor
namespace Go.Proofs.YtlgcdcjhflihiaaDoor
open Go.RowKit
/-- Whether it may be. -/
def En.chk (e : En) : Int :=
  if (16 : Int) < e.k.size then 20 else if Vs.chk e.c e.n ≠ 0 then 30 else if (32 : Int) < e.v.size then 31 else bif (e.d && !e.v.toList.isEmpty) then 32 else 0

theorem En.chk_key {k : ByteArray} (c n : Int) (v : ByteArray) (d : Bool) (h : (16 : Int) < k.size) : En.chk ⟨k, c, n, v, d⟩ = 20 := by simp only [En.chk]; rw [if_pos h]

theorem En.chk_ver {k : ByteArray} {c n : Int} (v : ByteArray) (d : Bool) (h : ¬ (16 : Int) < k.size) (h2 : Vs.chk c n = 30) : En.chk ⟨k, c, n, v, d⟩ = 30 := by simp only [En.chk]; rw [if_neg h, if_pos (by rw [h2]; decide)]

theorem En.chk_val {k : ByteArray} {c n : Int} {v : ByteArray} (d : Bool) (h : ¬ (16 : Int) < k.size) (h2 : Vs.chk c n = 0) (h3 : (32 : Int) < v.size) : En.chk ⟨k, c, n, v, d⟩ = 31 := by
  simp only [En.chk]; rw [if_neg h, if_neg (by rw [h2]; decide), if_pos h3]

theorem En.chk_rest {k : ByteArray} {c n : Int} {v : ByteArray} (d : Bool) (h : ¬ (16 : Int) < k.size) (h2 : Vs.chk c n = 0) (h3 : ¬ (32 : Int) < v.size) : En.chk ⟨k, c, n, v, d⟩ = bif (d && !v.toList.isEmpty) then 32 else 0 := by
  simp only [En.chk]; rw [if_neg h, if_neg (by rw [h2]; decide), if_neg h3]

theorem Vs.chk_two (c n : Int) : Vs.chk c n = 30 ∨ Vs.chk c n = 0 := by
  unfold Vs.chk; split
  · exact .inl rfl
  · exact .inr rfl

set_option maxHeartbeats 1600000 in
theorem ichk_any (k : ByteArray) (c n : Int) (v : ByteArray) (d : Bool) (w : World) :
    Calls Tryd.prog 34 #[.agg #[.string k, .int .i64 c, .int .i64 n, .string v, .bool d]] w fun e w' => e = .returned (.int .i64 (En.chk ⟨k, c, n, v, d⟩)) ∧ Below w.heap.size w w' := by
  by_cases h1 : (16 : Int) < k.size
  · go_enter Tryd.func34, Tryd.ntmps34
    go_wp2
    go_ret
    exact ⟨ret_i64 (En.chk_key c n v d h1).symm, bnew w _⟩
  rcases Vs.chk_two c n with h2 | h2
  · have H2 := aside h2
    go_enter Tryd.func34, Tryd.ntmps34
    go_wp2_with (go_at_call 53; refine (checkVersion_at H2.out _).mono ?_; rintro e w1 ⟨rfl, b1⟩)
    go_ret
    exact ⟨ret_i64 (En.chk_ver v d (by omega) H2.out).symm, bthen (bnew w _) b1⟩
  have H2 := aside h2
  clear h2
  have X := fun o => (heap_alloc_new w o)
  have HX := aside X
  clear X
  by_cases h3 : (32 : Int) < v.size
  · go_enter Tryd.func34, Tryd.ntmps34
    go_wp2_with fail
    refine (checkVersion_at H2.out _).mono ?_
    rintro e w1 ⟨rfl, b1⟩
    have c3 : w1.cell? ⟨w.heap.size, 3, none⟩ = some (.string v) := (b1.cell (by simp)).trans (by rw [cell_of_row _ w.heap.size 3 _ _ _ (HX.out _)]; rfl)
    go_wp2
    go_ret
    exact ⟨ret_i64 (En.chk_val d (by omega) H2.out (by omega)).symm, bthen (bnew w _) b1⟩
  · cases d <;> cases h5 : v.toList.isEmpty
    all_goals
      go_enter Tryd.func34, Tryd.ntmps34
      go_wp2_with fail
      refine (checkVersion_at H2.out _).mono ?_
      rintro e w1 ⟨rfl, b1⟩
      have c3 : w1.cell? ⟨w.heap.size, 3, none⟩ = some (.string v) := (b1.cell (by simp)).trans (by rw [cell_of_row _ w.heap.size 3 _ _ _ (HX.out _)]; rfl)
      first
        | have c4 : w1.cell? ⟨w.heap.size, 4, none⟩ = some (.bool true) := (b1.cell (by simp)).trans (by rw [cell_of_row _ w.heap.size 4 _ _ _ (HX.out _)]; rfl)
        | have c4 : w1.cell? ⟨w.heap.size, 4, none⟩ = some (.bool false) := (b1.cell (by simp)).trans (by rw [cell_of_row _ w.heap.size 4 _ _ _ (HX.out _)]; rfl)
      go_wp2
      go_ret
      exact ⟨ret_i64 (by rw [En.chk_rest _ (by omega) H2.out (by omega), h5]; rfl), bthen (bnew w _) b1⟩


end Go.Proofs.YtlgcdcjhflihiaaDoor
namespace Go.Proofs.YtlgcdcjhflihiaaDoor
open Go.RowKit
theorem compare_at {a n b m q : Int} (h : Vs.cmp a n b m = q) (w : World) : Calls Tryd.prog 55 #[.agg #[.int .i64 a, .int .i64 n], .agg #[.int .i64 b, .int .i64 m]] w fun e w' => e = .returned (.int .i64 q) ∧ Below w.heap.size w w' := by
  subst h; exact compare_any a n b m w


theorem cmp_three (a n b m : Int) : Vs.cmp a n b m = 1 ∧ (b < a ∨ (a = b ∧ m < n)) ∨ Vs.cmp a n b m = 0 ∧ a = b ∧ n = m ∨ Vs.cmp a n b m = -1 ∧ (a < b ∨ (a = b ∧ n < m)) := by
  unfold Vs.cmp Vs.c2
  by_cases h1 : b < a
  · rw [if_pos h1]; omega
  · by_cases h2 : a < b
    · rw [if_neg h1, if_pos h2]; omega
    · by_cases h3 : m < n
      · rw [if_neg h1, if_neg h2, if_pos h3]; omega
      · by_cases h4 : n < m
        · rw [if_neg h1, if_neg h2, if_neg h3, if_pos h4]; omega
        · rw [if_neg h1, if_neg h2, if_neg h3, if_neg h4]; omega

end Go.Proofs.YtlgcdcjhflihiaaDoor
namespace Go.Proofs.YtlgcdcjhflihiaaDoor
open Go.RowKit
/-- Whether a is newer than b. -/
def En.newer (a b : En) : Bool := decide (0 < Vs.cmp a.c a.n b.c b.n)

set_option maxHeartbeats 800000 in
theorem newer_any (ak : ByteArray) (ac an : Int) (av : ByteArray) (ad : Bool) (bk : ByteArray) (bc bn : Int) (bv : ByteArray) (bd : Bool) (q : Bool) (w : World) (h : En.newer ⟨ak, ac, an, av, ad⟩ ⟨bk, bc, bn, bv, bd⟩ = q) :
    Calls Tryd.prog 37 #[.agg #[.string ak, .int .i64 ac, .int .i64 an, .string av, .bool ad], .agg #[.string bk, .int .i64 bc, .int .i64 bn, .string bv, .bool bd]] w fun e w' => e = .returned (.bool q) ∧ Below w.heap.size w w' := by
  obtain ⟨x, hx⟩ : ∃ x, Vs.cmp ac an bc bn = x := ⟨_, rfl⟩
  have H := aside h
  have C := aside (fun w => compare_at hx w)
  have HX := aside hx
  clear h hx
  go_enter Tryd.func37, Tryd.ntmps37
  go_wp2_with fail
  refine (C.out _).mono ?_
  rintro e w1 ⟨rfl, b1⟩
  have b0 := bthen (bthen (bnew w _) (bnew _ _)) b1
  clear b1
  go_wp2
  go_ret
  refine ⟨ret_bool ?_, b0⟩
  rw [← H.out, ← HX.out]; rfl


theorem newer_iff (a b : En) : En.newer a b = true ↔ b.c < a.c ∨ (a.c = b.c ∧ b.n < a.n) := by
  unfold En.newer
  rw [decide_eq_true_iff]
  rcases cmp_three a.c a.n b.c b.n with h | h | h <;> omega

theorem newer_not (a b : En) : En.newer a b = false ↔ ¬ (b.c < a.c ∨ (a.c = b.c ∧ b.n < a.n)) := by
  rw [← newer_iff]; simp

end Go.Proofs.YtlgcdcjhflihiaaDoor
namespace Go.Proofs.YtlgcdcjhflihiaaDoor
open Go.RowKit
/-- A range: its bounds, and whether it is open. -/
structure Rg where
  lo : ByteArray
  hi : ByteArray
  op : Bool

namespace Rg
/-- As a value of the program. -/
def val (r : Rg) : Value := .agg #[.string r.lo, .string r.hi, .bool r.op]

/-- The number that Check gives. -/
def chk (r : Rg) : Int :=
  if 16 < (r.lo.size : Int) ∨ 16 < (r.hi.size : Int) then 20
  else if (r.op && !r.hi.toList.isEmpty) || (!r.op && (!Op.bytesLess r.lo.toList r.hi.toList && !(r.lo.toList == r.hi.toList))) then 21 else 0

/-- May it be? -/
def may (r : Rg) : Bool := chk r == 0

/-- Is it empty, or may it not be? -/
def emp (r : Rg) : Bool := !r.may || (!r.op && (r.lo.toList == r.hi.toList))

/-- Does it hold a key? -/
def has (r : Rg) (k : ByteArray) : Bool := r.may && decide ((k.size : Int) ≤ 16) && !Op.bytesLess k.toList r.lo.toList && (r.op || Op.bytesLess k.toList r.hi.toList)

/-- The higher one of two texts. -/
def mx (a b : ByteArray) : ByteArray := bif Op.bytesLess a.toList b.toList then b else a

/-- What two ranges meet in, if they were to meet. -/
def both (a b : Rg) : Rg := ⟨mx a.lo b.lo, bif a.op || (!b.op && Op.bytesLess b.hi.toList a.hi.toList) then b.hi else a.hi, bif a.op || (!b.op && Op.bytesLess b.hi.toList a.hi.toList) then b.op else a.op⟩

/-- What two ranges meet in. -/
def meet (a b : Rg) : Option Rg := if a.emp || b.emp || (both a b).emp then none else some (both a b)

/-- The two values that Meet hands back. -/
def meetV : Option Rg → Value
  | some r => .tuple #[.agg #[.string r.lo, .string r.hi, .bool r.op], .bool true]
  | none => .tuple #[.agg #[.string ⟨#[]⟩, .string ⟨#[]⟩, .bool false], .bool false]

end Rg
end Go.Proofs.YtlgcdcjhflihiaaDoor
namespace Go.Proofs.YtlgcdcjhflihiaaDoor
open Go.RowKit
theorem chk_shut {lo hi : ByteArray} (h1 : (lo.size : Int) ≤ 16) (h2 : (hi.size : Int) ≤ 16) :
    Rg.chk ⟨lo, hi, false⟩ = bif (!Op.bytesLess lo.toList hi.toList && !(lo.toList == hi.toList)) then 21 else 0 := by
  unfold Rg.chk; rw [if_neg (not_or.2 ⟨Int.not_lt.2 h1, Int.not_lt.2 h2⟩)]
  cases Op.bytesLess lo.toList hi.toList <;> cases (lo.toList == hi.toList) <;> rfl

theorem chk_open {lo hi : ByteArray} (h1 : (lo.size : Int) ≤ 16) (h2 : (hi.size : Int) ≤ 16) :
    Rg.chk ⟨lo, hi, true⟩ = bif hi.toList.isEmpty then 0 else 21 := by
  unfold Rg.chk; rw [if_neg (not_or.2 ⟨Int.not_lt.2 h1, Int.not_lt.2 h2⟩)]
  cases hi.toList.isEmpty <;> rfl

set_option maxHeartbeats 1600000 in
theorem check_any (lo hi : ByteArray) (op : Bool) (w : World) :
    Calls Tryd.prog 27 #[.agg #[.string lo, .string hi, .bool op]] w fun e w' => e = .returned (.int .i64 (Rg.chk ⟨lo, hi, op⟩)) ∧ Below w.heap.size w w' := by
  by_cases h1 : (16 : Int) < lo.size
  · go_enter Tryd.func27, Tryd.ntmps27
    go_wp2
    go_ret
    exact ⟨ret_i64 (by simp [Rg.chk, h1]), (Below.refl _ w).alloc (Nat.le_refl _) _⟩
  · by_cases h2 : (16 : Int) < hi.size
    · go_enter Tryd.func27, Tryd.ntmps27
      go_wp2
      go_ret
      exact ⟨ret_i64 (by simp [Rg.chk, h2]), (Below.refl _ w).alloc (Nat.le_refl _) _⟩
    · cases op
      · cases h4 : Op.bytesLess lo.toList hi.toList <;> cases h5 : (lo.toList == hi.toList)
        all_goals
          go_enter Tryd.func27, Tryd.ntmps27
          go_wp2
          go_ret
          exact ⟨ret_i64 (by rw [chk_shut h1 h2, h4, h5]; rfl), (Below.refl _ w).alloc (Nat.le_refl _) _⟩
      · cases h3 : hi.toList.isEmpty
        all_goals
          go_enter Tryd.func27, Tryd.ntmps27
          go_wp2
          go_ret
          exact ⟨ret_i64 (by rw [chk_open h1 h2, h3]; rfl), (Below.refl _ w).alloc (Nat.le_refl _) _⟩


set_option maxHeartbeats 1600000 in
theorem mayBe_any (lo hi : ByteArray) (op : Bool) (w : World) :
    Calls Tryd.prog 88 #[.agg #[.string lo, .string hi, .bool op]] w fun e w' => e = .returned (.bool (Rg.may ⟨lo, hi, op⟩)) ∧ Below w.heap.size w w' := by
  go_enter Tryd.func88, Tryd.ntmps88
  go_wp2_with (go_at_call 27; refine (check_any _ _ _ _).mono ?_; rintro e w1 ⟨rfl, b1⟩)
  go_ret
  exact ⟨ret_bool rfl, bthen (bnew w _) b1⟩

end Go.Proofs.YtlgcdcjhflihiaaDoor
namespace Go.Proofs.YtlgcdcjhflihiaaDoor
open Go.RowKit
/-- What lies in a box that was laid last stays there. -/
theorem box3 {w w1 : World} {a b c : Value} {t : TypeId} (h : Below (w.alloc (.cells #[a, b, c] t)).heap.size (w.alloc (.cells #[a, b, c] t)) w1) :
    w1.cell? ⟨w.heap.size, 0, none⟩ = some a ∧ w1.cell? ⟨w.heap.size, 1, none⟩ = some b ∧ w1.cell? ⟨w.heap.size, 2, none⟩ = some c := by
  have e : ∀ j, (w.alloc (.cells #[a, b, c] t)).cell? ⟨w.heap.size, j, none⟩ = #[a, b, c][j]? := fun j => World.cell?_alloc_mark w #[a, b, c] t (0, 0) j
  refine ⟨?_, ?_, ?_⟩
  · rw [h.cell (p := ⟨w.heap.size, 0, none⟩) (by simp), e]; rfl
  · rw [h.cell (p := ⟨w.heap.size, 1, none⟩) (by simp), e]; rfl
  · rw [h.cell (p := ⟨w.heap.size, 2, none⟩) (by simp), e]; rfl

theorem mayBe_at {lo hi : ByteArray} {op m : Bool} (h : Rg.may ⟨lo, hi, op⟩ = m) (w : World) :
    Calls Tryd.prog 88 #[.agg #[.string lo, .string hi, .bool op]] w fun e w' => e = .returned (.bool m) ∧ Below w.heap.size w w' := by
  subst h; exact mayBe_any lo hi op w

theorem check_at {lo hi : ByteArray} {op : Bool} {c : Int} (h : Rg.chk ⟨lo, hi, op⟩ = c) (w : World) :
    Calls Tryd.prog 27 #[.agg #[.string lo, .string hi, .bool op]] w fun e w' => e = .returned (.int .i64 c) ∧ Below w.heap.size w w' := by
  subst h; exact check_any lo hi op w


theorem may_chk {r : Rg} (h : r.may = true) : r.chk = 0 := by simpa [Rg.may] using h

theorem may_not {r : Rg} (h : r.may = false) : ∃ c, r.chk = c ∧ (c != 0) = true ∧ ¬ c = 0 := ⟨_, rfl, by simpa [Rg.may] using h, by simpa [Rg.may] using h⟩

set_option maxHeartbeats 1600000 in
theorem empty_any (lo hi : ByteArray) (op : Bool) (w : World) :
    Calls Tryd.prog 71 #[.agg #[.string lo, .string hi, .bool op]] w fun e w' => e = .returned (.bool (Rg.emp ⟨lo, hi, op⟩)) ∧ Below w.heap.size w w' := by
  cases hm : Rg.may ⟨lo, hi, op⟩
  · rw [show Rg.emp ⟨lo, hi, op⟩ = true from by simp [Rg.emp, hm]]
    have C := aside (fun w => mayBe_at hm w)
    clear hm
    go_enter Tryd.func71, Tryd.ntmps71
    go_wp2_with (go_at_call 88; refine (C.out _).mono ?_; rintro e w1 ⟨rfl, b1⟩; obtain ⟨q0, q1, q2⟩ := box3 b1)
    go_ret
    exact ⟨rfl, bthen (bnew w _) b1⟩
  · have C := aside (fun w => mayBe_at hm w)
    rw [show Rg.emp ⟨lo, hi, op⟩ = (!op && (lo.toList == hi.toList)) from by simp [Rg.emp, hm]]
    clear hm
    cases op
    · cases h5 : (lo.toList == hi.toList)
      all_goals
        go_enter Tryd.func71, Tryd.ntmps71
        go_wp2_with (go_at_call 88; refine (C.out _).mono ?_; rintro e w1 ⟨rfl, b1⟩; obtain ⟨q0, q1, q2⟩ := box3 b1)
        go_ret
        exact ⟨rfl, bthen (bnew w _) b1⟩
    · go_enter Tryd.func71, Tryd.ntmps71
      go_wp2_with (go_at_call 88; refine (C.out _).mono ?_; rintro e w1 ⟨rfl, b1⟩; obtain ⟨q0, q1, q2⟩ := box3 b1)
      go_ret
      exact ⟨rfl, bthen (bnew w _) b1⟩


set_option maxHeartbeats 1600000 in
theorem holds_any (lo hi : ByteArray) (op : Bool) (k : ByteArray) (w : World) :
    Calls Tryd.prog 83 #[.agg #[.string lo, .string hi, .bool op], .string k] w fun e w' => e = .returned (.bool (Rg.has ⟨lo, hi, op⟩ k)) ∧ Below w.heap.size w w' := by
  cases hm : Rg.may ⟨lo, hi, op⟩
  · rw [show Rg.has ⟨lo, hi, op⟩ k = false from by simp [Rg.has, hm]]
    have C := aside (fun w => mayBe_at hm w)
    clear hm
    go_enter Tryd.func83, Tryd.ntmps83
    go_wp2_with (go_at_call 88; refine (C.out _).mono ?_; rintro e w1 ⟨rfl, b1⟩; obtain ⟨q0, q1, q2⟩ := box3 b1)
    go_ret
    exact ⟨rfl, bthen (bnew w _) b1⟩
  · have C := aside (fun w => mayBe_at hm w)
    rw [show Rg.has ⟨lo, hi, op⟩ k = (decide ((k.size : Int) ≤ 16) && !Op.bytesLess k.toList lo.toList && (op || Op.bytesLess k.toList hi.toList)) from by simp [Rg.has, hm]]
    clear hm
    by_cases h1 : (k.size : Int) ≤ 16
    · rw [decide_eq_true h1]
      cases h2 : Op.bytesLess k.toList lo.toList
      · cases op
        · cases h5 : Op.bytesLess k.toList hi.toList
          all_goals
            go_enter Tryd.func83, Tryd.ntmps83
            go_wp2_with (go_at_call 88; refine (C.out _).mono ?_; rintro e w1 ⟨rfl, b1⟩; obtain ⟨q0, q1, q2⟩ := box3 b1)
            go_ret
            exact ⟨rfl, bthen (bnew w _) b1⟩
        · go_enter Tryd.func83, Tryd.ntmps83
          go_wp2_with (go_at_call 88; refine (C.out _).mono ?_; rintro e w1 ⟨rfl, b1⟩; obtain ⟨q0, q1, q2⟩ := box3 b1)
          go_ret
          exact ⟨rfl, bthen (bnew w _) b1⟩
      · go_enter Tryd.func83, Tryd.ntmps83
        go_wp2_with (go_at_call 88; refine (C.out _).mono ?_; rintro e w1 ⟨rfl, b1⟩; obtain ⟨q0, q1, q2⟩ := box3 b1)
        go_ret
        exact ⟨rfl, bthen (bnew w _) b1⟩
    · rw [decide_eq_false h1]
      go_enter Tryd.func83, Tryd.ntmps83
      go_wp2_with (go_at_call 88; refine (C.out _).mono ?_; rintro e w1 ⟨rfl, b1⟩; obtain ⟨q0, q1, q2⟩ := box3 b1)
      go_ret
      exact ⟨rfl, bthen (bnew w _) b1⟩


end Go.Proofs.YtlgcdcjhflihiaaDoor
