/-
  Plain mathematics: rows whose values are their summaries, texts of rows written one behind the other.
  Plain mathematics: ranks and places of a sorted list, folds of its parts.
  The walk over a whole tree; Span.
  A region that draws its order and whose stores come last: what holds ahead of the first store lets loads be taken first.
  Span: an iterator over the rows that there were.
  Iterators that go over another iterator: what they may ask of the one who ranges over them, and a law for the loop.
-/
import Derived.Test.YtlbkcndmljlnmaaDoorBx6
import Derived.Test.YtlbkcndmljlnmaaDoorBx1
import Derived.Test.YtlbkcndmljlnmaaDoorBx20
import Derived.Test.YtlbkcndmljlnmaaDoorBx16
import Derived.OrdersHeld
import Derived.Deep.RegionHeld
import Derived.Test.YtlbkcndmljlnmaaDoorBx12
import Derived.RangeFuncNested
namespace Go.Proofs.YtlbkcndmljlnmaaDoor
open Go.RowKit
set_option linter.unusedVariables false
variable {β α : Type}
end Go.Proofs.YtlbkcndmljlnmaaDoor
namespace Go.Proofs.YtlbkcndmljlnmaaDoor
open Go.RowKit
set_option linter.unusedVariables false
variable {β α : Type}
end Go.Proofs.YtlbkcndmljlnmaaDoor
namespace Go.Proofs.YtlbkcndmljlnmaaDoor
open Go.RowKit Go.Shelf
set_option linter.unusedVariables false
theorem walkE {Ok : Rw En Tl → Prop} {l m N : Nat} {J Jx : List (Rw En Tl) → World → Prop} {Kp : World → World → Prop} (hKp : ∀ A B, Kp A B → Stay 145 A B) (hd : ∀ s W, J s W → J s W.drew) (hY : YOk Ok l m N Kp J Jx) :
    ∀ T : Tr En Tl, T.cnt ≤ 4611686018427387904 → (∀ x ∈ T.rows, Ok x) → WalkOk l N J Jx T
  | .nil, _, _ => fun I K p pre W hT hI hK hJ hN hK2 => by
    have h : K ≤ I := by simp [Tr.cnt] at hK; omega
    rw [sgI h]
    exact walkNone l J Jx pre I K p W h hJ
  | .node lt k v s rt, hc, hok => fun I K p pre W hT hI hK hJ hN hK2 => by
    by_cases h : K ≤ I
    · rw [sgI h]
      exact walkNone l J Jx pre I K p W h hJ
    have hcl : lt.cnt ≤ 4611686018427387904 := by simp only [Tr.cnt] at hc; omega
    have hcr : rt.cnt ≤ 4611686018427387904 := by simp only [Tr.cnt] at hc; omega
    have ihl := walkE hKp hd hY lt hcl (fun x hx => hok x (by simp [Tr.rows, hx]))
    have ihr := walkE hKp hd hY rt hcr (fun x hx => hok x (by simp [Tr.rows, hx]))
    obtain ⟨b, lp, rp, rfl, hb, hl, hr⟩ := hT
    have hcn : (Tr.node lt k v s rt).cnt = lt.cnt + 1 + rt.cnt := rfl
    rw [hcn] at hK hc
    have hll := Tr.rows_length lt
    have hrl := Tr.rows_length rt
    have hsg := seg_node lt.rows rt.rows ⟨k, v, s⟩ (i := I.toNat) (j := K.toNat) (by omega)
    have e1 : (Tr.node lt k v s rt).rows = lt.rows ++ ⟨k, v, s⟩ :: rt.rows := rfl
    have hlen : ∀ (R : List (Rw En Tl)) (a c : Nat), (seg R a c).length ≤ c - a := fun R a c => by unfold seg; simp; omega
    rw [e1, hsg]
    by_cases h2 : (lt.cnt : Int) < K
    · have e2 : min K.toNat lt.rows.length = ((lt.cnt : Int)).toNat := by omega
      rw [e2]
      have L1 := hlen lt.rows I.toNat ((lt.cnt : Int)).toNat
      by_cases h3 : I ≤ (lt.cnt : Int)
      · rw [if_pos ⟨by omega, by omega⟩, show I.toNat - lt.rows.length - 1 = (0 : Int).toNat from by omega, show K.toNat - lt.rows.length - 1 = (K - (lt.cnt : Int) - 1).toNat from by omega]
        refine walkOwn hKp hd hY hb (rowsE hl) (ihl I (lt.cnt : Int) lp pre W hl hI (by omega) hJ (by omega) (by omega)) (fun W' hs hJ' => ihr 0 (K - (lt.cnt : Int) - 1) rp _ W' (hr.on hs) (by omega) (by omega) hJ' ?_ (by omega)) (by omega) h3 h2 (by rw [IntKind.wrap_i64]; omega) (by rw [IntKind.wrap_i64]; omega) (by rw [IntKind.wrap_i64]; omega) (by rw [IntKind.wrap_i64]; omega) rfl ?_ (hok _ (by simp [Tr.rows]))
        · simp only [List.length_append, List.length_singleton]; omega
        · simp only [List.length_append]; omega
      · rw [if_neg (by omega), show I.toNat - lt.rows.length - 1 = (I - (lt.cnt : Int) - 1).toNat from by omega, show K.toNat - lt.rows.length - 1 = (K - (lt.cnt : Int) - 1).toNat from by omega]
        have L0 : seg lt.rows I.toNat ((lt.cnt : Int)).toNat = [] := seg_none _ (by omega)
        refine walkHigh hKp hd hY hb (rowsE hl) (ihl I (lt.cnt : Int) lp pre W hl hI (by omega) hJ (by omega) (by omega)) (fun W' hs hJ' => ihr (I - (lt.cnt : Int) - 1) (K - (lt.cnt : Int) - 1) rp _ W' (hr.on hs) (by omega) (by omega) hJ' ?_ (by omega)) (by omega) h3 h2 (by rw [IntKind.wrap_i64]; omega) (by rw [IntKind.wrap_i64]; omega) (by rw [IntKind.wrap_i64]; omega) (by rw [IntKind.wrap_i64]; omega) rfl
        rw [L0]; simp only [List.length_append, List.length_nil]; omega
    · have e2 : min K.toNat lt.rows.length = K.toNat := by omega
      rw [e2, if_neg (by omega), show seg rt.rows (I.toNat - lt.rows.length - 1) (K.toNat - lt.rows.length - 1) = seg rt.rows (0 : Int).toNat (K - (lt.cnt : Int) - 1).toNat from by rw [seg_none _ (by omega), seg_none _ (by omega)]]
      have L1 := hlen lt.rows I.toNat K.toNat
      refine walkLow hKp hd hY hb (rowsE hl) (ihl I K lp pre W hl hI (by omega) hJ (by omega) (by omega)) (fun W' hs hJ' => ihr 0 (K - (lt.cnt : Int) - 1) rp _ W' (hr.on hs) (by omega) (by omega) hJ' ?_ (by omega)) (by omega) (by omega) h2 (by rw [IntKind.wrap_i64]; omega) (by rw [IntKind.wrap_i64]; omega) (by rw [IntKind.wrap_i64]; omega) (by rw [IntKind.wrap_i64]; omega) rfl
      simp only [List.length_append]; omega
end Go.Proofs.YtlbkcndmljlnmaaDoor
namespace Go.Proofs.YtlbkcndmljlnmaaDoor
open Go.RowKit
set_option linter.unusedVariables false
section
variable {P : Program} {ops : Array Oper} {Q : Exit → Act → World → Prop} {md : Region.Mode} {S : World → Prop} {z : Nat}
/-- Whatever order is picked: behind each operation that comes ahead of number z, S holds. -/
def Until (P : Program) (md : Region.Mode) (ops : Array Oper) (Q : Exit → Act → World → Prop) (S : World → Prop) (z : Nat) : Nat → Array Bool → Act → World → Prop
  | 0, listed, a, w => Region.ready md ops listed = [] ∧ Q .normal a w
  | f + 1, listed, a, w => (Region.ready md ops listed = [] → Q .normal a w) ∧ ∀ i ∈ Region.ready md ops listed,
      wpOp P ops Q i (fun a' w' => if i = z then wpAny P md ops Q f (listed.setIfInBounds i true) a' w' else S w' ∧ Until P md ops Q S z f (listed.setIfInBounds i true) a' w') a w
theorem Until.any : ∀ (f : Nat) (listed : Array Bool) (a : Act) (w : World), Until P md ops Q S z f listed a w → wpAny P md ops Q f listed a w
  | 0, _, _, _, h => h
  | f + 1, _, _, _, h => ⟨h.1, fun i hi => wpOp_mono (fun a' w' h' => by
      by_cases e : i = z
      · rwa [if_pos e] at h'
      · rw [if_neg e] at h'; exact Until.any f _ a' w' h'.2) (h.2 i hi)⟩
/-- Each of U waits for i or for another one of U. -/
def waits (md : Region.Mode) (ops : Array Oper) (i : Nat) (U : List Nat) : Bool :=
  U.all fun u => match ops[u]? with
    | some o => o.after.any fun e => Region.binds md e && (e.on == i || U.contains e.on)
    | none => false
def unlisted (listed : Array Bool) (U : List Nat) : Prop := ∀ u ∈ U, listed.getD u true = false
theorem unlisted_dec {listed : Array Bool} {U : List Nat} (h : (U.all fun u => !(listed.getD u true)) = true) : unlisted listed U := by
  intro u hu
  have := List.all_eq_true.1 h u hu
  simpa using this
theorem getD_low {listed : Array Bool} {j : Nat} (h : listed.getD j true = false) : listed.getD j false = false := by
  rcases Nat.lt_or_ge j listed.size with h' | h'
  · simp [h'] at h ⊢; exact h
  · simp [Array.getElem?_eq_none h'] at h
theorem waits_not {i : Nat} {U : List Nat} {listed : Array Bool} (hw : waits md ops i U = true) (hi : listed.getD i true = false) (hU : unlisted listed U) : ∀ u ∈ U, u ∉ Region.ready md ops listed := by
  intro u hu hr
  obtain ⟨-, o, ho, hall⟩ := mem_ready.1 hr
  have h1 := List.all_eq_true.1 hw u hu
  rw [ho] at h1
  simp only [Array.any_eq_true', Bool.and_eq_true, Bool.or_eq_true, beq_iff_eq, List.contains_iff_mem] at h1
  obtain ⟨e, he, hb, hon⟩ := h1
  have h2 := hall e he hb
  have h3 : listed.getD e.on true = false := by
    rcases hon with hon | hon
    · rw [hon]; exact hi
    · exact hU _ hon
  rw [getD_low h3] at h2
  cases h2
theorem free_on {i j : Nat} {oi : Oper} {listed : Array Bool} (hjun : listed.getD j true = false)
    (hfree : ∀ k ok, ops[k]? = some ok → k ≠ i → listed.getD k true = false → (∀ e ∈ ok.after, Region.binds md e = true → e.on ≠ i) → oi.apart ops ok = true) :
    ∀ k ok, ops[k]? = some ok → k ≠ i → (listed.setIfInBounds j true).getD k true = false → (∀ e ∈ ok.after, Region.binds md e = true → e.on ≠ i) → oi.apart ops ok = true := by
  intro k ok hk hki hun hno
  refine hfree k ok hk hki ?_ hno
  by_cases e : j = k
  · subst e; exact hjun
  · rwa [getD_set_ne true e] at hun
theorem not_after {i j : Nat} {listed : Array Bool} (hi : listed.getD i true = false) {oj : Oper} (hall : ∀ e ∈ oj.after, Region.binds md e = true → listed.getD e.on false = true) : ∀ e ∈ oj.after, Region.binds md e = true → e.on ≠ i := by
  intro e he hb heq
  have h1 := hall e he hb
  rw [heq, getD_low hi] at h1
  cases h1
/-- What yields in every world that meets S is taken first, where number z waits for it. -/
theorem Until.first {i : Nat} {oi : Oper} {v : Value} {U : List Nat} (hi : ops[i]? = some oi) (hsel : ∀ (j : Nat) (o : Oper) cs b, ops[j]? = some o → o.op ≠ .select cs b)
    (hQ : ∀ c a w, Q (.panic c) (a.put oi.dst v) w → Q (.panic c) a w) (hw : waits md ops i U = true) (hz : z ∈ U) (hzi : i ≠ z) :
    ∀ (f : Nat) (listed : Array Bool) (a : Act) (w : World),
      (∀ k ok, ops[k]? = some ok → k ≠ i → listed.getD k true = false → (∀ e ∈ ok.after, Region.binds md e = true → e.on ≠ i) → oi.apart ops ok = true) →
      i ∈ Region.ready md ops listed → unlisted listed U → YieldsIf P ops S oi v a → S w →
      Until P md ops Q S z f (listed.setIfInBounds i true) (a.put oi.dst v) w → Until P md ops Q S z (f + 1) listed a w := by
  intro f
  induction f with
  | zero =>
    intro listed a w _ hr hU hy hS H
    refine ⟨fun h => (by rw [h] at hr; cases hr), fun j hj => ?_⟩
    by_cases hji : j = i
    · subst hji
      exact hy.wpOp hi hS (by rw [if_neg hzi]; exact ⟨hS, H⟩)
    · have := ready_mono hj hji
      rw [H.1] at this
      cases this
  | succ f ih =>
    intro listed a w hfree hr hU hy hS H
    refine ⟨fun h => (by rw [h] at hr; cases hr), fun j hj => ?_⟩
    by_cases hji : j = i
    · subst hji
      exact hy.wpOp hi hS (by rw [if_neg hzi]; exact ⟨hS, H⟩)
    · have hi0 := (mem_ready.1 hr).1
      have hno := waits_not hw hi0 hU
      have hjz : j ≠ z := fun e => hno z hz (e ▸ hj)
      obtain ⟨hjun, oj, hoj, hall⟩ := mem_ready.1 hj
      have h1 := H.2 j (ready_mono hj hji)
      simp only [if_neg hjz] at h1 ⊢
      have h2 := wpOp_putIf hoj (hfree j oj hoj hji hjun (not_after (j := j) hi0 hall)) (fun cs b => hsel i oi cs b hi) (fun cs b => hsel j oj cs b hoj) hQ hy h1
      refine wpOp_mono (fun a' w' h3 => ⟨h3.2.1, ih (listed.setIfInBounds j true) a' w' (free_on hjun hfree) (ready_mono hr (Ne.symm hji)) ?_ h3.1 h3.2.1 ?_⟩) h2
      · intro u hu
        have : j ≠ u := fun e => hno u hu (e ▸ hj)
        rw [getD_set_ne true this]
        exact hU u hu
      · rw [Array.setIfInBounds_comm _ _ hji]
        exact h3.2.2
/-- What yields in whatever world is taken first. -/
theorem Until.firstY {i : Nat} {oi : Oper} {v : Value} (hi : ops[i]? = some oi) (hsel : ∀ (j : Nat) (o : Oper) cs b, ops[j]? = some o → o.op ≠ .select cs b)
    (hQ : ∀ c a w, Q (.panic c) (a.put oi.dst v) w → Q (.panic c) a w) (hzi : i ≠ z) :
    ∀ (f : Nat) (listed : Array Bool) (a : Act) (w : World),
      (∀ k ok, ops[k]? = some ok → k ≠ i → listed.getD k true = false → (∀ e ∈ ok.after, Region.binds md e = true → e.on ≠ i) → oi.apart ops ok = true) →
      i ∈ Region.ready md ops listed → YieldsIf P ops (fun _ => True) oi v a → S w →
      Until P md ops Q S z f (listed.setIfInBounds i true) (a.put oi.dst v) w → Until P md ops Q S z (f + 1) listed a w := by
  intro f
  induction f with
  | zero =>
    intro listed a w _ hr hy hS H
    refine ⟨fun h => (by rw [h] at hr; cases hr), fun j hj => ?_⟩
    by_cases hji : j = i
    · subst hji
      exact hy.wpOp hi trivial (by rw [if_neg hzi]; exact ⟨hS, H⟩)
    · have := ready_mono hj hji
      rw [H.1] at this
      cases this
  | succ f ih =>
    intro listed a w hfree hr hy hS H
    refine ⟨fun h => (by rw [h] at hr; cases hr), fun j hj => ?_⟩
    by_cases hji : j = i
    · subst hji
      exact hy.wpOp hi trivial (by rw [if_neg hzi]; exact ⟨hS, H⟩)
    · have hi0 := (mem_ready.1 hr).1
      obtain ⟨hjun, oj, hoj, hall⟩ := mem_ready.1 hj
      have h1 := H.2 j (ready_mono hj hji)
      have h2 := wpOp_putIf hoj (hfree j oj hoj hji hjun (not_after (j := j) hi0 hall)) (fun cs b => hsel i oi cs b hi) (fun cs b => hsel j oj cs b hoj) hQ hy h1
      refine wpOp_mono (fun a' w' h3 => ?_) h2
      by_cases hjz : j = z
      · have h4 := h3.2
        rw [if_pos hjz] at h4 ⊢
        refine wpAny_first hi hsel hQ f (listed.setIfInBounds j true) a' w' (free_on hjun hfree) (ready_mono hr (Ne.symm hji)) (h3.1.imp (fun ⟨p, q⟩ => ⟨p, fun w => q w trivial⟩) id) ?_
        rw [Array.setIfInBounds_comm _ _ hji]
        exact h4
      · have h4 := h3.2
        rw [if_neg hjz] at h4 ⊢
        refine ⟨h4.1, ih (listed.setIfInBounds j true) a' w' (free_on hjun hfree) (ready_mono hr (Ne.symm hji)) h3.1 h4.1 ?_⟩
        rw [Array.setIfInBounds_comm _ _ hji]
        exact h4.2
theorem Until.take {i : Nat} {oi : Oper} {v : Value} {f : Nat} {listed : Array Bool} {a : Act} {w : World} (U : List Nat) (hi : ops[i]? = some oi)
    (hs : Region.noSelect ops = true) (hf : Region.free md ops listed i = true) (hr : (Region.ready md ops listed).contains i = true) (hw : waits md ops i U = true) (hz : U.contains z = true) (hzi : (i == z) = false)
    (hU : (U.all fun u => !(listed.getD u true)) = true)
    (hQ : ∀ c a w, Q (.panic c) (a.put oi.dst v) w → Q (.panic c) a w) (hy : YieldsIf P ops S oi v a) (hS : S w)
    (h : Until P md ops Q S z f (listed.setIfInBounds i true) (a.put oi.dst v) w) : Until P md ops Q S z (f + 1) listed a w :=
  Until.first hi (Region.noSelect_spec hs) hQ hw (by simpa using hz) (by simpa using hzi) f listed a w (Region.free_spec hi hf) (by simpa using hr) (unlisted_dec hU) hy hS h
theorem Until.takeY {i : Nat} {oi : Oper} {v : Value} {f : Nat} {listed : Array Bool} {a : Act} {w : World} (hi : ops[i]? = some oi)
    (hs : Region.noSelect ops = true) (hf : Region.free md ops listed i = true) (hr : (Region.ready md ops listed).contains i = true) (hzi : (i == z) = false)
    (hQ : ∀ c a w, Q (.panic c) (a.put oi.dst v) w → Q (.panic c) a w) (hy : YieldsIf P ops (fun _ => True) oi v a) (hS : S w)
    (h : Until P md ops Q S z f (listed.setIfInBounds i true) (a.put oi.dst v) w) : Until P md ops Q S z (f + 1) listed a w :=
  Until.firstY hi (Region.noSelect_spec hs) hQ (by simpa using hzi) f listed a w (Region.free_spec hi hf) (by simpa using hr) hy hS h
/-- One alone may come up, ahead of number z. -/
theorem Until.step {i : Nat} {o : Oper} {f : Nat} {listed : Array Bool} {a : Act} {w : World} (hr : Region.ready md ops listed = [i]) (ho : ops[i]? = some o) (hzi : (i == z) = false)
    (h : ∀ K' : Act → World → Prop, Shut (∀ a w, S w → (S w → Until P md ops Q S z f (listed.setIfInBounds i true) a w) → K' a w) → if Region.wanted o (yielded ops a.tmps) = true then Oper.wp P o a w K' Q else K' (a.put o.dst undef) w) :
    Until P md ops Q S z (f + 1) listed a w := by
  refine ⟨fun h0 => (by rw [hr] at h0; cases h0), ?_⟩
  rw [hr]
  intro j hj
  rcases List.mem_singleton.1 hj with rfl
  rw [show (fun a' w' => if j = z then wpAny P md ops Q f (listed.setIfInBounds j true) a' w' else S w' ∧ Until P md ops Q S z f (listed.setIfInBounds j true) a' w') = (fun a' w' => S w' ∧ Until P md ops Q S z f (listed.setIfInBounds j true) a' w') from by
    funext a' w'; rw [if_neg (by simpa using hzi)]]
  exact wpOp_step ho (fun K' hK => h K' (fun a w hS hW => hK a w ⟨hS, hW hS⟩))
/-- Number z comes up: from here on nothing is held. -/
theorem Until.last {o : Oper} {f : Nat} {listed : Array Bool} {a : Act} {w : World} (hr : Region.ready md ops listed = [z]) (ho : ops[z]? = some o)
    (h : ∀ K' : Act → World → Prop, Shut (∀ a w, wpAny P md ops Q f (listed.setIfInBounds z true) a w → K' a w) → if Region.wanted o (yielded ops a.tmps) = true then Oper.wp P o a w K' Q else K' (a.put o.dst undef) w) :
    Until P md ops Q S z (f + 1) listed a w := by
  refine ⟨fun h0 => (by rw [hr] at h0; cases h0), ?_⟩
  rw [hr]
  intro j hj
  rcases List.mem_singleton.1 hj with rfl
  rw [show (fun a' w' => if j = j then wpAny P md ops Q f (listed.setIfInBounds j true) a' w' else S w' ∧ Until P md ops Q S j f (listed.setIfInBounds j true) a' w') = (fun a' w' => wpAny P md ops Q f (listed.setIfInBounds j true) a' w') from by
    funext a' w'; rw [if_pos rfl]]
  exact wpOp_step ho (fun K' hK => h K' hK)
theorem wp_region_until {id : Nat} {a : Act} {w : World} (hm : P.follows .mixedOrders = true) (hS : S w.drew)
    (h : S w.drew → Until P .any ops Q S z ops.size (Array.replicate ops.size false) a w.drew) : (Code.region id ops true).wp P Q a w :=
  wp_region_any hm (Until.any _ _ _ _ (h hS))
end
end Go.Proofs.YtlbkcndmljlnmaaDoor
namespace Go.Proofs.YtlbkcndmljlnmaaDoor
open Go.RowKit Go.Shelf
set_option linter.unusedVariables false
/-- An iterator over the rows of the tree at p, from I on below K. -/
def SpanV (w : World) (lb : Array Value) (p : Option Addr) (I K : Int) : Prop :=
  ∃ rb ib jb : Nat, lb = #[.pointer (some ⟨rb, 0, none⟩), .pointer (some ⟨ib, 0, none⟩), .pointer (some ⟨jb, 0, none⟩)] ∧ w.heap[rb]? = some (.cells #[.pointer p] 139 (0, 0)) ∧ w.heap[ib]? = some (.cells #[.int .i64 I] 3 (0, 0)) ∧ w.heap[jb]? = some (.cells #[.int .i64 K] 3 (0, 0))
theorem SpanV.below {w w' : World} {lb : Array Value} {p : Option Addr} {I K : Int} (h : SpanV w lb p I K) (b : Below w.heap.size w w') : SpanV w' lb p I K := by
  obtain ⟨rb, ib, jb, h1, h2, h3, h4⟩ := h
  exact ⟨rb, ib, jb, h1, blk_on h2 b, blk_on h3 b, blk_on h4 b⟩
set_option maxHeartbeats 3200000 in
set_option maxRecDepth 100000 in
theorem yspan (I K : Int) {w : World} {tb : Nat} {jv : Value} {p : Option Addr} (ht : TObjE w tb jv p) :
    Calls Tryd.prog 91 #[.pointer (some ⟨tb, 0, none⟩), .int .i64 I, .int .i64 K] w fun e w' => ∃ lb, e = .returned (.func (.func 109) #[] lb) ∧ SpanV w' lb p I K ∧ Below w.heap.size w w' := by
  have hmf : ∀ (fn : Fn) (first cap : Array Value) (w : World), (Instr.makeFunc fn first cap).run Tryd.prog w = .ok (.func fn first cap) w := fun _ _ _ _ => rfl
  have b0 := bnew w (.cells #[.int .i64 I] 3)
  have b1 := bnew (w.alloc (.cells #[.int .i64 I] 3)) (.cells #[.int .i64 K] 3)
  have b2 := bnew ((w.alloc (.cells #[.int .i64 I] 3)).alloc (.cells #[.int .i64 K] 3)) (.cells #[.pointer p] 139)
  have G0 := aside (blk_on (blk_on (heap_alloc_new w (.cells #[.int .i64 I] 3)) b1) b2)
  have g1 := blk_on (heap_alloc_new (w.alloc (.cells #[.int .i64 I] 3)) (.cells #[.int .i64 K] 3)) b2
  have g2 := heap_alloc_new ((w.alloc (.cells #[.int .i64 I] 3)).alloc (.cells #[.int .i64 K] 3)) (.cells #[.pointer p] 139)
  simp only [World.size_alloc] at g1 g2
  have G1 := aside g1
  have G2 := aside g2
  have B := aside (bthen (bthen b0 b1) b2)
  have ht' : TObjE ((w.alloc (.cells #[.int .i64 I] 3)).alloc (.cells #[.int .i64 K] 3)) tb jv p := blk_on (blk_on ht b0) b1
  obtain ⟨-, -, -, -, r0, -⟩ := tobjE ht'
  clear ht ht' g1 g2 b0 b1 b2
  go_enter Tryd.func91, Tryd.ntmps91
  go_wp2
  go_ret
  exact ⟨_, rfl, ⟨_, _, _, rfl, G2.out, G0.out, G1.out⟩, B.out⟩
/-- The rows that such an iterator hands out. -/
def spanL (T : Tr En Tl) (I K : Int) : List (Rw En Tl) := seg T.rows (max I 0).toNat (min K (T.cnt : Int)).toNat
theorem max_if (I : Int) : (if I < 0 then 0 else I) = max I 0 := by omega
theorem min_if (K c : Int) : (if c < K then c else K) = min K c := by omega
set_option maxHeartbeats 6400000 in
set_option maxRecDepth 100000 in
theorem span0 {w : World} {p : Option Addr} {T : Tr En Tl} {I K : Int} {lb : Array Value} {Ok : Rw En Tl → Prop} (h : SpanV w lb p I K) (hT : IsTE w p T) (hc : T.cnt ≤ 4611686018427387904) (hok : ∀ x ∈ T.rows, Ok x) (hK : -4611686018427387904 ≤ K) {N : Nat} (hN : (spanL T I K).length ≤ N) {Kp : World → World → Prop} (hKp : ∀ A B, Kp A B → Stay 145 A B)
    (m l : Nat) (J Jx : List (Rw En Tl) → World → Prop) (W : World) (hW : Below w.heap.size w W) (hd : ∀ s W, J s W → J s W.drew) (hY : YOk Ok l m N Kp J Jx) (h0 : J [] W) :
    Calls Tryd.prog 109 (#[.func (.yield l) #[] #[]] ++ lb) W fun e W' => (∃ v, e = .returned v) ∧ ((∃ xs, xs = spanL T I K ∧ J xs W') ∨ (∃ pre, pre <+: spanL T I K ∧ Jx pre W')) := by
  have h' := h.below hW
  obtain ⟨rb, ib, jb, rfl, g0, g1, g2⟩ := h'
  have hT' : IsTE W p T := hT.on (fun _ _ e => blk_on e hW)
  have CW := aside (walkE hKp hd hY T hc hok (max I 0) (min K (T.cnt : Int)) p [] W.drew (hT'.on (Stay.refl _ _).drew) (by omega) (by omega) (hd _ _ h0) (by
    have e1 : (spanL T I K).length = (min K (T.cnt : Int)).toNat - (max I 0).toNat := by
      unfold spanL seg
      have := Tr.rows_length T
      simp only [List.length_drop, List.length_take]
      omega
    simp only [List.length_nil]
    omega) (by omega))
  have CR := aside (rowsE (hT'.on (Stay.refl _ W).drew))
  rw [show seg T.rows (max I 0).toNat (min K (T.cnt : Int)).toNat = spanL T I K from rfl] at CW
  generalize spanL T I K = sg at *
  have HS := aside (show W.cell? ⟨rb, 0, none⟩ = some (.pointer p) ∧ W.cell? ⟨ib, 0, none⟩ = some (.int .i64 I) ∧ W.cell? ⟨jb, 0, none⟩ = some (.int .i64 K) from ⟨cell_one g0, cell_one g1, cell_one g2⟩)
  obtain ⟨c, hcc⟩ : ∃ c : Int, (T.cnt : Int) = c := ⟨_, rfl⟩
  rw [hcc] at CW CR
  obtain ⟨a, ha⟩ : ∃ a : Int, max I 0 = a := ⟨_, rfl⟩
  obtain ⟨b, hb⟩ : ∃ b : Int, min K c = b := ⟨_, rfl⟩
  rw [ha, hb] at CW
  have HA := aside ((max_if I).trans ha)
  have HB := aside ((min_if K c).trans hb)
  clear h hT hT' g0 g1 g2 hY h0 hd hcc ha hb hc hK hN hW hok
  show Calls Tryd.prog 109 #[.func (.yield l) #[] #[], .pointer (some ⟨rb, 0, none⟩), .pointer (some ⟨ib, 0, none⟩), .pointer (some ⟨jb, 0, none⟩)] W _
  go_enter Tryd.func109, Tryd.ntmps109
  go_wp2_with fail
  refine wp_region_until (z := 8) (S := fun X => X.cell? ⟨rb, 0, none⟩ = some (.pointer p) ∧ X.cell? ⟨ib, 0, none⟩ = some (.int .i64 I) ∧ X.cell? ⟨jb, 0, none⟩ = some (.int .i64 K)) (by kernel_rfl) HS.out (fun hHeld => ?_)
  refine Until.take (i := 0) (v := ?_) [8] rfl (by kernel_rfl) (by kernel_rfl) (by kernel_rfl) (by kernel_rfl) (by rfl) (by rfl) (by kernel_rfl) (fun _ _ _ h => h) (Or.inl ⟨by rfl, ?_⟩) (by assumption) ?_
  rotate_left
  · intro w hSw
    go_simp
    try with_reducible rfl
  simp only [Act.put, List.getElem_toArray, List.getElem_cons_zero, List.setIfInBounds_toArray, List.set_cons_zero, List.set_cons_succ]
  refine Until.take (i := 1) (v := ?_) [2, 8] rfl (by kernel_rfl) (by kernel_rfl) (by kernel_rfl) (by kernel_rfl) (by rfl) (by rfl) (by kernel_rfl) (fun _ _ _ h => h) (Or.inl ⟨by rfl, ?_⟩) (by assumption) ?_
  rotate_left
  · intro w hSw
    go_simp
    try with_reducible rfl
  simp only [Act.put, List.getElem_toArray, List.getElem_cons_zero, List.getElem_cons_succ, List.setIfInBounds_toArray, List.set_cons_zero, List.set_cons_succ]
  refine Until.take (i := 2) (v := ?_) [8] rfl (by kernel_rfl) (by kernel_rfl) (by kernel_rfl) (by kernel_rfl) (by rfl) (by rfl) (by kernel_rfl) (fun _ _ _ h => h) (Or.inl ⟨by rfl, ?_⟩) (by assumption) ?_
  rotate_left
  · intro w hSw
    go_simp
    try with_reducible rfl
  simp only [Act.put, List.getElem_toArray, List.getElem_cons_zero, List.getElem_cons_succ, List.setIfInBounds_toArray, List.set_cons_zero, List.set_cons_succ]
  rw [HA.out]
  refine Until.take (i := 3) (v := ?_) [6, 8] rfl (by kernel_rfl) (by kernel_rfl) (by kernel_rfl) (by kernel_rfl) (by rfl) (by rfl) (by kernel_rfl) (fun _ _ _ h => h) (Or.inl ⟨by rfl, ?_⟩) (by assumption) ?_
  rotate_left
  · intro w hSw
    go_simp
    try with_reducible rfl
  simp only [Act.put, List.getElem_toArray, List.getElem_cons_zero, List.getElem_cons_succ, List.setIfInBounds_toArray, List.set_cons_zero, List.set_cons_succ]
  refine Until.take (i := 4) (v := ?_) [5, 6, 8] rfl (by kernel_rfl) (by kernel_rfl) (by kernel_rfl) (by kernel_rfl) (by rfl) (by rfl) (by kernel_rfl) (fun _ _ _ h => h) (Or.inl ⟨by rfl, ?_⟩) (by assumption) ?_
  rotate_left
  · intro w hSw
    go_simp
    try with_reducible rfl
  simp only [Act.put, List.getElem_toArray, List.getElem_cons_zero, List.getElem_cons_succ, List.setIfInBounds_toArray, List.set_cons_zero, List.set_cons_succ]
  refine Until.takeY (i := 7) (v := ?_) rfl (by kernel_rfl) (by kernel_rfl) (by kernel_rfl) (by rfl) (fun _ _ _ h => h) (Or.inl ⟨by rfl, ?_⟩) (by assumption) ?_
  rotate_left
  · intro w hSw
    go_simp
    try with_reducible rfl
  simp only [Act.put, List.getElem_toArray, List.getElem_cons_zero, List.getElem_cons_succ, List.setIfInBounds_toArray, List.set_cons_zero, List.set_cons_succ]
  refine Until.step (i := 5) (by kernel_rfl) rfl (by rfl) (fun K' hK' => ?_)
  go_simp
  refine CR.out.mono ?_
  rintro e w9 ⟨rfl, rfl⟩
  refine hK'.out _ _ hHeld (fun hHeld => ?_)
  clear hK' K'
  refine Until.take (i := 6) (v := ?_) [8] rfl (by kernel_rfl) (by kernel_rfl) (by kernel_rfl) (by kernel_rfl) (by rfl) (by rfl) (by kernel_rfl) (fun _ _ _ h => h) (Or.inl ⟨by rfl, ?_⟩) (by assumption) ?_
  rotate_left
  · intro w hSw
    go_simp
    try with_reducible rfl
  simp only [Act.put, List.getElem_toArray, List.getElem_cons_zero, List.getElem_cons_succ, List.setIfInBounds_toArray, List.set_cons_zero, List.set_cons_succ]
  rw [HB.out]
  refine Until.last (by kernel_rfl) rfl (fun K' hK' => ?_)
  go_simp
  refine CW.out.mono ?_
  rintro e w8 (⟨rfl, h1, h2⟩ | ⟨rfl, q, h1, h2⟩)
  · refine hK'.out _ _ ?_
    clear hK' K'
    refine wpAny_of_held (S := fun _ => True) _ _ _ _ ?_
    refine wpAnyH_done (by kernel_rfl) ?_ _
    have H1 := aside h1
    clear h1 h2
    go_wp2
    go_end0
    exact ⟨⟨_, rfl⟩, .inl ⟨_, rfl, by have h9 := H1.out; simpa using h9⟩⟩
  · refine hK'.out _ _ ?_
    clear hK' K'
    refine wpAny_of_held (S := fun _ => True) _ _ _ _ ?_
    refine wpAnyH_done (by kernel_rfl) ?_ _
    have H1 := aside h1
    have H2 := aside h2
    clear h1 h2
    go_wp2
    go_end0
    exact ⟨⟨_, rfl⟩, .inr ⟨q, by have h9 := H1.out; simpa using h9, H2.out⟩⟩
theorem span1 {w : World} {p : Option Addr} {T : Tr En Tl} {I K : Int} {lb : Array Value} (h : SpanV w lb p I K) (hT : IsTE w p T) (hc : T.cnt ≤ 4611686018427387904) (hK : -4611686018427387904 ≤ K) {n N : Nat} (hN : (spanL T I K).length ≤ N) {Kp : World → World → Prop} (hKp : ∀ A B, Kp A B → Stay 145 A B) :
    SeqStopsK Fence.wide n Tryd.prog 109 lb encs2 Kp (fun ys => ys = spanL T I K) (fun q => q <+: spanL T I K) N w := by
  intro l J Jx W hW hJ hJx hY h0
  have hd : ∀ s W, J s W → J s W.drew := fun s W1 hs => hJ s W1 W1.drew none hs ⟨rfl, rfl, rfl, Nat.le_refl _, fun _ _ _ => rfl⟩ (fun r e => by cases e)
  exact callsIn_wide.2 (span0 (Ok := fun _ => True) h hT hc (fun _ _ => trivial) hK hN hKp _ l J Jx W hW hd (fun pre x W1 _ hp hl => hY pre x W1 hp hl) h0)
end Go.Proofs.YtlbkcndmljlnmaaDoor
namespace Go.Proofs.YtlbkcndmljlnmaaDoor
open Go.RowKit Go.Shelf
set_option linter.unusedVariables false
/-- What the iterator g does with whatever yield: it hands out all of S, or is stopped. The invariants may not mind what becomes of blocks that are no cells and were laid since. -/
def SeqO {α : Type} (P : Program) (g : Nat) (lb : Array Value) (encs : α → Array Value) (Kp : World → World → Prop) (S Sp : List α → Prop) (N : Nat) (w : World) : Prop :=
  ∀ (m l : Nat) (J Jx : List α → World → Prop) (W : World), Below w.heap.size w W → OwnFrom W.heap.size J → OwnFrom W.heap.size Jx →
    (∀ pre x W1, J pre W1 → pre.length < N → YieldAt Fence.wide m P l (encs x) W1 fun e W' =>
      KeepsFrom W.heap.size W1 W' ∧ ((e = .returned (.bool true) ∧ J (pre ++ [x]) W' ∧ Kp W1 W') ∨ (e = .returned (.bool false) ∧ Jx (pre ++ [x]) W'))) →
    J [] W →
    Calls P g (#[.func (.yield l) #[] #[]] ++ lb) W fun e W' => (∃ v, e = .returned v) ∧ ((∃ xs, S xs ∧ J xs W') ∨ (∃ pre, Sp pre ∧ Jx pre W'))
theorem ownFrom_abides {β : Type} {B : Nat} {J : β → World → Prop} (h : OwnFrom B J) : AbidesFrom B J := fun s W W' row hs hg hr =>
  h s W W' row hs hg (fun r e => by obtain ⟨h1, o, h2, h3⟩ := hr r e; exact ⟨h1, o, h2, Obj.not_cells_of_walk h3⟩)
theorem SeqO.of_stops {α : Type} {P : Program} {g : Nat} {lb : Array Value} {encs : α → Array Value} {Kp : World → World → Prop} {S Sp : List α → Prop} {N : Nat} {w : World} (h : ∀ n, SeqStopsK Fence.wide n P g lb encs Kp S Sp N w) : SeqO P g lb encs Kp S Sp N w :=
  fun m l J Jx W hW hJ hJx hY h0 => callsIn_wide.1 (h (m + 1) l J Jx W hW (ownFrom_abides hJ) (ownFrom_abides hJx) (fun pre x W1 hp hl => (hY pre x W1 hp hl).mono (fun _ _ h => h.2)) h0)
/-- The two blocks in which a loop keeps its own state. -/
structure Bk (B : Nat) (r : Loop) (W : World) : Prop where
  lp : W.heap[B + 1]? = some (.loop r)
  def_ : W.heap[B]? = some (.deferred (some []))
theorem Bk.put {B : Nat} {r : Loop} {W : World} (h : Bk B r W) (r' : Loop) : Bk B r' (W.putObj (B + 1) (.loop r')) :=
  ⟨World.putObj_heap_same (Array.getElem?_eq_some_iff.1 h.lp).1, (World.putObj_heap_other (by omega)).trans h.def_⟩
theorem Bk.kept {B : Nat} {r : Loop} {W W' : World} (h : Bk B r W) (k : KeepsFrom B W W') : Bk B r W' :=
  ⟨k.same _ _ (by omega) h.lp rfl, k.same _ _ (Nat.le_refl _) h.def_ rfl⟩
theorem Bk.grown {B C : Nat} {r : Loop} {W W' : World} {row : Option Nat} (h : Bk B r W) (hC : B + 2 ≤ C) (g : W.grownBy W' row) (hr : ∀ i, row = some i → C ≤ i) : Bk B r W' :=
  ⟨(g.block _ (Array.getElem?_eq_some_iff.1 h.lp).1 (fun e => by have := hr _ e.symm; omega)).trans h.lp, (g.block _ (Array.getElem?_eq_some_iff.1 h.def_).1 (fun e => by have := hr _ e.symm; omega)).trans h.def_⟩
theorem Bk.own {β : Type} {B C : Nat} {r : Loop} {I : β → World → Prop} (hI : OwnFrom B I) (hC : B + 2 ≤ C) : OwnFrom C (fun s W => I s W ∧ Bk B r W) :=
  fun s W W' row hs g hr => ⟨hI s W W' row hs.1 g (fun i e => ⟨by have := (hr i e).1; omega, (hr i e).2⟩), hs.2.grown hC g (fun i e => (hr i e).1)⟩
theorem keepsFrom_up {B C : Nat} {W W' : World} (h : KeepsFrom B W W') (hBC : B ≤ C) : KeepsFrom C W W' := ⟨h.size, fun k o hk => h.same k o (by omega)⟩
theorem keepsFrom_put (B l : Nat) (W : World) (o : Obj) (h : l < B) : KeepsFrom B W (W.putObj l o) := ⟨by simp, fun k o' hk e _ => (World.putObj_heap_other (by omega)).trans e⟩
/-- A loop over such an iterator. -/
theorem rangeO {P : Program} {n : Nat} {α : Type} {g : Operand} {ps : Array Tmp} {assign body : Code} {Q : Exit → Act → World → Prop} {a : Act} {w : World}
    {gf : Nat} {lb : Array Value} (hg : a.eval g = .func (.func gf) #[] lb) (eg : ∀ args w, (callFunc gf args).run P w = .ok (.enter gf args) w)
    {encs : α → Array Value} {Kp : World → World → Prop} {S Sp : List α → Prop} {N : Nat} {w0 : World} (hseq : SeqO P gf lb encs Kp S Sp N w0)
    (hKt : ∀ {A B C : World}, Kp A B → Kp B C → Kp A C) (hKb : ∀ (W : World) (l : Nat) (o o' : Obj), w.heap.size ≤ l → W.heap[l]? = some o → o.isCells = false → Kp W (W.putObj l o')) (hb0 : Below w0.heap.size w0 w) (hps : ∀ x, (encs x).size = ps.size)
    (I : List α → World → Prop) (Ix : Code → List α → World → Prop) (hI : OwnFrom w.heap.size I) (hIx : ∀ c, OwnFrom w.heap.size (Ix c)) (h0 : I [] w) (Ax : α → Act → World → Prop) (hAx : ∀ x a', OwnFrom w.heap.size (fun (_ : Unit) W => Ax x a' W))
    (hassign : ∀ (l : Nat) (pre : List α) (x : α) (W : World) (K : Act → World → Prop), I pre W → (∀ a' W', KeepsFrom w.heap.size W W' → Kp W W' → I pre W' → Ax x a' W' → K a' W') →
      assign.wpIn (Fence.wide.inRound l) (n - 1 - 1) P (Exit.then K (fun _ _ _ => False)) { tmps := (ps.zip (encs x)).foldl (fun t (p, v) => t.setIfInBounds p v) a.tmps, defers := [] } W)
    (hbody : ∀ (l : Nat) (pre : List α) (x : α) (a' : Act) (W : World), I pre W → Ax x a' W → pre.length < N → body.wpIn (Fence.wide.inRound l) (n - 1 - 1) P (ownPostG w.heap.size Kp I Ix (pre ++ [x]) W) a' W)
    (hdone : ∀ (D : Nat) (xs : List α) (W : World), w.heap.size ≤ D → S xs → I xs W → W.heap[D]? = some (.deferred (some [])) → Q .normal { a with defers := { target := .collected D, args := #[] } :: a.defers } W)
    (hstop : ∀ (D : Nat) (c : Code) (pre : List α) (W : World), w.heap.size ≤ D → Sp pre → Ix c pre W → W.heap[D]? = some (.deferred (some [])) → c.wpIn Fence.wide n P Q { a with defers := { target := .collected D, args := #[] } :: a.defers } W) :
    (Code.rangeFunc g ps assign body).wpIn Fence.wide n P Q a w := by
  refine wpIn_rangeFunc fun fn hfn => ?_
  obtain ⟨B, hB⟩ : ∃ B, w.heap.size = B := ⟨_, rfl⟩
  obtain ⟨R, hR⟩ : ∃ R : LoopState → Option Code → Loop, R = fun st pe => { state := st, pending := pe, fn, tmps := a.tmps, params := ps, assign, body, defers := B } := ⟨_, rfl⟩
  obtain ⟨V, hV⟩ : ∃ V, (w.alloc (.deferred (some []))).alloc (.loop (R .ready none)) = V := ⟨_, rfl⟩
  have bV : Below w.heap.size w V := by rw [← hV]; exact ((Below.refl _ w).alloc (Nat.le_refl _) _).alloc (by simp) _
  have sV : V.heap.size = B + 2 := by rw [← hV, ← hB]; simp
  have kV : Bk B (R .ready none) V := by
    rw [← hV, ← hB]
    have h2 := heap_alloc_new (w.alloc (.deferred (some []))) (.loop (R .ready none))
    rw [World.size_alloc] at h2
    exact ⟨h2, (Below.heap_alloc _ _ _ (by simp)).trans (heap_alloc_new w _)⟩
  have iV : I [] V := by rw [← hV]; exact hI.alloc _ (hI.alloc _ h0)
  rw [hB] at hI hIx hAx hKb hassign hbody hdone hstop
  refine ⟨B + 1, [{ target := .collected B, args := #[] }], V, { target := .fn (.func gf) lb, args := #[.func (.yield (B + 1)) #[] #[]] }, V, gf, #[.func (.yield (B + 1)) #[] #[]] ++ lb, V, ?_, ?_, fun _ _ => trivial, ?_, fun h => (by cases h), ?_⟩
  · rw [← hV, hR, ← hB]; exact run_enterLoop_outer _ _ _ _ _
  · simp only [resolve, hg]
    simp [go_sem]
  · simp [invoke, go_sem, eg]
  refine callsIn_wide.2 ?_
  -- the iterator is told: the invariant, and the loop's own blocks
  refine (hseq (n - 1 - 1) (B + 1) (fun pre W => I pre W ∧ Bk B (R .ready none) W) (fun pre W => ∃ c, Ix c pre W ∧ Bk B (R .done (some c)) W) V (hb0.trans (bV.mono hb0.size)) (Bk.own hI (by omega))
    (fun s W W' row hs g hr => by
      obtain ⟨c, h1, h2⟩ := hs
      exact ⟨c, Bk.own (hIx c) (Nat.le_of_eq sV.symm) s W W' row ⟨h1, h2⟩ g hr⟩) ?_ ⟨iV, kV⟩).mono ?_
  · rintro pre x W ⟨hi, hk⟩ hlen
    have hy := run_yield (P := P) (args := encs x) hk.lp (by rw [hR]; exact hps x)
    rw [hR] at hy
    refine ⟨fn, _, assign, body, hy, roundIn_of_wpIn hfn (hassign _ pre x W _ hi ?_)⟩
    intro a' Wa kf kp ia ax
    have ka := hk.kept kf
    refine ⟨_, run_beginRound ka.lp (by rw [hR]), ?_⟩
    have kb := ka.put { R .ready none with state := .busy }
    refine wpIn_mono (hbody _ pre x a' _ (hI.putObj _ ia (by omega) ka.lp rfl) ((hAx x a').putObj (s := ()) _ ax (by omega) ka.lp rfl) hlen) ?_
    have turn : ∀ (j : Option Code) (W3 : World), KeepsFrom B (Wa.putObj (B + 1) (.loop { R .ready none with state := .busy })) W3 →
        ∃ W4, KeepsFrom (B + 2) W W4 ∧ W4 = W3.putObj (B + 1) (.loop (R (if j.isNone then .ready else .done) j)) ∧ (Instr.endRound (B + 1) j).run P W3 = .ok (.bool j.isNone) W4 ∧ Bk B (R (if j.isNone then .ready else .done) j) W4 ∧ (∃ o, W3.heap[B + 1]? = some o ∧ o.isCells = false) := fun j W3 k3 => by
      have k4 := kb.kept k3
      have e := run_endRound (P := P) j k4.lp
      refine ⟨_, (((keepsFrom_up kf (by omega)).trans (keepsFrom_put _ _ _ _ (by omega))).trans (keepsFrom_up k3 (by omega))).trans (keepsFrom_put _ _ _ _ (by omega)), rfl, ?_, k4.put _, _, k4.lp, rfl⟩
      rw [hR] at e ⊢
      exact e
    have leave : ∀ (c : Code) (W3 : World), KeepsFrom B (Wa.putObj (B + 1) (.loop { R .ready none with state := .busy })) W3 → Ix c (pre ++ [x]) W3 →
        ∃ W4, KeepsFrom (B + 2) W W4 ∧ (Instr.endRound (B + 1) (some c)).run P W3 = .ok (.bool false) W4 ∧ ∃ c, Ix c (pre ++ [x]) W4 ∧ Bk B (R .done (some c)) W4 := fun c W3 k3 i3 => by
      obtain ⟨W4, kk, rfl, e, k4, o, h1, h2⟩ := turn (some c) W3 k3
      exact ⟨_, kk, e, c, (hIx c).putObj _ i3 (by omega) h1 h2, k4⟩
    rintro ex a3 W3 hp
    cases ex with
    | normal =>
      obtain ⟨W4, kk, rfl, e, k4, o, h1, h2⟩ := turn none W3 hp.1
      exact ⟨_, _, e, (by rw [sV]; exact kk), .inl ⟨rfl, ⟨hI.putObj _ hp.2.2 (by omega) h1 h2, k4⟩, hKt kp (hKt (hKt (hKb _ _ _ _ (by omega) ka.lp rfl) hp.2.1) (hKb _ _ _ _ (by omega) h1 h2))⟩⟩
    | ret => obtain ⟨W4, kk, e, i4⟩ := leave .ret W3 hp.1 hp.2; exact ⟨_, _, e, (by rw [sV]; exact kk), .inr ⟨rfl, i4⟩⟩
    | exit id => obtain ⟨W4, kk, e, i4⟩ := leave (.exit id) W3 hp.1 hp.2; exact ⟨_, _, e, (by rw [sV]; exact kk), .inr ⟨rfl, i4⟩⟩
    | goto t => obtain ⟨W4, kk, e, i4⟩ := leave (.goto t) W3 hp.1 hp.2; exact ⟨_, _, e, (by rw [sV]; exact kk), .inr ⟨rfl, i4⟩⟩
    | panic c => exact hp.elim
    | outgrown => exact hp.elim
  · rintro e W2 ⟨⟨v, rfl⟩, ⟨xs, hS, hi, hk⟩ | ⟨pre, hSp, c, hi, hk⟩⟩
    · refine ⟨none, _, ?_, hdone B xs _ (Nat.le_refl _) hS (hI.putObj (.loop { R .ready none with state := .exhausted }) hi (by omega) hk.lp rfl) (hk.put _).def_⟩
      have e := run_endLoop (P := P) hk.lp (by rw [hR]; simp)
      rw [hR] at e ⊢
      exact e
    · refine ⟨some c, _, ?_, hstop B c pre _ (Nat.le_refl _) hSp ((hIx c).putObj (.loop { R .done (some c) with state := .exhausted }) hi (by omega) hk.lp rfl) (hk.put _).def_⟩
      have e := run_endLoop (P := P) hk.lp (by rw [hR]; simp)
      rw [hR] at e ⊢
      exact e
end Go.Proofs.YtlbkcndmljlnmaaDoor
