/-
  A region that draws its order and whose stores come last: what holds ahead of the first store lets loads be taken first.
-/
import Derived.Test.YtfkdhambbpkmpaaYTrBase
import Derived.OrdersHeld
import Derived.Deep.RegionHeld
namespace Go.Proofs.Ytfkdhambbpkmpaa
open Go.RowKit
set_option linter.unusedVariables false
section
variable {P : Program} {ops : Array Oper} {Q : Exit → Act → World → Prop} {md : Region.Mode} {S : World → Prop} {z : Nat}
/-- Whatever order is picked: behind each operation that comes ahead of number z, S holds. -/
def Until (P : Program) (md : Region.Mode) (ops : Array Oper) (Q : Exit → Act → World → Prop) (S : World → Prop) (z : Nat) : Nat → Array Bool → Act → World → Prop
  | 0, listed, a, w => Region.ready md ops listed = [] ∧ Q .normal a w
  | f + 1, listed, a, w => (Region.ready md ops listed = [] → Q .normal a w) ∧ ∀ i ∈ Region.ready md ops listed,
      wpOp P ops Q i (fun a' w' => if i = z then wpAny P md ops Q f (listed.setIfInBounds i true) a' w' else S w' ∧ Until P md ops Q S z f (listed.setIfInBounds i true) a' w') a w

theorem Until.any : ∀ (f : Nat) (listed : Array Bool) (a : Act) (w : World), Until P md ops Q S z f listed a w → wpAny P md ops Q f listed a w
  | 0, _, _, _, h => h
  | f + 1, _, _, _, h => ⟨h.1, fun i hi => wpOp_mono (fun a' w' h' => by
      by_cases e : i = z
      · rwa [if_pos e] at h'
      · rw [if_neg e] at h'; exact Until.any f _ a' w' h'.2) (h.2 i hi)⟩

/-- Each of U waits for i or for another one of U. -/
def waits (md : Region.Mode) (ops : Array Oper) (i : Nat) (U : List Nat) : Bool :=
  U.all fun u => match ops[u]? with
    | some o => o.after.any fun e => Region.binds md e && (e.on == i || U.contains e.on)
    | none => false

def unlisted (listed : Array Bool) (U : List Nat) : Prop := ∀ u ∈ U, listed.getD u true = false

theorem unlisted_dec {listed : Array Bool} {U : List Nat} (h : (U.all fun u => !(listed.getD u true)) = true) : unlisted listed U := by
  intro u hu
  have := List.all_eq_true.1 h u hu
  simpa using this

theorem getD_low {listed : Array Bool} {j : Nat} (h : listed.getD j true = false) : listed.getD j false = false := by
  rcases Nat.lt_or_ge j listed.size with h' | h'
  · simp [h'] at h ⊢; exact h
  · simp [Array.getElem?_eq_none h'] at h

theorem waits_not {i : Nat} {U : List Nat} {listed : Array Bool} (hw : waits md ops i U = true) (hi : listed.getD i true = false) (hU : unlisted listed U) : ∀ u ∈ U, u ∉ Region.ready md ops listed := by
  intro u hu hr
  obtain ⟨-, o, ho, hall⟩ := mem_ready.1 hr
  have h1 := List.all_eq_true.1 hw u hu
  rw [ho] at h1
  simp only [Array.any_eq_true', Bool.and_eq_true, Bool.or_eq_true, beq_iff_eq, List.contains_iff_mem] at h1
  obtain ⟨e, he, hb, hon⟩ := h1
  have h2 := hall e he hb
  have h3 : listed.getD e.on true = false := by
    rcases hon with hon | hon
    · rw [hon]; exact hi
    · exact hU _ hon
  rw [getD_low h3] at h2
  cases h2

theorem free_on {i j : Nat} {oi : Oper} {listed : Array Bool} (hjun : listed.getD j true = false)
    (hfree : ∀ k ok, ops[k]? = some ok → k ≠ i → listed.getD k true = false → (∀ e ∈ ok.after, Region.binds md e = true → e.on ≠ i) → oi.apart ops ok = true) :
    ∀ k ok, ops[k]? = some ok → k ≠ i → (listed.setIfInBounds j true).getD k true = false → (∀ e ∈ ok.after, Region.binds md e = true → e.on ≠ i) → oi.apart ops ok = true := by
  intro k ok hk hki hun hno
  refine hfree k ok hk hki ?_ hno
  by_cases e : j = k
  · subst e; exact hjun
  · rwa [getD_set_ne true e] at hun

theorem not_after {i j : Nat} {listed : Array Bool} (hi : listed.getD i true = false) {oj : Oper} (hall : ∀ e ∈ oj.after, Region.binds md e = true → listed.getD e.on false = true) : ∀ e ∈ oj.after, Region.binds md e = true → e.on ≠ i := by
  intro e he hb heq
  have h1 := hall e he hb
  rw [heq, getD_low hi] at h1
  cases h1

/-- What yields in every world that meets S is taken first, where number z waits for it. -/
theorem Until.first {i : Nat} {oi : Oper} {v : Value} {U : List Nat} (hi : ops[i]? = some oi) (hsel : ∀ (j : Nat) (o : Oper) cs b, ops[j]? = some o → o.op ≠ .select cs b)
    (hQ : ∀ c a w, Q (.panic c) (a.put oi.dst v) w → Q (.panic c) a w) (hw : waits md ops i U = true) (hz : z ∈ U) (hzi : i ≠ z) :
    ∀ (f : Nat) (listed : Array Bool) (a : Act) (w : World),
      (∀ k ok, ops[k]? = some ok → k ≠ i → listed.getD k true = false → (∀ e ∈ ok.after, Region.binds md e = true → e.on ≠ i) → oi.apart ops ok = true) →
      i ∈ Region.ready md ops listed → unlisted listed U → YieldsIf P ops S oi v a → S w →
      Until P md ops Q S z f (listed.setIfInBounds i true) (a.put oi.dst v) w → Until P md ops Q S z (f + 1) listed a w := by
  intro f
  induction f with
  | zero =>
    intro listed a w _ hr hU hy hS H
    refine ⟨fun h => (by rw [h] at hr; cases hr), fun j hj => ?_⟩
    by_cases hji : j = i
    · subst hji
      exact hy.wpOp hi hS (by rw [if_neg hzi]; exact ⟨hS, H⟩)
    · have := ready_mono hj hji
      rw [H.1] at this
      cases this
  | succ f ih =>
    intro listed a w hfree hr hU hy hS H
    refine ⟨fun h => (by rw [h] at hr; cases hr), fun j hj => ?_⟩
    by_cases hji : j = i
    · subst hji
      exact hy.wpOp hi hS (by rw [if_neg hzi]; exact ⟨hS, H⟩)
    · have hi0 := (mem_ready.1 hr).1
      have hno := waits_not hw hi0 hU
      have hjz : j ≠ z := fun e => hno z hz (e ▸ hj)
      obtain ⟨hjun, oj, hoj, hall⟩ := mem_ready.1 hj
      have h1 := H.2 j (ready_mono hj hji)
      simp only [if_neg hjz] at h1 ⊢
      have h2 := wpOp_putIf hoj (hfree j oj hoj hji hjun (not_after (j := j) hi0 hall)) (fun cs b => hsel i oi cs b hi) (fun cs b => hsel j oj cs b hoj) hQ hy h1
      refine wpOp_mono (fun a' w' h3 => ⟨h3.2.1, ih (listed.setIfInBounds j true) a' w' (free_on hjun hfree) (ready_mono hr (Ne.symm hji)) ?_ h3.1 h3.2.1 ?_⟩) h2
      · intro u hu
        have : j ≠ u := fun e => hno u hu (e ▸ hj)
        rw [getD_set_ne true this]
        exact hU u hu
      · rw [Array.setIfInBounds_comm _ _ hji]
        exact h3.2.2

/-- What yields in whatever world is taken first. -/
theorem Until.firstY {i : Nat} {oi : Oper} {v : Value} (hi : ops[i]? = some oi) (hsel : ∀ (j : Nat) (o : Oper) cs b, ops[j]? = some o → o.op ≠ .select cs b)
    (hQ : ∀ c a w, Q (.panic c) (a.put oi.dst v) w → Q (.panic c) a w) (hzi : i ≠ z) :
    ∀ (f : Nat) (listed : Array Bool) (a : Act) (w : World),
      (∀ k ok, ops[k]? = some ok → k ≠ i → listed.getD k true = false → (∀ e ∈ ok.after, Region.binds md e = true → e.on ≠ i) → oi.apart ops ok = true) →
      i ∈ Region.ready md ops listed → YieldsIf P ops (fun _ => True) oi v a → S w →
      Until P md ops Q S z f (listed.setIfInBounds i true) (a.put oi.dst v) w → Until P md ops Q S z (f + 1) listed a w := by
  intro f
  induction f with
  | zero =>
    intro listed a w _ hr hy hS H
    refine ⟨fun h => (by rw [h] at hr; cases hr), fun j hj => ?_⟩
    by_cases hji : j = i
    · subst hji
      exact hy.wpOp hi trivial (by rw [if_neg hzi]; exact ⟨hS, H⟩)
    · have := ready_mono hj hji
      rw [H.1] at this
      cases this
  | succ f ih =>
    intro listed a w hfree hr hy hS H
    refine ⟨fun h => (by rw [h] at hr; cases hr), fun j hj => ?_⟩
    by_cases hji : j = i
    · subst hji
      exact hy.wpOp hi trivial (by rw [if_neg hzi]; exact ⟨hS, H⟩)
    · have hi0 := (mem_ready.1 hr).1
      obtain ⟨hjun, oj, hoj, hall⟩ := mem_ready.1 hj
      have h1 := H.2 j (ready_mono hj hji)
      have h2 := wpOp_putIf hoj (hfree j oj hoj hji hjun (not_after (j := j) hi0 hall)) (fun cs b => hsel i oi cs b hi) (fun cs b => hsel j oj cs b hoj) hQ hy h1
      refine wpOp_mono (fun a' w' h3 => ?_) h2
      by_cases hjz : j = z
      · have h4 := h3.2
        rw [if_pos hjz] at h4 ⊢
        refine wpAny_first hi hsel hQ f (listed.setIfInBounds j true) a' w' (free_on hjun hfree) (ready_mono hr (Ne.symm hji)) (h3.1.imp (fun ⟨p, q⟩ => ⟨p, fun w => q w trivial⟩) id) ?_
        rw [Array.setIfInBounds_comm _ _ hji]
        exact h4
      · have h4 := h3.2
        rw [if_neg hjz] at h4 ⊢
        refine ⟨h4.1, ih (listed.setIfInBounds j true) a' w' (free_on hjun hfree) (ready_mono hr (Ne.symm hji)) h3.1 h4.1 ?_⟩
        rw [Array.setIfInBounds_comm _ _ hji]
        exact h4.2

theorem Until.take {i : Nat} {oi : Oper} {v : Value} {f : Nat} {listed : Array Bool} {a : Act} {w : World} (U : List Nat) (hi : ops[i]? = some oi)
    (hs : Region.noSelect ops = true) (hf : Region.free md ops listed i = true) (hr : (Region.ready md ops listed).contains i = true) (hw : waits md ops i U = true) (hz : U.contains z = true) (hzi : (i == z) = false)
    (hU : (U.all fun u => !(listed.getD u true)) = true)
    (hQ : ∀ c a w, Q (.panic c) (a.put oi.dst v) w → Q (.panic c) a w) (hy : YieldsIf P ops S oi v a) (hS : S w)
    (h : Until P md ops Q S z f (listed.setIfInBounds i true) (a.put oi.dst v) w) : Until P md ops Q S z (f + 1) listed a w :=
  Until.first hi (Region.noSelect_spec hs) hQ hw (by simpa using hz) (by simpa using hzi) f listed a w (Region.free_spec hi hf) (by simpa using hr) (unlisted_dec hU) hy hS h

theorem Until.takeY {i : Nat} {oi : Oper} {v : Value} {f : Nat} {listed : Array Bool} {a : Act} {w : World} (hi : ops[i]? = some oi)
    (hs : Region.noSelect ops = true) (hf : Region.free md ops listed i = true) (hr : (Region.ready md ops listed).contains i = true) (hzi : (i == z) = false)
    (hQ : ∀ c a w, Q (.panic c) (a.put oi.dst v) w → Q (.panic c) a w) (hy : YieldsIf P ops (fun _ => True) oi v a) (hS : S w)
    (h : Until P md ops Q S z f (listed.setIfInBounds i true) (a.put oi.dst v) w) : Until P md ops Q S z (f + 1) listed a w :=
  Until.firstY hi (Region.noSelect_spec hs) hQ (by simpa using hzi) f listed a w (Region.free_spec hi hf) (by simpa using hr) hy hS h

/-- One alone may come up, ahead of number z. -/
theorem Until.step {i : Nat} {o : Oper} {f : Nat} {listed : Array Bool} {a : Act} {w : World} (hr : Region.ready md ops listed = [i]) (ho : ops[i]? = some o) (hzi : (i == z) = false)
    (h : ∀ K' : Act → World → Prop, Shut (∀ a w, S w → (S w → Until P md ops Q S z f (listed.setIfInBounds i true) a w) → K' a w) → if Region.wanted o (yielded ops a.tmps) = true then Oper.wp P o a w K' Q else K' (a.put o.dst undef) w) :
    Until P md ops Q S z (f + 1) listed a w := by
  refine ⟨fun h0 => (by rw [hr] at h0; cases h0), ?_⟩
  rw [hr]
  intro j hj
  rcases List.mem_singleton.1 hj with rfl
  rw [show (fun a' w' => if j = z then wpAny P md ops Q f (listed.setIfInBounds j true) a' w' else S w' ∧ Until P md ops Q S z f (listed.setIfInBounds j true) a' w') = (fun a' w' => S w' ∧ Until P md ops Q S z f (listed.setIfInBounds j true) a' w') from by
    funext a' w'; rw [if_neg (by simpa using hzi)]]
  exact wpOp_step ho (fun K' hK => h K' (fun a w hS hW => hK a w ⟨hS, hW hS⟩))

/-- Number z comes up: from here on nothing is held. -/
theorem Until.last {o : Oper} {f : Nat} {listed : Array Bool} {a : Act} {w : World} (hr : Region.ready md ops listed = [z]) (ho : ops[z]? = some o)
    (h : ∀ K' : Act → World → Prop, Shut (∀ a w, wpAny P md ops Q f (listed.setIfInBounds z true) a w → K' a w) → if Region.wanted o (yielded ops a.tmps) = true then Oper.wp P o a w K' Q else K' (a.put o.dst undef) w) :
    Until P md ops Q S z (f + 1) listed a w := by
  refine ⟨fun h0 => (by rw [hr] at h0; cases h0), ?_⟩
  rw [hr]
  intro j hj
  rcases List.mem_singleton.1 hj with rfl
  rw [show (fun a' w' => if j = j then wpAny P md ops Q f (listed.setIfInBounds j true) a' w' else S w' ∧ Until P md ops Q S j f (listed.setIfInBounds j true) a' w') = (fun a' w' => wpAny P md ops Q f (listed.setIfInBounds j true) a' w') from by
    funext a' w'; rw [if_pos rfl]]
  exact wpOp_step ho (fun K' hK => h K' hK)

theorem wp_region_until {id : Nat} {a : Act} {w : World} (hm : P.follows .mixedOrders = true) (hS : S w.drew)
    (h : S w.drew → Until P .any ops Q S z ops.size (Array.replicate ops.size false) a w.drew) : (Code.region id ops true).wp P Q a w :=
  wp_region_any hm (Until.any _ _ _ _ (h hS))

end
end Go.Proofs.Ytfkdhambbpkmpaa
