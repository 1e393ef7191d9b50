/-
  What is wrong first with what a node holds: by the document over what was held and what is, by the code over what was lost and what is.
-/
import Derived.Test.YtfkdhambbpkmpaaGuG
namespace Go.Proofs.Ytfkdhambbpkmpaa
open Go.RowKit
set_option linter.unusedVariables false

/-- The document's look at a pair. -/
def scanR1 (L : List En) (x : En × En) : Option (ByteArray × Int) := if En.newer x.1 x.2 = true then some (x.1.k, 191) else if wrB L x.2 = false then some (x.2.k, 192) else none
def scanR (L : List En) : List (En × En) → Option (ByteArray × Int)
  | [] => none
  | x :: r => match scanR1 L x with
    | some z => some z
    | none => scanR L r
theorem scanR_snoc {L : List En} {x : En × En} : ∀ {pre : List (En × En)}, scanR L pre = none → scanR L (pre ++ [x]) = scanR1 L x
  | [], _ => by
    show (match scanR1 L x with | some z => some z | none => scanR L []) = _
    cases scanR1 L x <;> rfl
  | y :: r, h => by
    have h1 : (match scanR1 L y with | some z => some z | none => scanR L r) = none := h
    show (match scanR1 L y with | some z => some z | none => scanR L (r ++ [x])) = _
    cases hy : scanR1 L y with
    | some z => rw [hy] at h1; cases h1
    | none => rw [hy] at h1; exact scanR_snoc h1
theorem scanR_part {L : List En} {z : ByteArray × Int} {r : List (En × En)} : ∀ {pre : List (En × En)}, scanR L pre = some z → scanR L (pre ++ r) = some z
  | [], h => by cases h
  | y :: q, h => by
    have h1 : (match scanR1 L y with | some z => some z | none => scanR L q) = some z := h
    show (match scanR1 L y with | some z => some z | none => scanR L (q ++ r)) = _
    cases hy : scanR1 L y with
    | some z2 => rw [hy] at h1; exact h1
    | none => rw [hy] at h1; exact scanR_part h1
def tr (p : En × En) : En × En := if En.newer p.1 p.2 = true then p else (eZ, p.2)
theorem prs_low {y : En} {k s : List En} (h : ∀ z ∈ k, kLt y.k z.k = true) : prs k (y :: s) = (eZ, y) :: prs k s := by
  cases k with
  | nil => exact prs_right y s
  | cons z k => exact prs_gt k s (kLt_asymm (h z List.mem_cons_self)) (h z List.mem_cons_self)
theorem lkL_cons {a b c d : List En} {p : En × En} (h : prs a b = p :: prs c d) : lkL a b = (if En.newer p.1 p.2 = true then [p.1] else []) ++ lkL c d := by
  unfold lkL
  rw [h, List.filter_cons]
  split <;> rfl
theorem MapL.tail {x : En} {l : List En} (h : MapL (x :: l)) : MapL l := ⟨(rises_consE.1 h.rises).2, fun e he => h.chk e (List.mem_cons_of_mem _ he)⟩
theorem pos_of {x : En} {l : List En} (h : MapL (x :: l)) : 1 ≤ x.c ∧ 0 ≤ x.n := by
  have := chk_pos (h.chk x List.mem_cons_self)
  exact ⟨this.1, this.2.2⟩
theorem prs_lk (a b : List En) : MapL a → MapL b → prs (lkL a b) b = (prs a b).map tr := by
  induction a, b using prs.induct with
  | case1 => intro _ _; simp [lkL, prs_nil]
  | case2 x r ih =>
    intro ha hb
    have hn := (newer_z (pos_of ha)).2
    rw [lkL_cons (prs_left x r), if_pos hn, prs_left, List.map_cons, ← ih ha.tail hb]
    show prs (x :: lkL r []) [] = _
    rw [prs_left]
    unfold tr
    rw [if_pos hn]
  | case3 y s ih =>
    intro ha hb
    have hn := (newer_z (pos_of hb)).1
    have h0 := lk_sub [] s ha hb.tail
    rw [lkL_cons (prs_right y s), if_neg (by rw [hn]; simp), prs_right, List.map_cons, ← ih ha hb.tail, List.nil_append, prs_low (fun z hz => by have := h0.subset hz; cases this)]
    unfold tr
    rw [if_neg (by rw [hn]; simp)]
  | case4 x r y s h ih =>
    intro ha hb
    have hn := (newer_z (pos_of ha)).2
    rw [lkL_cons (prs_lt r s h), if_pos hn, prs_lt r s h, List.map_cons, ← ih ha.tail hb]
    show prs (x :: lkL r (y :: s)) (y :: s) = _
    rw [prs_lt _ s h]
    unfold tr
    rw [if_pos hn]
  | case5 x r y s h h' ih =>
    intro ha hb
    have hn := (newer_z (pos_of hb)).1
    have h0 := lk_sub (x :: r) s ha hb.tail
    have hp := prs_gt r s (by simpa using h) h'
    rw [lkL_cons hp, if_neg (by rw [hn]; simp), hp, List.map_cons, ← ih ha hb.tail, List.nil_append, prs_low (fun z hz => by
      rcases List.mem_cons.1 (h0.subset hz) with e | e
      · rw [e]; exact h'
      · exact kLt_trans h' ((rises_consE.1 ha.rises).1 z e))]
    unfold tr
    rw [if_neg (by rw [hn]; simp)]
  | case6 x r y s h h' ih =>
    intro ha hb
    have h0 := lk_sub r s ha.tail hb.tail
    have hk : x.k = y.k := kLt_total (by simpa using h) (by simpa using h')
    have hp := prs_eq r s (by simpa using h) (by simpa using h')
    rw [lkL_cons hp, hp, List.map_cons, ← ih ha.tail hb.tail]
    by_cases hn : En.newer x y = true
    · rw [if_pos hn]
      show prs (x :: lkL r s) (y :: s) = _
      rw [prs_eq _ s (by simpa using h) (by simpa using h')]
      unfold tr
      rw [if_pos hn]
    · rw [if_neg hn, List.nil_append, prs_low (fun z hz => by rw [← hk]; exact (rises_consE.1 ha.rises).1 z (h0.subset hz))]
      unfold tr
      rw [if_neg hn]
theorem scan_tr {L : List En} {P : List (En × En)} (h : ∀ p ∈ P, En.newer p.1 p.2 = true → ¬ p.1 = eZ) : scanP L (P.map tr) = scanR L P := by
  induction P with
  | nil => rfl
  | cons p P ih =>
    have e : scan1 L (tr p) = scanR1 L p := by
      unfold scan1 scanR1 tr
      by_cases hn : En.newer p.1 p.2 = true
      · rw [if_pos hn, if_pos hn, if_pos (enEqB_ne (h p List.mem_cons_self hn))]
      · rw [if_neg hn, if_neg hn, if_neg (by rw [enEqB_same]; simp)]
    show (match scan1 L (tr p) with | some z => some z | none => scanP L (P.map tr)) = (match scanR1 L p with | some z => some z | none => scanR L P)
    rw [e, ih (fun q hq => h q (List.mem_cons_of_mem _ hq))]
/-- Both scans find the same. -/
theorem scan_same {L a b : List En} (ha : MapL a) (hb : MapL b) : scanP L (prs (lkL a b) b) = scanR L (prs a b) := by
  rw [prs_lk a b ha hb]
  refine scan_tr (fun p hp hn e => ?_)
  rcases (mem_prs a b ha.rises hb.rises p).1 hp with ⟨h1, -, -⟩ | ⟨h1, -, -⟩ | ⟨-, h2, -⟩
  · have := (chk_pos (ha.chk _ h1)).1; rw [e] at this; exact absurd this (by decide)
  · have := (chk_pos (ha.chk _ h1)).1; rw [e] at this; exact absurd this (by decide)
  · rw [e] at hn
    have h3 := chk_pos (hb.chk _ h2)
    rw [(newer_z ⟨h3.1, h3.2.2⟩).1] at hn
    cases hn
end Go.Proofs.Ytfkdhambbpkmpaa
