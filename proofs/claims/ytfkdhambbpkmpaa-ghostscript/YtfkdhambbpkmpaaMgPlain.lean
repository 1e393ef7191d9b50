/-
  Plain mathematics of maps: which lists are maps, two of them side by side, the newest of both, what one lacks of the other.
-/
import Derived.Test.YtfkdhambbpkmpaaMgBest
import Derived.Test.YtfkdhambbpkmpaaYMRows
import Derived.Test.YtfkdhambbpkmpaaRisE
namespace Go.Proofs.Ytfkdhambbpkmpaa
open Go.RowKit
set_option linter.unusedVariables false


theorem key_one {l : List En} (h : RisesE l) {x y : En} (hx : x ∈ l) (hy : y ∈ l) (hk : x.k = y.k) : x = y := by
  induction l with
  | nil => simp at hx
  | cons z l ih =>
    unfold RisesE at h
    rw [List.pairwise_cons] at h
    rcases List.mem_cons.1 hx with e1 | hx2 <;> rcases List.mem_cons.1 hy with e2 | hy2
    · rw [e1, e2]
    · have := h.1 y hy2; rw [← e1, hk, kLt_irrefl] at this; cases this
    · have := h.1 x hx2; rw [← e2, hk, kLt_irrefl] at this; cases this
    · exact ih h.2 hx2 hy2

theorem rises_mem : ∀ {l m : List En}, RisesE l → RisesE m → (∀ x, x ∈ l ↔ x ∈ m) → l = m
  | [], [], _, _, _ => rfl
  | [], y :: m, _, _, h => by have := (h y).2 List.mem_cons_self; simp at this
  | x :: l, [], _, _, h => by have := (h x).1 List.mem_cons_self; simp at this
  | x :: l, y :: m, h1, h2, h => by
    have g1 := h1
    have g2 := h2
    unfold RisesE at h1 h2
    rw [List.pairwise_cons] at h1 h2
    have e : x = y := by
      rcases List.mem_cons.1 ((h x).1 List.mem_cons_self) with e | a
      · exact e
      · rcases List.mem_cons.1 ((h y).2 List.mem_cons_self) with e | b
        · exact e.symm
        · have := kLt_trans (h1.1 y b) (h2.1 x a)
          rw [kLt_irrefl] at this; cases this
    subst e
    rw [rises_mem (l := l) (m := m) h1.2 h2.2 (fun z => ?_)]
    constructor
    · intro hz
      rcases List.mem_cons.1 ((h z).1 (List.mem_cons_of_mem _ hz)) with rfl | a
      · have := h1.1 z hz; rw [kLt_irrefl] at this; cases this
      · exact a
    · intro hz
      rcases List.mem_cons.1 ((h z).2 (List.mem_cons_of_mem _ hz)) with rfl | a
      · have := h2.1 z hz; rw [kLt_irrefl] at this; cases this
      · exact a

/-- No entry. -/
def eZ : En := ⟨⟨#[]⟩, 0, 0, ⟨#[]⟩, false⟩

theorem chk_pos {e : En} (h : e.chk = 0) : 1 ≤ e.c ∧ e.k.size ≤ 16 ∧ 0 ≤ e.n := by
  unfold En.chk Vs.chk at h
  split at h
  · omega
  · split at h
    · omega
    · omega

/-- A list is a map. -/
structure MapL (l : List En) : Prop where
  rises : RisesE l
  chk : ∀ e ∈ l, e.chk = 0

theorem MapL.nil : MapL [] := ⟨List.Pairwise.nil, by simp⟩
theorem MapL.pos {l : List En} (h : MapL l) {e : En} (he : e ∈ l) : 1 ≤ e.c ∧ 0 ≤ e.n := ⟨(chk_pos (h.chk e he)).1, (chk_pos (h.chk e he)).2.2⟩

def firstE (T : Nat → En) (n : Nat) : List En := (List.range n).map T
theorem firstE_succ (T : Nat → En) (n : Nat) : firstE T (n + 1) = firstE T n ++ [T n] := by simp [firstE, List.range_succ]
theorem firstE_len (T : Nat → En) (n : Nat) : (firstE T n).length = n := by simp [firstE]
theorem firstE_get (T : Nat → En) {i n : Nat} (h : i < n) : (firstE T n)[i]? = some (T i) := by simp [firstE, h]
theorem firstE_nth (l : List En) : firstE (nthE l) l.length = l := by
  apply List.ext_getElem?
  intro i
  by_cases h : i < l.length
  · rw [firstE_get _ h, nthE_get h]
  · rw [List.getElem?_eq_none (by rw [firstE_len]; omega), List.getElem?_eq_none (by omega)]
theorem firstE_drop (T : Nat → En) {i n : Nat} (h : i < n) : (firstE T n).drop i = T i :: (firstE T n).drop (i + 1) := by
  have h1 := firstE_get T h
  rw [List.drop_eq_getElem_cons (by rw [firstE_len]; omega)]
  congr 1
  rw [List.getElem?_eq_getElem (by rw [firstE_len]; omega)] at h1
  injection h1
theorem firstE_end (T : Nat → En) {i n : Nat} (h : n ≤ i) : (firstE T n).drop i = [] := List.drop_eq_nil_of_le (by rw [firstE_len]; omega)

/-- What is wrong with entry i. -/
def ckAt (T : Nat → En) (i : Nat) : Int := if (T i).chk ≠ 0 then (T i).chk else if 0 < i ∧ kLt (T (i - 1)).k (T i).k = false then 90 else 0
/-- What is wrong first with n entries. -/
def ckN (T : Nat → En) : Nat → Int
  | 0 => 0
  | n + 1 => if ckN T n ≠ 0 then ckN T n else ckAt T n

theorem ckN_step {T : Nat → En} {n : Nat} (h : ckN T n = 0) : ckN T (n + 1) = ckAt T n := by unfold ckN; rw [if_neg (by simp [h])]
theorem ckN_stay {T : Nat → En} {n : Nat} (h : ckN T n ≠ 0) : ∀ m, n ≤ m → ckN T m = ckN T n := by
  intro m hm
  induction m with
  | zero => obtain rfl : n = 0 := by omega
            rfl
  | succ m ih =>
    by_cases e : n = m + 1
    · subst e; rfl
    · have := ih (by omega)
      show (if ckN T m ≠ 0 then ckN T m else ckAt T m) = _
      rw [if_pos (by rw [this]; exact h), this]
theorem ckN_bad {T : Nat → En} {i n : Nat} (h0 : ckN T i = 0) (hi : i < n) (h : ckAt T i ≠ 0) : ckN T n = ckAt T i := by
  have h1 := ckN_step h0
  rw [← h1] at h
  rw [ckN_stay h n (by omega), h1]
theorem ckAt_ent {T : Nat → En} {i : Nat} (h : (T i).chk ≠ 0) : ckAt T i = (T i).chk := by unfold ckAt; rw [if_pos h]
theorem ckAt_ord {T : Nat → En} {i : Nat} (h : (T i).chk = 0) (h2 : 0 < i ∧ kLt (T (i - 1)).k (T i).k = false) : ckAt T i = 90 := by unfold ckAt; rw [if_neg (by simp [h]), if_pos h2]
theorem ckAt_ok {T : Nat → En} {i : Nat} (h : (T i).chk = 0) (h2 : ¬ (0 < i ∧ kLt (T (i - 1)).k (T i).k = false)) : ckAt T i = 0 := by unfold ckAt; rw [if_neg (by simp [h]), if_neg h2]

theorem rises_snoc {l : List En} {x : En} : RisesE (l ++ [x]) ↔ RisesE l ∧ ∀ y ∈ l, kLt y.k x.k = true := by
  unfold RisesE
  rw [List.pairwise_append]
  simp

theorem ck_map {T : Nat → En} : ∀ n, ckN T n = 0 ↔ MapL (firstE T n)
  | 0 => ⟨fun _ => MapL.nil, fun _ => rfl⟩
  | n + 1 => by
    have ih := ck_map (T := T) n
    rw [firstE_succ]
    constructor
    · intro h
      have h0 : ckN T n = 0 := by
        apply Classical.byContradiction
        intro hn
        have := ckN_stay hn (n + 1) (by omega)
        rw [h] at this
        exact hn this.symm
      rw [ckN_step h0] at h
      have hm := ih.1 h0
      have hc : (T n).chk = 0 := by
        apply Classical.byContradiction
        intro hn
        rw [ckAt_ent hn] at h
        exact hn h
      have ho : ¬ (0 < n ∧ kLt (T (n - 1)).k (T n).k = false) := by
        intro hn
        rw [ckAt_ord hc hn] at h
        omega
      refine ⟨rises_snoc.2 ⟨hm.rises, ?_⟩, ?_⟩
      · intro y hy
        cases n with
        | zero => simp [firstE] at hy
        | succ m =>
          have hk : kLt (T m).k (T (m + 1)).k = true := by
            cases hq : kLt (T m).k (T (m + 1)).k
            · exact absurd ⟨by omega, hq⟩ ho
            · rfl
          rw [firstE_succ] at hy
          rcases List.mem_append.1 hy with hy | hy
          · have hr := hm.rises
            rw [firstE_succ] at hr
            exact kLt_trans ((rises_snoc.1 hr).2 y hy) hk
          · rw [List.mem_singleton] at hy
            subst hy
            exact hk
      · intro e he
        rcases List.mem_append.1 he with he | he
        · exact hm.chk e he
        · rw [List.mem_singleton] at he
          subst he
          exact hc
    · intro h
      have h0 : ckN T n = 0 := ih.2 ⟨(rises_snoc.1 h.rises).1, fun e he => h.chk e (List.mem_append_left _ he)⟩
      rw [ckN_step h0]
      refine ckAt_ok (h.chk _ (List.mem_append_right _ (List.mem_singleton.2 rfl))) ?_
      rintro ⟨hn, hk⟩
      have := (rises_snoc.1 h.rises).2 (T (n - 1)) (by simp only [firstE, List.mem_map, List.mem_range]; exact ⟨n - 1, by omega, rfl⟩)
      rw [hk] at this
      cases this

theorem ck_list {l : List En} : ckN (nthE l) l.length = 0 ↔ MapL l := by rw [ck_map, firstE_nth]

/-- Two maps side by side. -/
def prs : List En → List En → List (En × En)
  | [], [] => []
  | x :: r, [] => (x, eZ) :: prs r []
  | [], y :: s => (eZ, y) :: prs [] s
  | x :: r, y :: s => if kLt x.k y.k = true then (x, eZ) :: prs r (y :: s) else if kLt y.k x.k = true then (eZ, y) :: prs (x :: r) s else (x, y) :: prs r s
termination_by a b => a.length + b.length

theorem prs_nil : prs [] [] = [] := by unfold prs; rfl
theorem prs_left (x : En) (r : List En) : prs (x :: r) [] = (x, eZ) :: prs r [] := by rw [prs]
theorem prs_right (y : En) (s : List En) : prs [] (y :: s) = (eZ, y) :: prs [] s := by rw [prs]
theorem prs_lt {x y : En} (r s : List En) (h : kLt x.k y.k = true) : prs (x :: r) (y :: s) = (x, eZ) :: prs r (y :: s) := by rw [prs, if_pos h]
theorem prs_gt {x y : En} (r s : List En) (h : kLt x.k y.k = false) (h2 : kLt y.k x.k = true) : prs (x :: r) (y :: s) = (eZ, y) :: prs (x :: r) s := by rw [prs, if_neg (by simp [h]), if_pos h2]
theorem prs_eq {x y : En} (r s : List En) (h : kLt x.k y.k = false) (h2 : kLt y.k x.k = false) : prs (x :: r) (y :: s) = (x, y) :: prs r s := by rw [prs, if_neg (by simp [h]), if_neg (by simp [h2])]

theorem prs_len (a b : List En) : (prs a b).length ≤ a.length + b.length := by
  induction a, b using prs.induct with
  | case1 => simp [prs_nil]
  | case2 x r ih => rw [prs_left]; simp at *; omega
  | case3 y s ih => rw [prs_right]; simp at *; omega
  | case4 x r y s h ih => rw [prs_lt r s h]; simp at *; omega
  | case5 x r y s h h2 ih => rw [prs_gt r s (by simpa using h) h2]; simp at *; omega
  | case6 x r y s h h2 ih => rw [prs_eq r s (by simpa using h) (by simpa using h2)]; simp at *; omega

/-- What is among the pairs. -/
def InP (a b : List En) (p : En × En) : Prop :=
  (p.1 ∈ a ∧ p.2 ∈ b ∧ p.1.k = p.2.k) ∨ (p.1 ∈ a ∧ p.2 = eZ ∧ ∀ y ∈ b, y.k ≠ p.1.k) ∨ (p.1 = eZ ∧ p.2 ∈ b ∧ ∀ x ∈ a, x.k ≠ p.2.k)

theorem rises_consE {x : En} {l : List En} : RisesE (x :: l) ↔ (∀ y ∈ l, kLt x.k y.k = true) ∧ RisesE l := by unfold RisesE; exact List.pairwise_cons
theorem rises_ne {x : En} {l : List En} (h : RisesE (x :: l)) : ∀ y ∈ l, y.k ≠ x.k := fun y hy e => kLt_ne ((rises_consE.1 h).1 y hy) e.symm
theorem low_ne {x y : En} {s : List En} (h : kLt x.k y.k = true) (hs : RisesE (y :: s)) : ∀ z ∈ y :: s, z.k ≠ x.k := by
  intro z hz e
  rcases List.mem_cons.1 hz with rfl | hz
  · exact kLt_ne h e.symm
  · exact kLt_ne (kLt_trans h ((rises_consE.1 hs).1 z hz)) e.symm

theorem mem_prs (a b : List En) : RisesE a → RisesE b → ∀ p, p ∈ prs a b ↔ InP a b p := by
  induction a, b using prs.induct with
  | case1 => intro _ _ p; simp [prs_nil, InP]
  | case2 x r ih =>
    intro ha hb p
    have i := ih (rises_consE.1 ha).2 hb p
    rw [prs_left, List.mem_cons, i]
    unfold InP
    constructor
    · rintro (rfl | ⟨h1, h2, h3⟩ | ⟨h1, h2, h3⟩ | ⟨h1, h2, h3⟩)
      · exact .inr (.inl ⟨List.mem_cons_self, rfl, by simp⟩)
      · simp at h2
      · exact .inr (.inl ⟨List.mem_cons_of_mem _ h1, h2, by simp⟩)
      · simp at h2
    · rintro (⟨h1, h2, h3⟩ | ⟨h1, h2, h3⟩ | ⟨h1, h2, h3⟩)
      · simp at h2
      · rcases List.mem_cons.1 h1 with e | h1
        · exact .inl (Prod.ext e h2)
        · exact .inr (.inr (.inl ⟨h1, h2, by simp⟩))
      · simp at h2
  | case3 y s ih =>
    intro ha hb p
    have i := ih ha (rises_consE.1 hb).2 p
    rw [prs_right, List.mem_cons, i]
    unfold InP
    constructor
    · rintro (rfl | ⟨h1, h2, h3⟩ | ⟨h1, h2, h3⟩ | ⟨h1, h2, h3⟩)
      · exact .inr (.inr ⟨rfl, List.mem_cons_self, by simp⟩)
      · simp at h1
      · simp at h1
      · exact .inr (.inr ⟨h1, List.mem_cons_of_mem _ h2, by simp⟩)
    · rintro (⟨h1, h2, h3⟩ | ⟨h1, h2, h3⟩ | ⟨h1, h2, h3⟩)
      · simp at h1
      · simp at h1
      · rcases List.mem_cons.1 h2 with e | h2
        · exact .inl (Prod.ext h1 e)
        · exact .inr (.inr (.inr ⟨h1, h2, by simp⟩))
  | case4 x r y s h ih =>
    intro ha hb p
    have i := ih (rises_consE.1 ha).2 hb p
    have f := low_ne h hb
    rw [prs_lt r s h, List.mem_cons, i]
    unfold InP
    constructor
    · rintro (rfl | ⟨h1, h2, h3⟩ | ⟨h1, h2, h3⟩ | ⟨h1, h2, h3⟩)
      · exact .inr (.inl ⟨List.mem_cons_self, rfl, f⟩)
      · exact .inl ⟨List.mem_cons_of_mem _ h1, h2, h3⟩
      · exact .inr (.inl ⟨List.mem_cons_of_mem _ h1, h2, h3⟩)
      · refine .inr (.inr ⟨h1, h2, fun z hz => ?_⟩)
        rcases List.mem_cons.1 hz with rfl | hz
        · exact fun e => f _ h2 e.symm
        · exact h3 z hz
    · rintro (⟨h1, h2, h3⟩ | ⟨h1, h2, h3⟩ | ⟨h1, h2, h3⟩)
      · rcases List.mem_cons.1 h1 with e | h1
        · exact absurd (e ▸ h3.symm) (f _ h2)
        · exact .inr (.inl ⟨h1, h2, h3⟩)
      · rcases List.mem_cons.1 h1 with e | h1
        · exact .inl (Prod.ext e h2)
        · exact .inr (.inr (.inl ⟨h1, h2, h3⟩))
      · exact .inr (.inr (.inr ⟨h1, h2, fun z hz => h3 z (List.mem_cons_of_mem _ hz)⟩))
  | case5 x r y s h h' ih =>
    intro ha hb p
    have i := ih ha (rises_consE.1 hb).2 p
    have f := low_ne h' ha
    rw [prs_gt r s (by simpa using h) h', List.mem_cons, i]
    unfold InP
    constructor
    · rintro (rfl | ⟨h1, h2, h3⟩ | ⟨h1, h2, h3⟩ | ⟨h1, h2, h3⟩)
      · exact .inr (.inr ⟨rfl, List.mem_cons_self, f⟩)
      · exact .inl ⟨h1, List.mem_cons_of_mem _ h2, h3⟩
      · refine .inr (.inl ⟨h1, h2, fun z hz => ?_⟩)
        rcases List.mem_cons.1 hz with rfl | hz
        · exact fun e => f _ h1 e.symm
        · exact h3 z hz
      · exact .inr (.inr ⟨h1, List.mem_cons_of_mem _ h2, h3⟩)
    · rintro (⟨h1, h2, h3⟩ | ⟨h1, h2, h3⟩ | ⟨h1, h2, h3⟩)
      · rcases List.mem_cons.1 h2 with e | h2
        · exact absurd (e ▸ h3) (f _ h1)
        · exact .inr (.inl ⟨h1, h2, h3⟩)
      · exact .inr (.inr (.inl ⟨h1, h2, fun z hz => h3 z (List.mem_cons_of_mem _ hz)⟩))
      · rcases List.mem_cons.1 h2 with e | h2
        · exact .inl (Prod.ext h1 e)
        · exact .inr (.inr (.inr ⟨h1, h2, h3⟩))
  | case6 x r y s h h' ih =>
    intro ha hb p
    have i := ih (rises_consE.1 ha).2 (rises_consE.1 hb).2 p
    have hk : x.k = y.k := kLt_total (by simpa using h) (by simpa using h')
    have f1 := rises_ne ha
    have f2 := rises_ne hb
    rw [prs_eq r s (by simpa using h) (by simpa using h'), List.mem_cons, i]
    unfold InP
    constructor
    · rintro (rfl | ⟨h1, h2, h3⟩ | ⟨h1, h2, h3⟩ | ⟨h1, h2, h3⟩)
      · exact .inl ⟨List.mem_cons_self, List.mem_cons_self, hk⟩
      · exact .inl ⟨List.mem_cons_of_mem _ h1, List.mem_cons_of_mem _ h2, h3⟩
      · refine .inr (.inl ⟨List.mem_cons_of_mem _ h1, h2, fun z hz => ?_⟩)
        rcases List.mem_cons.1 hz with rfl | hz
        · exact fun e => f1 _ h1 (e.symm.trans hk.symm)
        · exact h3 z hz
      · refine .inr (.inr ⟨h1, List.mem_cons_of_mem _ h2, fun z hz => ?_⟩)
        rcases List.mem_cons.1 hz with rfl | hz
        · exact fun e => f2 _ h2 (e.symm.trans hk)
        · exact h3 z hz
    · rintro (⟨h1, h2, h3⟩ | ⟨h1, h2, h3⟩ | ⟨h1, h2, h3⟩)
      · rcases List.mem_cons.1 h1 with e | h1 <;> rcases List.mem_cons.1 h2 with e2 | h2
        · exact .inl (Prod.ext e e2)
        · exact absurd (h3.symm.trans ((congrArg En.k e).trans hk)) (f2 _ h2)
        · exact absurd (h3.trans ((congrArg En.k e2).trans hk.symm)) (f1 _ h1)
        · exact .inr (.inl ⟨h1, h2, h3⟩)
      · rcases List.mem_cons.1 h1 with e | h1
        · exact absurd (hk.symm.trans (congrArg En.k e).symm) (h3 y List.mem_cons_self)
        · exact .inr (.inr (.inl ⟨h1, h2, fun z hz => h3 z (List.mem_cons_of_mem _ hz)⟩))
      · rcases List.mem_cons.1 h2 with e | h2
        · exact absurd (hk.trans (congrArg En.k e).symm) (h3 x List.mem_cons_self)
        · exact .inr (.inr (.inr ⟨h1, h2, fun z hz => h3 z (List.mem_cons_of_mem _ hz)⟩))

/-- The newest of both. -/
def mxL (a b : List En) : List En := (prs a b).map (fun p => En.best p.1 p.2)
/-- Two entries' versions differ. -/
def vNe (p : En × En) : Bool := !((p.1.c == p.2.c) && (p.1.n == p.2.n))
/-- The newer ones where the two differ. -/
def dmL (a b : List En) : List En := ((prs a b).filter vNe).map (fun p => En.best p.1 p.2)
/-- The keys at which the two differ. -/
def dfL (a b : List En) : List ByteArray := (dmL a b).map En.k
/-- What b lacks of a. -/
def lkL (a b : List En) : List En := ((prs a b).filter (fun p => En.newer p.1 p.2)).map (fun p => p.1)
/-- Whether a lacks nothing of b. -/
def abL (a b : List En) : Bool := (prs a b).all (fun p => !En.newer p.2 p.1)

theorem best_pick (x y : En) : (En.best x y = y ∧ En.newer y x = true) ∨ (En.best x y = x ∧ En.newer y x = false) := by
  unfold En.best
  cases En.newer y x
  · exact .inr ⟨rfl, rfl⟩
  · exact .inl ⟨rfl, rfl⟩
theorem newer_z {x : En} (h : 1 ≤ x.c ∧ 0 ≤ x.n) : En.newer eZ x = false ∧ En.newer x eZ = true := by
  constructor
  · rw [newer_not]; simp [eZ]; omega
  · rw [newer_iff]; simp [eZ]; omega
theorem best_zr {x : En} (h : 1 ≤ x.c ∧ 0 ≤ x.n) : En.best x eZ = x := by unfold En.best; rw [(newer_z h).1]; rfl
theorem best_zl {x : En} (h : 1 ≤ x.c ∧ 0 ≤ x.n) : En.best eZ x = x := by unfold En.best; rw [(newer_z h).2]; rfl

theorem mem_mx {a b : List En} (ha : MapL a) (hb : MapL b) (x : En) : x ∈ mxL a b ↔ (x ∈ a ∧ ∀ y ∈ b, y.k = x.k → En.newer y x = false) ∨ (x ∈ b ∧ ∀ y ∈ a, y.k = x.k → En.newer x y = true) := by
  unfold mxL
  rw [List.mem_map]
  constructor
  · rintro ⟨⟨p, q⟩, hp, rfl⟩
    rw [mem_prs a b ha.rises hb.rises] at hp
    rcases hp with ⟨h1, h2, h3⟩ | ⟨h1, h2, h3⟩ | ⟨h1, h2, h3⟩ <;> dsimp only at h1 h2 h3 ⊢
    · rcases best_pick p q with ⟨e, g⟩ | ⟨e, g⟩ <;> rw [e]
      · refine .inr ⟨h2, fun y hy hk => ?_⟩
        rw [key_one ha.rises hy h1 (hk.trans h3.symm)]
        exact g
      · refine .inl ⟨h1, fun y hy hk => ?_⟩
        rw [key_one hb.rises hy h2 (hk.trans h3)]
        exact g
    · subst h2
      rw [best_zr (ha.pos h1)]
      exact .inl ⟨h1, fun y hy hk => absurd hk (h3 y hy)⟩
    · subst h1
      rw [best_zl (hb.pos h2)]
      exact .inr ⟨h2, fun y hy hk => absurd hk (h3 y hy)⟩
  · rintro (⟨h1, h2⟩ | ⟨h1, h2⟩)
    · by_cases hq : ∃ y ∈ b, y.k = x.k
      · obtain ⟨y, hy, hk⟩ := hq
        refine ⟨(x, y), (mem_prs a b ha.rises hb.rises _).2 (.inl ⟨h1, hy, hk.symm⟩), ?_⟩
        show En.best x y = x
        unfold En.best
        rw [h2 y hy hk]
        rfl
      · exact ⟨(x, eZ), (mem_prs a b ha.rises hb.rises _).2 (.inr (.inl ⟨h1, rfl, fun y hy hk => hq ⟨y, hy, hk⟩⟩)), best_zr (ha.pos h1)⟩
    · by_cases hq : ∃ y ∈ a, y.k = x.k
      · obtain ⟨y, hy, hk⟩ := hq
        refine ⟨(y, x), (mem_prs a b ha.rises hb.rises _).2 (.inl ⟨hy, h1, hk⟩), ?_⟩
        show En.best y x = x
        unfold En.best
        rw [h2 y hy hk]
        rfl
      · exact ⟨(eZ, x), (mem_prs a b ha.rises hb.rises _).2 (.inr (.inr ⟨rfl, h1, fun y hy hk => hq ⟨y, hy, hk⟩⟩)), best_zl (hb.pos h1)⟩

theorem mx_src {a b : List En} (ha : MapL a) (hb : MapL b) {x : En} (h : x ∈ mxL a b) : x ∈ a ∨ x ∈ b := by
  rcases (mem_mx ha hb x).1 h with h | h
  · exact .inl h.1
  · exact .inr h.1
theorem mapL_tail {x : En} {l : List En} (h : MapL (x :: l)) : MapL l := ⟨(rises_consE.1 h.rises).2, fun e he => h.chk e (List.mem_cons_of_mem _ he)⟩
theorem mapL_sub {l m : List En} (h : MapL m) (s : l.Sublist m) : MapL l := ⟨List.Pairwise.sublist s h.rises, fun e he => h.chk e (s.subset he)⟩

theorem mx_rises (a b : List En) : MapL a → MapL b → RisesE (mxL a b) := by
  induction a, b using prs.induct with
  | case1 => intro _ _; unfold mxL; rw [prs_nil]; exact List.Pairwise.nil
  | case2 x r ih =>
    intro ha hb
    have i := ih (mapL_tail ha) hb
    have e : mxL (x :: r) [] = x :: mxL r [] := by unfold mxL; rw [prs_left, List.map_cons, best_zr (ha.pos List.mem_cons_self)]
    rw [e, rises_consE]
    refine ⟨fun y hy => ?_, i⟩
    rcases mx_src (mapL_tail ha) hb hy with h | h
    · exact (rises_consE.1 ha.rises).1 y h
    · simp at h
  | case3 y s ih =>
    intro ha hb
    have i := ih ha (mapL_tail hb)
    have e : mxL [] (y :: s) = y :: mxL [] s := by unfold mxL; rw [prs_right, List.map_cons, best_zl (hb.pos List.mem_cons_self)]
    rw [e, rises_consE]
    refine ⟨fun z hz => ?_, i⟩
    rcases mx_src ha (mapL_tail hb) hz with h | h
    · simp at h
    · exact (rises_consE.1 hb.rises).1 z h
  | case4 x r y s h ih =>
    intro ha hb
    have i := ih (mapL_tail ha) hb
    have e : mxL (x :: r) (y :: s) = x :: mxL r (y :: s) := by unfold mxL; rw [prs_lt r s h, List.map_cons, best_zr (ha.pos List.mem_cons_self)]
    rw [e, rises_consE]
    refine ⟨fun z hz => ?_, i⟩
    rcases mx_src (mapL_tail ha) hb hz with g | g
    · exact (rises_consE.1 ha.rises).1 z g
    · rcases List.mem_cons.1 g with rfl | g
      · exact h
      · exact kLt_trans h ((rises_consE.1 hb.rises).1 z g)
  | case5 x r y s h h' ih =>
    intro ha hb
    have i := ih ha (mapL_tail hb)
    have e : mxL (x :: r) (y :: s) = y :: mxL (x :: r) s := by unfold mxL; rw [prs_gt r s (by simpa using h) h', List.map_cons, best_zl (hb.pos List.mem_cons_self)]
    rw [e, rises_consE]
    refine ⟨fun z hz => ?_, i⟩
    rcases mx_src ha (mapL_tail hb) hz with g | g
    · rcases List.mem_cons.1 g with rfl | g
      · exact h'
      · exact kLt_trans h' ((rises_consE.1 ha.rises).1 z g)
    · exact (rises_consE.1 hb.rises).1 z g
  | case6 x r y s h h' ih =>
    intro ha hb
    have i := ih (mapL_tail ha) (mapL_tail hb)
    have hk : x.k = y.k := kLt_total (by simpa using h) (by simpa using h')
    have e : mxL (x :: r) (y :: s) = En.best x y :: mxL r s := by unfold mxL; rw [prs_eq r s (by simpa using h) (by simpa using h'), List.map_cons]
    have hb' : (En.best x y).k = x.k := by
      rcases best_pick x y with ⟨e, _⟩ | ⟨e, _⟩ <;> rw [e]
      exact hk.symm
    rw [e, rises_consE]
    refine ⟨fun z hz => ?_, i⟩
    rw [hb']
    rcases mx_src (mapL_tail ha) (mapL_tail hb) hz with g | g
    · exact (rises_consE.1 ha.rises).1 z g
    · rw [hk]; exact (rises_consE.1 hb.rises).1 z g

theorem mx_map {a b : List En} (ha : MapL a) (hb : MapL b) : MapL (mxL a b) :=
  ⟨mx_rises a b ha hb, fun e he => by rcases mx_src ha hb he with h | h; exact ha.chk e h; exact hb.chk e h⟩
theorem mx_len (a b : List En) : (mxL a b).length ≤ a.length + b.length := by unfold mxL; rw [List.length_map]; exact prs_len a b

theorem lk_sub (a b : List En) : MapL a → MapL b → (lkL a b).Sublist a := by
  induction a, b using prs.induct with
  | case1 => intro _ _; unfold lkL; rw [prs_nil]; exact List.Sublist.refl _
  | case2 x r ih =>
    intro ha hb
    have e : lkL (x :: r) [] = x :: lkL r [] := by unfold lkL; rw [prs_left, List.filter_cons_of_pos (by exact (newer_z (ha.pos List.mem_cons_self)).2), List.map_cons]
    rw [e]
    exact (ih (mapL_tail ha) hb).cons_cons x
  | case3 y s ih =>
    intro ha hb
    have e : lkL [] (y :: s) = lkL [] s := by unfold lkL; rw [prs_right, List.filter_cons_of_neg (by simp [(newer_z (hb.pos List.mem_cons_self)).1])]
    rw [e]
    exact ih ha (mapL_tail hb)
  | case4 x r y s h ih =>
    intro ha hb
    have e : lkL (x :: r) (y :: s) = x :: lkL r (y :: s) := by unfold lkL; rw [prs_lt r s h, List.filter_cons_of_pos (by exact (newer_z (ha.pos List.mem_cons_self)).2), List.map_cons]
    rw [e]
    exact (ih (mapL_tail ha) hb).cons_cons x
  | case5 x r y s h h' ih =>
    intro ha hb
    have e : lkL (x :: r) (y :: s) = lkL (x :: r) s := by unfold lkL; rw [prs_gt r s (by simpa using h) h', List.filter_cons_of_neg (by simp [(newer_z (hb.pos List.mem_cons_self)).1])]
    rw [e]
    exact ih ha (mapL_tail hb)
  | case6 x r y s h h' ih =>
    intro ha hb
    have i := ih (mapL_tail ha) (mapL_tail hb)
    cases hq : En.newer x y
    · have e : lkL (x :: r) (y :: s) = lkL r s := by unfold lkL; rw [prs_eq r s (by simpa using h) (by simpa using h'), List.filter_cons_of_neg (by simp [hq])]
      rw [e]
      exact i.cons x
    · have e : lkL (x :: r) (y :: s) = x :: lkL r s := by unfold lkL; rw [prs_eq r s (by simpa using h) (by simpa using h'), List.filter_cons_of_pos (by simp [hq]), List.map_cons]
      rw [e]
      exact i.cons_cons x

theorem lk_map {a b : List En} (ha : MapL a) (hb : MapL b) : MapL (lkL a b) := mapL_sub ha (lk_sub a b ha hb)
theorem mem_lk {a b : List En} (ha : MapL a) (hb : MapL b) (x : En) : x ∈ lkL a b ↔ x ∈ a ∧ ∀ y ∈ b, y.k = x.k → En.newer x y = true := by
  unfold lkL
  rw [List.mem_map]
  constructor
  · rintro ⟨⟨p, q⟩, hp, rfl⟩
    rw [List.mem_filter, mem_prs a b ha.rises hb.rises] at hp
    obtain ⟨hp, hn⟩ := hp
    rcases hp with ⟨h1, h2, h3⟩ | ⟨h1, h2, h3⟩ | ⟨h1, h2, h3⟩ <;> dsimp only at h1 h2 h3 hn ⊢
    · refine ⟨h1, fun y hy hk => ?_⟩
      rw [key_one hb.rises hy h2 (hk.trans h3)]
      exact hn
    · exact ⟨h1, fun y hy hk => absurd hk (h3 y hy)⟩
    · subst h1
      rw [(newer_z (hb.pos h2)).1] at hn
      cases hn
  · rintro ⟨h1, h2⟩
    by_cases hq : ∃ y ∈ b, y.k = x.k
    · obtain ⟨y, hy, hk⟩ := hq
      exact ⟨(x, y), List.mem_filter.2 ⟨(mem_prs a b ha.rises hb.rises _).2 (.inl ⟨h1, hy, hk.symm⟩), h2 y hy hk⟩, rfl⟩
    · exact ⟨(x, eZ), List.mem_filter.2 ⟨(mem_prs a b ha.rises hb.rises _).2 (.inr (.inl ⟨h1, rfl, fun y hy hk => hq ⟨y, hy, hk⟩⟩)), (newer_z (ha.pos h1)).2⟩, rfl⟩

theorem ab_iff {a b : List En} (ha : MapL a) (hb : MapL b) : abL a b = true ↔ ∀ y ∈ b, ∃ x ∈ a, x.k = y.k ∧ En.newer y x = false := by
  unfold abL
  rw [List.all_eq_true]
  constructor
  · intro h y hy
    by_cases hq : ∃ x ∈ a, x.k = y.k
    · obtain ⟨x, hx, hk⟩ := hq
      have := h (x, y) ((mem_prs a b ha.rises hb.rises _).2 (.inl ⟨hx, hy, hk⟩))
      exact ⟨x, hx, hk, by simpa using this⟩
    · have := h (eZ, y) ((mem_prs a b ha.rises hb.rises _).2 (.inr (.inr ⟨rfl, hy, fun x hx hk => hq ⟨x, hx, hk⟩⟩)))
      simp [(newer_z (hb.pos hy)).2] at this
  · rintro h ⟨p, q⟩ hp
    rw [mem_prs a b ha.rises hb.rises] at hp
    rcases hp with ⟨h1, h2, h3⟩ | ⟨h1, h2, h3⟩ | ⟨h1, h2, h3⟩ <;> dsimp only at h1 h2 h3 ⊢
    · obtain ⟨x, hx, hk, hn⟩ := h q h2
      rw [← key_one ha.rises hx h1 (hk.trans h3.symm), hn]
      rfl
    · subst h2
      rw [(newer_z (ha.pos h1)).1]
      rfl
    · obtain ⟨x, hx, hk, hn⟩ := h q h2
      exact absurd hk (h3 x hx)

/-- No two entries of one key and one version are unlike. -/
def CleanL (a b : List En) : Prop := ∀ x ∈ a, ∀ y ∈ b, x.k = y.k → x.c = y.c → x.n = y.n → x = y
theorem CleanL.symm {a b : List En} (h : CleanL a b) : CleanL b a := fun x hx y hy hk hc hn => (h y hy x hx hk.symm hc.symm hn.symm).symm
theorem CleanL.self {a : List En} (h : MapL a) : CleanL a a := fun x hx y hy hk _ _ => key_one h.rises hx hy hk

/-- The newest of what P says. -/
structure Nws (P : En → Prop) (l : List En) : Prop where
  map : MapL l
  src : ∀ y ∈ l, P y
  best : ∀ e, P e → ∃ y ∈ l, y.k = e.k ∧ En.newer e y = false

theorem Nws.one {P : En → Prop} {l m : List En} (h : Nws P l) (h' : Nws P m) (ho : ∀ x y, P x → P y → x.k = y.k → x.c = y.c → x.n = y.n → x = y) : l = m := by
  have one : ∀ {A B : List En}, Nws P A → Nws P B → ∀ x ∈ A, x ∈ B := by
    intro A B hA hB x hx
    obtain ⟨y, hy, hk, hn⟩ := hB.best x (hA.src x hx)
    obtain ⟨z, hz, hk2, hn2⟩ := hA.best y (hB.src y hy)
    obtain rfl := key_one hA.map.rises hz hx (hk2.trans hk)
    rw [newer_not] at hn hn2
    rw [ho z y (hA.src z hz) (hB.src y hy) hk2 (by omega) (by omega)]
    exact hy
  exact rises_mem h.map.rises h'.map.rises (fun x => ⟨one h h' x, one h' h x⟩)
theorem Nws.of {P P' : En → Prop} {l : List En} (h : Nws P l) (e : ∀ x, P x ↔ P' x) : Nws P' l := by
  have : P = P' := funext fun x => propext (e x)
  subst this
  exact h
theorem newer_self (x : En) : En.newer x x = false := by rw [newer_not]; omega
theorem Nws.list {l : List En} (h : MapL l) : Nws (fun x => x ∈ l) l := ⟨h, fun y hy => hy, fun e he => ⟨e, he, rfl, newer_self e⟩⟩
theorem newer_tr {x y z : En} (h : En.newer x y = false) (k : En.newer y z = false) : En.newer x z = false := by
  rw [newer_not] at *; omega
theorem newer_tot {x y : En} (h : En.newer x y = true) : En.newer y x = false := by
  rw [newer_iff] at h; rw [newer_not]; omega
theorem Nws.max {P Q : En → Prop} {a b : List En} (ha : Nws P a) (hb : Nws Q b) : Nws (fun x => P x ∨ Q x) (mxL a b) := by
  have up : ∀ e, (∃ y ∈ a, y.k = e.k ∧ En.newer e y = false) ∨ (∃ y ∈ b, y.k = e.k ∧ En.newer e y = false) → ∃ y ∈ mxL a b, y.k = e.k ∧ En.newer e y = false := by
    rintro e (⟨y, hy, hk, hn⟩ | ⟨y, hy, hk, hn⟩)
    · by_cases hq : ∃ z ∈ b, z.k = y.k ∧ En.newer z y = true
      · obtain ⟨z, hz, hzk, hzn⟩ := hq
        refine ⟨z, (mem_mx ha.map hb.map z).2 (.inr ⟨hz, fun u hu huk => ?_⟩), hzk.trans hk, newer_tr hn (newer_tot hzn)⟩
        rw [key_one ha.map.rises hu hy (huk.trans hzk)]
        exact hzn
      · refine ⟨y, (mem_mx ha.map hb.map y).2 (.inl ⟨hy, fun u hu huk => ?_⟩), hk, hn⟩
        cases hw : En.newer u y
        · rfl
        · exact absurd ⟨u, hu, huk, hw⟩ hq
    · by_cases hq : ∃ z ∈ a, z.k = y.k ∧ En.newer y z = false
      · obtain ⟨z, hz, hzk, hzn⟩ := hq
        refine ⟨z, (mem_mx ha.map hb.map z).2 (.inl ⟨hz, fun u hu huk => ?_⟩), hzk.trans hk, newer_tr hn hzn⟩
        rw [key_one hb.map.rises hu hy (huk.trans hzk)]
        exact hzn
      · refine ⟨y, (mem_mx ha.map hb.map y).2 (.inr ⟨hy, fun u hu huk => ?_⟩), hk, hn⟩
        cases hw : En.newer y u
        · exact absurd ⟨u, hu, huk, hw⟩ hq
        · rfl
  refine ⟨mx_map ha.map hb.map, fun y hy => ?_, ?_⟩
  · rcases mx_src ha.map hb.map hy with h | h
    · exact .inl (ha.src y h)
    · exact .inr (hb.src y h)
  · rintro e (he | he)
    · exact up e (.inl (ha.best e he))
    · exact up e (.inr (hb.best e he))

end Go.Proofs.Ytfkdhambbpkmpaa
