/-
  Parts of frames, plain: which may be, one by one and all of them.
  Parts that may be: plain.
  Parts that may be have entries that are maps.
-/
import Derived.Test.YtoflalflacopdaaDoorBm22
import Derived.Test.YtoflalflacopdaaDoorBm11
import Derived.Test.YtoflalflacopdaaDoorBm15
namespace Go.Proofs.YtoflalflacopdaaDoor
open Go.RowKit
set_option linter.unusedVariables false
/-- A part: its kind, range, tally, and its entries with the slice that holds them. -/
structure Pm where
  kind : Int
  lo : ByteArray
  hi : ByteArray
  op : Bool
  cnt : Int
  s0 : Int
  s1 : Int
  ea : Option Addr
  el : Nat
  ec : Nat
  T : Nat → En
def Pm.rg (p : Pm) : Rg := ⟨p.lo, p.hi, p.op⟩
/-- Whether it has no fields but its own. -/
def Pm.alone (p : Pm) : Bool := if p.kind = 1 then p.el == 0 else if p.kind = 2 ∨ p.kind = 3 then p.cnt == 0 && (p.s0 == 0 && p.s1 == 0) else false
/-- What is wrong with a tally. -/
def tlChk (c a b : Int) : Int := if c < 0 ∨ 256 < c then 117 else if c = 0 ∧ ¬ (a = 0 ∧ b = 0) then 117 else 0
/-- What is wrong with the entry i of a part. -/
def itAt (r : Rg) (T : Nat → En) (i : Nat) : Int := if (T i).chk ≠ 0 then (T i).chk else if r.has (T i).k = false ∨ (0 < i ∧ kLt (T (i - 1)).k (T i).k = false) then 116 else 0
/-- What is wrong first with n entries of a part. -/
def itN (r : Rg) (T : Nat → En) : Nat → Int
  | 0 => 0
  | n + 1 => if itN r T n ≠ 0 then itN r T n else itAt r T n
/-- What is wrong with the entries of a part. -/
def Pm.its (p : Pm) : Int := if itN p.rg p.T p.el ≠ 0 then itN p.rg p.T p.el else if p.kind = 3 ∧ p.el = 0 then 116 else 0
/-- What is wrong with a part, behind a range. -/
def Pm.chk (p : Pm) (hi : ByteArray) (op : Bool) : Int :=
  if p.alone = false then 114 else if p.rg.chk ≠ 0 then p.rg.chk else if p.rg.emp = true ∨ op = true ∨ kLt p.lo hi = true then 115 else if p.kind = 1 then tlChk p.cnt p.s0 p.s1 else p.its
/-- The range ahead of the part i. -/
def ahHi (P : Nat → Pm) : Nat → ByteArray
  | 0 => ⟨#[]⟩
  | n + 1 => (P n).hi
def ahOp (P : Nat → Pm) : Nat → Bool
  | 0 => false
  | n + 1 => (P n).op
def ahLo (P : Nat → Pm) : Nat → ByteArray
  | 0 => ⟨#[]⟩
  | n + 1 => (P n).lo
def ptAt (P : Nat → Pm) (i : Nat) : Int := (P i).chk (ahHi P i) (ahOp P i)
/-- What is wrong first with n parts. -/
def ptN (P : Nat → Pm) : Nat → Int
  | 0 => 0
  | n + 1 => if ptN P n ≠ 0 then ptN P n else ptAt P n
/-- How many entries n parts have. -/
def totE (P : Nat → Pm) : Nat → Nat
  | 0 => 0
  | n + 1 => totE P n + (P n).el
/-- What is wrong with parts. -/
def psChk (P : Nat → Pm) (n : Nat) : Int := if 768 < n ∨ 256 < totE P n then 113 else ptN P n
theorem totE_mono (P : Nat → Pm) : ∀ {i n : Nat}, i ≤ n → totE P i ≤ totE P n := by
  intro i n h
  induction n with
  | zero => obtain rfl : i = 0 := by omega
            exact Nat.le_refl _
  | succ n ih =>
    rcases Nat.lt_or_ge n i with g | g
    · obtain rfl : i = n + 1 := by omega
      exact Nat.le_refl _
    · have := ih g
      simp only [totE]; omega
theorem el_totE (P : Nat → Pm) {i n : Nat} (h : i < n) : totE P i + (P i).el ≤ totE P n := totE_mono P (i := i + 1) h
section
variable {r : Rg} {T : Nat → En}
theorem itN_step {n : Nat} (h : itN r T n = 0) : itN r T (n + 1) = itAt r T n := by unfold itN; rw [if_neg (by simp [h])]
theorem itN_stay {n : Nat} (h : itN r T n ≠ 0) : ∀ m, n ≤ m → itN r T m = itN r T n := by
  intro m hm
  induction m with
  | zero => obtain rfl : n = 0 := by omega
            rfl
  | succ m ih =>
    rcases Nat.lt_or_ge m n with g | g
    · obtain rfl : n = m + 1 := by omega
      rfl
    · have := ih g
      simp only [itN]; rw [if_pos (by rw [this]; exact h), this]
theorem itN_bad {i n : Nat} (h0 : itN r T i = 0) (hi : i < n) (h : itAt r T i ≠ 0) : itN r T n = itAt r T i := by
  have h1 := itN_step h0
  rw [← h1] at h
  rw [itN_stay h n (by omega), h1]
theorem itAt_ent {i : Nat} (h : (T i).chk ≠ 0) : itAt r T i = (T i).chk := by unfold itAt; rw [if_pos h]
theorem itAt_out {i : Nat} (h : (T i).chk = 0) (h2 : r.has (T i).k = false) : itAt r T i = 116 := by unfold itAt; rw [if_neg (by simp [h]), if_pos (.inl h2)]
theorem itAt_ord {i : Nat} (h : (T i).chk = 0) (h2 : 0 < i ∧ kLt (T (i - 1)).k (T i).k = false) : itAt r T i = 116 := by unfold itAt; rw [if_neg (by simp [h]), if_pos (.inr h2)]
theorem itAt_ok {i : Nat} (h : (T i).chk = 0) (h1 : r.has (T i).k = true) (h2 : ¬ (0 < i ∧ kLt (T (i - 1)).k (T i).k = false)) : itAt r T i = 0 := by
  unfold itAt
  rw [if_neg (by simp [h]), if_neg]
  rintro (g | g)
  · rw [h1] at g; cases g
  · exact h2 g
end
section
variable {P : Nat → Pm}
theorem ptN_step {n : Nat} (h : ptN P n = 0) : ptN P (n + 1) = ptAt P n := by unfold ptN; rw [if_neg (by simp [h])]
theorem ptN_stay {n : Nat} (h : ptN P n ≠ 0) : ∀ m, n ≤ m → ptN P m = ptN P n := by
  intro m hm
  induction m with
  | zero => obtain rfl : n = 0 := by omega
            rfl
  | succ m ih =>
    rcases Nat.lt_or_ge m n with g | g
    · obtain rfl : n = m + 1 := by omega
      rfl
    · have := ih g
      simp only [ptN]; rw [if_pos (by rw [this]; exact h), this]
theorem ptN_bad {i n : Nat} (h0 : ptN P i = 0) (hi : i < n) (h : ptAt P i ≠ 0) : ptN P n = ptAt P i := by
  have h1 := ptN_step h0
  rw [← h1] at h
  rw [ptN_stay h n (by omega), h1]
end
/-- x <= y of two texts, by the order. -/
theorem leqF (x y : ByteArray) : (Op.bytesLess x.toList y.toList || x.toList == y.toList) = !kLt y x := by
  unfold kLt
  cases h1 : Op.bytesLess x.toList y.toList <;> cases h2 : Op.bytesLess y.toList x.toList
  · have e := L_total _ _ h1 h2
    simp [e]
  · have e : (x.toList == y.toList) = false := by
      rw [beq_eq_false_iff_ne]; intro e; rw [e, L_irrefl] at h2; cases h2
    simp [e]
  · simp
  · have := L_trans _ _ _ h1 h2
    rw [L_irrefl] at this
    cases this
end Go.Proofs.YtoflalflacopdaaDoor
namespace Go.Proofs.YtoflalflacopdaaDoor
open Go.RowKit
set_option linter.unusedVariables false
theorem ptN_all {P : Nat → Pm} : ∀ {n : Nat}, ptN P n = 0 → ∀ i, i < n → ptAt P i = 0 := by
  intro n
  induction n with
  | zero => intro _ i hi; omega
  | succ n ih =>
    intro h i hi
    have h0 : ptN P n = 0 := by
      by_cases g : ptN P n = 0
      · exact g
      · rw [ptN_stay g (n + 1) (by omega)] at h; exact absurd h g
    rcases Nat.lt_or_ge i n with g | g
    · exact ih h0 i g
    · obtain rfl : i = n := by omega
      rw [← ptN_step h0]; exact h
theorem itN_all {r : Rg} {T : Nat → En} : ∀ {n : Nat}, itN r T n = 0 → ∀ i, i < n → itAt r T i = 0 := by
  intro n
  induction n with
  | zero => intro _ i hi; omega
  | succ n ih =>
    intro h i hi
    have h0 : itN r T n = 0 := by
      by_cases g : itN r T n = 0
      · exact g
      · rw [itN_stay g (n + 1) (by omega)] at h; exact absurd h g
    rcases Nat.lt_or_ge i n with g | g
    · exact ih h0 i g
    · obtain rfl : i = n := by omega
      rw [← itN_step h0]; exact h
theorem itAt_zero {r : Rg} {T : Nat → En} {i : Nat} (h : itAt r T i = 0) : r.has (T i).k = true ∧ (0 < i → kLt (T (i - 1)).k (T i).k = true) := by
  unfold itAt at h
  by_cases g : (T i).chk = 0
  · rw [if_neg (by simp [g])] at h
    by_cases g2 : r.has (T i).k = false ∨ (0 < i ∧ kLt (T (i - 1)).k (T i).k = false)
    · rw [if_pos g2] at h; cases h
    · refine ⟨?_, fun hi => ?_⟩
      · cases e : r.has (T i).k
        · exact absurd (.inl e) g2
        · rfl
      · cases e : kLt (T (i - 1)).k (T i).k
        · exact absurd (.inr ⟨hi, e⟩) g2
        · rfl
  · rw [if_pos g] at h; exact absurd h g
/-- A part that may be, behind those ahead of it. -/
structure GoodP (P : Nat → Pm) (i : Nat) : Prop where
  chk : (P i).rg.chk = 0
  emp : (P i).rg.emp = false
  op : ahOp P i = false
  lo : kLt (P i).lo (ahHi P i) = false
  its : ∀ k, k < (P i).el → itAt (P i).rg (P i).T k = 0
theorem good_of {P : Nat → Pm} {i : Nat} (h : ptAt P i = 0) : GoodP P i := by
  unfold ptAt Pm.chk at h
  cases h1 : (P i).alone
  · rw [if_pos h1] at h; cases h
  · rw [if_neg (by simp [h1])] at h
    by_cases h2 : (P i).rg.chk = 0
    · rw [if_neg (by simp [h2])] at h
      by_cases h3 : (P i).rg.emp = true ∨ ahOp P i = true ∨ kLt (P i).lo (ahHi P i) = true
      · rw [if_pos h3] at h; cases h
      · rw [if_neg h3] at h
        refine ⟨h2, ?_, ?_, ?_, ?_⟩
        · cases e : (P i).rg.emp
          · rfl
          · exact absurd (.inl e) h3
        · cases e : ahOp P i
          · rfl
          · exact absurd (.inr (.inl e)) h3
        · cases e : kLt (P i).lo (ahHi P i)
          · rfl
          · exact absurd (.inr (.inr e)) h3
        · by_cases h4 : (P i).kind = 1
          · unfold Pm.alone at h1
            rw [if_pos h4] at h1
            intro k hk
            have : (P i).el = 0 := by simpa using h1
            omega
          · rw [if_neg h4] at h
            unfold Pm.its at h
            by_cases h5 : itN (P i).rg (P i).T (P i).el = 0
            · exact fun k hk => itN_all h5 k hk
            · rw [if_pos h5] at h; exact absurd h h5
    · rw [if_pos h2] at h; exact absurd h h2
theorem goods {P : Nat → Pm} {n : Nat} (h : psChk P n = 0) : n ≤ 768 ∧ totE P n ≤ 256 ∧ ∀ i, i < n → GoodP P i := by
  unfold psChk at h
  by_cases g : 768 < n ∨ 256 < totE P n
  · rw [if_pos g] at h; cases h
  · rw [if_neg g] at h
    exact ⟨by omega, by omega, fun i hi => good_of (ptN_all h i hi)⟩
end Go.Proofs.YtoflalflacopdaaDoor
namespace Go.Proofs.YtoflalflacopdaaDoor
open Go.RowKit
set_option linter.unusedVariables false
theorem good_map {P : Nat → Pm} {i : Nat} (h : GoodP P i) : MapL (firstE (P i).T (P i).el) := by
  have hc : ∀ n, n ≤ (P i).el → ckN (P i).T n = 0 := by
    intro n
    induction n with
    | zero => intro _; rfl
    | succ n ih =>
      intro hn
      have h0 := h.its n (by omega)
      have h1 := itAt_zero h0
      have h2 : ((P i).T n).chk = 0 := by
        unfold itAt at h0
        by_cases g : ((P i).T n).chk = 0
        · exact g
        · rw [if_pos g] at h0; exact absurd h0 g
      rw [ckN_step (ih (by omega)), ckAt_ok h2 (fun g => by rw [h1.2 g.1] at g; cases g.2)]
  exact (ck_map _).1 (hc _ (Nat.le_refl _))
/-- What is wrong with a part that is to be exchanged. -/
def xErr (p : Pm) : Int := if psChk (fun _ => p) 1 ≠ 0 then psChk (fun _ => p) 1 else if p.kind = 1 then 114 else 0
theorem xErr_ok {p : Pm} (h : xErr p = 0) : psChk (fun _ => p) 1 = 0 ∧ p.kind ≠ 1 ∧ MapL (firstE p.T p.el) ∧ p.el ≤ 256 ∧ p.rg.chk = 0 := by
  unfold xErr at h
  by_cases h1 : psChk (fun _ => p) 1 = 0
  · rw [if_neg (by simp [h1])] at h
    by_cases h2 : p.kind = 1
    · rw [if_pos h2] at h; cases h
    · obtain ⟨-, g2, g3⟩ := goods h1
      have g := g3 0 (by omega)
      simp only [totE] at g2
      exact ⟨h1, h2, good_map g, by omega, g.chk⟩
  · rw [if_pos h1] at h; exact absurd h h1
end Go.Proofs.YtoflalflacopdaaDoor
