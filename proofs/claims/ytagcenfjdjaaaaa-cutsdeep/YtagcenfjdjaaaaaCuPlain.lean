/-
  Plain mathematics of splits: how deep they go, how many keys are left behind them, where parts begin.
-/
import Derived.Test.YtagcenfjdjaaaaaBytes1
namespace Go.Proofs.Ytagcenfjdjaaaaa
open Go.RowKit
set_option linter.unusedVariables false

/-- The least k such that b^k is at least 256. -/
def dep (b : Nat) : Nat := if b = 2 then 8 else if b = 3 then 6 else if b ≤ 6 then 4 else if b ≤ 15 then 3 else 2

theorem dep_le (b : Nat) : dep b ≤ 8 := by
  unfold dep
  split
  · omega
  · split
    · omega
    · split
      · omega
      · split <;> omega

theorem dep_top {b : Nat} (h1 : 2 ≤ b) (h2 : b ≤ 16) : 256 ≤ b ^ dep b := by
  have h : ∀ b : Fin 17, 2 ≤ b.1 → 256 ≤ b.1 ^ dep b.1 := by decide
  exact h ⟨b, by omega⟩ h1

theorem dep_low {b q : Nat} (h1 : 2 ≤ b) (h2 : b ≤ 16) (hq : q < dep b) : b ^ q < 256 := by
  have h : ∀ b : Fin 17, ∀ q : Fin 9, 2 ≤ b.1 → q.1 < dep b.1 → b.1 ^ q.1 < 256 := by decide
  exact h ⟨b, by omega⟩ ⟨q, by have := dep_le b; omega⟩ h1 hq

theorem dep_lt {b q : Nat} (h1 : 2 ≤ b) (h2 : b ≤ 16) : b ^ q < 256 ↔ q < dep b := by
  constructor
  · intro h
    refine Nat.lt_of_not_le fun h3 => ?_
    have h4 : b ^ dep b ≤ b ^ q := Nat.pow_le_pow_right (by omega) h3
    have := dep_top h1 h2
    omega
  · exact dep_low h1 h2

/-- The least whole number that is at least n / b. -/
def cdiv (n b : Nat) : Nat := (n + b - 1) / b

theorem cdiv_pos {n b : Nat} (hn : 0 < n) (hb : 0 < b) : cdiv n b = (n - 1) / b + 1 := by
  unfold cdiv
  rw [show n + b - 1 = (n - 1) + b from by omega, Nat.add_div_right _ hb]

theorem cdiv_zero {b : Nat} (hb : 0 < b) : cdiv 0 b = 0 := by
  unfold cdiv
  exact Nat.div_eq_of_lt (by omega)

theorem cdiv_cdiv (n : Nat) {a b : Nat} (ha : 0 < a) (hb : 0 < b) : cdiv (cdiv n a) b = cdiv n (a * b) := by
  have hab := Nat.mul_pos ha hb
  by_cases hn : n = 0
  · subst hn
    rw [cdiv_zero ha, cdiv_zero hb, cdiv_zero hab]
  · rw [cdiv_pos (n := n) (by omega) ha, cdiv_pos (Nat.succ_pos _) hb, cdiv_pos (by omega) hab, Nat.succ_sub_one, Nat.div_div_eq_div_mul]

theorem cdiv_one (n : Nat) : cdiv n 1 = n := by unfold cdiv; rw [Nat.div_one]; omega

theorem cdiv_le {n b : Nat} (hb : 0 < b) : cdiv n b ≤ n := by
  by_cases hn : n = 0
  · subst hn; rw [cdiv_zero hb]; omega
  · rw [cdiv_pos (by omega) hb]
    have := Nat.div_le_self (n - 1) b
    omega

theorem cdiv_big {n b : Nat} (hb : 0 < b) (h : n ≤ b) : cdiv n b = if n = 0 then 0 else 1 := by
  by_cases hn : n = 0
  · subst hn; rw [cdiv_zero hb]; rfl
  · rw [cdiv_pos (by omega) hb, if_neg hn, Nat.div_eq_of_lt (by omega)]

/-- How many of n keys are left at most behind k splits. -/
def lst (b : Nat) : Nat → Nat → Nat
  | 0, n => n
  | k + 1, n => cdiv (lst b k n) b

theorem lst_pow {b : Nat} (hb : 0 < b) (n : Nat) : ∀ k, lst b k n = cdiv n (b ^ k)
  | 0 => by rw [Nat.pow_zero, cdiv_one]; rfl
  | k + 1 => by
    show cdiv (lst b k n) b = _
    rw [lst_pow hb n k, cdiv_cdiv n (Nat.pow_pos hb) hb, Nat.pow_succ]

theorem lst_le {b : Nat} (hb : 0 < b) (n k : Nat) : lst b k n ≤ n := by
  rw [lst_pow hb]; exact cdiv_le (Nat.pow_pos hb)

theorem lst_far {b : Nat} (hb : 0 < b) {n j s : Nat} (hjs : j ≤ s) (h : j = s ∨ n ≤ b ^ j) : cdiv n (b ^ j) = lst b s n := by
  rcases h with rfl | h
  · rw [lst_pow hb]
  · rw [lst_pow hb, cdiv_big (Nat.pow_pos hb) h, cdiv_big (Nat.pow_pos hb) (Nat.le_trans h (Nat.pow_le_pow_right hb hjs))]

theorem lst_dep {b n : Nat} (h1 : 2 ≤ b) (h2 : b ≤ 16) (hn : n ≤ 256) : lst b (dep b) n ≤ 1 := by
  rw [lst_pow (by omega), cdiv_big (Nat.pow_pos (by omega)) (Nat.le_trans hn (dep_top h1 h2))]
  split <;> omega

/-- Where part j of p parts of n things begins. -/
def stt (n p j : Nat) : Nat := j * n / p

theorem stt_zero (n p : Nat) : stt n p 0 = 0 := by unfold stt; rw [Nat.zero_mul, Nat.zero_div]
theorem stt_end (n : Nat) {p : Nat} (hp : 0 < p) : stt n p p = n := by unfold stt; rw [Nat.mul_div_cancel_left _ hp]
theorem stt_step (n : Nat) {p : Nat} (hp : 0 < p) (j : Nat) : stt n p j + n / p ≤ stt n p (j + 1) ∧ stt n p (j + 1) ≤ stt n p j + n / p + 1 := by
  unfold stt
  rw [Nat.add_mul, Nat.one_mul]
  generalize j * n = a
  constructor
  · rw [Nat.le_div_iff_mul_le hp, Nat.add_mul]
    have h1 := Nat.div_mul_le_self a p
    have h2 := Nat.div_mul_le_self n p
    omega
  · rw [← Nat.lt_succ_iff, Nat.div_lt_iff_lt_mul hp]
    have h1 := Nat.lt_div_mul_add (a := a) hp
    have h2 := Nat.lt_div_mul_add (a := n) hp
    have h3 : (a / p + n / p + 1).succ * p = a / p * p + n / p * p + p + p := by
      rw [Nat.succ_mul, Nat.add_mul, Nat.add_mul, Nat.one_mul]
    omega

theorem stt_le {n p j : Nat} (hp : 0 < p) (hj : j ≤ p) : stt n p j ≤ n := by
  unfold stt
  exact Nat.div_le_of_le_mul (Nat.mul_le_mul_right n hj)

theorem stt_lt {n p j : Nat} (hn : 0 < n) (hp : 0 < p) (hj : j < p) : stt n p j < n := by
  unfold stt
  rw [Nat.div_lt_iff_lt_mul hp, Nat.mul_comm n p]
  exact Nat.mul_lt_mul_of_pos_right hj hn

theorem div_pos' {n p : Nat} (hp : 0 < p) (h : p ≤ n) : 1 ≤ n / p := (Nat.le_div_iff_mul_le hp).2 (by omega)

theorem stt_cdiv (n : Nat) {p : Nat} (hp : 0 < p) (j : Nat) : stt n p (j + 1) ≤ stt n p j + cdiv n p := by
  unfold stt cdiv
  rw [Nat.add_mul, Nat.one_mul]
  generalize j * n = a
  rw [← Nat.lt_succ_iff, Nat.div_lt_iff_lt_mul hp]
  have h1 := Nat.lt_div_mul_add (a := a) hp
  have h2 := Nat.lt_div_mul_add (a := n + p - 1) hp
  have h3 : (a / p + (n + p - 1) / p).succ * p = a / p * p + (n + p - 1) / p * p + p := by
    rw [Nat.succ_mul, Nat.add_mul]
  omega

end Go.Proofs.Ytagcenfjdjaaaaa
