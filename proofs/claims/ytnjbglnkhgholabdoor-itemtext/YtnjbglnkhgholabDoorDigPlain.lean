/-
  Numerals as plain lists of bytes: which are in their one form, what they are worth, what the library's parser makes of them; no model in it.
-/
import Derived.Lib.AtoiAll
import Derived.Lib.ItoaNum
namespace Go.Proofs.YtnjbglnkhgholabDoor
set_option linter.unusedVariables false

def isDig (c : UInt8) : Prop := 48 ≤ c.toNat ∧ c.toNat ≤ 57
instance (c : UInt8) : Decidable (isDig c) := inferInstanceAs (Decidable (_ ∧ _))
def allDig (l : List UInt8) : Prop := ∀ c ∈ l, isDig c
instance (l : List UInt8) : Decidable (allDig l) := inferInstanceAs (Decidable (∀ c ∈ l, isDig c))
/-- What digits are worth, behind those that came to acc. -/
def valD (acc : Nat) : List UInt8 → Nat
  | [] => acc
  | c :: r => valD (acc * 10 + (c.toNat - 48)) r
/-- A numeral in its one form. -/
def isNum (l : List UInt8) : Prop := allDig l ∧ (l = [48] ∨ (l ≠ [] ∧ l.head? ≠ some 48))
instance (l : List UInt8) : Decidable (isNum l) := inferInstanceAs (Decidable (_ ∧ _))
/-- What a text is as a number: the number and the error. -/
def parseP (l : List UInt8) (most : Int) : Int × Int :=
  if isNum l then (if 9223372036854775808 ≤ valD 0 l ∨ most < (valD 0 l : Int) then (0, 12) else ((valD 0 l : Int), 0)) else (0, 23)

theorem valD_le : ∀ (l : List UInt8) (acc : Nat), acc ≤ valD acc l
  | [], acc => Nat.le_refl _
  | c :: r, acc => Nat.le_trans (by omega) (valD_le r _)

theorem valD_snoc : ∀ (l : List UInt8) (acc : Nat) (c : UInt8), valD acc (l ++ [c]) = valD acc l * 10 + (c.toNat - 48)
  | [], acc, c => rfl
  | d :: r, acc, c => valD_snoc r _ c

theorem parseUint10_dig (l : List UInt8) : ∀ acc : Nat, allDig l → Lib.parseUint10 acc l = if valD acc l < 18446744073709551616 ∨ l = [] then .ok (valD acc l) else .range := by
  induction l with
  | nil => intro acc _; rw [if_pos (Or.inr rfl)]; rfl
  | cons c r ih =>
    intro acc h
    have hc : 48 ≤ c.toNat ∧ c.toNat ≤ 57 := h c (by simp)
    have hr : allDig r := fun d hd => h d (by simp [hd])
    have e : valD acc (c :: r) = valD (acc * 10 + (c.toNat - 48)) r := rfl
    have hge : acc * 10 + (c.toNat - 48) ≤ valD (acc * 10 + (c.toNat - 48)) r := valD_le r _
    rw [Lib.parseUint10, if_pos hc, e, ih _ hr]
    simp only [List.cons_ne_nil, or_false]
    generalize hv : valD (acc * 10 + (c.toNat - 48)) r = v at hge ⊢
    by_cases h1 : 1844674407370955162 ≤ acc
    · rw [if_pos h1, if_neg (by omega)]
    · rw [if_neg h1]
      by_cases h2 : 18446744073709551616 ≤ acc * 10 + (c.toNat - 48)
      · rw [if_pos h2, if_neg (by omega)]
      · rw [if_neg h2]
        by_cases hr0 : r = []
        · subst hr0
          have hv' : acc * 10 + (c.toNat - 48) = v := hv
          rw [if_pos (Or.inr rfl), if_pos (by omega)]
        · simp only [hr0, or_false]

/-- The library's parser behind what it makes of the digits. -/
def endOf : Lib.NumEnd Nat → Lib.NumEnd Int
  | .ok u => if 9223372036854775808 ≤ u then .range else .ok (u : Int)
  | .syntax => .syntax
  | .range => .range
theorem atoi_of (c : UInt8) (r : List UInt8) (hc : isDig c) (e : Lib.NumEnd Nat) (hp : Lib.parseUint10 0 (c :: r) = e) :
    Lib.atoiAll (c :: r) = endOf e := by
  have h1 : 48 ≤ c.toNat := hc.1
  have hn : ¬ (c.toNat = 43 ∨ c.toNat = 45) := by omega
  have hm : ¬ (c.toNat = 45) := by omega
  simp only [Lib.atoiAll, Lib.parseMag]
  rw [if_neg hn, if_neg (List.cons_ne_nil c r), hp]
  cases e with
  | ok u =>
    simp only [endOf, hm, not_false_eq_true, true_and, false_and, if_false]
  | «syntax» => rfl
  | range => rfl

theorem num_cons {l : List UInt8} (h : isNum l) : ∃ c r, l = c :: r ∧ isDig c := by
  obtain ⟨hd, hf⟩ := h
  cases l with
  | nil => rcases hf with hf | hf
           · cases hf
           · exact absurd rfl hf.1
  | cons c r => exact ⟨c, r, rfl, hd c (by simp)⟩

theorem atoi_ok {l : List UInt8} (h : isNum l) (hv : valD 0 l < 9223372036854775808) : Lib.atoiAll l = .ok (valD 0 l : Int) := by
  obtain ⟨c, r, rfl, hc⟩ := num_cons h
  have hp := parseUint10_dig (c :: r) 0 h.1
  generalize valD 0 (c :: r) = v at hv hp ⊢
  rw [if_pos (Or.inl (by omega))] at hp
  rw [atoi_of c r hc _ hp]
  exact if_neg (by omega)

theorem atoi_range {l : List UInt8} (h : isNum l) (hv : ¬ valD 0 l < 9223372036854775808) : Lib.atoiAll l = .range := by
  obtain ⟨c, r, rfl, hc⟩ := num_cons h
  have hp := parseUint10_dig (c :: r) 0 h.1
  generalize valD 0 (c :: r) = v at hv hp
  by_cases h2 : v < 18446744073709551616
  · rw [if_pos (Or.inl h2)] at hp
    rw [atoi_of c r hc _ hp]
    exact if_pos (by omega)
  · rw [if_neg (fun x => x.elim h2 (List.cons_ne_nil c r))] at hp
    exact atoi_of c r hc _ hp

theorem dig_of (u : Nat) (h : u < 10) : (UInt8.ofNat (48 + u)).toNat = 48 + u := by
  rw [UInt8.toNat_ofNat', Nat.mod_eq_of_lt (by omega)]

theorem dec_big {u : Nat} (h : ¬ u < 10) : Lib.decDigits u = Lib.decDigits (u / 10) ++ [UInt8.ofNat (48 + u % 10)] := by rw [Lib.decDigits, dif_neg h]

theorem val_one (c : UInt8) : valD 0 [c] = c.toNat - 48 := by
  have e : valD 0 [c] = 0 * 10 + (c.toNat - 48) := rfl
  rw [e]
  omega

theorem dec_val (u : Nat) : valD 0 (Lib.decDigits u) = u := by
  induction u using Nat.strongRecOn with
  | _ u ih =>
    by_cases h : u < 10
    · rw [Lib.decDigits_one h, val_one, dig_of u h]
      omega
    · rw [dec_big h, valD_snoc, ih (u / 10) (by omega), dig_of (u % 10) (by omega)]
      omega

theorem dec_dig (u : Nat) : allDig (Lib.decDigits u) := by
  induction u using Nat.strongRecOn with
  | _ u ih =>
    by_cases h : u < 10
    · rw [Lib.decDigits_one h]
      intro c hc
      simp only [List.mem_singleton] at hc
      subst hc
      simp only [isDig, dig_of u h]
      omega
    · rw [dec_big h]
      intro c hc
      rcases List.mem_append.1 hc with hc | hc
      · exact ih (u / 10) (by omega) c hc
      · simp only [List.mem_singleton] at hc
        subst hc
        simp only [isDig, dig_of (u % 10) (by omega)]
        omega

theorem dec_head (u : Nat) (hu : u ≠ 0) : Lib.decDigits u ≠ [] ∧ (Lib.decDigits u).head? ≠ some 48 := by
  induction u using Nat.strongRecOn with
  | _ u ih =>
    by_cases h : u < 10
    · rw [Lib.decDigits_one h]
      refine ⟨by simp, ?_⟩
      intro e
      simp only [List.head?_cons, Option.some.injEq] at e
      have := congrArg UInt8.toNat e
      rw [dig_of u h] at this
      have h48 : (48 : UInt8).toNat = 48 := rfl
      omega
    · rw [dec_big h]
      obtain ⟨h1, h2⟩ := ih (u / 10) (by omega) (by omega)
      refine ⟨by simp, ?_⟩
      rw [List.head?_append]
      cases hh : (Lib.decDigits (u / 10)).head? with
      | none => exact absurd (List.head?_eq_none_iff.1 hh) h1
      | some c => rw [hh] at h2; simpa using h2

theorem dec_num (u : Nat) : isNum (Lib.decDigits u) := by
  refine ⟨dec_dig u, ?_⟩
  by_cases h : u = 0
  · subst h
    left
    exact Lib.decDigits_one (by omega)
  · exact .inr (dec_head u h)

theorem dec_parse (u : Nat) (h : u < 9223372036854775808) : parseP (Lib.decDigits u) 9223372036854775807 = ((u : Int), 0) := by
  unfold parseP
  rw [if_pos (dec_num u), dec_val, if_neg (by omega)]

theorem dec_len (u : Nat) (h : u < 9223372036854775808) : (Lib.decDigits u).length ≤ 64 := by
  rw [Lib.decDigits_length]
  have h1 : ∀ (k u : Nat), u < 10 ^ k → 1 ≤ k → Lib.nDigits u ≤ k := by
    intro k
    induction k with
    | zero => intro u _ h; omega
    | succ k ih =>
      intro u hu _
      by_cases h10 : u < 10
      · rw [Lib.nDigits_small h10]; omega
      · rw [Lib.nDigits_big h10]
        by_cases hk : k = 0
        · subst hk; omega
        · have := ih (u / 10) (by rw [Nat.pow_succ] at hu; omega) (by omega)
          omega
  have := h1 19 u (by omega) (by omega)
  omega

end Go.Proofs.YtnjbglnkhgholabDoor
