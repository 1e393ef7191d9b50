/-
  Plain mathematics of numbers as bytes: how a number is laid down (enc), how the number that a row of bytes begins with is read (dec), and that each undoes the other.
-/
namespace Go.Proofs.Ytnjbglnkhgholaa.Nm

/-- A number laid down: seven bits a byte, the lowest first, 128 more in each but the last. -/
def enc : Nat → Nat → List UInt8
  | 0, n => [UInt8.ofNat n]
  | f + 1, n => if n < 128 then [UInt8.ofNat n] else UInt8.ofNat (n % 128 + 128) :: enc f (n / 128)

/-- The number that bytes begin with: it, how many bytes it has, what is wrong (10: too short, 11: no such form). -/
def dec : Nat → List UInt8 → Nat × Nat × Nat
  | _, [] => (0, 0, 10)
  | 0, c :: _ => if c.toNat < 128 then (c.toNat, 1, 0) else (0, 0, 11)
  | f + 1, c :: r => if c.toNat < 128 then (c.toNat, 1, 0) else
      if (dec f r).2.2 ≠ 0 then (0, 0, (dec f r).2.2) else if (dec f r).1 = 0 then (0, 0, 11) else (c.toNat - 128 + 128 * (dec f r).1, (dec f r).2.1 + 1, 0)

/-- What was read so far (acc, of j bytes), and what the rest comes to. -/
def cmb (acc j : Nat) (r : Nat × Nat × Nat) : Nat × Nat × Nat :=
  if r.2.2 ≠ 0 then (0, 0, r.2.2) else if 0 < j ∧ r.1 = 0 then (0, 0, 11) else (acc + 128 ^ j * r.1, j + r.2.1, 0)

theorem dec_last (f : Nat) (c : UInt8) (r : List UInt8) (h : c.toNat < 128) : dec f (c :: r) = (c.toNat, 1, 0) := by
  cases f <;> simp [dec, h]

theorem dec_long (c : UInt8) (r : List UInt8) (h : ¬ c.toNat < 128) : dec 0 (c :: r) = (0, 0, 11) := by simp [dec, h]

theorem dec_nil (f : Nat) : dec f [] = (0, 0, 10) := by cases f <;> rfl

theorem cmb_zero (l : List UInt8) (f : Nat) : cmb 0 0 (dec f l) = dec f l := by
  unfold cmb
  have key : ∀ (f : Nat) (l : List UInt8), (dec f l).2.2 ≠ 0 → (dec f l).1 = 0 ∧ (dec f l).2.1 = 0 := by
    intro f
    induction f with
    | zero => intro l; cases l with
      | nil => simp [dec]
      | cons c r => simp only [dec]; split <;> simp
    | succ f ih => intro l; cases l with
      | nil => simp [dec]
      | cons c r =>
        simp only [dec]
        split
        · simp
        · split
          · simp
          · split <;> simp
  by_cases h : (dec f l).2.2 ≠ 0
  · rw [if_pos h]
    obtain ⟨h1, h2⟩ := key f l h
    generalize dec f l = x at *
    obtain ⟨a, b, c⟩ := x
    simp_all
  · rw [if_neg h]
    generalize dec f l = x at *
    obtain ⟨a, b, c⟩ := x
    simp_all

theorem cmb_step (acc j f : Nat) (c : UInt8) (r : List UInt8) (h : ¬ c.toNat < 128) :
    cmb acc j (dec (f + 1) (c :: r)) = cmb (acc + (c.toNat - 128) * 128 ^ j) (j + 1) (dec f r) := by
  simp only [dec, if_neg h]
  generalize dec f r = x
  obtain ⟨n, k, e⟩ := x
  by_cases he : e ≠ 0
  · simp [cmb, he]
  · by_cases hn : n = 0
    · simp [cmb, he, hn]
    · simp only [cmb, he, hn, if_false, ne_eq, not_true_eq_false, and_false]
      rw [if_neg (by omega)]
      simp only [Prod.mk.injEq, and_true]
      refine ⟨?_, by omega⟩
      rw [Nat.pow_succ, Nat.mul_add, Nat.mul_comm (c.toNat - 128), Nat.mul_assoc]
      omega

theorem cmb_last (acc j f : Nat) (c : UInt8) (r : List UInt8) (h : c.toNat < 128) :
    cmb acc j (dec f (c :: r)) = if 0 < j ∧ c.toNat = 0 then (0, 0, 11) else (acc + 128 ^ j * c.toNat, j + 1, 0) := by
  rw [dec_last f c r h]; simp [cmb]

theorem cmb_long (acc j : Nat) (c : UInt8) (r : List UInt8) (h : ¬ c.toNat < 128) : cmb acc j (dec 0 (c :: r)) = (0, 0, 11) := by
  rw [dec_long c r h]; simp [cmb]

theorem cmb_nil (acc j f : Nat) : cmb acc j (dec f []) = (0, 0, 10) := by
  rw [dec_nil]; simp [cmb]

theorem enc_length : ∀ (f n : Nat), 1 ≤ (enc f n).length ∧ (enc f n).length ≤ f + 1
  | 0, n => by simp [enc]
  | f + 1, n => by
    have := enc_length f (n / 128)
    simp only [enc]
    split
    · simp
    · simp; omega

theorem dec_enc : ∀ (f n : Nat) (rest : List UInt8), n < 128 ^ (f + 1) → dec f (enc f n ++ rest) = (n, (enc f n).length, 0)
  | 0, n, rest, h => by
    have hn : n < 128 := by simpa using h
    have e : (UInt8.ofNat n).toNat = n := by rw [UInt8.toNat_ofNat']; exact Nat.mod_eq_of_lt (by omega)
    show dec 0 (UInt8.ofNat n :: rest) = _
    rw [dec_last 0 _ _ (by omega), e]
    rfl
  | f + 1, n, rest, h => by
    by_cases hn : n < 128
    · have e : (UInt8.ofNat n).toNat = n := by rw [UInt8.toNat_ofNat']; exact Nat.mod_eq_of_lt (by omega)
      have e1 : enc (f + 1) n = [UInt8.ofNat n] := by simp [enc, hn]
      rw [e1]
      show dec (f + 1) (UInt8.ofNat n :: rest) = _
      rw [dec_last _ _ _ (by omega), e]
      rfl
    · have e : (UInt8.ofNat (n % 128 + 128)).toNat = n % 128 + 128 := by rw [UInt8.toNat_ofNat']; exact Nat.mod_eq_of_lt (by omega)
      have e1 : enc (f + 1) n = UInt8.ofNat (n % 128 + 128) :: enc f (n / 128) := by simp [enc, hn]
      have ih := dec_enc f (n / 128) rest (by rw [Nat.pow_succ] at h; omega)
      rw [e1]
      show dec (f + 1) (UInt8.ofNat (n % 128 + 128) :: (enc f (n / 128) ++ rest)) = _
      simp only [dec, ih, e, ne_eq, not_true_eq_false, if_false]
      rw [if_neg (by omega), if_neg (by omega)]
      simp only [List.length_cons, Prod.mk.injEq, and_true]
      omega

theorem enc_dec : ∀ (f : Nat) (l : List UInt8) (n k : Nat), dec f l = (n, k, 0) → enc f n = l.take k ∧ 1 ≤ k ∧ k ≤ l.length ∧ n < 128 ^ (f + 1)
  | f, [], n, k, h => by rw [dec_nil] at h; simp at h
  | 0, c :: r, n, k, h => by
    by_cases hc : c.toNat < 128
    · rw [dec_last _ _ _ hc] at h
      simp only [Prod.mk.injEq, and_true] at h
      obtain ⟨rfl, rfl⟩ := h
      exact ⟨by simp [enc], by omega, by simp, by simpa using hc⟩
    · rw [dec_long _ _ hc] at h; simp at h
  | f + 1, c :: r, n, k, h => by
    by_cases hc : c.toNat < 128
    · rw [dec_last _ _ _ hc] at h
      simp only [Prod.mk.injEq, and_true] at h
      obtain ⟨rfl, rfl⟩ := h
      refine ⟨by simp [enc, hc], by omega, by simp, ?_⟩
      have : 1 ≤ 128 ^ (f + 1) := Nat.pow_pos (by omega)
      rw [Nat.pow_succ]
      omega
    · simp only [dec, if_neg hc] at h
      have ih := enc_dec f r
      generalize dec f r = x at h ih
      obtain ⟨m, j, e⟩ := x
      by_cases he : e ≠ 0
      · simp only [he, ne_eq, not_false_eq_true, if_true, Prod.mk.injEq] at h
        exact h.2.2.elim
      · have he0 : e = 0 := by omega
        subst he0
        by_cases hm : m = 0
        · simp [hm] at h
        · simp only [hm, ne_eq, not_true_eq_false, if_false, Prod.mk.injEq, and_true] at h
          obtain ⟨rfl, rfl⟩ := h
          obtain ⟨i1, i2, i3, i4⟩ := ih m j rfl
          have hlt := c.toNat_lt
          have e1 : (c.toNat - 128 + 128 * m) % 128 + 128 = c.toNat := by omega
          have e2 : (c.toNat - 128 + 128 * m) / 128 = m := by omega
          refine ⟨?_, by omega, by simp; omega, ?_⟩
          · simp only [enc]
            rw [if_neg (by omega), e1, e2, i1]
            simp
          · rw [Nat.pow_succ]; omega

/-- The number that a reader is handed, with the most that may stand there. -/
def first (l : List UInt8) (most : Int) : Int × Int × Int :=
  if (dec 8 l).2.2 ≠ 0 then (0, 0, ((dec 8 l).2.2 : Int)) else if most < ((dec 8 l).1 : Int) then (0, 0, 12) else (((dec 8 l).1 : Int), ((dec 8 l).2.1 : Int), 0)

theorem first_bad {l : List UInt8} {most : Int} {e : Nat} (h : dec 8 l = (0, 0, e)) (he : e ≠ 0) : first l most = (0, 0, (e : Int)) := by
  simp [first, h, he]
theorem first_big {l : List UInt8} {most : Int} {n k : Nat} (h : dec 8 l = (n, k, 0)) (hm : most < (n : Int)) : first l most = (0, 0, 12) := by
  simp [first, h, hm]
theorem first_ok {l : List UInt8} {most : Int} {n k : Nat} (h : dec 8 l = (n, k, 0)) (hm : ¬ most < (n : Int)) : first l most = ((n : Int), (k : Int), 0) := by
  simp only [first, h]
  rw [if_neg (by simp), if_neg hm]

/-- In every case: no error, or nothing read. -/
theorem first_form (l : List UInt8) (most : Int) : ∃ (n k : Nat) (e : Int), first l most = ((n : Int), (k : Int), e) ∧ k ≤ l.length ∧ k ≤ 9 ∧ 0 ≤ e ∧ e ≤ 12 ∧ (e ≠ 0 → n = 0 ∧ k = 0) ∧ (n : Int) < 9223372036854775808 ∧ (e = 0 → 1 ≤ k) := by
  have hb : ∀ (f : Nat) (l : List UInt8), (dec f l).2.2 ≤ 11 ∧ (dec f l).2.1 ≤ f + 1 := by
    intro f
    induction f with
    | zero => intro l; cases l with
      | nil => simp [dec]
      | cons c r => simp only [dec]; split <;> simp
    | succ f ih => intro l; cases l with
      | nil => simp [dec]
      | cons c r =>
        simp only [dec]
        have := ih r
        split
        · simp
        · split
          · simp; omega
          · split <;> simp; omega
  have hb := hb 8 l
  have he := enc_dec 8 l
  simp only [first]
  generalize dec 8 l = x at *
  obtain ⟨n, k, e⟩ := x
  by_cases h0 : e = 0
  · subst h0
    obtain ⟨-, h1, h2, h3⟩ := he n k rfl
    simp only [ne_eq, not_true_eq_false, if_false]
    by_cases hm : most < (n : Int)
    · rw [if_pos hm]
      exact ⟨0, 0, 12, rfl, by omega, by omega, by omega, by omega, fun _ => ⟨rfl, rfl⟩, by omega, by omega⟩
    · rw [if_neg hm]
      simp only at hb
      exact ⟨n, k, 0, rfl, h2, by omega, by omega, by omega, fun h => absurd rfl h, by omega, fun _ => h1⟩
  · simp only [ne_eq, h0, not_false_eq_true, if_true]
    simp only at hb
    exact ⟨0, 0, e, rfl, by omega, by omega, by omega, by omega, fun _ => ⟨rfl, rfl⟩, by omega, by omega⟩

end Go.Proofs.Ytnjbglnkhgholaa.Nm
