/-
  Plain mathematics: keys that rise within a range, and the ranges of its split.
-/
import Derived.Test.YtagcenfjdjaaaaaCuPiece
import Derived.Test.YtagcenfjdjaaaaaCuBord
namespace Go.Proofs.Ytagcenfjdjaaaaa
open Go.RowKit
set_option linter.unusedVariables false

/-- All keys are in the range. -/
def allK (r : Rg) (S : Nat → ByteArray) (n : Nat) : Bool := (List.range n).all fun i => r.has (S i)

theorem allK_true {r : Rg} {S : Nat → ByteArray} {n : Nat} (h : ∀ i, i < n → r.has (S i) = true) : allK r S n = true := by
  unfold allK
  rw [List.all_eq_true]
  exact fun i hi => h i (List.mem_range.1 hi)
theorem allK_false {r : Rg} {S : Nat → ByteArray} {n i : Nat} (hi : i < n) (h : r.has (S i) = false) : allK r S n = false := by
  unfold allK
  rw [List.all_eq_false]
  exact ⟨i, List.mem_range.2 hi, by simp [h]⟩
theorem allK_at {r : Rg} {S : Nat → ByteArray} {n : Nat} (h : allK r S n = true) {i : Nat} (hi : i < n) : r.has (S i) = true := by
  unfold allK at h
  rw [List.all_eq_true] at h
  exact h i (List.mem_range.2 hi)

/-- Keys that may be: none too long, and they rise. -/
structure KeysOk (S : Nat → ByteArray) (n : Nat) : Prop where
  sz : ∀ i, i < n → ((S i).size : Int) ≤ 16
  up : ∀ i j, i < j → j < n → Op.bytesLess (S i).toList (S j).toList = true

theorem keysOk {S : Nat → ByteArray} {n : Nat} (h : keyE S n = 0) : KeysOk S n := by
  unfold keyE at h
  cases h1 : longK S n
  · rw [h1] at h
    cases h2 : riseK S n
    · rw [h2] at h; cases h
    · unfold longK at h1
      unfold riseK at h2
      rw [List.any_eq_false] at h1
      rw [List.all_eq_true] at h2
      have st : ∀ i, i + 1 < n → Op.bytesLess (S i).toList (S (i + 1)).toList = true := fun i hi => h2 i (List.mem_range.2 (by omega))
      refine ⟨fun i hi => by have := h1 i (List.mem_range.2 hi); simp at this; omega, ?_⟩
      intro i j hij hj
      obtain ⟨d, rfl⟩ : ∃ d, j = i + d + 1 := ⟨j - i - 1, by omega⟩
      induction d with
      | zero => exact st i hj
      | succ d ih => exact L_trans _ _ _ (ih (by omega) (by omega)) (st (i + d + 1) hj)
  · rw [h1] at h; cases h

theorem keyE_zero {S : Nat → ByteArray} {n : Nat} (h : KeysOk S n) : keyE S n = 0 := by
  unfold keyE
  rw [longK_false h.sz, riseK_true (fun k hk => h.up k (k + 1) (Nat.lt_succ_self k) hk)]
  rfl

theorem L_asym {x y : List UInt8} (h : Op.bytesLess x y = true) : Op.bytesLess y x = false := by
  cases h2 : Op.bytesLess y x
  · rfl
  · have := L_trans x y x h h2
    rw [L_irrefl] at this; cases this

/-- Not above the one and below the other. -/
theorem L_le_lt {x y z : List UInt8} (h : Op.bytesLess y x = false) (h2 : Op.bytesLess y z = true) : Op.bytesLess x z = true := by
  cases h3 : Op.bytesLess x y
  · rw [L_total x y h3 h]; exact h2
  · exact L_trans x y z h3 h2

theorem KeysOk.lt {S : Nat → ByteArray} {n : Nat} (h : KeysOk S n) {i j : Nat} (hi : i < n) (hj : j < n) : Op.bytesLess (S i).toList (S j).toList = decide (i < j) := by
  rcases Nat.lt_trichotomy i j with e | e | e
  · rw [h.up i j e hj, decide_eq_true e]
  · subst e; rw [L_irrefl, decide_eq_false (Nat.lt_irrefl i)]
  · rw [L_asym (h.up j i e hi), decide_eq_false (by omega)]

theorem has_parts {r : Rg} {k : ByteArray} (h : r.has k = true) : r.may = true ∧ (k.size : Int) ≤ 16 ∧ Op.bytesLess k.toList r.lo.toList = false ∧ (r.op || Op.bytesLess k.toList r.hi.toList) = true := by
  simp only [Rg.has, Bool.and_eq_true, decide_eq_true_eq, Bool.not_eq_true'] at h
  exact ⟨h.1.1.1, h.1.1.2, h.1.2, h.2⟩

theorem stt_up {n p : Nat} (hp : 0 < p) (hpn : p ≤ n) {i j : Nat} (h : i < j) : stt n p i < stt n p j := by
  obtain ⟨d, rfl⟩ : ∃ d, j = i + d + 1 := ⟨j - i - 1, by omega⟩
  have h1 := div_pos' hp hpn
  induction d with
  | zero => have := (stt_step n hp i).1; show stt n p i < stt n p (i + 1); omega
  | succ d ih => have := (stt_step n hp (i + d + 1)).1; have := ih (by omega); show stt n p i < stt n p (i + d + 1 + 1); omega

/-- The borders of a split may stand in the range. -/
theorem bdr_ok {r : Rg} {S : Nat → ByteArray} {n q : Nat} (hk : KeysOk S n) (ha : ∀ i, i < n → r.has (S i) = true) (hq : q + 1 ≤ n) : ∀ i, i < q → okB r (cutLo r.lo (bdr n (q + 1) S) i) (bdr n (q + 1) S i) = true := by
  intro i hi
  have hx : stt n (q + 1) (i + 1) < n := stt_lt (by omega) (by omega) (by omega)
  have h0 := has_parts (ha _ hx)
  have hl : Op.bytesLess (cutLo r.lo (bdr n (q + 1) S) i).toList (S (stt n (q + 1) (i + 1))).toList = true := by
    cases i with
    | zero =>
      show Op.bytesLess r.lo.toList _ = true
      have h1 := has_parts (ha 0 (by omega))
      have h2 := stt_up (n := n) (p := q + 1) (by omega) hq (i := 0) (j := 1) (by omega)
      rw [stt_zero] at h2
      exact L_le_lt h1.2.2.1 (hk.up 0 _ h2 hx)
    | succ i =>
      show Op.bytesLess (S (stt n (q + 1) (i + 1))).toList _ = true
      exact hk.up _ _ (stt_up (by omega) hq (by omega)) hx
  show okB r _ (S (stt n (q + 1) (i + 1))) = true
  unfold okB
  rw [hl, h0.2.2.2, decide_eq_true h0.2.1]
  rfl

theorem pieces_rise {r : Rg} {S : Nat → ByteArray} {n q : Nat} (hk : KeysOk S n) (ha : ∀ i, i < n → r.has (S i) = true) (hq : q + 1 ≤ n) (h0 : 0 < q) : rises (piece r (bdr n (q + 1) S) q) (q + 1) = true :=
  (rises_cut (has_parts (ha 0 (by omega))).1 h0).2 (bdr_ok hk ha hq)

theorem piece_none (r : Rg) (B : Nat → ByteArray) : piece r B 0 0 = r := rfl

theorem pieces_up {r : Rg} {S : Nat → ByteArray} {n q : Nat} (hk : KeysOk S n) (ha : ∀ i, i < n → r.has (S i) = true) (hq : q + 1 ≤ n) : rises (piece r (bdr n (q + 1) S) q) (q + 1) = true := by
  rcases Nat.eq_zero_or_pos q with h0 | h0
  · subst h0
    exact rises_one (has_not_emp (ha 0 (by omega)))
  · exact pieces_rise hk ha hq h0

theorem rises_may {T : Nat → Rg} {n j : Nat} (h : rises T n = true) (hj : j < n) : (T j).may = true := by
  simp only [rises, Bool.and_eq_true, Bool.not_eq_true'] at h
  cases he : (T j).may
  · rw [anyE_true (j := j) hj (emp_of_not_may he)] at h; cases h.1
  · rfl

/-- Which keys a part has. -/
theorem piece_has {r : Rg} {S : Nat → ByteArray} {n q : Nat} (hk : KeysOk S n) (ha : ∀ i, i < n → r.has (S i) = true) (hq : q + 1 ≤ n) {i j : Nat} (hi : i < n) (hj : j < q + 1) :
    (piece r (bdr n (q + 1) S) q j).has (S i) = (decide (stt n (q + 1) j ≤ i) && decide (i < stt n (q + 1) (j + 1))) := by
  have hm := rises_may (pieces_up hk ha hq) hj
  have h0 := has_parts (ha i hi)
  have hlo : (!Op.bytesLess (S i).toList (piece r (bdr n (q + 1) S) q j).lo.toList) = decide (stt n (q + 1) j ≤ i) := by
    have e : (piece r (bdr n (q + 1) S) q j).lo = cutLo r.lo (bdr n (q + 1) S) j := by unfold piece; split <;> rfl
    rw [e]
    cases j with
    | zero => show (!Op.bytesLess (S i).toList r.lo.toList) = _; rw [h0.2.2.1, stt_zero, decide_eq_true (Nat.zero_le i)]; rfl
    | succ j =>
      show (!Op.bytesLess (S i).toList (S (stt n (q + 1) (j + 1))).toList) = _
      rw [hk.lt hi (stt_lt (by omega) (by omega) (by omega))]
      by_cases e : i < stt n (q + 1) (j + 1)
      · rw [decide_eq_true e, decide_eq_false (by omega)]; rfl
      · rw [decide_eq_false e, decide_eq_true (by omega)]; rfl
  have hhi : ((piece r (bdr n (q + 1) S) q j).op || Op.bytesLess (S i).toList (piece r (bdr n (q + 1) S) q j).hi.toList) = decide (i < stt n (q + 1) (j + 1)) := by
    by_cases e : j < q
    · have e1 : piece r (bdr n (q + 1) S) q j = ⟨cutLo r.lo (bdr n (q + 1) S) j, bdr n (q + 1) S j, false⟩ := by unfold piece; rw [if_pos e]
      rw [e1]
      show (false || Op.bytesLess (S i).toList (S (stt n (q + 1) (j + 1))).toList) = _
      rw [Bool.false_or, hk.lt hi (stt_lt (by omega) (by omega) (by omega))]
    · have ej : j = q := by omega
      subst ej
      have e1 : piece r (bdr n (j + 1) S) j j = ⟨cutLo r.lo (bdr n (j + 1) S) j, r.hi, r.op⟩ := by unfold piece; rw [if_neg e]
      rw [e1]
      show (r.op || Op.bytesLess (S i).toList r.hi.toList) = _
      rw [h0.2.2.2, stt_end n (p := j + 1) (by omega), decide_eq_true hi]
  unfold Rg.has
  rw [hm, decide_eq_true h0.2.1, hlo, hhi]
  rfl

end Go.Proofs.Ytagcenfjdjaaaaa
