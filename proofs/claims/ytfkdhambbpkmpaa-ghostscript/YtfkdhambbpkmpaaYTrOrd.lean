/-
  Plain mathematics: the order of keys, trees of rows, what Put makes of them.
-/
import Derived.Test.YtfkdhambbpkmpaaYBytes1
namespace Go.Proofs.Ytfkdhambbpkmpaa
open Go.RowKit
theorem L_irrefl : ∀ x : List UInt8, Op.bytesLess x x = false
  | [] => rfl
  | a :: x => by simp [Op.bytesLess, L_irrefl x]

theorem L_total : ∀ x y : List UInt8, Op.bytesLess x y = false → Op.bytesLess y x = false → x = y
  | [], [], _, _ => rfl
  | [], _ :: _, h, _ => by simp [Op.bytesLess] at h
  | _ :: _, [], _, h => by simp [Op.bytesLess] at h
  | a :: x, b :: y, h1, h2 => by
    simp only [Op.bytesLess, Bool.or_eq_false_iff, decide_eq_false_iff_not, Bool.and_eq_false_iff] at h1 h2
    have e : a = b := by
      have g1 := h1.1; have g2 := h2.1
      simp only [UInt8.lt_iff_toNat_lt] at g1 g2
      exact UInt8.toNat_inj.1 (by omega)
    subst e
    rw [L_total x y (by simpa using h1.2) (by simpa using h2.2)]

theorem L_trans : ∀ x y z : List UInt8, Op.bytesLess x y = true → Op.bytesLess y z = true → Op.bytesLess x z = true
  | _, _, [], _, h => by cases ‹List UInt8› <;> simp [Op.bytesLess] at h
  | _, [], _ :: _, h, _ => by cases ‹List UInt8› <;> simp [Op.bytesLess] at h
  | [], _ :: _, _ :: _, _, _ => by simp [Op.bytesLess]
  | a :: x, b :: y, c :: z, h1, h2 => by
    simp only [Op.bytesLess, Bool.or_eq_true, decide_eq_true_eq, Bool.and_eq_true, beq_iff_eq, UInt8.lt_iff_toNat_lt] at h1 h2 ⊢
    rcases h1 with h1 | ⟨rfl, h1⟩
    · rcases h2 with h2 | ⟨rfl, h2⟩
      · exact .inl (by omega)
      · exact .inl h1
    · rcases h2 with h2 | ⟨rfl, h2⟩
      · exact .inl h2
      · exact .inr ⟨rfl, L_trans x y z h1 h2⟩

theorem toList_inj {a b : ByteArray} (h : a.toList = b.toList) : a = b := by
  rw [ByteArray.toList_eq, ByteArray.toList_eq] at h
  cases a; cases b
  simp only [ByteArray.mk.injEq]
  exact Array.toList_inj.1 h

/-- A key is lower than another. -/
def kLt (a b : ByteArray) : Bool := Op.bytesLess a.toList b.toList

theorem kLt_irrefl (a : ByteArray) : kLt a a = false := L_irrefl _

theorem kLt_trans {a b c : ByteArray} (h : kLt a b = true) (k : kLt b c = true) : kLt a c = true := L_trans _ _ _ h k

theorem kLt_asymm {a b : ByteArray} (h : kLt a b = true) : kLt b a = false := by
  cases k : kLt b a
  · rfl
  · have := kLt_trans h k; rw [kLt_irrefl] at this; cases this

theorem kLt_total {a b : ByteArray} (h : kLt a b = false) (k : kLt b a = false) : a = b := toList_inj (L_total _ _ h k)

theorem kLt_ne {a b : ByteArray} (h : kLt a b = true) : a ≠ b := fun e => by subst e; rw [kLt_irrefl] at h; cases h

theorem kLt_le_trans {a b c : ByteArray} (h : kLt b a = false) (k : kLt b c = true) : kLt a c = true := by
  cases h2 : kLt a b
  · rw [kLt_total h2 h]; exact k
  · exact kLt_trans h2 k

theorem kLt_trans_le {a b c : ByteArray} (h : kLt a b = true) (k : kLt c b = false) : kLt a c = true := by
  cases h2 : kLt b c
  · rw [kLt_total k h2]; exact h
  · exact kLt_trans h h2

/-- A row. -/
structure Rw (β α : Type) where
  k : ByteArray
  v : β
  s : α

/-- A tree of rows. -/
inductive Tr (β α : Type) where
  | nil : Tr β α
  | node (l : Tr β α) (k : ByteArray) (v : β) (s : α) (r : Tr β α) : Tr β α

namespace Tr
variable {β α : Type}
def isNil : Tr β α → Bool
  | nil => true
  | node .. => false

def cnt : Tr β α → Nat
  | nil => 0
  | node l _ _ _ r => l.cnt + 1 + r.cnt

def ht : Tr β α → Nat
  | nil => 0
  | node l _ _ _ r => max l.ht r.ht + 1

/-- How much a tree holds: its rows, and what their summaries take. -/
def wt (z : α → Nat) : Tr β α → Nat
  | nil => 0
  | node l _ _ s r => l.wt z + 1 + z s + r.wt z

/-- The sum that a node keeps. -/
def sum (J : α → α → α) (e : α) : Tr β α → α
  | nil => e
  | node l _ _ s r =>
    if r.isNil then (if l.isNil then s else J (l.sum J e) s) else J (if l.isNil then s else J (l.sum J e) s) (r.sum J e)

def rows : Tr β α → List (Rw β α)
  | nil => []
  | node l k v s r => l.rows ++ ⟨k, v, s⟩ :: r.rows

theorem rows_length : ∀ t : Tr β α, t.rows.length = t.cnt
  | nil => rfl
  | node l k v s r => by simp [rows, cnt, rows_length l, rows_length r]; omega

theorem ht_le_cnt : ∀ t : Tr β α, t.ht ≤ t.cnt
  | nil => Nat.le_refl _
  | node l k v s r => by have := ht_le_cnt l; have := ht_le_cnt r; simp only [ht, cnt]; omega

theorem cnt_le_wt (z : α → Nat) : ∀ t : Tr β α, t.cnt ≤ t.wt z
  | nil => Nat.le_refl _
  | node l k v s r => by have := cnt_le_wt z l; have := cnt_le_wt z r; simp only [wt, cnt]; omega

theorem sum_le {z : α → Nat} {J : α → α → α} (hJ : ∀ a b, z (J a b) ≤ z a + z b) (e : α) : ∀ t : Tr β α, t.isNil = false → z (t.sum J e) ≤ t.wt z
  | nil, h => by cases h
  | node l k v s r, _ => by
    have hl : l.isNil = false → z (l.sum J e) ≤ l.wt z := sum_le hJ e l
    have hr : r.isNil = false → z (r.sum J e) ≤ r.wt z := sum_le hJ e r
    cases h1 : l.isNil <;> cases h2 : r.isNil <;> simp only [sum, wt, h1, h2, if_true, if_false, Bool.false_eq_true]
    · have := hJ (J (l.sum J e) s) (r.sum J e); have := hJ (l.sum J e) s; have := hl h1; have := hr h2; omega
    · have := hJ (l.sum J e) s; have := hl h1; omega
    · have := hJ s (r.sum J e); have := hr h2; omega
    · omega

/-- A node turned to the right. -/
def turnR (k : ByteArray) (v : β) (s : α) (l r : Tr β α) : Tr β α :=
  match l with
  | nil => node nil k v s r
  | node ll lk lv ls lr =>
    if lr.ht ≤ ll.ht then node ll lk lv ls (node lr k v s r) else
      match lr with
      | nil => node (node ll lk lv ls nil) k v s r
      | node a ik iv is b => node (node ll lk lv ls a) ik iv is (node b k v s r)

def turnL (k : ByteArray) (v : β) (s : α) (l r : Tr β α) : Tr β α :=
  match r with
  | nil => node l k v s nil
  | node rl rk rv rs rr =>
    if rl.ht ≤ rr.ht then node (node l k v s rl) rk rv rs rr else
      match rl with
      | nil => node l k v s (node nil rk rv rs rr)
      | node a ik iv is b => node (node l k v s a) ik iv is (node b rk rv rs rr)

def level (k : ByteArray) (v : β) (s : α) (l r : Tr β α) : Tr β α :=
  if l.ht = r.ht + 2 then turnR k v s l r else if r.ht = l.ht + 2 then turnL k v s l r else node l k v s r

theorem level_cases {P : Tr β α → Prop} (k : ByteArray) (v : β) (s : α) (l r : Tr β α)
    (h0 : ¬ l.ht = r.ht + 2 → ¬ r.ht = l.ht + 2 → P (node l k v s r))
    (h1 : ∀ ll lk lv ls lr, l = node ll lk lv ls lr → l.ht = r.ht + 2 → lr.ht ≤ ll.ht → P (node ll lk lv ls (node lr k v s r)))
    (h2 : ∀ ll lk lv ls a ik iv is b, l = node ll lk lv ls (node a ik iv is b) → l.ht = r.ht + 2 → ll.ht < (node a ik iv is b).ht → P (node (node ll lk lv ls a) ik iv is (node b k v s r)))
    (h3 : ∀ rl rk rv rs rr, r = node rl rk rv rs rr → r.ht = l.ht + 2 → rl.ht ≤ rr.ht → P (node (node l k v s rl) rk rv rs rr))
    (h4 : ∀ a ik iv is b rk rv rs rr, r = node (node a ik iv is b) rk rv rs rr → r.ht = l.ht + 2 → rr.ht < (node a ik iv is b).ht → P (node (node l k v s a) ik iv is (node b rk rv rs rr))) : P (level k v s l r) := by
  unfold level
  split
  · rename_i h
    match l, h with
    | node ll lk lv ls lr, h =>
      simp only [turnR]
      split
      · rename_i g; exact h1 _ _ _ _ _ rfl h g
      · rename_i g
        match lr, h, g with
        | nil, h, g => simp [ht] at g
        | node a ik iv is b, h, g => exact h2 _ _ _ _ _ _ _ _ _ rfl h (by omega)
  · rename_i hn
    split
    · rename_i h
      match r, h with
      | node rl rk rv rs rr, h =>
        simp only [turnL]
        split
        · rename_i g; exact h3 _ _ _ _ _ rfl h g
        · rename_i g
          match rl, h, g with
          | nil, h, g => simp [ht] at g
          | node a ik iv is b, h, g => exact h4 _ _ _ _ _ _ _ _ _ rfl h (by omega)
    · rename_i h; exact h0 hn h

theorem rows_level (k : ByteArray) (v : β) (s : α) (l r : Tr β α) : (level k v s l r).rows = l.rows ++ ⟨k, v, s⟩ :: r.rows := by
  apply level_cases (P := fun t => t.rows = l.rows ++ ⟨k, v, s⟩ :: r.rows)
  · intros; rfl
  · rintro _ _ _ _ _ rfl _ _; simp [rows]
  · rintro _ _ _ _ _ _ _ _ _ rfl _ _; simp [rows]
  · rintro _ _ _ _ _ rfl _ _; simp [rows]
  · rintro _ _ _ _ _ _ _ _ _ rfl _ _; simp [rows]

theorem wt_level (z : α → Nat) (k : ByteArray) (v : β) (s : α) (l r : Tr β α) : (level k v s l r).wt z = l.wt z + 1 + z s + r.wt z := by
  apply level_cases (P := fun t => t.wt z = l.wt z + 1 + z s + r.wt z)
  · intros; rfl
  · rintro _ _ _ _ _ rfl _ _; simp only [wt]; omega
  · rintro _ _ _ _ _ _ _ _ _ rfl _ _; simp only [wt]; omega
  · rintro _ _ _ _ _ rfl _ _; simp only [wt]; omega
  · rintro _ _ _ _ _ _ _ _ _ rfl _ _; simp only [wt]; omega

/-- At each node the sides' heights differ by at most one. -/
def bal : Tr β α → Prop
  | nil => True
  | node l _ _ _ r => l.bal ∧ r.bal ∧ l.ht ≤ r.ht + 1 ∧ r.ht ≤ l.ht + 1

theorem bal_level {k : ByteArray} {v : β} {s : α} {l r : Tr β α} (hl : l.bal) (hr : r.bal) (h1 : l.ht ≤ r.ht + 2) (h2 : r.ht ≤ l.ht + 2) :
    (level k v s l r).bal ∧ (level k v s l r).ht ≤ max l.ht r.ht + 1 ∧ max l.ht r.ht ≤ (level k v s l r).ht ∧ (l.ht ≤ r.ht + 1 → r.ht ≤ l.ht + 1 → (level k v s l r).ht = max l.ht r.ht + 1) := by
  apply level_cases (P := fun t => t.bal ∧ t.ht ≤ max l.ht r.ht + 1 ∧ max l.ht r.ht ≤ t.ht ∧ (l.ht ≤ r.ht + 1 → r.ht ≤ l.ht + 1 → t.ht = max l.ht r.ht + 1))
  · intro a b; simp only [bal, ht]; exact ⟨⟨hl, hr, by omega, by omega⟩, by omega, by omega, fun _ _ => by first | rfl | trivial⟩
  · rintro ll lk lv ls lr rfl e g
    obtain ⟨a, b, c, d⟩ := hl
    simp only [bal, ht] at *
    exact ⟨⟨a, ⟨b, hr, by omega, by omega⟩, by omega, by omega⟩, by omega, by omega, by omega⟩
  · rintro ll lk lv ls a ik iv is b rfl e g
    obtain ⟨p, ⟨q1, q2, q3, q4⟩, c, d⟩ := hl
    simp only [bal, ht] at *
    exact ⟨⟨⟨p, q1, by omega, by omega⟩, ⟨q2, hr, by omega, by omega⟩, by omega, by omega⟩, by omega, by omega, by omega⟩
  · rintro ll lk lv ls lr rfl e g
    obtain ⟨a, b, c, d⟩ := hr
    simp only [bal, ht] at *
    exact ⟨⟨⟨hl, a, by omega, by omega⟩, b, by omega, by omega⟩, by omega, by omega, by omega⟩
  · rintro a ik iv is b rk rv rs rr rfl e g
    obtain ⟨⟨q1, q2, q3, q4⟩, p, c, d⟩ := hr
    simp only [bal, ht] at *
    exact ⟨⟨⟨hl, q1, by omega, by omega⟩, ⟨q2, p, by omega, by omega⟩, by omega, by omega⟩, by omega, by omega, by omega⟩

def put (k : ByteArray) (v : β) (s : α) : Tr β α → Tr β α
  | nil => node nil k v s nil
  | node l k' v' s' r =>
    if kLt k k' then level k' v' s' (put k v s l) r else if kLt k' k then level k' v' s' l (put k v s r) else node l k v s r

theorem bal_put (k : ByteArray) (v : β) (s : α) : ∀ t : Tr β α, t.bal → (put k v s t).bal ∧ t.ht ≤ (put k v s t).ht ∧ (put k v s t).ht ≤ t.ht + 1
  | nil, _ => by simp [put, bal, ht]
  | node l k' v' s' r, h => by
    obtain ⟨hl, hr, h1, h2⟩ := h
    simp only [put]
    split
    · obtain ⟨a, b, c⟩ := bal_put k v s l hl
      obtain ⟨p, q, r1, r2⟩ := bal_level (k := k') (v := v') (s := s') a hr (by omega) (by omega)
      refine ⟨p, ?_, ?_⟩
      · by_cases g : (put k v s l).ht ≤ r.ht + 1
        · rw [r2 g (by omega)]; simp only [ht]; omega
        · simp only [ht]; omega
      · by_cases g : (put k v s l).ht ≤ r.ht + 1
        · rw [r2 g (by omega)]; simp only [ht]; omega
        · simp only [ht]; omega
    · split
      · obtain ⟨a, b, c⟩ := bal_put k v s r hr
        obtain ⟨p, q, r1, r2⟩ := bal_level (k := k') (v := v') (s := s') hl a (by omega) (by omega)
        refine ⟨p, ?_, ?_⟩
        · by_cases g : (put k v s r).ht ≤ l.ht + 1
          · rw [r2 (by omega) g]; simp only [ht]; omega
          · simp only [ht]; omega
        · by_cases g : (put k v s r).ht ≤ l.ht + 1
          · rw [r2 (by omega) g]; simp only [ht]; omega
          · simp only [ht]; omega
      · exact ⟨⟨hl, hr, h1, h2⟩, Nat.le_refl _, Nat.le_succ _⟩

theorem bal_cnt : ∀ t : Tr β α, t.bal → 2 ^ (t.ht / 2) ≤ t.cnt + 1
  | nil, _ => by simp [ht, cnt]
  | node l k v s r, h => by
    obtain ⟨hl, hr, h1, h2⟩ := h
    have a := bal_cnt l hl
    have b := bal_cnt r hr
    simp only [ht, cnt]
    by_cases h0 : max l.ht r.ht = 0
    · rw [h0]; simp
    · have e : (max l.ht r.ht + 1) / 2 = (max l.ht r.ht - 1) / 2 + 1 := by omega
      rw [e, Nat.pow_succ]
      have c : 2 ^ ((max l.ht r.ht - 1) / 2) ≤ 2 ^ (l.ht / 2) := Nat.pow_le_pow_right (by omega) (by omega)
      have d : 2 ^ ((max l.ht r.ht - 1) / 2) ≤ 2 ^ (r.ht / 2) := Nat.pow_le_pow_right (by omega) (by omega)
      omega

theorem bal_ht {t : Tr β α} (h : t.bal) {n : Nat} (hn : t.cnt + 1 ≤ 2 ^ n) : t.ht ≤ 2 * n + 1 := by
  have := bal_cnt t h
  have h2 : t.ht / 2 ≤ n := by
    by_cases g : t.ht / 2 ≤ n
    · exact g
    · have : 2 ^ (n + 1) ≤ 2 ^ (t.ht / 2) := Nat.pow_le_pow_right (by omega) (by omega)
      rw [Nat.pow_succ] at this
      have := Nat.one_le_two_pow (n := n)
      omega
  omega

end Tr
end Go.Proofs.Ytfkdhambbpkmpaa
