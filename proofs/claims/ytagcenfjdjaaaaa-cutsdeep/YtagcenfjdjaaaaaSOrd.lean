/-
  Plain mathematics: the order of texts, told by numbers for finitely many texts at a time.
-/
import Derived.Test.YtagcenfjdjaaaaaSpanPlain
namespace Go.Proofs.Ytagcenfjdjaaaaa

theorem L_irrefl : ∀ x : List UInt8, Op.bytesLess x x = false
  | [] => rfl
  | a :: x => by simp [Op.bytesLess, L_irrefl x]

theorem L_total : ∀ x y : List UInt8, Op.bytesLess x y = false → Op.bytesLess y x = false → x = y
  | [], [], _, _ => rfl
  | [], _ :: _, h, _ => by simp [Op.bytesLess] at h
  | _ :: _, [], _, h => by simp [Op.bytesLess] at h
  | a :: x, b :: y, h1, h2 => by
    simp only [Op.bytesLess, Bool.or_eq_false_iff, decide_eq_false_iff_not, Bool.and_eq_false_iff] at h1 h2
    have e : a = b := by
      have g1 := h1.1; have g2 := h2.1
      simp only [UInt8.lt_iff_toNat_lt] at g1 g2
      exact UInt8.toNat_inj.1 (by omega)
    subst e
    rw [L_total x y (by simpa using h1.2) (by simpa using h2.2)]

theorem L_trans : ∀ x y z : List UInt8, Op.bytesLess x y = true → Op.bytesLess y z = true → Op.bytesLess x z = true
  | _, _, [], _, h => by cases ‹List UInt8› <;> simp [Op.bytesLess] at h
  | _, [], _ :: _, h, _ => by cases ‹List UInt8› <;> simp [Op.bytesLess] at h
  | [], _ :: _, _ :: _, _, _ => by simp [Op.bytesLess]
  | a :: x, b :: y, c :: z, h1, h2 => by
    simp only [Op.bytesLess, Bool.or_eq_true, decide_eq_true_eq, Bool.and_eq_true, beq_iff_eq, UInt8.lt_iff_toNat_lt] at h1 h2 ⊢
    rcases h1 with h1 | ⟨rfl, h1⟩
    · rcases h2 with h2 | ⟨rfl, h2⟩
      · exact .inl (by omega)
      · exact .inl h1
    · rcases h2 with h2 | ⟨rfl, h2⟩
      · exact .inl h2
      · exact .inr ⟨rfl, L_trans x y z h1 h2⟩

theorem countP_lt {α : Type} (p q : α → Bool) : ∀ (S : List α) (x : α), (∀ z, p z = true → q z = true) → x ∈ S → p x = false → q x = true → S.countP p < S.countP q
  | s :: S, x, h, hm, hp, hq => by
    rcases List.mem_cons.1 hm with rfl | hm
    · have := List.countP_mono_left (p := p) (q := q) (l := S) (fun z _ hz => h z hz)
      simp [hp, hq]; omega
    · have := countP_lt p q S x h hm hp hq
      cases hs : p s
      · cases hs2 : q s <;> simp [hs, hs2] <;> omega
      · simp [hs, h s hs]; omega

/-- A text's place among some texts. -/
def rk (S : List (List UInt8)) (x : List UInt8) : Nat := S.countP fun z => Op.bytesLess z x

theorem rk_of_lt {S : List (List UInt8)} {x y : List UInt8} (hx : x ∈ S) (h : Op.bytesLess x y = true) : rk S x < rk S y :=
  countP_lt _ _ S x (fun z hz => L_trans z x y hz h) hx (L_irrefl x) h

theorem rk_lt {S : List (List UInt8)} {x y : List UInt8} (hx : x ∈ S) (hy : y ∈ S) : Op.bytesLess x y = decide (rk S x < rk S y) := by
  cases h : Op.bytesLess x y
  · cases h2 : Op.bytesLess y x
    · rw [L_total x y h h2]; simp
    · have := rk_of_lt hy h2
      symm; apply decide_eq_false; omega
  · have := rk_of_lt hx h
    symm; exact decide_eq_true this

theorem rk_eq {S : List (List UInt8)} {x y : List UInt8} (hx : x ∈ S) (hy : y ∈ S) : (x == y) = decide (rk S x = rk S y) := by
  by_cases e : x = y
  · subst e; simp
  · have h1 := rk_lt hx hy; have h2 := rk_lt hy hx
    have : rk S x ≠ rk S y := by
      intro e2
      apply e
      apply L_total
      · rw [h1]; apply decide_eq_false; omega
      · rw [h2]; apply decide_eq_false; omega
    rw [decide_eq_false this]
    simpa using e

theorem toList_inj {a b : ByteArray} (h : a.toList = b.toList) : a = b := by
  rw [ByteArray.toList_eq, ByteArray.toList_eq] at h
  cases a; cases b
  simp only [ByteArray.mk.injEq]
  exact Array.toList_inj.1 h

end Go.Proofs.Ytagcenfjdjaaaaa
