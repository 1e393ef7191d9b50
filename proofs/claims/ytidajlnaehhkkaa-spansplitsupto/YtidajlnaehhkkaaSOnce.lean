/-
  Plain mathematics: ranges that tile another one; each key of it stands in just one of them.
-/
import Derived.Test.YtidajlnaehhkkaaSTile
import Derived.Test.YtidajlnaehhkkaaSAlg3
namespace Go.Proofs.Ytidajlnaehhkkaa

/-- How many of the first n ranges hold a key. -/
def cnt (T : Nat → Rg) (k : ByteArray) : Nat → Nat
  | 0 => 0
  | n + 1 => cnt T k n + ((T n).has k).toNat

theorem toNat_iff {b : Bool} {P : Prop} [Decidable P] (h : b = true ↔ P) : b.toNat = if P then 1 else 0 := by
  by_cases hp : P
  · rw [if_pos hp, h.2 hp]; rfl
  · rw [if_neg hp]
    cases b
    · rfl
    · exact absurd (h.1 rfl) hp

/-- Ranges one behind the other, from where another one begins to where it ends. -/
structure Chain (T : Nat → Rg) (n : Nat) (r : Rg) : Prop where
  pos : 0 < n
  ne : ∀ i, i < n → (T i).emp = false
  cl : ∀ i, i + 1 < n → (T i).op = false
  jn : ∀ i, i + 1 < n → (T (i + 1)).lo = (T i).hi
  lo : (T 0).lo = r.lo
  en : endAl (T (n - 1)) r = true

theorem chain_of {T : Nat → Rg} {n : Nat} {r : Rg} (h : tiles T n r = true) : Chain T n r := by
  simp only [tiles, rises, Bool.and_eq_true, decide_eq_true_eq, Bool.not_eq_true', List.all_eq_true, upto, List.mem_map, List.mem_range, beq_iff_eq] at h
  obtain ⟨h1, ⟨h2, h3⟩, h4, h5, h6⟩ := h
  refine ⟨h1, fun i hi => ?_, fun i hi => ?_, fun i hi => ?_, toList_inj h5, h6⟩
  · cases he : (T i).emp
    · rfl
    · rw [anyE_true hi he] at h2; cases h2
  · have := h3 (T i, T (i + 1)) ⟨i, by omega, rfl⟩
    simp only [okP, Bool.not_eq_true', Bool.or_eq_false_iff] at this
    exact this.1
  · have := h4 (T i, T (i + 1)) ⟨i, by omega, rfl⟩
    simp only [joinP, beq_iff_eq] at this
    exact toList_inj this

/-- The texts at hand. -/
def St (T : Nat → Rg) (n : Nat) (r : Rg) (k : ByteArray) : List (List UInt8) :=
  [] :: k.toList :: r.lo.toList :: r.hi.toList :: ((List.range n).map (fun i => (T i).lo.toList) ++ (List.range n).map (fun i => (T i).hi.toList))

theorem st_T {T : Nat → Rg} {n : Nat} {r : Rg} {k : ByteArray} {i : Nat} (hi : i < n) : In (St T n r k) (T i) := by
  refine ⟨?_, ?_, by simp [St]⟩
  · simp only [St, List.mem_cons, List.mem_append, List.mem_map, List.mem_range]
    exact .inr (.inr (.inr (.inr (.inl ⟨i, hi, rfl⟩))))
  · simp only [St, List.mem_cons, List.mem_append, List.mem_map, List.mem_range]
    exact .inr (.inr (.inr (.inr (.inr ⟨i, hi, rfl⟩))))
theorem st_r {T : Nat → Rg} {n : Nat} {r : Rg} {k : ByteArray} : In (St T n r k) r := ⟨by simp [St], by simp [St], by simp [St]⟩
theorem st_k {T : Nat → Rg} {n : Nat} {r : Rg} {k : ByteArray} : k.toList ∈ St T n r k := by simp [St]

/-- A chain, in numbers. -/
theorem chain_num {T : Nat → Rg} {n : Nat} {r : Rg} (hc : Chain T n r) (S : List (List UInt8)) (hT : ∀ i, i < n → In S (T i)) :
    (∀ i, i + 1 < n → rk S (T i).lo.toList < rk S (T i).hi.toList ∧ rk S (T (i + 1)).lo.toList = rk S (T i).hi.toList) ∧ rk S (T 0).lo.toList = rk S r.lo.toList ∧
    ((T (n - 1)).op = r.op ∧ (r.op = false → rk S (T (n - 1)).lo.toList < rk S (T (n - 1)).hi.toList ∧ rk S (T (n - 1)).hi.toList = rk S r.hi.toList)) := by
  refine ⟨fun i hi => ⟨?_, by rw [hc.jn i hi]⟩, by rw [hc.lo], ?_⟩
  · have := (emp_num (hT i (by omega))).1 (hc.ne i (by omega))
    rcases this.2 with ⟨h, _⟩ | ⟨_, h⟩
    · rw [hc.cl i hi] at h; cases h
    · exact h
  · have he := hc.en
    simp only [endAl, Bool.or_eq_true, Bool.and_eq_true, Bool.not_eq_true', beq_iff_eq] at he
    rcases he with ⟨h1, h2⟩ | ⟨h1, h2, h3⟩
    · rw [h1, h2]; exact ⟨rfl, fun h => by cases h⟩
    · rw [h1, h2]
      refine ⟨rfl, fun _ => ⟨?_, by rw [h3]⟩⟩
      have := (emp_num (hT (n - 1) (by have := hc.pos; omega))).1 (hc.ne (n - 1) (by have := hc.pos; omega))
      rcases this.2 with ⟨h, _⟩ | ⟨_, h⟩
      · rw [h1] at h; cases h
      · exact h

/-- Numbers that rise step by step. -/
theorem steps_mono {L U : Nat → Nat} {n : Nat} (h : ∀ i, i + 1 < n → L i < U i ∧ L (i + 1) = U i) : ∀ j i, i ≤ j → j < n → L i + (j - i) ≤ L j
  | 0, i, hi, _ => by obtain rfl : i = 0 := by omega
                      omega
  | j + 1, i, hi, hj => by
    by_cases e : i = j + 1
    · subst e; omega
    · have h1 := steps_mono h j i (by omega) (by omega)
      have h2 := h j hj
      omega

theorem cnt_chain {T : Nat → Rg} {n : Nat} {r : Rg} (hc : Chain T n r) (hr : r.may = true) (k : ByteArray) : cnt T k n = (r.has k).toNat := by
  have hT : ∀ i, i < n → In (St T n r k) (T i) := fun i hi => st_T hi
  have hR : In (St T n r k) r := st_r
  have hK : k.toList ∈ St T n r k := st_k
  obtain ⟨h1, h2, h3, h4⟩ := chain_num hc _ hT
  generalize St T n r k = S at *
  have mono : ∀ j i, i ≤ j → j < n → rk S (T i).lo.toList + (j - i) ≤ rk S (T j).lo.toList := steps_mono (L := fun i => rk S (T i).lo.toList) (U := fun i => rk S (T i).hi.toList) h1
  have pre : ∀ m, m < n → cnt T k m = if (k.size : Int) ≤ 16 ∧ rk S r.lo.toList ≤ rk S k.toList ∧ rk S k.toList < rk S (T m).lo.toList then 1 else 0 := by
    intro m
    induction m with
    | zero => intro _; rw [cnt, if_neg (by omega)]
    | succ m ih =>
      intro hm
      have hh := has_rk (hT m (by omega)) hK
      have hmay : (T m).may = true := by
        have := hc.ne m (by omega)
        cases hq : (T m).may
        · rw [emp_of_not_may hq] at this; cases this
        · rfl
      rw [cnt, ih (by omega), toNat_iff hh, hmay, hc.cl m hm]
      have g1 := (h1 m hm)
      have g2 := mono m 0 (by omega) (by omega)
      by_cases hs : (k.size : Int) ≤ 16
      · simp only [hs, true_and, Bool.false_eq_true, false_or]
        split <;> split <;> split <;> omega
      · simp [hs]
  obtain ⟨m, rfl⟩ : ∃ m, n = m + 1 := ⟨n - 1, by have := hc.pos; omega⟩
  simp only [Nat.add_sub_cancel] at h3 h4
  have hh := has_rk (hT m (by omega)) hK
  have hg := has_rk hR hK
  have hmay : (T m).may = true := by
    have := hc.ne m (by omega)
    cases hq : (T m).may
    · rw [emp_of_not_may hq] at this; cases this
    · rfl
  have g2 := mono m 0 (by omega) (by omega)
  rw [cnt, pre m (by omega), toNat_iff hh, toNat_iff hg, hmay, hr, h3]
  by_cases hs : (k.size : Int) ≤ 16
  · cases ho : r.op
    · have := h4 ho
      simp only [hs, true_and, Bool.false_eq_true, false_or]
      split <;> split <;> split <;> omega
    · simp only [hs, true_and, true_or, and_true]
      split <;> split <;> split <;> omega
  · simp [hs]

theorem chain_ne {T : Nat → Rg} {n : Nat} {r : Rg} (hc : Chain T n r) (hr : r.may = true) : r.emp = false := by
  have hT : ∀ i, i < n → In (St T n r ByteArray.empty) (T i) := fun i hi => st_T hi
  have hR : In (St T n r ByteArray.empty) r := st_r
  obtain ⟨h1, h2, h3, h4⟩ := chain_num hc _ hT
  generalize St T n r ByteArray.empty = S at *
  have mono : ∀ j i, i ≤ j → j < n → rk S (T i).lo.toList + (j - i) ≤ rk S (T j).lo.toList := steps_mono (L := fun i => rk S (T i).lo.toList) (U := fun i => rk S (T i).hi.toList) h1
  refine (emp_rk hR).2 ⟨hr, ?_⟩
  cases ho : r.op
  · have := h4 ho
    have g := mono (n - 1) 0 (by omega) (by have := hc.pos; omega)
    exact .inr (by omega)
  · exact .inl rfl

/-- What parts of a chain are to the whole. -/
theorem chain_parts {T : Nat → Rg} {n : Nat} {r : Rg} (hc : Chain T n r) (hr : r.may = true) (i : Nat) (hi : i < n) :
    withR (T i) r = true ∧ (1 < n → tiles T i r = false ∧ tiles (fun j => T (i + 1 + j)) (n - (i + 1)) r = false ∧ withR r (T i) = false) := by
  have hne := chain_ne hc hr
  have hT : ∀ i, i < n → In (St T n r ByteArray.empty) (T i) := fun i hi => st_T hi
  have hR : In (St T n r ByteArray.empty) r := st_r
  obtain ⟨h1, h2, h3, h4⟩ := chain_num hc _ hT
  generalize St T n r ByteArray.empty = S at *
  have mono : ∀ j i, i ≤ j → j < n → rk S (T i).lo.toList + (j - i) ≤ rk S (T j).lo.toList := steps_mono (L := fun i => rk S (T i).lo.toList) (U := fun i => rk S (T i).hi.toList) h1
  have mayT : ∀ i, i < n → (T i).may = true := by
    intro i hi
    have := hc.ne i hi
    cases hq : (T i).may
    · rw [emp_of_not_may hq] at this; cases this
    · rfl
  have gi := mono i 0 (by omega) hi
  have gl := mono (n - 1) i (by omega) (by omega)
  have opi : r.op = false → (T i).op = false ∧ rk S (T i).lo.toList < rk S (T i).hi.toList ∧ rk S (T i).hi.toList + (n - 1 - i) ≤ rk S r.hi.toList := by
    intro ho
    have g4 := h4 ho
    by_cases e : i = n - 1
    · subst e; exact ⟨by rw [h3, ho], g4.1, by omega⟩
    · have g5 := h1 i (by omega)
      have g6 := mono (n - 1) (i + 1) (by omega) (by omega)
      exact ⟨hc.cl i (by omega), g5.1, by omega⟩
  refine ⟨(withR_num (hT i hi) hR).2 ⟨mayT i hi, hr, .inr ⟨by omega, ?_⟩⟩, fun hn => ⟨?_, ?_, ?_⟩⟩
  · cases ho : r.op
    · have := opi ho
      exact .inr ⟨this.1, by omega⟩
    · exact .inl rfl
  · cases ht : tiles T i r
    · rfl
    · exfalso
      have hc' := chain_of ht
      have hp := hc'.pos
      have he := hc'.en
      obtain ⟨j, rfl⟩ : ∃ j, i = j + 1 := ⟨i - 1, by omega⟩
      simp only [Nat.add_sub_cancel] at he
      simp only [endAl, hc.cl j (by omega), Bool.false_and, Bool.false_or, Bool.not_false, Bool.true_and, Bool.and_eq_true, Bool.not_eq_true', beq_iff_eq] at he
      have := opi he.1
      have g5 := h1 j (by omega)
      rw [he.2] at g5
      omega
  · cases ht : tiles (fun j => T (i + 1 + j)) (n - (i + 1)) r
    · rfl
    · exfalso
      have hc' := chain_of ht
      have hp := hc'.pos
      have hl := hc'.lo
      simp only [Nat.add_zero] at hl
      have g5 := h1 i (by omega)
      rw [hl] at g5
      omega
  · cases ht : withR r (T i)
    · rfl
    · exfalso
      obtain ⟨-, -, h | ⟨g1, g2⟩⟩ := (withR_num hR (hT i hi)).1 ht
      · rw [hne] at h; cases h
      · have hi0 : i = 0 := by omega
        subst hi0
        rw [hc.cl 0 (by omega)] at g2
        rcases g2 with g2 | ⟨g2, g3⟩
        · cases g2
        · have := opi g2
          omega

/-- A range that is cut tiles it, where it is cut into ranges that rise. -/
theorem piece_tiles {r : Rg} {S : Nat → ByteArray} {len : Nat} (h : rises (piece r S len) (len + 1) = true) : tiles (piece r S len) (len + 1) r = true := by
  have e1 : ((piece r S len 0).lo.toList == r.lo.toList) = true := by
    have : (piece r S len 0).lo = r.lo := by unfold piece; split <;> rfl
    rw [this]; exact beq_self_eq_true _
  have e2 : endAl (piece r S len (len + 1 - 1)) r = true := by
    simp only [Nat.add_sub_cancel, piece, Nat.lt_irrefl, if_false, endAl]
    cases r.op <;> simp
  have e3 : (upto (fun j => (piece r S len j, piece r S len (j + 1))) (len + 1 - 1)).all joinP = true := by
    rw [List.all_eq_true]
    intro x hx
    simp only [upto, List.mem_map, List.mem_range, Nat.add_sub_cancel] at hx
    obtain ⟨j, hj, rfl⟩ := hx
    have a1 : (piece r S len j).hi = S j := by simp only [piece, if_pos hj]
    have a2 : (piece r S len (j + 1)).lo = S j := by unfold piece; split <;> rfl
    simp only [joinP, a1, a2]; exact beq_self_eq_true _
  unfold tiles
  rw [h, e1, e2, e3]
  simp

theorem rises_one {T : Nat → Rg} (h : (T 0).emp = false) : rises T 1 = true := by
  unfold rises
  rw [anyE_false (fun j hj => by obtain rfl : j = 0 := by omega
                                 exact h)]
  rfl

end Go.Proofs.Ytidajlnaehhkkaa
