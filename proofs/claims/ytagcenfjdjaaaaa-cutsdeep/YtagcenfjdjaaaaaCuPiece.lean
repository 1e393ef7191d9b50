/-
  Plain mathematics: ranges by numbers, tiles, pieces.
-/
import Derived.Test.YtagcenfjdjaaaaaSOrd
import Derived.Test.YtagcenfjdjaaaaaSTile
namespace Go.Proofs.Ytagcenfjdjaaaaa
open Go.RowKit
set_option linter.unusedVariables false

/-- A range's bounds are among some texts. -/
def In (S : List (List UInt8)) (r : Rg) : Prop := r.lo.toList ∈ S ∧ r.hi.toList ∈ S ∧ [] ∈ S

theorem may_rk {S : List (List UInt8)} {r : Rg} (h : In S r) : r.may = true ↔ ((r.lo.size : Int) ≤ 16 ∧ (r.hi.size : Int) ≤ 16) ∧ ((r.op = true ∧ rk S r.hi.toList = rk S []) ∨ (r.op = false ∧ rk S r.lo.toList ≤ rk S r.hi.toList)) := by
  obtain ⟨h1, h2, h3⟩ := h
  have e1 := rk_lt h1 h2; have e2 := rk_eq h1 h2
  have e3 : r.hi.toList.isEmpty = decide (rk S r.hi.toList = rk S []) := by rw [← rk_eq h2 h3]; cases r.hi.toList <;> rfl
  unfold Rg.may Rg.chk
  rw [e1, e2, e3]
  by_cases hs : 16 < (r.lo.size : Int) ∨ 16 < (r.hi.size : Int)
  · rw [if_pos hs]
    constructor
    · intro h; cases h
    · rintro ⟨⟨g1, g2⟩, -⟩; omega
  · rw [if_neg hs]
    cases r.op
    · by_cases h4 : rk S r.lo.toList < rk S r.hi.toList
      · simp [h4]; omega
      · by_cases h5 : rk S r.lo.toList = rk S r.hi.toList
        · simp [h5]; omega
        · simp [h4, h5]; omega
    · by_cases h4 : rk S r.hi.toList = rk S []
      · simp [h4]; omega
      · simp [h4]

theorem emp_rk {S : List (List UInt8)} {r : Rg} (h : In S r) : r.emp = false ↔ r.may = true ∧ (r.op = true ∨ rk S r.lo.toList ≠ rk S r.hi.toList) := by
  obtain ⟨h1, h2, h3⟩ := h
  unfold Rg.emp
  rw [rk_eq h1 h2]
  cases r.may <;> cases r.op <;> simp

theorem has_rk {S : List (List UInt8)} {r : Rg} {k : ByteArray} (h : In S r) (hk : k.toList ∈ S) : r.has k = true ↔ r.may = true ∧ (k.size : Int) ≤ 16 ∧ rk S r.lo.toList ≤ rk S k.toList ∧ (r.op = true ∨ rk S k.toList < rk S r.hi.toList) := by
  obtain ⟨h1, h2, h3⟩ := h
  unfold Rg.has
  rw [rk_lt hk h1, rk_lt hk h2]
  cases r.may <;> cases r.op <;> simp [Nat.not_lt, and_assoc]

theorem str_rk {S : List (List UInt8)} {a b : ByteArray} (ha : a.toList ∈ S) (hb : b.toList ∈ S) (h : rk S a.toList = rk S b.toList) : a = b :=
  toList_inj (by have := rk_eq ha hb; rw [decide_eq_true h] at this; exact eq_of_beq this)

/-- Some texts: the bounds of two ranges, and the empty one. -/
def S2 (a b : Rg) : List (List UInt8) := [a.lo.toList, a.hi.toList, b.lo.toList, b.hi.toList, []]

theorem in2a (a b : Rg) : In (S2 a b) a := ⟨by simp [S2], by simp [S2], by simp [S2]⟩

theorem in2b (a b : Rg) : In (S2 a b) b := ⟨by simp [S2], by simp [S2], by simp [S2]⟩

theorem emp_of_not_may {r : Rg} (h : r.may = false) : r.emp = true := by simp [Rg.emp, h]

/-- A range that is not empty, by the places of its bounds. -/
theorem emp_num {S : List (List UInt8)} {r : Rg} (h : In S r) : r.emp = false ↔ ((r.lo.size : Int) ≤ 16 ∧ (r.hi.size : Int) ≤ 16) ∧ ((r.op = true ∧ rk S r.hi.toList = rk S []) ∨ (r.op = false ∧ rk S r.lo.toList < rk S r.hi.toList)) := by
  rw [emp_rk h, may_rk h]
  cases r.op <;> simp <;> omega

theorem rg_ext {a b : Rg} (h1 : a.lo = b.lo) (h2 : a.hi = b.hi) (h3 : a.op = b.op) : a = b := by
  cases a; cases b; simp_all

/-- Some texts: the bounds of two ranges, the empty one, and a key. -/
def S3 (a b : Rg) (k : ByteArray) : List (List UInt8) := [a.lo.toList, a.hi.toList, b.lo.toList, b.hi.toList, [], k.toList]

theorem in3a (a b : Rg) (k : ByteArray) : In (S3 a b k) a := ⟨by simp [S3], by simp [S3], by simp [S3]⟩

theorem in3b (a b : Rg) (k : ByteArray) : In (S3 a b k) b := ⟨by simp [S3], by simp [S3], by simp [S3]⟩

theorem in3k (a b : Rg) (k : ByteArray) : k.toList ∈ S3 a b k := by simp [S3]

theorem not_has {r : Rg} {k : ByteArray} (h : r.may = false) : r.has k = false := by simp [Rg.has, h]

/-- An empty range has no key. -/
theorem has_not_emp {r : Rg} {k : ByteArray} (h : r.has k = true) : r.emp = false := by
  rw [emp_num (in3a r r k)]
  obtain ⟨h1, h2, h3, h4⟩ := (has_rk (in3a r r k) (in3k r r k)).1 h
  obtain ⟨m1, m2⟩ := (may_rk (in3a r r k)).1 h1
  refine ⟨m1, ?_⟩
  rcases m2 with m2 | ⟨o, m2⟩
  · exact .inl m2
  · rcases h4 with h4 | h4
    · rw [o] at h4; cases h4
    · exact .inr ⟨o, by omega⟩

theorem emp_has {r : Rg} {k : ByteArray} (h : r.emp = true) : r.has k = false := by
  cases e : r.has k
  · rfl
  · rw [has_not_emp e] at h; cases h

/-- A range that is not empty has its lower bound. -/
theorem has_lo {r : Rg} (h : r.emp = false) : r.has r.lo = true := by
  have hm := ((emp_rk (in2a r r)).1 h).1
  have hn := (emp_num (in3a r r r.lo)).1 h
  rw [has_rk (in3a r r r.lo) (in3a r r r.lo).1]
  refine ⟨hm, hn.1.1, Nat.le_refl _, ?_⟩
  rcases hn.2 with h | h
  · exact .inl h.1
  · exact .inr h.2

/-- How many of the first n ranges hold a key. -/
def cnt (T : Nat → Rg) (k : ByteArray) : Nat → Nat
  | 0 => 0
  | n + 1 => cnt T k n + ((T n).has k).toNat

theorem toNat_iff {b : Bool} {P : Prop} [Decidable P] (h : b = true ↔ P) : b.toNat = if P then 1 else 0 := by
  by_cases hp : P
  · rw [if_pos hp, h.2 hp]; rfl
  · rw [if_neg hp]
    cases b
    · rfl
    · exact absurd (h.1 rfl) hp

/-- Ranges one behind the other, from where another one begins to where it ends. -/
structure Chain (T : Nat → Rg) (n : Nat) (r : Rg) : Prop where
  pos : 0 < n
  ne : ∀ i, i < n → (T i).emp = false
  cl : ∀ i, i + 1 < n → (T i).op = false
  jn : ∀ i, i + 1 < n → (T (i + 1)).lo = (T i).hi
  lo : (T 0).lo = r.lo
  en : endAl (T (n - 1)) r = true

theorem chain_of {T : Nat → Rg} {n : Nat} {r : Rg} (h : tiles T n r = true) : Chain T n r := by
  simp only [tiles, rises, Bool.and_eq_true, decide_eq_true_eq, Bool.not_eq_true', List.all_eq_true, upto, List.mem_map, List.mem_range, beq_iff_eq] at h
  obtain ⟨h1, ⟨h2, h3⟩, h4, h5, h6⟩ := h
  refine ⟨h1, fun i hi => ?_, fun i hi => ?_, fun i hi => ?_, toList_inj h5, h6⟩
  · cases he : (T i).emp
    · rfl
    · rw [anyE_true hi he] at h2; cases h2
  · have := h3 (T i, T (i + 1)) ⟨i, by omega, rfl⟩
    simp only [okP, Bool.not_eq_true', Bool.or_eq_false_iff] at this
    exact this.1
  · have := h4 (T i, T (i + 1)) ⟨i, by omega, rfl⟩
    simp only [joinP, beq_iff_eq] at this
    exact toList_inj this

/-- The texts at hand. -/
def St (T : Nat → Rg) (n : Nat) (r : Rg) (k : ByteArray) : List (List UInt8) :=
  [] :: k.toList :: r.lo.toList :: r.hi.toList :: ((List.range n).map (fun i => (T i).lo.toList) ++ (List.range n).map (fun i => (T i).hi.toList))

theorem st_T {T : Nat → Rg} {n : Nat} {r : Rg} {k : ByteArray} {i : Nat} (hi : i < n) : In (St T n r k) (T i) := by
  refine ⟨?_, ?_, by simp [St]⟩
  · simp only [St, List.mem_cons, List.mem_append, List.mem_map, List.mem_range]
    exact .inr (.inr (.inr (.inr (.inl ⟨i, hi, rfl⟩))))
  · simp only [St, List.mem_cons, List.mem_append, List.mem_map, List.mem_range]
    exact .inr (.inr (.inr (.inr (.inr ⟨i, hi, rfl⟩))))

theorem st_r {T : Nat → Rg} {n : Nat} {r : Rg} {k : ByteArray} : In (St T n r k) r := ⟨by simp [St], by simp [St], by simp [St]⟩

theorem st_k {T : Nat → Rg} {n : Nat} {r : Rg} {k : ByteArray} : k.toList ∈ St T n r k := by simp [St]

/-- A chain, in numbers. -/
theorem chain_num {T : Nat → Rg} {n : Nat} {r : Rg} (hc : Chain T n r) (S : List (List UInt8)) (hT : ∀ i, i < n → In S (T i)) :
    (∀ i, i + 1 < n → rk S (T i).lo.toList < rk S (T i).hi.toList ∧ rk S (T (i + 1)).lo.toList = rk S (T i).hi.toList) ∧ rk S (T 0).lo.toList = rk S r.lo.toList ∧
    ((T (n - 1)).op = r.op ∧ (r.op = false → rk S (T (n - 1)).lo.toList < rk S (T (n - 1)).hi.toList ∧ rk S (T (n - 1)).hi.toList = rk S r.hi.toList)) := by
  refine ⟨fun i hi => ⟨?_, by rw [hc.jn i hi]⟩, by rw [hc.lo], ?_⟩
  · have := (emp_num (hT i (by omega))).1 (hc.ne i (by omega))
    rcases this.2 with ⟨h, _⟩ | ⟨_, h⟩
    · rw [hc.cl i hi] at h; cases h
    · exact h
  · have he := hc.en
    simp only [endAl, Bool.or_eq_true, Bool.and_eq_true, Bool.not_eq_true', beq_iff_eq] at he
    rcases he with ⟨h1, h2⟩ | ⟨h1, h2, h3⟩
    · rw [h1, h2]; exact ⟨rfl, fun h => by cases h⟩
    · rw [h1, h2]
      refine ⟨rfl, fun _ => ⟨?_, by rw [h3]⟩⟩
      have := (emp_num (hT (n - 1) (by have := hc.pos; omega))).1 (hc.ne (n - 1) (by have := hc.pos; omega))
      rcases this.2 with ⟨h, _⟩ | ⟨_, h⟩
      · rw [h1] at h; cases h
      · exact h

/-- Numbers that rise step by step. -/
theorem steps_mono {L U : Nat → Nat} {n : Nat} (h : ∀ i, i + 1 < n → L i < U i ∧ L (i + 1) = U i) : ∀ j i, i ≤ j → j < n → L i + (j - i) ≤ L j
  | 0, i, hi, _ => by obtain rfl : i = 0 := by omega
                      omega
  | j + 1, i, hi, hj => by
    by_cases e : i = j + 1
    · subst e; omega
    · have h1 := steps_mono h j i (by omega) (by omega)
      have h2 := h j hj
      omega

theorem cnt_chain {T : Nat → Rg} {n : Nat} {r : Rg} (hc : Chain T n r) (hr : r.may = true) (k : ByteArray) : cnt T k n = (r.has k).toNat := by
  have hT : ∀ i, i < n → In (St T n r k) (T i) := fun i hi => st_T hi
  have hR : In (St T n r k) r := st_r
  have hK : k.toList ∈ St T n r k := st_k
  obtain ⟨h1, h2, h3, h4⟩ := chain_num hc _ hT
  generalize St T n r k = S at *
  have mono : ∀ j i, i ≤ j → j < n → rk S (T i).lo.toList + (j - i) ≤ rk S (T j).lo.toList := steps_mono (L := fun i => rk S (T i).lo.toList) (U := fun i => rk S (T i).hi.toList) h1
  have pre : ∀ m, m < n → cnt T k m = if (k.size : Int) ≤ 16 ∧ rk S r.lo.toList ≤ rk S k.toList ∧ rk S k.toList < rk S (T m).lo.toList then 1 else 0 := by
    intro m
    induction m with
    | zero => intro _; rw [cnt, if_neg (by omega)]
    | succ m ih =>
      intro hm
      have hh := has_rk (hT m (by omega)) hK
      have hmay : (T m).may = true := by
        have := hc.ne m (by omega)
        cases hq : (T m).may
        · rw [emp_of_not_may hq] at this; cases this
        · rfl
      rw [cnt, ih (by omega), toNat_iff hh, hmay, hc.cl m hm]
      have g1 := (h1 m hm)
      have g2 := mono m 0 (by omega) (by omega)
      by_cases hs : (k.size : Int) ≤ 16
      · simp only [hs, true_and, Bool.false_eq_true, false_or]
        split <;> split <;> split <;> omega
      · simp [hs]
  obtain ⟨m, rfl⟩ : ∃ m, n = m + 1 := ⟨n - 1, by have := hc.pos; omega⟩
  simp only [Nat.add_sub_cancel] at h3 h4
  have hh := has_rk (hT m (by omega)) hK
  have hg := has_rk hR hK
  have hmay : (T m).may = true := by
    have := hc.ne m (by omega)
    cases hq : (T m).may
    · rw [emp_of_not_may hq] at this; cases this
    · rfl
  have g2 := mono m 0 (by omega) (by omega)
  rw [cnt, pre m (by omega), toNat_iff hh, toNat_iff hg, hmay, hr, h3]
  by_cases hs : (k.size : Int) ≤ 16
  · cases ho : r.op
    · have := h4 ho
      simp only [hs, true_and, Bool.false_eq_true, false_or]
      split <;> split <;> split <;> omega
    · simp only [hs, true_and, true_or, and_true]
      split <;> split <;> split <;> omega
  · simp [hs]

theorem chain_ne {T : Nat → Rg} {n : Nat} {r : Rg} (hc : Chain T n r) (hr : r.may = true) : r.emp = false := by
  have hT : ∀ i, i < n → In (St T n r ByteArray.empty) (T i) := fun i hi => st_T hi
  have hR : In (St T n r ByteArray.empty) r := st_r
  obtain ⟨h1, h2, h3, h4⟩ := chain_num hc _ hT
  generalize St T n r ByteArray.empty = S at *
  have mono : ∀ j i, i ≤ j → j < n → rk S (T i).lo.toList + (j - i) ≤ rk S (T j).lo.toList := steps_mono (L := fun i => rk S (T i).lo.toList) (U := fun i => rk S (T i).hi.toList) h1
  refine (emp_rk hR).2 ⟨hr, ?_⟩
  cases ho : r.op
  · have := h4 ho
    have g := mono (n - 1) 0 (by omega) (by have := hc.pos; omega)
    exact .inr (by omega)
  · exact .inl rfl


/-- A range that is cut tiles it, where it is cut into ranges that rise. -/
theorem piece_tiles {r : Rg} {S : Nat → ByteArray} {len : Nat} (h : rises (piece r S len) (len + 1) = true) : tiles (piece r S len) (len + 1) r = true := by
  have e1 : ((piece r S len 0).lo.toList == r.lo.toList) = true := by
    have : (piece r S len 0).lo = r.lo := by unfold piece; split <;> rfl
    rw [this]; exact beq_self_eq_true _
  have e2 : endAl (piece r S len (len + 1 - 1)) r = true := by
    simp only [Nat.add_sub_cancel, piece, Nat.lt_irrefl, if_false, endAl]
    cases r.op <;> simp
  have e3 : (upto (fun j => (piece r S len j, piece r S len (j + 1))) (len + 1 - 1)).all joinP = true := by
    rw [List.all_eq_true]
    intro x hx
    simp only [upto, List.mem_map, List.mem_range, Nat.add_sub_cancel] at hx
    obtain ⟨j, hj, rfl⟩ := hx
    have a1 : (piece r S len j).hi = S j := by simp only [piece, if_pos hj]
    have a2 : (piece r S len (j + 1)).lo = S j := by unfold piece; split <;> rfl
    simp only [joinP, a1, a2]; exact beq_self_eq_true _
  unfold tiles
  rw [h, e1, e2, e3]
  simp

theorem rises_one {T : Nat → Rg} (h : (T 0).emp = false) : rises T 1 = true := by
  unfold rises
  rw [anyE_false (fun j hj => by obtain rfl : j = 0 := by omega
                                 exact h)]
  rfl

/-- A border that may stand behind lo in a range. -/
def okB (r : Rg) (lo b : ByteArray) : Bool := decide ((b.size : Int) ≤ 16) && (Op.bytesLess lo.toList b.toList && (r.op || Op.bytesLess b.toList r.hi.toList))

/-- The texts at hand. -/
def Sp (r : Rg) (S : Nat → ByteArray) (n : Nat) : List (List UInt8) := [] :: r.lo.toList :: r.hi.toList :: (List.range n).map (fun i => (S i).toList)

theorem sp_S {r : Rg} {S : Nat → ByteArray} {n i : Nat} (hi : i < n) : (S i).toList ∈ Sp r S n := by
  simp only [Sp, List.mem_cons, List.mem_map, List.mem_range]
  exact .inr (.inr (.inr ⟨i, hi, rfl⟩))
theorem sp_lo {r : Rg} {S : Nat → ByteArray} {n : Nat} : r.lo.toList ∈ Sp r S n := by simp [Sp]
theorem sp_hi {r : Rg} {S : Nat → ByteArray} {n : Nat} : r.hi.toList ∈ Sp r S n := by simp [Sp]
theorem sp_nil {r : Rg} {S : Nat → ByteArray} {n : Nat} : [] ∈ Sp r S n := by simp [Sp]
theorem sp_cut {r : Rg} {S : Nat → ByteArray} {n i : Nat} (hi : i ≤ n) : (cutLo r.lo S i).toList ∈ Sp r S n := by
  cases i with
  | zero => exact sp_lo
  | succ i => exact sp_S (by omega)
theorem sp_piece {r : Rg} {S : Nat → ByteArray} {n i : Nat} (hi : i ≤ n) : In (Sp r S n) (piece r S n i) := by
  unfold piece
  split
  · exact ⟨sp_cut hi, sp_S ‹_›, sp_nil⟩
  · exact ⟨sp_cut hi, sp_hi, sp_nil⟩

theorem rises_cut {r : Rg} {S : Nat → ByteArray} {len : Nat} (hm : r.may = true) (hl : 0 < len) : rises (piece r S len) (len + 1) = true ↔ ∀ i, i < len → okB r (cutLo r.lo S i) (S i) = true := by
  have hR : In (Sp r S len) r := ⟨sp_lo, sp_hi, sp_nil⟩
  have hmr := (may_rk hR).1 hm
  have okn : ∀ i, i < len → (okB r (cutLo r.lo S i) (S i) = true ↔ ((S i).size : Int) ≤ 16 ∧ rk (Sp r S len) (cutLo r.lo S i).toList < rk (Sp r S len) (S i).toList ∧ (r.op = true ∨ rk (Sp r S len) (S i).toList < rk (Sp r S len) r.hi.toList)) := by
    intro i hi
    unfold okB
    rw [rk_lt (sp_cut (by omega)) (sp_S (r := r) hi), rk_lt (sp_S hi) (sp_hi (r := r))]
    simp only [Bool.and_eq_true, Bool.or_eq_true, decide_eq_true_eq]
  have pe : ∀ i, i ≤ len → ((piece r S len i).emp = false ↔ _) := fun i hi => emp_num (sp_piece hi)
  constructor
  · intro h
    simp only [rises, Bool.and_eq_true, Bool.not_eq_true'] at h
    have ne : ∀ i, i ≤ len → (piece r S len i).emp = false := by
      intro i hi
      cases he : (piece r S len i).emp
      · rfl
      · rw [anyE_true (j := i) (by omega) he] at h; cases h.1
    have st : ∀ i, i < len → ((S i).size : Int) ≤ 16 ∧ rk (Sp r S len) (cutLo r.lo S i).toList < rk (Sp r S len) (S i).toList := by
      intro i hi
      have := (pe i (by omega)).1 (ne i (by omega))
      simp only [piece, if_pos hi] at this
      rcases this with ⟨⟨_, h2⟩, ⟨h3, _⟩ | ⟨_, h4⟩⟩
      · cases h3
      · exact ⟨h2, h4⟩
    have mono : ∀ j i, i ≤ j → j < len + 1 → rk (Sp r S len) (cutLo r.lo S i).toList + (j - i) ≤ rk (Sp r S len) (cutLo r.lo S j).toList :=
      steps_mono (L := fun i => rk (Sp r S len) (cutLo r.lo S i).toList) (U := fun i => rk (Sp r S len) (S i).toList) (fun i hi => ⟨(st i (by omega)).2, rfl⟩)
    intro i hi
    refine (okn i hi).2 ⟨(st i hi).1, (st i hi).2, ?_⟩
    have hlast := (pe len (Nat.le_refl _)).1 (ne len (Nat.le_refl _))
    simp only [piece, if_neg (Nat.lt_irrefl len)] at hlast
    rcases hlast.2 with ⟨h3, _⟩ | ⟨_, h4⟩
    · exact .inl h3
    · have := mono len (i + 1) (by omega) (by omega)
      rw [show cutLo r.lo S (i + 1) = S i from rfl] at this
      exact .inr (by omega)
  · intro h
    have h' := fun i hi => (okn i hi).1 (h i hi)
    have csz : ∀ i, i ≤ len → ((cutLo r.lo S i).size : Int) ≤ 16 := by
      intro i hi
      cases i with
      | zero => exact hmr.1.1
      | succ i => exact (h' i (by omega)).1
    have ne : ∀ i, i ≤ len → (piece r S len i).emp = false := by
      intro i hi
      refine (pe i hi).2 ?_
      by_cases e : i < len
      · simp only [piece, if_pos e]
        exact ⟨⟨csz i hi, (h' i e).1⟩, .inr ⟨trivial, (h' i e).2.1⟩⟩
      · obtain rfl : i = len := by omega
        simp only [piece, if_neg (Nat.lt_irrefl i)]
        refine ⟨⟨csz i hi, hmr.1.2⟩, ?_⟩
        rcases hmr.2 with h3 | ⟨h3, _⟩
        · exact .inl h3
        · refine .inr ⟨h3, ?_⟩
          obtain ⟨j, rfl⟩ : ∃ j, i = j + 1 := ⟨i - 1, by omega⟩
          rcases (h' j (by omega)).2.2 with h5 | h5
          · rw [h3] at h5; cases h5
          · exact h5
    simp only [rises, Bool.and_eq_true, Bool.not_eq_true']
    refine ⟨anyE_false (fun j hj => ne j (by omega)), ?_⟩
    rw [List.all_eq_true]
    intro x hx
    simp only [upto, List.mem_map, List.mem_range, Nat.add_sub_cancel] at hx
    obtain ⟨j, hj, rfl⟩ := hx
    have a1 : (piece r S len j).hi = S j ∧ (piece r S len j).op = false := by simp only [piece, if_pos hj, and_self]
    have a2 : (piece r S len (j + 1)).lo = S j := by unfold piece; split <;> rfl
    simp only [okP, a1, a2, L_irrefl, Bool.or_false, Bool.not_false]


end Go.Proofs.Ytagcenfjdjaaaaa
