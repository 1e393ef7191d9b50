/-
  Plain mathematics: ranges by numbers, tiles, pieces.
  Plain mathematics of splits: how deep they go, how many keys are left behind them, where parts begin.
  What these laws' proofs need of the library, and the program's knob.
  Arguments of these laws, from their reading to plain ranges and lists of texts; texts owned and appended.
  Keys that are checked, by the code and by the document: none too long, and they rise.
-/
import Derived.Test.YtoflalflacopdaaDoorBg24
import Derived.Test.YtoflalflacopdaaDoorBg26
import Derived.Test.YtoflalflacopdaaDoorBg1
import Derived.ProofKit
import Derived.OpenShut
import Derived.ShutString
import Derived.SizedLaws
import Derived.HandedShaped
import Derived.Lib.SmallJoins
import Derived.Deep.Slices
import Derived.Deep.CondSized
import Derived.ChangeOld
import Derived.Test.YtoflalflacopdaaDoorBg25
import Derived.Laws.AppendOwnNone
import Derived.OrdersHeld
import Derived.Deep.RegionHeld
namespace Go.Proofs.YtoflalflacopdaaDoor
open Go.RowKit
set_option linter.unusedVariables false
/-- A range's bounds are among some texts. -/
def In (S : List (List UInt8)) (r : Rg) : Prop := r.lo.toList ∈ S ∧ r.hi.toList ∈ S ∧ [] ∈ S
theorem may_rk {S : List (List UInt8)} {r : Rg} (h : In S r) : r.may = true ↔ ((r.lo.size : Int) ≤ 16 ∧ (r.hi.size : Int) ≤ 16) ∧ ((r.op = true ∧ rk S r.hi.toList = rk S []) ∨ (r.op = false ∧ rk S r.lo.toList ≤ rk S r.hi.toList)) := by
  obtain ⟨h1, h2, h3⟩ := h
  have e1 := rk_lt h1 h2; have e2 := rk_eq h1 h2
  have e3 : r.hi.toList.isEmpty = decide (rk S r.hi.toList = rk S []) := by rw [← rk_eq h2 h3]; cases r.hi.toList <;> rfl
  unfold Rg.may Rg.chk
  rw [e1, e2, e3]
  by_cases hs : 16 < (r.lo.size : Int) ∨ 16 < (r.hi.size : Int)
  · rw [if_pos hs]
    constructor
    · intro h; cases h
    · rintro ⟨⟨g1, g2⟩, -⟩; omega
  · rw [if_neg hs]
    cases r.op
    · by_cases h4 : rk S r.lo.toList < rk S r.hi.toList
      · simp [h4]; omega
      · by_cases h5 : rk S r.lo.toList = rk S r.hi.toList
        · simp [h5]; omega
        · simp [h4, h5]; omega
    · by_cases h4 : rk S r.hi.toList = rk S []
      · simp [h4]; omega
      · simp [h4]
theorem emp_rk {S : List (List UInt8)} {r : Rg} (h : In S r) : r.emp = false ↔ r.may = true ∧ (r.op = true ∨ rk S r.lo.toList ≠ rk S r.hi.toList) := by
  obtain ⟨h1, h2, h3⟩ := h
  unfold Rg.emp
  rw [rk_eq h1 h2]
  cases r.may <;> cases r.op <;> simp
theorem has_rk {S : List (List UInt8)} {r : Rg} {k : ByteArray} (h : In S r) (hk : k.toList ∈ S) : r.has k = true ↔ r.may = true ∧ (k.size : Int) ≤ 16 ∧ rk S r.lo.toList ≤ rk S k.toList ∧ (r.op = true ∨ rk S k.toList < rk S r.hi.toList) := by
  obtain ⟨h1, h2, h3⟩ := h
  unfold Rg.has
  rw [rk_lt hk h1, rk_lt hk h2]
  cases r.may <;> cases r.op <;> simp [Nat.not_lt, and_assoc]
/-- Some texts: the bounds of two ranges, and the empty one. -/
def S2 (a b : Rg) : List (List UInt8) := [a.lo.toList, a.hi.toList, b.lo.toList, b.hi.toList, []]
theorem emp_of_not_may {r : Rg} (h : r.may = false) : r.emp = true := by simp [Rg.emp, h]
/-- A range that is not empty, by the places of its bounds. -/
theorem emp_num {S : List (List UInt8)} {r : Rg} (h : In S r) : r.emp = false ↔ ((r.lo.size : Int) ≤ 16 ∧ (r.hi.size : Int) ≤ 16) ∧ ((r.op = true ∧ rk S r.hi.toList = rk S []) ∨ (r.op = false ∧ rk S r.lo.toList < rk S r.hi.toList)) := by
  rw [emp_rk h, may_rk h]
  cases r.op <;> simp <;> omega
/-- Some texts: the bounds of two ranges, the empty one, and a key. -/
def S3 (a b : Rg) (k : ByteArray) : List (List UInt8) := [a.lo.toList, a.hi.toList, b.lo.toList, b.hi.toList, [], k.toList]
theorem in3a (a b : Rg) (k : ByteArray) : In (S3 a b k) a := ⟨by simp [S3], by simp [S3], by simp [S3]⟩
theorem in3k (a b : Rg) (k : ByteArray) : k.toList ∈ S3 a b k := by simp [S3]
/-- An empty range has no key. -/
theorem has_not_emp {r : Rg} {k : ByteArray} (h : r.has k = true) : r.emp = false := by
  rw [emp_num (in3a r r k)]
  obtain ⟨h1, h2, h3, h4⟩ := (has_rk (in3a r r k) (in3k r r k)).1 h
  obtain ⟨m1, m2⟩ := (may_rk (in3a r r k)).1 h1
  refine ⟨m1, ?_⟩
  rcases m2 with m2 | ⟨o, m2⟩
  · exact .inl m2
  · rcases h4 with h4 | h4
    · rw [o] at h4; cases h4
    · exact .inr ⟨o, by omega⟩
/-- How many of the first n ranges hold a key. -/
def cnt (T : Nat → Rg) (k : ByteArray) : Nat → Nat
  | 0 => 0
  | n + 1 => cnt T k n + ((T n).has k).toNat
theorem toNat_iff {b : Bool} {P : Prop} [Decidable P] (h : b = true ↔ P) : b.toNat = if P then 1 else 0 := by
  by_cases hp : P
  · rw [if_pos hp, h.2 hp]; rfl
  · rw [if_neg hp]
    cases b
    · rfl
    · exact absurd (h.1 rfl) hp
/-- Ranges one behind the other, from where another one begins to where it ends. -/
structure Chain (T : Nat → Rg) (n : Nat) (r : Rg) : Prop where
  pos : 0 < n
  ne : ∀ i, i < n → (T i).emp = false
  cl : ∀ i, i + 1 < n → (T i).op = false
  jn : ∀ i, i + 1 < n → (T (i + 1)).lo = (T i).hi
  lo : (T 0).lo = r.lo
  en : endAl (T (n - 1)) r = true
theorem chain_of {T : Nat → Rg} {n : Nat} {r : Rg} (h : tiles T n r = true) : Chain T n r := by
  simp only [tiles, rises, Bool.and_eq_true, decide_eq_true_eq, Bool.not_eq_true', List.all_eq_true, upto, List.mem_map, List.mem_range, beq_iff_eq] at h
  obtain ⟨h1, ⟨h2, h3⟩, h4, h5, h6⟩ := h
  refine ⟨h1, fun i hi => ?_, fun i hi => ?_, fun i hi => ?_, toList_inj h5, h6⟩
  · cases he : (T i).emp
    · rfl
    · rw [anyE_true hi he] at h2; cases h2
  · have := h3 (T i, T (i + 1)) ⟨i, by omega, rfl⟩
    simp only [okP, Bool.not_eq_true', Bool.or_eq_false_iff] at this
    exact this.1
  · have := h4 (T i, T (i + 1)) ⟨i, by omega, rfl⟩
    simp only [joinP, beq_iff_eq] at this
    exact toList_inj this
/-- The texts at hand. -/
def St (T : Nat → Rg) (n : Nat) (r : Rg) (k : ByteArray) : List (List UInt8) :=
  [] :: k.toList :: r.lo.toList :: r.hi.toList :: ((List.range n).map (fun i => (T i).lo.toList) ++ (List.range n).map (fun i => (T i).hi.toList))
theorem st_T {T : Nat → Rg} {n : Nat} {r : Rg} {k : ByteArray} {i : Nat} (hi : i < n) : In (St T n r k) (T i) := by
  refine ⟨?_, ?_, by simp [St]⟩
  · simp only [St, List.mem_cons, List.mem_append, List.mem_map, List.mem_range]
    exact .inr (.inr (.inr (.inr (.inl ⟨i, hi, rfl⟩))))
  · simp only [St, List.mem_cons, List.mem_append, List.mem_map, List.mem_range]
    exact .inr (.inr (.inr (.inr (.inr ⟨i, hi, rfl⟩))))
theorem st_r {T : Nat → Rg} {n : Nat} {r : Rg} {k : ByteArray} : In (St T n r k) r := ⟨by simp [St], by simp [St], by simp [St]⟩
theorem st_k {T : Nat → Rg} {n : Nat} {r : Rg} {k : ByteArray} : k.toList ∈ St T n r k := by simp [St]
/-- A chain, in numbers. -/
theorem chain_num {T : Nat → Rg} {n : Nat} {r : Rg} (hc : Chain T n r) (S : List (List UInt8)) (hT : ∀ i, i < n → In S (T i)) :
    (∀ i, i + 1 < n → rk S (T i).lo.toList < rk S (T i).hi.toList ∧ rk S (T (i + 1)).lo.toList = rk S (T i).hi.toList) ∧ rk S (T 0).lo.toList = rk S r.lo.toList ∧
    ((T (n - 1)).op = r.op ∧ (r.op = false → rk S (T (n - 1)).lo.toList < rk S (T (n - 1)).hi.toList ∧ rk S (T (n - 1)).hi.toList = rk S r.hi.toList)) := by
  refine ⟨fun i hi => ⟨?_, by rw [hc.jn i hi]⟩, by rw [hc.lo], ?_⟩
  · have := (emp_num (hT i (by omega))).1 (hc.ne i (by omega))
    rcases this.2 with ⟨h, _⟩ | ⟨_, h⟩
    · rw [hc.cl i hi] at h; cases h
    · exact h
  · have he := hc.en
    simp only [endAl, Bool.or_eq_true, Bool.and_eq_true, Bool.not_eq_true', beq_iff_eq] at he
    rcases he with ⟨h1, h2⟩ | ⟨h1, h2, h3⟩
    · rw [h1, h2]; exact ⟨rfl, fun h => by cases h⟩
    · rw [h1, h2]
      refine ⟨rfl, fun _ => ⟨?_, by rw [h3]⟩⟩
      have := (emp_num (hT (n - 1) (by have := hc.pos; omega))).1 (hc.ne (n - 1) (by have := hc.pos; omega))
      rcases this.2 with ⟨h, _⟩ | ⟨_, h⟩
      · rw [h1] at h; cases h
      · exact h
/-- Numbers that rise step by step. -/
theorem steps_mono {L U : Nat → Nat} {n : Nat} (h : ∀ i, i + 1 < n → L i < U i ∧ L (i + 1) = U i) : ∀ j i, i ≤ j → j < n → L i + (j - i) ≤ L j
  | 0, i, hi, _ => by obtain rfl : i = 0 := by omega
                      omega
  | j + 1, i, hi, hj => by
    by_cases e : i = j + 1
    · subst e; omega
    · have h1 := steps_mono h j i (by omega) (by omega)
      have h2 := h j hj
      omega
theorem cnt_chain {T : Nat → Rg} {n : Nat} {r : Rg} (hc : Chain T n r) (hr : r.may = true) (k : ByteArray) : cnt T k n = (r.has k).toNat := by
  have hT : ∀ i, i < n → In (St T n r k) (T i) := fun i hi => st_T hi
  have hR : In (St T n r k) r := st_r
  have hK : k.toList ∈ St T n r k := st_k
  obtain ⟨h1, h2, h3, h4⟩ := chain_num hc _ hT
  generalize St T n r k = S at *
  have mono : ∀ j i, i ≤ j → j < n → rk S (T i).lo.toList + (j - i) ≤ rk S (T j).lo.toList := steps_mono (L := fun i => rk S (T i).lo.toList) (U := fun i => rk S (T i).hi.toList) h1
  have pre : ∀ m, m < n → cnt T k m = if (k.size : Int) ≤ 16 ∧ rk S r.lo.toList ≤ rk S k.toList ∧ rk S k.toList < rk S (T m).lo.toList then 1 else 0 := by
    intro m
    induction m with
    | zero => intro _; rw [cnt, if_neg (by omega)]
    | succ m ih =>
      intro hm
      have hh := has_rk (hT m (by omega)) hK
      have hmay : (T m).may = true := by
        have := hc.ne m (by omega)
        cases hq : (T m).may
        · rw [emp_of_not_may hq] at this; cases this
        · rfl
      rw [cnt, ih (by omega), toNat_iff hh, hmay, hc.cl m hm]
      have g1 := (h1 m hm)
      have g2 := mono m 0 (by omega) (by omega)
      by_cases hs : (k.size : Int) ≤ 16
      · simp only [hs, true_and, Bool.false_eq_true, false_or]
        split <;> split <;> split <;> omega
      · simp [hs]
  obtain ⟨m, rfl⟩ : ∃ m, n = m + 1 := ⟨n - 1, by have := hc.pos; omega⟩
  simp only [Nat.add_sub_cancel] at h3 h4
  have hh := has_rk (hT m (by omega)) hK
  have hg := has_rk hR hK
  have hmay : (T m).may = true := by
    have := hc.ne m (by omega)
    cases hq : (T m).may
    · rw [emp_of_not_may hq] at this; cases this
    · rfl
  have g2 := mono m 0 (by omega) (by omega)
  rw [cnt, pre m (by omega), toNat_iff hh, toNat_iff hg, hmay, hr, h3]
  by_cases hs : (k.size : Int) ≤ 16
  · cases ho : r.op
    · have := h4 ho
      simp only [hs, true_and, Bool.false_eq_true, false_or]
      split <;> split <;> split <;> omega
    · simp only [hs, true_and, true_or, and_true]
      split <;> split <;> split <;> omega
  · simp [hs]
/-- A range that is cut tiles it, where it is cut into ranges that rise. -/
theorem piece_tiles {r : Rg} {S : Nat → ByteArray} {len : Nat} (h : rises (piece r S len) (len + 1) = true) : tiles (piece r S len) (len + 1) r = true := by
  have e1 : ((piece r S len 0).lo.toList == r.lo.toList) = true := by
    have : (piece r S len 0).lo = r.lo := by unfold piece; split <;> rfl
    rw [this]; exact beq_self_eq_true _
  have e2 : endAl (piece r S len (len + 1 - 1)) r = true := by
    simp only [Nat.add_sub_cancel, piece, Nat.lt_irrefl, if_false, endAl]
    cases r.op <;> simp
  have e3 : (upto (fun j => (piece r S len j, piece r S len (j + 1))) (len + 1 - 1)).all joinP = true := by
    rw [List.all_eq_true]
    intro x hx
    simp only [upto, List.mem_map, List.mem_range, Nat.add_sub_cancel] at hx
    obtain ⟨j, hj, rfl⟩ := hx
    have a1 : (piece r S len j).hi = S j := by simp only [piece, if_pos hj]
    have a2 : (piece r S len (j + 1)).lo = S j := by unfold piece; split <;> rfl
    simp only [joinP, a1, a2]; exact beq_self_eq_true _
  unfold tiles
  rw [h, e1, e2, e3]
  simp
theorem rises_one {T : Nat → Rg} (h : (T 0).emp = false) : rises T 1 = true := by
  unfold rises
  rw [anyE_false (fun j hj => by obtain rfl : j = 0 := by omega
                                 exact h)]
  rfl
/-- A border that may stand behind lo in a range. -/
def okB (r : Rg) (lo b : ByteArray) : Bool := decide ((b.size : Int) ≤ 16) && (Op.bytesLess lo.toList b.toList && (r.op || Op.bytesLess b.toList r.hi.toList))
/-- The texts at hand. -/
def Sp (r : Rg) (S : Nat → ByteArray) (n : Nat) : List (List UInt8) := [] :: r.lo.toList :: r.hi.toList :: (List.range n).map (fun i => (S i).toList)
theorem sp_S {r : Rg} {S : Nat → ByteArray} {n i : Nat} (hi : i < n) : (S i).toList ∈ Sp r S n := by
  simp only [Sp, List.mem_cons, List.mem_map, List.mem_range]
  exact .inr (.inr (.inr ⟨i, hi, rfl⟩))
theorem sp_lo {r : Rg} {S : Nat → ByteArray} {n : Nat} : r.lo.toList ∈ Sp r S n := by simp [Sp]
theorem sp_hi {r : Rg} {S : Nat → ByteArray} {n : Nat} : r.hi.toList ∈ Sp r S n := by simp [Sp]
theorem sp_nil {r : Rg} {S : Nat → ByteArray} {n : Nat} : [] ∈ Sp r S n := by simp [Sp]
theorem sp_cut {r : Rg} {S : Nat → ByteArray} {n i : Nat} (hi : i ≤ n) : (cutLo r.lo S i).toList ∈ Sp r S n := by
  cases i with
  | zero => exact sp_lo
  | succ i => exact sp_S (by omega)
theorem sp_piece {r : Rg} {S : Nat → ByteArray} {n i : Nat} (hi : i ≤ n) : In (Sp r S n) (piece r S n i) := by
  unfold piece
  split
  · exact ⟨sp_cut hi, sp_S ‹_›, sp_nil⟩
  · exact ⟨sp_cut hi, sp_hi, sp_nil⟩
theorem rises_cut {r : Rg} {S : Nat → ByteArray} {len : Nat} (hm : r.may = true) (hl : 0 < len) : rises (piece r S len) (len + 1) = true ↔ ∀ i, i < len → okB r (cutLo r.lo S i) (S i) = true := by
  have hR : In (Sp r S len) r := ⟨sp_lo, sp_hi, sp_nil⟩
  have hmr := (may_rk hR).1 hm
  have okn : ∀ i, i < len → (okB r (cutLo r.lo S i) (S i) = true ↔ ((S i).size : Int) ≤ 16 ∧ rk (Sp r S len) (cutLo r.lo S i).toList < rk (Sp r S len) (S i).toList ∧ (r.op = true ∨ rk (Sp r S len) (S i).toList < rk (Sp r S len) r.hi.toList)) := by
    intro i hi
    unfold okB
    rw [rk_lt (sp_cut (by omega)) (sp_S (r := r) hi), rk_lt (sp_S hi) (sp_hi (r := r))]
    simp only [Bool.and_eq_true, Bool.or_eq_true, decide_eq_true_eq]
  have pe : ∀ i, i ≤ len → ((piece r S len i).emp = false ↔ _) := fun i hi => emp_num (sp_piece hi)
  constructor
  · intro h
    simp only [rises, Bool.and_eq_true, Bool.not_eq_true'] at h
    have ne : ∀ i, i ≤ len → (piece r S len i).emp = false := by
      intro i hi
      cases he : (piece r S len i).emp
      · rfl
      · rw [anyE_true (j := i) (by omega) he] at h; cases h.1
    have st : ∀ i, i < len → ((S i).size : Int) ≤ 16 ∧ rk (Sp r S len) (cutLo r.lo S i).toList < rk (Sp r S len) (S i).toList := by
      intro i hi
      have := (pe i (by omega)).1 (ne i (by omega))
      simp only [piece, if_pos hi] at this
      rcases this with ⟨⟨_, h2⟩, ⟨h3, _⟩ | ⟨_, h4⟩⟩
      · cases h3
      · exact ⟨h2, h4⟩
    have mono : ∀ j i, i ≤ j → j < len + 1 → rk (Sp r S len) (cutLo r.lo S i).toList + (j - i) ≤ rk (Sp r S len) (cutLo r.lo S j).toList :=
      steps_mono (L := fun i => rk (Sp r S len) (cutLo r.lo S i).toList) (U := fun i => rk (Sp r S len) (S i).toList) (fun i hi => ⟨(st i (by omega)).2, rfl⟩)
    intro i hi
    refine (okn i hi).2 ⟨(st i hi).1, (st i hi).2, ?_⟩
    have hlast := (pe len (Nat.le_refl _)).1 (ne len (Nat.le_refl _))
    simp only [piece, if_neg (Nat.lt_irrefl len)] at hlast
    rcases hlast.2 with ⟨h3, _⟩ | ⟨_, h4⟩
    · exact .inl h3
    · have := mono len (i + 1) (by omega) (by omega)
      rw [show cutLo r.lo S (i + 1) = S i from rfl] at this
      exact .inr (by omega)
  · intro h
    have h' := fun i hi => (okn i hi).1 (h i hi)
    have csz : ∀ i, i ≤ len → ((cutLo r.lo S i).size : Int) ≤ 16 := by
      intro i hi
      cases i with
      | zero => exact hmr.1.1
      | succ i => exact (h' i (by omega)).1
    have ne : ∀ i, i ≤ len → (piece r S len i).emp = false := by
      intro i hi
      refine (pe i hi).2 ?_
      by_cases e : i < len
      · simp only [piece, if_pos e]
        exact ⟨⟨csz i hi, (h' i e).1⟩, .inr ⟨trivial, (h' i e).2.1⟩⟩
      · obtain rfl : i = len := by omega
        simp only [piece, if_neg (Nat.lt_irrefl i)]
        refine ⟨⟨csz i hi, hmr.1.2⟩, ?_⟩
        rcases hmr.2 with h3 | ⟨h3, _⟩
        · exact .inl h3
        · refine .inr ⟨h3, ?_⟩
          obtain ⟨j, rfl⟩ : ∃ j, i = j + 1 := ⟨i - 1, by omega⟩
          rcases (h' j (by omega)).2.2 with h5 | h5
          · rw [h3] at h5; cases h5
          · exact h5
    simp only [rises, Bool.and_eq_true, Bool.not_eq_true']
    refine ⟨anyE_false (fun j hj => ne j (by omega)), ?_⟩
    rw [List.all_eq_true]
    intro x hx
    simp only [upto, List.mem_map, List.mem_range, Nat.add_sub_cancel] at hx
    obtain ⟨j, hj, rfl⟩ := hx
    have a1 : (piece r S len j).hi = S j ∧ (piece r S len j).op = false := by simp only [piece, if_pos hj, and_self]
    have a2 : (piece r S len (j + 1)).lo = S j := by unfold piece; split <;> rfl
    simp only [okP, a1, a2, L_irrefl, Bool.or_false, Bool.not_false]
end Go.Proofs.YtoflalflacopdaaDoor
namespace Go.Proofs.YtoflalflacopdaaDoor
open Go.RowKit
set_option linter.unusedVariables false
/-- The least whole number that is at least n / b. -/
def cdiv (n b : Nat) : Nat := (n + b - 1) / b
/-- Where part j of p parts of n things begins. -/
def stt (n p j : Nat) : Nat := j * n / p
theorem stt_zero (n p : Nat) : stt n p 0 = 0 := by unfold stt; rw [Nat.zero_mul, Nat.zero_div]
theorem stt_end (n : Nat) {p : Nat} (hp : 0 < p) : stt n p p = n := by unfold stt; rw [Nat.mul_div_cancel_left _ hp]
theorem stt_step (n : Nat) {p : Nat} (hp : 0 < p) (j : Nat) : stt n p j + n / p ≤ stt n p (j + 1) ∧ stt n p (j + 1) ≤ stt n p j + n / p + 1 := by
  unfold stt
  rw [Nat.add_mul, Nat.one_mul]
  generalize j * n = a
  constructor
  · rw [Nat.le_div_iff_mul_le hp, Nat.add_mul]
    have h1 := Nat.div_mul_le_self a p
    have h2 := Nat.div_mul_le_self n p
    omega
  · rw [← Nat.lt_succ_iff, Nat.div_lt_iff_lt_mul hp]
    have h1 := Nat.lt_div_mul_add (a := a) hp
    have h2 := Nat.lt_div_mul_add (a := n) hp
    have h3 : (a / p + n / p + 1).succ * p = a / p * p + n / p * p + p + p := by
      rw [Nat.succ_mul, Nat.add_mul, Nat.add_mul, Nat.one_mul]
    omega
theorem stt_le {n p j : Nat} (hp : 0 < p) (hj : j ≤ p) : stt n p j ≤ n := by
  unfold stt
  exact Nat.div_le_of_le_mul (Nat.mul_le_mul_right n hj)
theorem stt_lt {n p j : Nat} (hn : 0 < n) (hp : 0 < p) (hj : j < p) : stt n p j < n := by
  unfold stt
  rw [Nat.div_lt_iff_lt_mul hp, Nat.mul_comm n p]
  exact Nat.mul_lt_mul_of_pos_right hj hn
theorem div_pos' {n p : Nat} (hp : 0 < p) (h : p ≤ n) : 1 ≤ n / p := (Nat.le_div_iff_mul_le hp).2 (by omega)
theorem stt_cdiv (n : Nat) {p : Nat} (hp : 0 < p) (j : Nat) : stt n p (j + 1) ≤ stt n p j + cdiv n p := by
  unfold stt cdiv
  rw [Nat.add_mul, Nat.one_mul]
  generalize j * n = a
  rw [← Nat.lt_succ_iff, Nat.div_lt_iff_lt_mul hp]
  have h1 := Nat.lt_div_mul_add (a := a) hp
  have h2 := Nat.lt_div_mul_add (a := n + p - 1) hp
  have h3 : (a / p + (n + p - 1) / p).succ * p = a / p * p + (n + p - 1) / p * p + p := by
    rw [Nat.succ_mul, Nat.add_mul]
  omega
end Go.Proofs.YtoflalflacopdaaDoor
namespace Go.Proofs.YtoflalflacopdaaDoor
open Go.ChangeShapes Go.WideShapes Go.ChangeAt Go.RowKit
set_option linter.unusedVariables false
end Go.Proofs.YtoflalflacopdaaDoor
namespace Go.Proofs.YtoflalflacopdaaDoor
open Go.ChangeShapes Go.WideShapes Go.ChangeAt Go.RowKit
set_option linter.unusedVariables false
theorem cellsRg : Tryd.prog.cellsOf 24 = 3 := by kernel_rfl
theorem infoStr : (Tryd.prog.info? 9).map (fun i => (i.zero, i.size, i.bytes)) = some (some (.string ⟨#[]⟩), 1, 16) := by kernel_rfl
theorem infoStr_parts : ∃ i, Tryd.prog.info? 9 = some i ∧ i.zero = some (.string ⟨#[]⟩) ∧ i.size = 1 ∧ i.bytes = 16 := by
  have h := infoStr
  cases hi : Tryd.prog.info? 9 with
  | none => rw [hi] at h; cases h
  | some i =>
    rw [hi] at h
    simp only [Option.map_some, Option.some.injEq, Prod.mk.injEq] at h
    exact ⟨i, rfl, h.1, h.2.1, h.2.2⟩
/-- Some texts as cells. -/
def strCells (bs : List ByteArray) : List Value := bs.map Value.string
/-- The first n texts of a list. -/
def strUpto (S : Nat → ByteArray) (n : Nat) : List ByteArray := (List.range n).map S
section
variable {H : Type} {enc : TypeId × Value → H} {W : World}
set_option maxRecDepth 100000 in
theorem open_rg {b0 : Nat} {sp : Nat → Bool} {held : Bool} {v : Value} {d : DataW H} {p : List MemPlace} (hv : Value.okWide Tryd.prog W .any b0 24 v) (h : DataW.Trod enc Tryd.prog W 0 sp held 24 v d p) :
    ∃ (lo hi : ByteArray) (op : Bool), v = .agg #[.string lo, .string hi, .bool op] ∧ d = .agg [.lit (.string lo.data.toList), .lit (.string hi.data.toList), .lit (.bool op)] ∧ p = [] ∧ lo.size ≤ maxLen ∧ hi.size ≤ maxLen := by
  obtain ⟨c0, c1, c2, y0, y1, y2, m, rfl, rfl, rfl, hy0, hy1, hy2⟩ := Joins.open_agg3 Tryd.underlying24 (by kernel_rfl) cellsRg hv h
  obtain ⟨lo, e0, rfl, w0⟩ := DataW.trod_string Tryd.underlying9 hy0
  obtain ⟨hi, e1, rfl, w1⟩ := DataW.trod_string Tryd.underlying9 hy1
  obtain ⟨op, e2, rfl⟩ := DataW.trod_bool Tryd.underlying4 hy2
  simp only [List.cons.injEq, and_true] at e0 e1 e2
  subst e0 e1 e2
  exact ⟨lo, hi, op, rfl, rfl, rfl, w0, w1⟩
end
end Go.Proofs.YtoflalflacopdaaDoor
namespace Go.Proofs.YtoflalflacopdaaDoor
open Go.RowKit
set_option linter.unusedVariables false
def longK (S : Nat → ByteArray) (n : Nat) : Bool := (List.range n).any fun i => decide ((16 : Int) < (S i).size)
def riseK (S : Nat → ByteArray) (n : Nat) : Bool := (List.range (n - 1)).all fun i => Op.bytesLess (S i).toList (S (i + 1)).toList
/-- What is wrong with keys. -/
def keyE (S : Nat → ByteArray) (n : Nat) : Int := if longK S n then 20 else if riseK S n then 0 else 22
theorem leq_not (x y : List UInt8) : (Op.bytesLess x y || x == y) = !Op.bytesLess y x := by
  cases h1 : Op.bytesLess x y
  · cases h2 : Op.bytesLess y x
    · have := L_total x y h1 h2
      subst this
      simp
    · cases h3 : (x == y)
      · rfl
      · have : x = y := by simpa using h3
        subst this
        rw [h1] at h2; cases h2
  · cases h2 : Op.bytesLess y x
    · rfl
    · have := L_trans x y x h1 h2
      rw [L_irrefl] at this; cases this
theorem longK_true {S : Nat → ByteArray} {n k : Nat} (hk : k < n) (h : (16 : Int) < (S k).size) : longK S n = true := by
  unfold longK
  rw [List.any_eq_true]
  exact ⟨k, List.mem_range.2 hk, by simpa using h⟩
theorem longK_false {S : Nat → ByteArray} {n : Nat} (h : ∀ k, k < n → ((S k).size : Int) ≤ 16) : longK S n = false := by
  unfold longK
  rw [List.any_eq_false]
  intro k hk
  have := h k (List.mem_range.1 hk)
  simp; omega
theorem riseK_false {S : Nat → ByteArray} {n k : Nat} (hk : k + 1 < n) (h : Op.bytesLess (S k).toList (S (k + 1)).toList = false) : riseK S n = false := by
  unfold riseK
  rw [List.all_eq_false]
  exact ⟨k, List.mem_range.2 (by omega), by simp [h]⟩
theorem riseK_true {S : Nat → ByteArray} {n : Nat} (h : ∀ k, k + 1 < n → Op.bytesLess (S k).toList (S (k + 1)).toList = true) : riseK S n = true := by
  unfold riseK
  rw [List.all_eq_true]
  intro k hk
  exact h k (by have := List.mem_range.1 hk; omega)
set_option maxHeartbeats 800000 in
theorem tooLong_any (k : ByteArray) (w : World) : Calls Tryd.prog 101 #[.string k] w fun e w' => e = .returned (.bool (decide ((16 : Int) < k.size))) ∧ w' = w := by
  go_enter Tryd.func101, Tryd.ntmps101
  go_wp2
  go_ret
  exact ⟨rfl, rfl⟩
set_option maxRecDepth 100000 in
set_option maxHeartbeats 2000000 in
theorem idxK_any (a : Option Addr) (len cap : Nat) (S : Nat → ByteArray) (w : World) (h : StrsIn w.heap.size w a len cap S) :
    Calls Tryd.prog 119 #[.slice a len cap, .func (.func 101) #[] #[]] w fun e w' => ∃ i : Int, e = .returned (.int .i64 i) ∧ decide (0 ≤ i) = longK S len ∧ w' = w := by
  obtain ⟨hlc, hl16, hh⟩ := h
  go_enter Tryd.func119, Tryd.ntmps119
  go_wp2
  go_loopw [8] (fun i wr => ∃ k : Nat, k ≤ len ∧ i = .int .i64 (k : Int) ∧ Hid (∀ j, j < k → ((S j).size : Int) ≤ 16) ∧ wr = w) (fun i _ => len - (intOf i).toNat)
  case atStart => exact ⟨0, Nat.zero_le _, rfl, fun j hj => by omega, rfl⟩
  case round =>
    obtain ⟨k, hk, rfl, hall, rfl⟩ := hrel
    by_cases hlt : (k : Int) < (len : Int)
    · rcases hh with hh | ⟨b, off, rfl, hb, hc⟩
      · omega
      · have c0 := hc k (by omega)
        have hk0 : (0 : Int) ≤ (k : Int) := by omega
        have hqw : IntKind.i64.wrap ((k : Int) + 1) = (k : Int) + 1 := by rw [IntKind.wrap_i64]; omega
        clear hc
        cases he : decide ((16 : Int) < (S k).size)
        · have HA := aside (show ∀ j, j < k + 1 → ((S j).size : Int) ≤ 16 from fun j hj => by
            by_cases e : j = k
            · rw [e]; have := of_decide_eq_false he; omega
            · exact hall.out j (by omega))
          go_wp2_with fail
          refine (tooLong_any _ _).mono ?_
          rintro e w1 ⟨rfl, rfl⟩
          rw [he]
          go_wp2
          go_roundw
          case rel => exact ⟨k + 1, by omega, by go_num, HA, by trivial⟩
          case measure => simp [intOf]; omega
        · have HL := aside (longK_true (S := S) (n := len) (by omega) (of_decide_eq_true he))
          go_wp2_with fail
          refine (tooLong_any _ _).mono ?_
          rintro e w1 ⟨rfl, rfl⟩
          rw [he]
          go_wp2
          go_ret
          exact ⟨_, rfl, by rw [HL.out]; exact decide_eq_true hk0, rfl⟩
    · obtain rfl : len = k := by omega
      go_wp2
      go_ret
      exact ⟨_, rfl, by rw [longK_false hall.out]; rfl, rfl⟩
set_option maxHeartbeats 800000 in
theorem contK_any (a : Option Addr) (len cap : Nat) (S : Nat → ByteArray) (w : World) (h : StrsIn w.heap.size w a len cap S) :
    Calls Tryd.prog 100 #[.slice a len cap, .func (.func 101) #[] #[]] w fun e w' => e = .returned (.bool (longK S len)) ∧ w' = w := by
  have H := aside h
  clear h
  go_enter Tryd.func100, Tryd.ntmps100
  go_wp2_with fail
  refine (idxK_any a len cap S w H.out).mono ?_
  rintro e w1 ⟨i, rfl, hi, rfl⟩
  go_wp2
  go_ret
  exact ⟨by rw [← hi]; rfl, rfl⟩
set_option maxRecDepth 100000 in
set_option maxHeartbeats 3200000 in
theorem rise_any (a : Option Addr) (len cap : Nat) (S : Nat → ByteArray) (w : World) (h : StrsIn w.heap.size w a len cap S) :
    Calls Tryd.prog 102 #[.slice a len cap] w fun e w' => e = .returned (.bool (riseK S len)) ∧ Below w.heap.size w w' := by
  have hlc := h.1
  have hl16 := h.2.1
  have HH := aside h.2.2
  clear h
  go_enter Tryd.func102, Tryd.ntmps102
  go_wp2
  go_loopw [3] (fun i wr => ∃ k : Nat, (k = 0 ∨ k + 1 ≤ len) ∧ i = .int .i64 ((k : Int) + 1) ∧ Hid (∀ j, j < k → Op.bytesLess (S j).toList (S (j + 1)).toList = true) ∧ Below w.heap.size w wr) (fun i _ => len - (intOf i).toNat)
  case atStart => exact ⟨0, .inl rfl, rfl, fun j hj => by omega, Below.refl _ _⟩
  case round =>
    obtain ⟨k, hk, rfl, hall, hnx⟩ := hrel
    have HX := aside hnx
    by_cases hlt : (k : Int) + 1 < (len : Int)
    · rcases HH.out with h0 | ⟨b, off, rfl, hb, hc⟩
      · omega
      · have c1 := (hnx.cell (p := ⟨b, off + (k + 1), none⟩) hb).trans (hc (k + 1) (by omega))
        have c0 := (hnx.cell (p := ⟨b, off + k, none⟩) hb).trans (hc k (by omega))
        have hk0 : (0 : Int) ≤ (k : Int) := by omega
        have hk1 : (0 : Int) ≤ (k : Int) + 1 := by omega
        have hk2 : (k : Int) < (len : Int) := by omega
        have hkw : IntKind.i64.wrap (k : Int) = (k : Int) := by rw [IntKind.wrap_i64]; omega
        have hqw : IntKind.i64.wrap ((k : Int) + 1 + 1) = (k : Int) + 1 + 1 := by rw [IntKind.wrap_i64]; omega
        have KL := aside (show k + 1 < len from by omega)
        clear hc hnx
        have hle := leq_not (S (k + 1)).toList (S k).toList
        cases he : Op.bytesLess (S k).toList (S (k + 1)).toList
        · have HE := aside he
          go_wp2_with fail
          refine wp_region_held_drew (S := fun X => X.cell? ⟨b, off + (k + 1), none⟩ = some (.string (S (k + 1))) ∧ X.cell? ⟨b, off + k, none⟩ = some (.string (S k)) ∧ Hid (Below w.heap.size w X)) (by kernel_rfl) ⟨c1, c0, aside HX.out.drew⟩ (fun hHeld => ?_)
          refine wpAnyH_take (i := 0) (v := ?_) rfl (by kernel_rfl) (by kernel_rfl) (by kernel_rfl) (fun _ _ _ h => h) (Or.inl ⟨by rfl, ?_⟩) (by assumption) ?_
          rotate_left
          · intro w hSw
            go_simp
            try with_reducible rfl
          simp only [Act.put, List.getElem_toArray, List.getElem_cons_zero, List.setIfInBounds_toArray, List.set_cons_zero, List.set_cons_succ]
          refine wpAnyH_take (i := 1) (v := ?_) rfl (by kernel_rfl) (by kernel_rfl) (by kernel_rfl) (fun _ _ _ h => h) (Or.inl ⟨by rfl, ?_⟩) (by assumption) ?_
          rotate_left
          · intro w hSw
            go_simp
            try with_reducible rfl
          simp only [Act.put, List.getElem_toArray, List.getElem_cons_zero, List.getElem_cons_succ, List.setIfInBounds_toArray, List.set_cons_zero, List.set_cons_succ]
          refine wpAnyH_take (i := 2) (v := ?_) rfl (by kernel_rfl) (by kernel_rfl) (by kernel_rfl) (fun _ _ _ h => h) (Or.inl ⟨by rfl, ?_⟩) (by assumption) ?_
          rotate_left
          · intro w hSw
            go_simp
            try with_reducible rfl
          simp only [Act.put, List.getElem_toArray, List.getElem_cons_zero, List.getElem_cons_succ, List.setIfInBounds_toArray, List.set_cons_zero, List.set_cons_succ]
          refine wpAnyH_take (i := 3) (v := ?_) rfl (by kernel_rfl) (by kernel_rfl) (by kernel_rfl) (fun _ _ _ h => h) (Or.inl ⟨by rfl, ?_⟩) (by assumption) ?_
          rotate_left
          · intro w hSw
            go_simp
            try with_reducible rfl
          simp only [Act.put, List.getElem_toArray, List.getElem_cons_zero, List.getElem_cons_succ, List.setIfInBounds_toArray, List.set_cons_zero, List.set_cons_succ]
          refine wpAnyH_take (i := 4) (v := ?_) rfl (by kernel_rfl) (by kernel_rfl) (by kernel_rfl) (fun _ _ _ h => h) (Or.inl ⟨by rfl, ?_⟩) (by assumption) ?_
          rotate_left
          · intro w hSw
            go_simp
            try with_reducible rfl
          simp only [Act.put, List.getElem_toArray, List.getElem_cons_zero, List.getElem_cons_succ, List.setIfInBounds_toArray, List.set_cons_zero, List.set_cons_succ]
          refine wpAnyH_take (i := 5) (v := ?_) rfl (by kernel_rfl) (by kernel_rfl) (by kernel_rfl) (fun _ _ _ h => h) (Or.inl ⟨by rfl, ?_⟩) (by assumption) ?_
          rotate_left
          · intro w hSw
            go_simp
            try with_reducible rfl
          simp only [Act.put, List.getElem_toArray, List.getElem_cons_zero, List.getElem_cons_succ, List.setIfInBounds_toArray, List.set_cons_zero, List.set_cons_succ]
          refine wpAnyH_take (i := 6) (v := ?_) rfl (by kernel_rfl) (by kernel_rfl) (by kernel_rfl) (fun _ _ _ h => h) (Or.inl ⟨by rfl, ?_⟩) (by assumption) ?_
          rotate_left
          · intro w hSw
            go_simp
            try with_reducible rfl
          simp only [Act.put, List.getElem_toArray, List.getElem_cons_zero, List.getElem_cons_succ, List.setIfInBounds_toArray, List.set_cons_zero, List.set_cons_succ]
          refine wpAnyH_take (i := 7) (v := ?_) rfl (by kernel_rfl) (by kernel_rfl) (by kernel_rfl) (fun _ _ _ h => h) (Or.inl ⟨by rfl, ?_⟩) (by assumption) ?_
          rotate_left
          · intro w hSw
            go_simp
            try with_reducible rfl
          simp only [Act.put, List.getElem_toArray, List.getElem_cons_zero, List.getElem_cons_succ, List.setIfInBounds_toArray, List.set_cons_zero, List.set_cons_succ]
          refine wpAnyH_take (i := 8) (v := ?_) rfl (by kernel_rfl) (by kernel_rfl) (by kernel_rfl) (fun _ _ _ h => h) (Or.inl ⟨by rfl, ?_⟩) (by assumption) ?_
          rotate_left
          · intro w hSw
            go_simp
            try with_reducible rfl
          simp only [Act.put, List.getElem_toArray, List.getElem_cons_zero, List.getElem_cons_succ, List.setIfInBounds_toArray, List.set_cons_zero, List.set_cons_succ]
          refine wpAnyH_take (i := 9) (v := ?_) rfl (by kernel_rfl) (by kernel_rfl) (by kernel_rfl) (fun _ _ _ h => h) (Or.inl ⟨by rfl, ?_⟩) (by assumption) ?_
          rotate_left
          · intro w hSw
            go_simp
            try with_reducible rfl
          simp only [Act.put, List.getElem_toArray, List.getElem_cons_zero, List.getElem_cons_succ, List.setIfInBounds_toArray, List.set_cons_zero, List.set_cons_succ]
          refine wpAnyH_done (by kernel_rfl) ?_ _
          have HY := aside hHeld.2.2.out
          clear hHeld c0 c1
          clear hle he
          go_wp2
          go_ret
          exact ⟨by rw [riseK_false KL.out HE.out]; rfl, HY.out⟩
        · have HA := aside (show ∀ j, j < k + 1 → Op.bytesLess (S j).toList (S (j + 1)).toList = true from fun j hj => by
            by_cases e : j = k
            · rw [e]; exact he
            · exact hall.out j (by omega))
          go_wp2_with fail
          refine wp_region_held_drew (S := fun X => X.cell? ⟨b, off + (k + 1), none⟩ = some (.string (S (k + 1))) ∧ X.cell? ⟨b, off + k, none⟩ = some (.string (S k)) ∧ Hid (Below w.heap.size w X)) (by kernel_rfl) ⟨c1, c0, aside HX.out.drew⟩ (fun hHeld => ?_)
          refine wpAnyH_take (i := 0) (v := ?_) rfl (by kernel_rfl) (by kernel_rfl) (by kernel_rfl) (fun _ _ _ h => h) (Or.inl ⟨by rfl, ?_⟩) (by assumption) ?_
          rotate_left
          · intro w hSw
            go_simp
            try with_reducible rfl
          simp only [Act.put, List.getElem_toArray, List.getElem_cons_zero, List.setIfInBounds_toArray, List.set_cons_zero, List.set_cons_succ]
          refine wpAnyH_take (i := 1) (v := ?_) rfl (by kernel_rfl) (by kernel_rfl) (by kernel_rfl) (fun _ _ _ h => h) (Or.inl ⟨by rfl, ?_⟩) (by assumption) ?_
          rotate_left
          · intro w hSw
            go_simp
            try with_reducible rfl
          simp only [Act.put, List.getElem_toArray, List.getElem_cons_zero, List.getElem_cons_succ, List.setIfInBounds_toArray, List.set_cons_zero, List.set_cons_succ]
          refine wpAnyH_take (i := 2) (v := ?_) rfl (by kernel_rfl) (by kernel_rfl) (by kernel_rfl) (fun _ _ _ h => h) (Or.inl ⟨by rfl, ?_⟩) (by assumption) ?_
          rotate_left
          · intro w hSw
            go_simp
            try with_reducible rfl
          simp only [Act.put, List.getElem_toArray, List.getElem_cons_zero, List.getElem_cons_succ, List.setIfInBounds_toArray, List.set_cons_zero, List.set_cons_succ]
          refine wpAnyH_take (i := 3) (v := ?_) rfl (by kernel_rfl) (by kernel_rfl) (by kernel_rfl) (fun _ _ _ h => h) (Or.inl ⟨by rfl, ?_⟩) (by assumption) ?_
          rotate_left
          · intro w hSw
            go_simp
            try with_reducible rfl
          simp only [Act.put, List.getElem_toArray, List.getElem_cons_zero, List.getElem_cons_succ, List.setIfInBounds_toArray, List.set_cons_zero, List.set_cons_succ]
          refine wpAnyH_take (i := 4) (v := ?_) rfl (by kernel_rfl) (by kernel_rfl) (by kernel_rfl) (fun _ _ _ h => h) (Or.inl ⟨by rfl, ?_⟩) (by assumption) ?_
          rotate_left
          · intro w hSw
            go_simp
            try with_reducible rfl
          simp only [Act.put, List.getElem_toArray, List.getElem_cons_zero, List.getElem_cons_succ, List.setIfInBounds_toArray, List.set_cons_zero, List.set_cons_succ]
          refine wpAnyH_take (i := 5) (v := ?_) rfl (by kernel_rfl) (by kernel_rfl) (by kernel_rfl) (fun _ _ _ h => h) (Or.inl ⟨by rfl, ?_⟩) (by assumption) ?_
          rotate_left
          · intro w hSw
            go_simp
            try with_reducible rfl
          simp only [Act.put, List.getElem_toArray, List.getElem_cons_zero, List.getElem_cons_succ, List.setIfInBounds_toArray, List.set_cons_zero, List.set_cons_succ]
          refine wpAnyH_take (i := 6) (v := ?_) rfl (by kernel_rfl) (by kernel_rfl) (by kernel_rfl) (fun _ _ _ h => h) (Or.inl ⟨by rfl, ?_⟩) (by assumption) ?_
          rotate_left
          · intro w hSw
            go_simp
            try with_reducible rfl
          simp only [Act.put, List.getElem_toArray, List.getElem_cons_zero, List.getElem_cons_succ, List.setIfInBounds_toArray, List.set_cons_zero, List.set_cons_succ]
          refine wpAnyH_take (i := 7) (v := ?_) rfl (by kernel_rfl) (by kernel_rfl) (by kernel_rfl) (fun _ _ _ h => h) (Or.inl ⟨by rfl, ?_⟩) (by assumption) ?_
          rotate_left
          · intro w hSw
            go_simp
            try with_reducible rfl
          simp only [Act.put, List.getElem_toArray, List.getElem_cons_zero, List.getElem_cons_succ, List.setIfInBounds_toArray, List.set_cons_zero, List.set_cons_succ]
          refine wpAnyH_take (i := 8) (v := ?_) rfl (by kernel_rfl) (by kernel_rfl) (by kernel_rfl) (fun _ _ _ h => h) (Or.inl ⟨by rfl, ?_⟩) (by assumption) ?_
          rotate_left
          · intro w hSw
            go_simp
            try with_reducible rfl
          simp only [Act.put, List.getElem_toArray, List.getElem_cons_zero, List.getElem_cons_succ, List.setIfInBounds_toArray, List.set_cons_zero, List.set_cons_succ]
          refine wpAnyH_take (i := 9) (v := ?_) rfl (by kernel_rfl) (by kernel_rfl) (by kernel_rfl) (fun _ _ _ h => h) (Or.inl ⟨by rfl, ?_⟩) (by assumption) ?_
          rotate_left
          · intro w hSw
            go_simp
            try with_reducible rfl
          simp only [Act.put, List.getElem_toArray, List.getElem_cons_zero, List.getElem_cons_succ, List.setIfInBounds_toArray, List.set_cons_zero, List.set_cons_succ]
          refine wpAnyH_done (by kernel_rfl) ?_ _
          have HY := aside hHeld.2.2.out
          clear hHeld c0 c1
          clear hle he
          go_wp2
          go_roundw
          case rel => exact ⟨k + 1, .inr (by omega), by go_num, HA, HY.out⟩
          case measure => simp [intOf]; omega
    · have HR := aside (riseK_true (S := S) (n := len) (fun j hj => hall.out j (by omega)))
      clear hnx
      go_wp2
      go_ret
      exact ⟨by rw [HR.out]; rfl, HX.out⟩
set_option maxHeartbeats 1600000 in
theorem checkKeys_any (a : Option Addr) (len cap : Nat) (S : Nat → ByteArray) (w : World) (h : StrsIn w.heap.size w a len cap S) :
    Calls Tryd.prog 74 #[.slice a len cap] w fun e w' => e = .returned (.int .i64 (keyE S len)) ∧ Below w.heap.size w w' := by
  have H := aside h
  clear h
  obtain ⟨q, hq⟩ : ∃ q, longK S len = q := ⟨_, rfl⟩
  obtain ⟨r, hr⟩ : ∃ r, riseK S len = r := ⟨_, rfl⟩
  have C1 := aside (contK_any a len cap S w H.out)
  have C2 := aside (fun w (h : StrsIn w.heap.size w a len cap S) => rise_any a len cap S w h)
  rw [show keyE S len = if q then 20 else if r then 0 else 22 from by unfold keyE; rw [hq, hr]]
  rw [hq] at C1
  rw [hr] at C2
  clear hq hr
  go_enter Tryd.func74, Tryd.ntmps74
  go_wp2_with fail
  refine C1.out.mono ?_
  rintro e w1 ⟨rfl, hw⟩
  subst hw
  cases q
  · go_wp2_with fail
    refine (C2.out _ H.out).mono ?_
    rintro e w2 ⟨rfl, b2⟩
    cases r
    · go_wp2
      go_ret
      exact ⟨rfl, b2⟩
    · go_wp2
      go_ret
      exact ⟨rfl, b2⟩
  · go_wp2
    go_ret
    exact ⟨rfl, Below.refl _ _⟩
end Go.Proofs.YtoflalflacopdaaDoor
