/-
  Plain mathematics: ranges by numbers, tiles, pieces.
  Plain mathematics of splits: how deep they go, how many keys are left behind them, where parts begin.
  What these laws' proofs need of the library, and the program's knob.
  Arguments of these laws, from their reading to plain ranges and lists of texts; texts owned and appended.
  Keys that are checked, by the code and by the document: none too long, and they rise.
  Starts of the code and of the document: where parts begin.
  Borders of the code and of the document: the keys at which parts begin.
  Plain mathematics: keys that rise within a range, and the ranges of its split.
  Ranges of the code and of the document: a range split at keys.
-/
import Derived.Test.YtlgcdcjhflihiaaDoorBstoreup13
import Derived.Test.YtlgcdcjhflihiaaDoorBstoreup1
import Derived.ProofKit
import Derived.OpenShut
import Derived.ShutString
import Derived.SizedLaws
import Derived.HandedShaped
import Derived.Lib.SmallJoins
import Derived.Deep.Slices
import Derived.Deep.CondSized
import Derived.ChangeOld
import Derived.Laws.AppendOwnNone
import Derived.OrdersHeld
import Derived.Deep.RegionHeld
import Derived.Laws.AppendOwn
namespace Go.Proofs.YtlgcdcjhflihiaaDoor
open Go.RowKit
set_option linter.unusedVariables false
/-- A range's bounds are among some texts. -/
def In (S : List (List UInt8)) (r : Rg) : Prop := r.lo.toList ∈ S ∧ r.hi.toList ∈ S ∧ [] ∈ S

theorem may_rk {S : List (List UInt8)} {r : Rg} (h : In S r) : r.may = true ↔ ((r.lo.size : Int) ≤ 16 ∧ (r.hi.size : Int) ≤ 16) ∧ ((r.op = true ∧ rk S r.hi.toList = rk S []) ∨ (r.op = false ∧ rk S r.lo.toList ≤ rk S r.hi.toList)) := by
  obtain ⟨h1, h2, h3⟩ := h
  have e1 := rk_lt h1 h2; have e2 := rk_eq h1 h2
  have e3 : r.hi.toList.isEmpty = decide (rk S r.hi.toList = rk S []) := by rw [← rk_eq h2 h3]; cases r.hi.toList <;> rfl
  unfold Rg.may Rg.chk
  rw [e1, e2, e3]
  by_cases hs : 16 < (r.lo.size : Int) ∨ 16 < (r.hi.size : Int)
  · rw [if_pos hs]
    constructor
    · intro h; cases h
    · rintro ⟨⟨g1, g2⟩, -⟩; omega
  · rw [if_neg hs]
    cases r.op
    · by_cases h4 : rk S r.lo.toList < rk S r.hi.toList
      · simp [h4]; omega
      · by_cases h5 : rk S r.lo.toList = rk S r.hi.toList
        · simp [h5]; omega
        · simp [h4, h5]; omega
    · by_cases h4 : rk S r.hi.toList = rk S []
      · simp [h4]; omega
      · simp [h4]

theorem emp_rk {S : List (List UInt8)} {r : Rg} (h : In S r) : r.emp = false ↔ r.may = true ∧ (r.op = true ∨ rk S r.lo.toList ≠ rk S r.hi.toList) := by
  obtain ⟨h1, h2, h3⟩ := h
  unfold Rg.emp
  rw [rk_eq h1 h2]
  cases r.may <;> cases r.op <;> simp

theorem has_rk {S : List (List UInt8)} {r : Rg} {k : ByteArray} (h : In S r) (hk : k.toList ∈ S) : r.has k = true ↔ r.may = true ∧ (k.size : Int) ≤ 16 ∧ rk S r.lo.toList ≤ rk S k.toList ∧ (r.op = true ∨ rk S k.toList < rk S r.hi.toList) := by
  obtain ⟨h1, h2, h3⟩ := h
  unfold Rg.has
  rw [rk_lt hk h1, rk_lt hk h2]
  cases r.may <;> cases r.op <;> simp [Nat.not_lt, and_assoc]

theorem str_rk {S : List (List UInt8)} {a b : ByteArray} (ha : a.toList ∈ S) (hb : b.toList ∈ S) (h : rk S a.toList = rk S b.toList) : a = b :=
  toList_inj (by have := rk_eq ha hb; rw [decide_eq_true h] at this; exact eq_of_beq this)

/-- Some texts: the bounds of two ranges, and the empty one. -/
def S2 (a b : Rg) : List (List UInt8) := [a.lo.toList, a.hi.toList, b.lo.toList, b.hi.toList, []]

theorem in2a (a b : Rg) : In (S2 a b) a := ⟨by simp [S2], by simp [S2], by simp [S2]⟩

theorem in2b (a b : Rg) : In (S2 a b) b := ⟨by simp [S2], by simp [S2], by simp [S2]⟩

theorem emp_of_not_may {r : Rg} (h : r.may = false) : r.emp = true := by simp [Rg.emp, h]

/-- A range that is not empty, by the places of its bounds. -/
theorem emp_num {S : List (List UInt8)} {r : Rg} (h : In S r) : r.emp = false ↔ ((r.lo.size : Int) ≤ 16 ∧ (r.hi.size : Int) ≤ 16) ∧ ((r.op = true ∧ rk S r.hi.toList = rk S []) ∨ (r.op = false ∧ rk S r.lo.toList < rk S r.hi.toList)) := by
  rw [emp_rk h, may_rk h]
  cases r.op <;> simp <;> omega

theorem rg_ext {a b : Rg} (h1 : a.lo = b.lo) (h2 : a.hi = b.hi) (h3 : a.op = b.op) : a = b := by
  cases a; cases b; simp_all

/-- Some texts: the bounds of two ranges, the empty one, and a key. -/
def S3 (a b : Rg) (k : ByteArray) : List (List UInt8) := [a.lo.toList, a.hi.toList, b.lo.toList, b.hi.toList, [], k.toList]

theorem in3a (a b : Rg) (k : ByteArray) : In (S3 a b k) a := ⟨by simp [S3], by simp [S3], by simp [S3]⟩

theorem in3b (a b : Rg) (k : ByteArray) : In (S3 a b k) b := ⟨by simp [S3], by simp [S3], by simp [S3]⟩

theorem in3k (a b : Rg) (k : ByteArray) : k.toList ∈ S3 a b k := by simp [S3]

theorem not_has {r : Rg} {k : ByteArray} (h : r.may = false) : r.has k = false := by simp [Rg.has, h]

/-- An empty range has no key. -/
theorem has_not_emp {r : Rg} {k : ByteArray} (h : r.has k = true) : r.emp = false := by
  rw [emp_num (in3a r r k)]
  obtain ⟨h1, h2, h3, h4⟩ := (has_rk (in3a r r k) (in3k r r k)).1 h
  obtain ⟨m1, m2⟩ := (may_rk (in3a r r k)).1 h1
  refine ⟨m1, ?_⟩
  rcases m2 with m2 | ⟨o, m2⟩
  · exact .inl m2
  · rcases h4 with h4 | h4
    · rw [o] at h4; cases h4
    · exact .inr ⟨o, by omega⟩

theorem emp_has {r : Rg} {k : ByteArray} (h : r.emp = true) : r.has k = false := by
  cases e : r.has k
  · rfl
  · rw [has_not_emp e] at h; cases h

/-- A range that is not empty has its lower bound. -/
theorem has_lo {r : Rg} (h : r.emp = false) : r.has r.lo = true := by
  have hm := ((emp_rk (in2a r r)).1 h).1
  have hn := (emp_num (in3a r r r.lo)).1 h
  rw [has_rk (in3a r r r.lo) (in3a r r r.lo).1]
  refine ⟨hm, hn.1.1, Nat.le_refl _, ?_⟩
  rcases hn.2 with h | h
  · exact .inl h.1
  · exact .inr h.2

/-- How many of the first n ranges hold a key. -/
def cnt (T : Nat → Rg) (k : ByteArray) : Nat → Nat
  | 0 => 0
  | n + 1 => cnt T k n + ((T n).has k).toNat

theorem toNat_iff {b : Bool} {P : Prop} [Decidable P] (h : b = true ↔ P) : b.toNat = if P then 1 else 0 := by
  by_cases hp : P
  · rw [if_pos hp, h.2 hp]; rfl
  · rw [if_neg hp]
    cases b
    · rfl
    · exact absurd (h.1 rfl) hp

/-- Ranges one behind the other, from where another one begins to where it ends. -/
structure Chain (T : Nat → Rg) (n : Nat) (r : Rg) : Prop where
  pos : 0 < n
  ne : ∀ i, i < n → (T i).emp = false
  cl : ∀ i, i + 1 < n → (T i).op = false
  jn : ∀ i, i + 1 < n → (T (i + 1)).lo = (T i).hi
  lo : (T 0).lo = r.lo
  en : endAl (T (n - 1)) r = true

theorem chain_of {T : Nat → Rg} {n : Nat} {r : Rg} (h : tiles T n r = true) : Chain T n r := by
  simp only [tiles, rises, Bool.and_eq_true, decide_eq_true_eq, Bool.not_eq_true', List.all_eq_true, upto, List.mem_map, List.mem_range, beq_iff_eq] at h
  obtain ⟨h1, ⟨h2, h3⟩, h4, h5, h6⟩ := h
  refine ⟨h1, fun i hi => ?_, fun i hi => ?_, fun i hi => ?_, toList_inj h5, h6⟩
  · cases he : (T i).emp
    · rfl
    · rw [anyE_true hi he] at h2; cases h2
  · have := h3 (T i, T (i + 1)) ⟨i, by omega, rfl⟩
    simp only [okP, Bool.not_eq_true', Bool.or_eq_false_iff] at this
    exact this.1
  · have := h4 (T i, T (i + 1)) ⟨i, by omega, rfl⟩
    simp only [joinP, beq_iff_eq] at this
    exact toList_inj this

/-- The texts at hand. -/
def St (T : Nat → Rg) (n : Nat) (r : Rg) (k : ByteArray) : List (List UInt8) :=
  [] :: k.toList :: r.lo.toList :: r.hi.toList :: ((List.range n).map (fun i => (T i).lo.toList) ++ (List.range n).map (fun i => (T i).hi.toList))

theorem st_T {T : Nat → Rg} {n : Nat} {r : Rg} {k : ByteArray} {i : Nat} (hi : i < n) : In (St T n r k) (T i) := by
  refine ⟨?_, ?_, by simp [St]⟩
  · simp only [St, List.mem_cons, List.mem_append, List.mem_map, List.mem_range]
    exact .inr (.inr (.inr (.inr (.inl ⟨i, hi, rfl⟩))))
  · simp only [St, List.mem_cons, List.mem_append, List.mem_map, List.mem_range]
    exact .inr (.inr (.inr (.inr (.inr ⟨i, hi, rfl⟩))))

theorem st_r {T : Nat → Rg} {n : Nat} {r : Rg} {k : ByteArray} : In (St T n r k) r := ⟨by simp [St], by simp [St], by simp [St]⟩

theorem st_k {T : Nat → Rg} {n : Nat} {r : Rg} {k : ByteArray} : k.toList ∈ St T n r k := by simp [St]

/-- A chain, in numbers. -/
theorem chain_num {T : Nat → Rg} {n : Nat} {r : Rg} (hc : Chain T n r) (S : List (List UInt8)) (hT : ∀ i, i < n → In S (T i)) :
    (∀ i, i + 1 < n → rk S (T i).lo.toList < rk S (T i).hi.toList ∧ rk S (T (i + 1)).lo.toList = rk S (T i).hi.toList) ∧ rk S (T 0).lo.toList = rk S r.lo.toList ∧
    ((T (n - 1)).op = r.op ∧ (r.op = false → rk S (T (n - 1)).lo.toList < rk S (T (n - 1)).hi.toList ∧ rk S (T (n - 1)).hi.toList = rk S r.hi.toList)) := by
  refine ⟨fun i hi => ⟨?_, by rw [hc.jn i hi]⟩, by rw [hc.lo], ?_⟩
  · have := (emp_num (hT i (by omega))).1 (hc.ne i (by omega))
    rcases this.2 with ⟨h, _⟩ | ⟨_, h⟩
    · rw [hc.cl i hi] at h; cases h
    · exact h
  · have he := hc.en
    simp only [endAl, Bool.or_eq_true, Bool.and_eq_true, Bool.not_eq_true', beq_iff_eq] at he
    rcases he with ⟨h1, h2⟩ | ⟨h1, h2, h3⟩
    · rw [h1, h2]; exact ⟨rfl, fun h => by cases h⟩
    · rw [h1, h2]
      refine ⟨rfl, fun _ => ⟨?_, by rw [h3]⟩⟩
      have := (emp_num (hT (n - 1) (by have := hc.pos; omega))).1 (hc.ne (n - 1) (by have := hc.pos; omega))
      rcases this.2 with ⟨h, _⟩ | ⟨_, h⟩
      · rw [h1] at h; cases h
      · exact h

/-- Numbers that rise step by step. -/
theorem steps_mono {L U : Nat → Nat} {n : Nat} (h : ∀ i, i + 1 < n → L i < U i ∧ L (i + 1) = U i) : ∀ j i, i ≤ j → j < n → L i + (j - i) ≤ L j
  | 0, i, hi, _ => by obtain rfl : i = 0 := by omega
                      omega
  | j + 1, i, hi, hj => by
    by_cases e : i = j + 1
    · subst e; omega
    · have h1 := steps_mono h j i (by omega) (by omega)
      have h2 := h j hj
      omega

theorem cnt_chain {T : Nat → Rg} {n : Nat} {r : Rg} (hc : Chain T n r) (hr : r.may = true) (k : ByteArray) : cnt T k n = (r.has k).toNat := by
  have hT : ∀ i, i < n → In (St T n r k) (T i) := fun i hi => st_T hi
  have hR : In (St T n r k) r := st_r
  have hK : k.toList ∈ St T n r k := st_k
  obtain ⟨h1, h2, h3, h4⟩ := chain_num hc _ hT
  generalize St T n r k = S at *
  have mono : ∀ j i, i ≤ j → j < n → rk S (T i).lo.toList + (j - i) ≤ rk S (T j).lo.toList := steps_mono (L := fun i => rk S (T i).lo.toList) (U := fun i => rk S (T i).hi.toList) h1
  have pre : ∀ m, m < n → cnt T k m = if (k.size : Int) ≤ 16 ∧ rk S r.lo.toList ≤ rk S k.toList ∧ rk S k.toList < rk S (T m).lo.toList then 1 else 0 := by
    intro m
    induction m with
    | zero => intro _; rw [cnt, if_neg (by omega)]
    | succ m ih =>
      intro hm
      have hh := has_rk (hT m (by omega)) hK
      have hmay : (T m).may = true := by
        have := hc.ne m (by omega)
        cases hq : (T m).may
        · rw [emp_of_not_may hq] at this; cases this
        · rfl
      rw [cnt, ih (by omega), toNat_iff hh, hmay, hc.cl m hm]
      have g1 := (h1 m hm)
      have g2 := mono m 0 (by omega) (by omega)
      by_cases hs : (k.size : Int) ≤ 16
      · simp only [hs, true_and, Bool.false_eq_true, false_or]
        split <;> split <;> split <;> omega
      · simp [hs]
  obtain ⟨m, rfl⟩ : ∃ m, n = m + 1 := ⟨n - 1, by have := hc.pos; omega⟩
  simp only [Nat.add_sub_cancel] at h3 h4
  have hh := has_rk (hT m (by omega)) hK
  have hg := has_rk hR hK
  have hmay : (T m).may = true := by
    have := hc.ne m (by omega)
    cases hq : (T m).may
    · rw [emp_of_not_may hq] at this; cases this
    · rfl
  have g2 := mono m 0 (by omega) (by omega)
  rw [cnt, pre m (by omega), toNat_iff hh, toNat_iff hg, hmay, hr, h3]
  by_cases hs : (k.size : Int) ≤ 16
  · cases ho : r.op
    · have := h4 ho
      simp only [hs, true_and, Bool.false_eq_true, false_or]
      split <;> split <;> split <;> omega
    · simp only [hs, true_and, true_or, and_true]
      split <;> split <;> split <;> omega
  · simp [hs]

theorem chain_ne {T : Nat → Rg} {n : Nat} {r : Rg} (hc : Chain T n r) (hr : r.may = true) : r.emp = false := by
  have hT : ∀ i, i < n → In (St T n r ByteArray.empty) (T i) := fun i hi => st_T hi
  have hR : In (St T n r ByteArray.empty) r := st_r
  obtain ⟨h1, h2, h3, h4⟩ := chain_num hc _ hT
  generalize St T n r ByteArray.empty = S at *
  have mono : ∀ j i, i ≤ j → j < n → rk S (T i).lo.toList + (j - i) ≤ rk S (T j).lo.toList := steps_mono (L := fun i => rk S (T i).lo.toList) (U := fun i => rk S (T i).hi.toList) h1
  refine (emp_rk hR).2 ⟨hr, ?_⟩
  cases ho : r.op
  · have := h4 ho
    have g := mono (n - 1) 0 (by omega) (by have := hc.pos; omega)
    exact .inr (by omega)
  · exact .inl rfl

/-- A range that is cut tiles it, where it is cut into ranges that rise. -/
theorem piece_tiles {r : Rg} {S : Nat → ByteArray} {len : Nat} (h : rises (piece r S len) (len + 1) = true) : tiles (piece r S len) (len + 1) r = true := by
  have e1 : ((piece r S len 0).lo.toList == r.lo.toList) = true := by
    have : (piece r S len 0).lo = r.lo := by unfold piece; split <;> rfl
    rw [this]; exact beq_self_eq_true _
  have e2 : endAl (piece r S len (len + 1 - 1)) r = true := by
    simp only [Nat.add_sub_cancel, piece, Nat.lt_irrefl, if_false, endAl]
    cases r.op <;> simp
  have e3 : (upto (fun j => (piece r S len j, piece r S len (j + 1))) (len + 1 - 1)).all joinP = true := by
    rw [List.all_eq_true]
    intro x hx
    simp only [upto, List.mem_map, List.mem_range, Nat.add_sub_cancel] at hx
    obtain ⟨j, hj, rfl⟩ := hx
    have a1 : (piece r S len j).hi = S j := by simp only [piece, if_pos hj]
    have a2 : (piece r S len (j + 1)).lo = S j := by unfold piece; split <;> rfl
    simp only [joinP, a1, a2]; exact beq_self_eq_true _
  unfold tiles
  rw [h, e1, e2, e3]
  simp

theorem rises_one {T : Nat → Rg} (h : (T 0).emp = false) : rises T 1 = true := by
  unfold rises
  rw [anyE_false (fun j hj => by obtain rfl : j = 0 := by omega
                                 exact h)]
  rfl

/-- A border that may stand behind lo in a range. -/
def okB (r : Rg) (lo b : ByteArray) : Bool := decide ((b.size : Int) ≤ 16) && (Op.bytesLess lo.toList b.toList && (r.op || Op.bytesLess b.toList r.hi.toList))

/-- The texts at hand. -/
def Sp (r : Rg) (S : Nat → ByteArray) (n : Nat) : List (List UInt8) := [] :: r.lo.toList :: r.hi.toList :: (List.range n).map (fun i => (S i).toList)

theorem sp_S {r : Rg} {S : Nat → ByteArray} {n i : Nat} (hi : i < n) : (S i).toList ∈ Sp r S n := by
  simp only [Sp, List.mem_cons, List.mem_map, List.mem_range]
  exact .inr (.inr (.inr ⟨i, hi, rfl⟩))

theorem sp_lo {r : Rg} {S : Nat → ByteArray} {n : Nat} : r.lo.toList ∈ Sp r S n := by simp [Sp]

theorem sp_hi {r : Rg} {S : Nat → ByteArray} {n : Nat} : r.hi.toList ∈ Sp r S n := by simp [Sp]

theorem sp_nil {r : Rg} {S : Nat → ByteArray} {n : Nat} : [] ∈ Sp r S n := by simp [Sp]

theorem sp_cut {r : Rg} {S : Nat → ByteArray} {n i : Nat} (hi : i ≤ n) : (cutLo r.lo S i).toList ∈ Sp r S n := by
  cases i with
  | zero => exact sp_lo
  | succ i => exact sp_S (by omega)

theorem sp_piece {r : Rg} {S : Nat → ByteArray} {n i : Nat} (hi : i ≤ n) : In (Sp r S n) (piece r S n i) := by
  unfold piece
  split
  · exact ⟨sp_cut hi, sp_S ‹_›, sp_nil⟩
  · exact ⟨sp_cut hi, sp_hi, sp_nil⟩

theorem rises_cut {r : Rg} {S : Nat → ByteArray} {len : Nat} (hm : r.may = true) (hl : 0 < len) : rises (piece r S len) (len + 1) = true ↔ ∀ i, i < len → okB r (cutLo r.lo S i) (S i) = true := by
  have hR : In (Sp r S len) r := ⟨sp_lo, sp_hi, sp_nil⟩
  have hmr := (may_rk hR).1 hm
  have okn : ∀ i, i < len → (okB r (cutLo r.lo S i) (S i) = true ↔ ((S i).size : Int) ≤ 16 ∧ rk (Sp r S len) (cutLo r.lo S i).toList < rk (Sp r S len) (S i).toList ∧ (r.op = true ∨ rk (Sp r S len) (S i).toList < rk (Sp r S len) r.hi.toList)) := by
    intro i hi
    unfold okB
    rw [rk_lt (sp_cut (by omega)) (sp_S (r := r) hi), rk_lt (sp_S hi) (sp_hi (r := r))]
    simp only [Bool.and_eq_true, Bool.or_eq_true, decide_eq_true_eq]
  have pe : ∀ i, i ≤ len → ((piece r S len i).emp = false ↔ _) := fun i hi => emp_num (sp_piece hi)
  constructor
  · intro h
    simp only [rises, Bool.and_eq_true, Bool.not_eq_true'] at h
    have ne : ∀ i, i ≤ len → (piece r S len i).emp = false := by
      intro i hi
      cases he : (piece r S len i).emp
      · rfl
      · rw [anyE_true (j := i) (by omega) he] at h; cases h.1
    have st : ∀ i, i < len → ((S i).size : Int) ≤ 16 ∧ rk (Sp r S len) (cutLo r.lo S i).toList < rk (Sp r S len) (S i).toList := by
      intro i hi
      have := (pe i (by omega)).1 (ne i (by omega))
      simp only [piece, if_pos hi] at this
      rcases this with ⟨⟨_, h2⟩, ⟨h3, _⟩ | ⟨_, h4⟩⟩
      · cases h3
      · exact ⟨h2, h4⟩
    have mono : ∀ j i, i ≤ j → j < len + 1 → rk (Sp r S len) (cutLo r.lo S i).toList + (j - i) ≤ rk (Sp r S len) (cutLo r.lo S j).toList :=
      steps_mono (L := fun i => rk (Sp r S len) (cutLo r.lo S i).toList) (U := fun i => rk (Sp r S len) (S i).toList) (fun i hi => ⟨(st i (by omega)).2, rfl⟩)
    intro i hi
    refine (okn i hi).2 ⟨(st i hi).1, (st i hi).2, ?_⟩
    have hlast := (pe len (Nat.le_refl _)).1 (ne len (Nat.le_refl _))
    simp only [piece, if_neg (Nat.lt_irrefl len)] at hlast
    rcases hlast.2 with ⟨h3, _⟩ | ⟨_, h4⟩
    · exact .inl h3
    · have := mono len (i + 1) (by omega) (by omega)
      rw [show cutLo r.lo S (i + 1) = S i from rfl] at this
      exact .inr (by omega)
  · intro h
    have h' := fun i hi => (okn i hi).1 (h i hi)
    have csz : ∀ i, i ≤ len → ((cutLo r.lo S i).size : Int) ≤ 16 := by
      intro i hi
      cases i with
      | zero => exact hmr.1.1
      | succ i => exact (h' i (by omega)).1
    have ne : ∀ i, i ≤ len → (piece r S len i).emp = false := by
      intro i hi
      refine (pe i hi).2 ?_
      by_cases e : i < len
      · simp only [piece, if_pos e]
        exact ⟨⟨csz i hi, (h' i e).1⟩, .inr ⟨trivial, (h' i e).2.1⟩⟩
      · obtain rfl : i = len := by omega
        simp only [piece, if_neg (Nat.lt_irrefl i)]
        refine ⟨⟨csz i hi, hmr.1.2⟩, ?_⟩
        rcases hmr.2 with h3 | ⟨h3, _⟩
        · exact .inl h3
        · refine .inr ⟨h3, ?_⟩
          obtain ⟨j, rfl⟩ : ∃ j, i = j + 1 := ⟨i - 1, by omega⟩
          rcases (h' j (by omega)).2.2 with h5 | h5
          · rw [h3] at h5; cases h5
          · exact h5
    simp only [rises, Bool.and_eq_true, Bool.not_eq_true']
    refine ⟨anyE_false (fun j hj => ne j (by omega)), ?_⟩
    rw [List.all_eq_true]
    intro x hx
    simp only [upto, List.mem_map, List.mem_range, Nat.add_sub_cancel] at hx
    obtain ⟨j, hj, rfl⟩ := hx
    have a1 : (piece r S len j).hi = S j ∧ (piece r S len j).op = false := by simp only [piece, if_pos hj, and_self]
    have a2 : (piece r S len (j + 1)).lo = S j := by unfold piece; split <;> rfl
    simp only [okP, a1, a2, L_irrefl, Bool.or_false, Bool.not_false]

end Go.Proofs.YtlgcdcjhflihiaaDoor
namespace Go.Proofs.YtlgcdcjhflihiaaDoor
open Go.RowKit
set_option linter.unusedVariables false
/-- The least k such that b^k is at least 256. -/
def dep (b : Nat) : Nat := if b = 2 then 8 else if b = 3 then 6 else if b ≤ 6 then 4 else if b ≤ 15 then 3 else 2

theorem dep_le (b : Nat) : dep b ≤ 8 := by
  unfold dep
  split
  · omega
  · split
    · omega
    · split
      · omega
      · split <;> omega

theorem dep_top {b : Nat} (h1 : 2 ≤ b) (h2 : b ≤ 16) : 256 ≤ b ^ dep b := by
  have h : ∀ b : Fin 17, 2 ≤ b.1 → 256 ≤ b.1 ^ dep b.1 := by decide
  exact h ⟨b, by omega⟩ h1

theorem dep_low {b q : Nat} (h1 : 2 ≤ b) (h2 : b ≤ 16) (hq : q < dep b) : b ^ q < 256 := by
  have h : ∀ b : Fin 17, ∀ q : Fin 9, 2 ≤ b.1 → q.1 < dep b.1 → b.1 ^ q.1 < 256 := by decide
  exact h ⟨b, by omega⟩ ⟨q, by have := dep_le b; omega⟩ h1 hq

theorem dep_lt {b q : Nat} (h1 : 2 ≤ b) (h2 : b ≤ 16) : b ^ q < 256 ↔ q < dep b := by
  constructor
  · intro h
    refine Nat.lt_of_not_le fun h3 => ?_
    have h4 : b ^ dep b ≤ b ^ q := Nat.pow_le_pow_right (by omega) h3
    have := dep_top h1 h2
    omega
  · exact dep_low h1 h2

/-- The least whole number that is at least n / b. -/
def cdiv (n b : Nat) : Nat := (n + b - 1) / b

theorem cdiv_pos {n b : Nat} (hn : 0 < n) (hb : 0 < b) : cdiv n b = (n - 1) / b + 1 := by
  unfold cdiv
  rw [show n + b - 1 = (n - 1) + b from by omega, Nat.add_div_right _ hb]

theorem cdiv_zero {b : Nat} (hb : 0 < b) : cdiv 0 b = 0 := by
  unfold cdiv
  exact Nat.div_eq_of_lt (by omega)

theorem cdiv_cdiv (n : Nat) {a b : Nat} (ha : 0 < a) (hb : 0 < b) : cdiv (cdiv n a) b = cdiv n (a * b) := by
  have hab := Nat.mul_pos ha hb
  by_cases hn : n = 0
  · subst hn
    rw [cdiv_zero ha, cdiv_zero hb, cdiv_zero hab]
  · rw [cdiv_pos (n := n) (by omega) ha, cdiv_pos (Nat.succ_pos _) hb, cdiv_pos (by omega) hab, Nat.succ_sub_one, Nat.div_div_eq_div_mul]

theorem cdiv_one (n : Nat) : cdiv n 1 = n := by unfold cdiv; rw [Nat.div_one]; omega

theorem cdiv_le {n b : Nat} (hb : 0 < b) : cdiv n b ≤ n := by
  by_cases hn : n = 0
  · subst hn; rw [cdiv_zero hb]; omega
  · rw [cdiv_pos (by omega) hb]
    have := Nat.div_le_self (n - 1) b
    omega

theorem cdiv_big {n b : Nat} (hb : 0 < b) (h : n ≤ b) : cdiv n b = if n = 0 then 0 else 1 := by
  by_cases hn : n = 0
  · subst hn; rw [cdiv_zero hb]; rfl
  · rw [cdiv_pos (by omega) hb, if_neg hn, Nat.div_eq_of_lt (by omega)]

/-- How many of n keys are left at most behind k splits. -/
def lst (b : Nat) : Nat → Nat → Nat
  | 0, n => n
  | k + 1, n => cdiv (lst b k n) b

theorem lst_pow {b : Nat} (hb : 0 < b) (n : Nat) : ∀ k, lst b k n = cdiv n (b ^ k)
  | 0 => by rw [Nat.pow_zero, cdiv_one]; rfl
  | k + 1 => by
    show cdiv (lst b k n) b = _
    rw [lst_pow hb n k, cdiv_cdiv n (Nat.pow_pos hb) hb, Nat.pow_succ]

theorem lst_le {b : Nat} (hb : 0 < b) (n k : Nat) : lst b k n ≤ n := by
  rw [lst_pow hb]; exact cdiv_le (Nat.pow_pos hb)

theorem lst_far {b : Nat} (hb : 0 < b) {n j s : Nat} (hjs : j ≤ s) (h : j = s ∨ n ≤ b ^ j) : cdiv n (b ^ j) = lst b s n := by
  rcases h with rfl | h
  · rw [lst_pow hb]
  · rw [lst_pow hb, cdiv_big (Nat.pow_pos hb) h, cdiv_big (Nat.pow_pos hb) (Nat.le_trans h (Nat.pow_le_pow_right hb hjs))]

theorem lst_dep {b n : Nat} (h1 : 2 ≤ b) (h2 : b ≤ 16) (hn : n ≤ 256) : lst b (dep b) n ≤ 1 := by
  rw [lst_pow (by omega), cdiv_big (Nat.pow_pos (by omega)) (Nat.le_trans hn (dep_top h1 h2))]
  split <;> omega

/-- Where part j of p parts of n things begins. -/
def stt (n p j : Nat) : Nat := j * n / p

theorem stt_zero (n p : Nat) : stt n p 0 = 0 := by unfold stt; rw [Nat.zero_mul, Nat.zero_div]

theorem stt_end (n : Nat) {p : Nat} (hp : 0 < p) : stt n p p = n := by unfold stt; rw [Nat.mul_div_cancel_left _ hp]

theorem stt_step (n : Nat) {p : Nat} (hp : 0 < p) (j : Nat) : stt n p j + n / p ≤ stt n p (j + 1) ∧ stt n p (j + 1) ≤ stt n p j + n / p + 1 := by
  unfold stt
  rw [Nat.add_mul, Nat.one_mul]
  generalize j * n = a
  constructor
  · rw [Nat.le_div_iff_mul_le hp, Nat.add_mul]
    have h1 := Nat.div_mul_le_self a p
    have h2 := Nat.div_mul_le_self n p
    omega
  · rw [← Nat.lt_succ_iff, Nat.div_lt_iff_lt_mul hp]
    have h1 := Nat.lt_div_mul_add (a := a) hp
    have h2 := Nat.lt_div_mul_add (a := n) hp
    have h3 : (a / p + n / p + 1).succ * p = a / p * p + n / p * p + p + p := by
      rw [Nat.succ_mul, Nat.add_mul, Nat.add_mul, Nat.one_mul]
    omega

theorem stt_le {n p j : Nat} (hp : 0 < p) (hj : j ≤ p) : stt n p j ≤ n := by
  unfold stt
  exact Nat.div_le_of_le_mul (Nat.mul_le_mul_right n hj)

theorem stt_lt {n p j : Nat} (hn : 0 < n) (hp : 0 < p) (hj : j < p) : stt n p j < n := by
  unfold stt
  rw [Nat.div_lt_iff_lt_mul hp, Nat.mul_comm n p]
  exact Nat.mul_lt_mul_of_pos_right hj hn

theorem div_pos' {n p : Nat} (hp : 0 < p) (h : p ≤ n) : 1 ≤ n / p := (Nat.le_div_iff_mul_le hp).2 (by omega)

theorem stt_cdiv (n : Nat) {p : Nat} (hp : 0 < p) (j : Nat) : stt n p (j + 1) ≤ stt n p j + cdiv n p := by
  unfold stt cdiv
  rw [Nat.add_mul, Nat.one_mul]
  generalize j * n = a
  rw [← Nat.lt_succ_iff, Nat.div_lt_iff_lt_mul hp]
  have h1 := Nat.lt_div_mul_add (a := a) hp
  have h2 := Nat.lt_div_mul_add (a := n + p - 1) hp
  have h3 : (a / p + (n + p - 1) / p).succ * p = a / p * p + (n + p - 1) / p * p + p := by
    rw [Nat.succ_mul, Nat.add_mul]
  omega

end Go.Proofs.YtlgcdcjhflihiaaDoor
namespace Go.Proofs.YtlgcdcjhflihiaaDoor
open Go.ChangeShapes Go.WideShapes Go.ChangeAt Go.RowKit
set_option linter.unusedVariables false
end Go.Proofs.YtlgcdcjhflihiaaDoor
namespace Go.Proofs.YtlgcdcjhflihiaaDoor
open Go.ChangeShapes Go.WideShapes Go.ChangeAt Go.RowKit
set_option linter.unusedVariables false
theorem cellsRg : Tryd.prog.cellsOf 35 = 3 := by kernel_rfl

theorem bytesStr : Tryd.prog.bytesOf 9 = 16 := by kernel_rfl

theorem infoStr : (Tryd.prog.info? 9).map (fun i => (i.zero, i.size, i.bytes)) = some (some (.string ⟨#[]⟩), 1, 16) := by kernel_rfl

theorem infoStr_parts : ∃ i, Tryd.prog.info? 9 = some i ∧ i.zero = some (.string ⟨#[]⟩) ∧ i.size = 1 ∧ i.bytes = 16 := by
  have h := infoStr
  cases hi : Tryd.prog.info? 9 with
  | none => rw [hi] at h; cases h
  | some i =>
    rw [hi] at h
    simp only [Option.map_some, Option.some.injEq, Prod.mk.injEq] at h
    exact ⟨i, rfl, h.1, h.2.1, h.2.2⟩

set_option maxHeartbeats 1000000 in
theorem strs_open {H : Type} {enc : TypeId × Value → H} {W : World} {fuel : Nat} {a : Option Addr} {len cap : Nat} {d : DataW H} {ps : List MemPlace}
    (hf : DataW.trod enc Tryd.prog W 0 (fun _ => true) true fuel 92 [.slice a len cap] = some (d, ps)) (hz : ∀ n ∈ d.weights Tryd.prog 92, n ≤ reachBytes) : ∃ T, StrsIn W.heap.size W a len cap T ∧ len * 16 ≤ 140737488351232 ∧ ((a = none ∧ len = 0 ∧ cap = 0) ∨ ∃ x, a = some x) := by
  rcases Deep.open_slice Tryd.underlying92 hf with ⟨hcs, _⟩ | ⟨x, l, c, m, n, D, Pl, hcs, hb, hl, hm, hmm, hx, hel⟩
  · simp only [List.cons.injEq, Value.slice.injEq, and_true] at hcs
    obtain ⟨rfl, rfl, rfl⟩ := hcs
    exact ⟨fun _ => ByteArray.empty, ⟨Nat.le_refl _, by omega, .inl rfl⟩, by omega, .inl ⟨rfl, rfl, rfl⟩⟩
  · simp only [List.cons.injEq, Value.slice.injEq, and_true] at hcs
    obtain ⟨rfl, rfl, rfl⟩ := hcs
    simp only [Prod.mk.injEq] at hx
    have hd := hx.1
    simp only [if_true] at hmm
    subst hmm
    rw [cellsStr] at hel
    have each : ∀ i, i < len → ∃ t : ByteArray, W.cell? (x.add i) = some (.string t) := by
      intro i hi
      obtain ⟨cs', h1, h2⟩ := hel i (by omega)
      obtain ⟨_, hlen, hcell⟩ := World.cells?_some h1
      match cs', hlen with
      | [v0], _ =>
        obtain ⟨a0, e0, f0, w0⟩ := DataW.trod_string Tryd.underlying9 h2
        simp only [List.cons.injEq, and_true] at e0
        subst e0
        have c0 := hcell 0 (by omega)
        rw [Deep.add_add] at c0
        exact ⟨a0, by simpa using c0⟩
    have hbytes : len * 16 ≤ 140737488351232 := by
      have hw := hz _ (by rw [hd]; simp only [DataW.weights, Tryd.underlying92]; exact List.mem_cons_self)
      rw [bytesStr] at hw
      simp only [List.length_map, List.length_range] at hw
      have e : reachBytes = 140737488351232 := rfl
      omega
    by_cases h0 : len = 0
    · exact ⟨fun _ => ByteArray.empty, ⟨hl, by omega, .inl h0⟩, hbytes, .inr ⟨_, rfl⟩⟩
    · letI : Inhabited ByteArray := ⟨ByteArray.empty⟩
      obtain ⟨T, hT⟩ := Deep.choose_lt each
      have hc0 := (hT 0 (by omega))
      obtain ⟨blk, off, spot⟩ := x
      have hspot : spot = none := by
        have := World.cell?_spot hc0
        simpa [Addr.add] using this
      subst hspot
      have hblk : blk < W.heap.size := by
        have := World.block_lt_of_cell? W _ hc0
        simpa [Addr.add] using this
      have hadd : ∀ j, (⟨blk, off, none⟩ : Addr).add j = ⟨blk, off + j, none⟩ := by intro j; unfold Addr.add; split <;> simp_all
      refine ⟨T, ⟨hl, by omega, .inr ⟨blk, off, rfl, hblk, fun i hi => ?_⟩⟩, hbytes, .inr ⟨_, rfl⟩⟩
      have h5 := hT i hi
      simpa only [hadd] using h5

/-- Some texts as cells. -/
def strCells (bs : List ByteArray) : List Value := bs.map Value.string

/-- The first n texts of a list. -/
def strUpto (S : Nat → ByteArray) (n : Nat) : List ByteArray := (List.range n).map S

theorem strUpto_len (S : Nat → ByteArray) (n : Nat) : (strUpto S n).length = n := by simp [strUpto]

theorem strs_of_row {w : World} {B n₀ : Nat} {a : Option Addr} {n cap : Nat} {bs : List ByteArray} (h : w.ownsRow B 9 1 (.slice a n cap) n (strCells bs)) (hn : w.heap.size ≤ n₀) (hb : n * 16 ≤ 281474976710656) : StrsIn n₀ w a n cap (fun i => bs.getD i ByteArray.empty) := by
  obtain ⟨hl, ⟨h1, h2⟩ | ⟨g, cap', cur, h1, h2, h3, h4, h5, h6, h7⟩⟩ := h
  · cases h1; exact ⟨Nat.le_refl _, by omega, .inl rfl⟩
  · cases h1
    refine ⟨h4, hb, .inr ⟨g, 0, rfl, Nat.lt_of_lt_of_le (lies h3) hn, fun i hi => ?_⟩⟩
    have hcell : w.cell? ⟨g, 0 + i, none⟩ = cur[i]? := by
      simp [World.cell?, h3]
    rw [hcell]
    have e : (cur.toList.take (n * 1))[i]? = cur[i]? := by
      rw [List.getElem?_take, if_pos (by omega)]; simp
    rw [← e, h7]
    have hbl : bs.length = n := by simpa [strCells] using hl
    simp [strCells, List.getD, List.getElem?_eq_getElem (show i < bs.length by omega)]

theorem strs_cells {w : World} {n₀ : Nat} {y : Addr} {len cap : Nat} {S : Nat → ByteArray} (h : StrsIn n₀ w (some y) len cap S) : ∀ j u, (strCells (strUpto S len))[j]? = some u → w.cell? (y.add j) = some u := by
  intro j u hu
  obtain ⟨h1, h2, h3⟩ := h
  rcases h3 with h3 | ⟨b, off, e, hb, hc⟩
  · subst h3; simp [strCells, strUpto] at hu
  · cases e
    have hadd : ∀ j, (⟨b, off, none⟩ : Addr).add j = ⟨b, off + j, none⟩ := by intro j; unfold Addr.add; split <;> simp_all
    rw [hadd]
    have hj : j < len := by
      have := (List.getElem?_eq_some_iff.1 hu).1
      simpa [strCells, strUpto] using this
    rw [hc j hj]
    simp [strCells, strUpto, hj] at hu
    rw [hu]

/-- Texts appended to owned ones. -/
theorem append_strs {w : World} {ops : Array Oper} {rest : List Oper} {o : Oper} {act : Act} {Q : Exit → Act → World → Prop} (hgd : o.guard = none) (s x : Operand)
    (ho : o.op = .call { callee := .builtin .append, args := #[s, x], argTypes := #[92, 92] })
    (B : Nat) (v : Value) (n : Nat) (bs : List ByteArray) (hs : act.eval s = v) (hown : w.ownsRow B 9 1 v n (strCells bs))
    (a : Option Addr) (len cap : Nat) (S : Nat → ByteArray) (hx : act.eval x = .slice a len cap) (hL : StrsIn w.heap.size w a len cap S)
    (hform : (a = none ∧ len = 0 ∧ cap = 0) ∨ ∃ y, a = some y) (hlen : (n + len) * 16 ≤ 140737488355328) (hB : B ≤ w.heap.size)
    (h : ∀ a' cap' w', w'.ownsRow B 9 1 (.slice a' (n + len) cap') (n + len) (strCells (bs ++ strUpto S len)) → Below B w w' → wpList Tryd.prog ops Q rest (act.put o.dst (.slice a' (n + len) cap')) w') : wpList Tryd.prog ops Q (o :: rest) act w := by
  obtain ⟨i0, hi, hz0, hz1, hz2⟩ := infoStr_parts
  rcases hform with ⟨rfl, rfl, rfl⟩ | ⟨y, rfl⟩
  · refine wpList_append_own_none hgd s x _ ho B 9 i0 1 Tryd.underlying92 hi _ _ _ hs hown hx ?_
    have e : bs ++ strUpto S 0 = bs := by simp [strUpto]
    have h' := h
    rw [e] at h'
    obtain ⟨a', cap', rfl⟩ : ∃ a' cap', v = .slice a' n cap' := by
      rcases hown.2 with ⟨h1, h2⟩ | ⟨g, cap', cur, h1, _⟩
      · exact ⟨none, 0, by rw [h1, h2]⟩
      · exact ⟨_, _, h1⟩
    exact h' a' cap' w hown (Below.refl _ _)
  · have hone : ∀ u ∈ strCells (strUpto S len), u.oneCell' = true := by
      intro u hu
      simp only [strCells, List.mem_map] at hu
      obtain ⟨b, _, rfl⟩ := hu
      rfl
    refine wpList_append_own w hgd s x _ ho B 9 i0 (.string ⟨#[]⟩) 1 16 Tryd.underlying92 hi hz0 hz1 hz2 rfl (by decide) _ _ _ hs hown y len cap (strCells (strUpto S len)) hx (by simp [strCells, strUpto]) (strs_cells hL) hone (by unfold maxLen; omega) (by omega) hB ?_
    intro v' w' ho' hg _
    have hbel : Below B w w' := (Below.refl _ w).grown hg hB (fun k e => by
      rcases hown.2 with ⟨h1, _⟩ | ⟨g, cap', cur, h1, h2, _⟩
      · rw [h1] at e; cases e
      · rw [h1] at e; cases e; exact h2)
    have e : strCells bs ++ strCells (strUpto S len) = strCells (bs ++ strUpto S len) := by simp [strCells]
    rw [e] at ho'
    obtain ⟨a', cap', rfl⟩ : ∃ a' cap', v' = .slice a' (n + len) cap' := by
      rcases ho'.2 with ⟨h1, h2⟩ | ⟨g, cap', cur, h1, _⟩
      · exact ⟨none, 0, by rw [h1, h2]⟩
      · exact ⟨_, _, h1⟩
    exact h a' cap' w' ho' hbel

section
variable {H : Type} {enc : TypeId × Value → H} {W : World}
set_option maxRecDepth 100000 in
theorem open_rg {b0 : Nat} {sp : Nat → Bool} {held : Bool} {v : Value} {d : DataW H} {p : List MemPlace} (hv : Value.okWide Tryd.prog W .any b0 35 v) (h : DataW.Trod enc Tryd.prog W 0 sp held 35 v d p) :
    ∃ (lo hi : ByteArray) (op : Bool), v = .agg #[.string lo, .string hi, .bool op] ∧ d = .agg [.lit (.string lo.data.toList), .lit (.string hi.data.toList), .lit (.bool op)] ∧ p = [] ∧ lo.size ≤ maxLen ∧ hi.size ≤ maxLen := by
  obtain ⟨c0, c1, c2, y0, y1, y2, m, rfl, rfl, rfl, hy0, hy1, hy2⟩ := Joins.open_agg3 Tryd.underlying35 (by kernel_rfl) cellsRg hv h
  obtain ⟨lo, e0, rfl, w0⟩ := DataW.trod_string Tryd.underlying9 hy0
  obtain ⟨hi, e1, rfl, w1⟩ := DataW.trod_string Tryd.underlying9 hy1
  obtain ⟨op, e2, rfl⟩ := DataW.trod_bool Tryd.underlying4 hy2
  simp only [List.cons.injEq, and_true] at e0 e1 e2
  subst e0 e1 e2
  exact ⟨lo, hi, op, rfl, rfl, rfl, w0, w1⟩

theorem shut_rg {sp : Nat → Bool} {held : Bool} {lo hi : ByteArray} {op : Bool} (w0 : lo.size ≤ maxLen) (w1 : hi.size ≤ maxLen) :
    DataW.Trod enc Tryd.prog W 0 sp held 35 (.agg #[.string lo, .string hi, .bool op]) (.agg [.lit (.string lo.data.toList), .lit (.string hi.data.toList), .lit (.bool op)]) [] :=
  Joins.shut_agg3 (y0 := (.lit (.string lo.data.toList), [])) (y1 := (.lit (.string hi.data.toList), [])) (y2 := (.lit (.bool op), [])) Tryd.underlying35 (by kernel_rfl) cellsRg
    ⟨1, by simp [DataW.trod, Tryd.underlying9, w0]⟩ ⟨1, by simp [DataW.trod, Tryd.underlying9, w1]⟩ ⟨1, by simp [DataW.trod, Tryd.underlying4]⟩

end
end Go.Proofs.YtlgcdcjhflihiaaDoor
namespace Go.Proofs.YtlgcdcjhflihiaaDoor
open Go.RowKit
set_option linter.unusedVariables false
def longK (S : Nat → ByteArray) (n : Nat) : Bool := (List.range n).any fun i => decide ((16 : Int) < (S i).size)

def riseK (S : Nat → ByteArray) (n : Nat) : Bool := (List.range (n - 1)).all fun i => Op.bytesLess (S i).toList (S (i + 1)).toList

/-- What is wrong with keys. -/
def keyE (S : Nat → ByteArray) (n : Nat) : Int := if longK S n then 20 else if riseK S n then 0 else 22

theorem leq_not (x y : List UInt8) : (Op.bytesLess x y || x == y) = !Op.bytesLess y x := by
  cases h1 : Op.bytesLess x y
  · cases h2 : Op.bytesLess y x
    · have := L_total x y h1 h2
      subst this
      simp
    · cases h3 : (x == y)
      · rfl
      · have : x = y := by simpa using h3
        subst this
        rw [h1] at h2; cases h2
  · cases h2 : Op.bytesLess y x
    · rfl
    · have := L_trans x y x h1 h2
      rw [L_irrefl] at this; cases this

theorem longK_true {S : Nat → ByteArray} {n k : Nat} (hk : k < n) (h : (16 : Int) < (S k).size) : longK S n = true := by
  unfold longK
  rw [List.any_eq_true]
  exact ⟨k, List.mem_range.2 hk, by simpa using h⟩

theorem longK_false {S : Nat → ByteArray} {n : Nat} (h : ∀ k, k < n → ((S k).size : Int) ≤ 16) : longK S n = false := by
  unfold longK
  rw [List.any_eq_false]
  intro k hk
  have := h k (List.mem_range.1 hk)
  simp; omega

theorem riseK_false {S : Nat → ByteArray} {n k : Nat} (hk : k + 1 < n) (h : Op.bytesLess (S k).toList (S (k + 1)).toList = false) : riseK S n = false := by
  unfold riseK
  rw [List.all_eq_false]
  exact ⟨k, List.mem_range.2 (by omega), by simp [h]⟩

theorem riseK_true {S : Nat → ByteArray} {n : Nat} (h : ∀ k, k + 1 < n → Op.bytesLess (S k).toList (S (k + 1)).toList = true) : riseK S n = true := by
  unfold riseK
  rw [List.all_eq_true]
  intro k hk
  exact h k (by have := List.mem_range.1 hk; omega)

set_option maxHeartbeats 800000 in
theorem tooLong_any (k : ByteArray) (w : World) : Calls Tryd.prog 81 #[.string k] w fun e w' => e = .returned (.bool (decide ((16 : Int) < k.size))) ∧ w' = w := by
  go_enter Tryd.func81, Tryd.ntmps81
  go_wp2
  go_ret
  exact ⟨rfl, rfl⟩

set_option maxRecDepth 100000 in
set_option maxHeartbeats 2000000 in
theorem idxK_any (a : Option Addr) (len cap : Nat) (S : Nat → ByteArray) (w : World) (h : StrsIn w.heap.size w a len cap S) :
    Calls Tryd.prog 95 #[.slice a len cap, .func (.func 81) #[] #[]] w fun e w' => ∃ i : Int, e = .returned (.int .i64 i) ∧ decide (0 ≤ i) = longK S len ∧ w' = w := by
  obtain ⟨hlc, hl16, hh⟩ := h
  go_enter Tryd.func95, Tryd.ntmps95
  go_wp2
  go_loopw [8] (fun i wr => ∃ k : Nat, k ≤ len ∧ i = .int .i64 (k : Int) ∧ Hid (∀ j, j < k → ((S j).size : Int) ≤ 16) ∧ wr = w) (fun i _ => len - (intOf i).toNat)
  case atStart => exact ⟨0, Nat.zero_le _, rfl, fun j hj => by omega, rfl⟩
  case round =>
    obtain ⟨k, hk, rfl, hall, rfl⟩ := hrel
    by_cases hlt : (k : Int) < (len : Int)
    · rcases hh with hh | ⟨b, off, rfl, hb, hc⟩
      · omega
      · have c0 := hc k (by omega)
        have hk0 : (0 : Int) ≤ (k : Int) := by omega
        have hqw : IntKind.i64.wrap ((k : Int) + 1) = (k : Int) + 1 := by rw [IntKind.wrap_i64]; omega
        clear hc
        cases he : decide ((16 : Int) < (S k).size)
        · have HA := aside (show ∀ j, j < k + 1 → ((S j).size : Int) ≤ 16 from fun j hj => by
            by_cases e : j = k
            · rw [e]; have := of_decide_eq_false he; omega
            · exact hall.out j (by omega))
          go_wp2_with fail
          refine (tooLong_any _ _).mono ?_
          rintro e w1 ⟨rfl, rfl⟩
          rw [he]
          go_wp2
          go_roundw
          case rel => exact ⟨k + 1, by omega, by go_num, HA, by trivial⟩
          case measure => simp [intOf]; omega
        · have HL := aside (longK_true (S := S) (n := len) (by omega) (of_decide_eq_true he))
          go_wp2_with fail
          refine (tooLong_any _ _).mono ?_
          rintro e w1 ⟨rfl, rfl⟩
          rw [he]
          go_wp2
          go_ret
          exact ⟨_, rfl, by rw [HL.out]; exact decide_eq_true hk0, rfl⟩
    · obtain rfl : len = k := by omega
      go_wp2
      go_ret
      exact ⟨_, rfl, by rw [longK_false hall.out]; rfl, rfl⟩

set_option maxHeartbeats 800000 in
theorem contK_any (a : Option Addr) (len cap : Nat) (S : Nat → ByteArray) (w : World) (h : StrsIn w.heap.size w a len cap S) :
    Calls Tryd.prog 80 #[.slice a len cap, .func (.func 81) #[] #[]] w fun e w' => e = .returned (.bool (longK S len)) ∧ w' = w := by
  have H := aside h
  clear h
  go_enter Tryd.func80, Tryd.ntmps80
  go_wp2_with fail
  refine (idxK_any a len cap S w H.out).mono ?_
  rintro e w1 ⟨i, rfl, hi, rfl⟩
  go_wp2
  go_ret
  exact ⟨by rw [← hi]; rfl, rfl⟩

set_option maxRecDepth 100000 in
set_option maxHeartbeats 3200000 in
theorem rise_any (a : Option Addr) (len cap : Nat) (S : Nat → ByteArray) (w : World) (h : StrsIn w.heap.size w a len cap S) :
    Calls Tryd.prog 82 #[.slice a len cap] w fun e w' => e = .returned (.bool (riseK S len)) ∧ Below w.heap.size w w' := by
  have hlc := h.1
  have hl16 := h.2.1
  have HH := aside h.2.2
  clear h
  go_enter Tryd.func82, Tryd.ntmps82
  go_wp2
  go_loopw [3] (fun i wr => ∃ k : Nat, (k = 0 ∨ k + 1 ≤ len) ∧ i = .int .i64 ((k : Int) + 1) ∧ Hid (∀ j, j < k → Op.bytesLess (S j).toList (S (j + 1)).toList = true) ∧ Below w.heap.size w wr) (fun i _ => len - (intOf i).toNat)
  case atStart => exact ⟨0, .inl rfl, rfl, fun j hj => by omega, Below.refl _ _⟩
  case round =>
    obtain ⟨k, hk, rfl, hall, hnx⟩ := hrel
    have HX := aside hnx
    by_cases hlt : (k : Int) + 1 < (len : Int)
    · rcases HH.out with h0 | ⟨b, off, rfl, hb, hc⟩
      · omega
      · have c1 := (hnx.cell (p := ⟨b, off + (k + 1), none⟩) hb).trans (hc (k + 1) (by omega))
        have c0 := (hnx.cell (p := ⟨b, off + k, none⟩) hb).trans (hc k (by omega))
        have hk0 : (0 : Int) ≤ (k : Int) := by omega
        have hk1 : (0 : Int) ≤ (k : Int) + 1 := by omega
        have hk2 : (k : Int) < (len : Int) := by omega
        have hkw : IntKind.i64.wrap (k : Int) = (k : Int) := by rw [IntKind.wrap_i64]; omega
        have hqw : IntKind.i64.wrap ((k : Int) + 1 + 1) = (k : Int) + 1 + 1 := by rw [IntKind.wrap_i64]; omega
        have KL := aside (show k + 1 < len from by omega)
        clear hc hnx
        have hle := leq_not (S (k + 1)).toList (S k).toList
        cases he : Op.bytesLess (S k).toList (S (k + 1)).toList
        · have HE := aside he
          go_wp2_with fail
          refine wp_region_held_drew (S := fun X => X.cell? ⟨b, off + (k + 1), none⟩ = some (.string (S (k + 1))) ∧ X.cell? ⟨b, off + k, none⟩ = some (.string (S k)) ∧ Hid (Below w.heap.size w X)) (by kernel_rfl) ⟨c1, c0, aside HX.out.drew⟩ (fun hHeld => ?_)
          refine wpAnyH_take (i := 0) (v := ?_) rfl (by kernel_rfl) (by kernel_rfl) (by kernel_rfl) (fun _ _ _ h => h) (Or.inl ⟨by rfl, ?_⟩) (by assumption) ?_
          rotate_left
          · intro w hSw
            go_simp
            try with_reducible rfl
          simp only [Act.put, List.getElem_toArray, List.getElem_cons_zero, List.setIfInBounds_toArray, List.set_cons_zero, List.set_cons_succ]
          refine wpAnyH_take (i := 1) (v := ?_) rfl (by kernel_rfl) (by kernel_rfl) (by kernel_rfl) (fun _ _ _ h => h) (Or.inl ⟨by rfl, ?_⟩) (by assumption) ?_
          rotate_left
          · intro w hSw
            go_simp
            try with_reducible rfl
          simp only [Act.put, List.getElem_toArray, List.getElem_cons_zero, List.getElem_cons_succ, List.setIfInBounds_toArray, List.set_cons_zero, List.set_cons_succ]
          refine wpAnyH_take (i := 2) (v := ?_) rfl (by kernel_rfl) (by kernel_rfl) (by kernel_rfl) (fun _ _ _ h => h) (Or.inl ⟨by rfl, ?_⟩) (by assumption) ?_
          rotate_left
          · intro w hSw
            go_simp
            try with_reducible rfl
          simp only [Act.put, List.getElem_toArray, List.getElem_cons_zero, List.getElem_cons_succ, List.setIfInBounds_toArray, List.set_cons_zero, List.set_cons_succ]
          refine wpAnyH_take (i := 3) (v := ?_) rfl (by kernel_rfl) (by kernel_rfl) (by kernel_rfl) (fun _ _ _ h => h) (Or.inl ⟨by rfl, ?_⟩) (by assumption) ?_
          rotate_left
          · intro w hSw
            go_simp
            try with_reducible rfl
          simp only [Act.put, List.getElem_toArray, List.getElem_cons_zero, List.getElem_cons_succ, List.setIfInBounds_toArray, List.set_cons_zero, List.set_cons_succ]
          refine wpAnyH_take (i := 4) (v := ?_) rfl (by kernel_rfl) (by kernel_rfl) (by kernel_rfl) (fun _ _ _ h => h) (Or.inl ⟨by rfl, ?_⟩) (by assumption) ?_
          rotate_left
          · intro w hSw
            go_simp
            try with_reducible rfl
          simp only [Act.put, List.getElem_toArray, List.getElem_cons_zero, List.getElem_cons_succ, List.setIfInBounds_toArray, List.set_cons_zero, List.set_cons_succ]
          refine wpAnyH_take (i := 5) (v := ?_) rfl (by kernel_rfl) (by kernel_rfl) (by kernel_rfl) (fun _ _ _ h => h) (Or.inl ⟨by rfl, ?_⟩) (by assumption) ?_
          rotate_left
          · intro w hSw
            go_simp
            try with_reducible rfl
          simp only [Act.put, List.getElem_toArray, List.getElem_cons_zero, List.getElem_cons_succ, List.setIfInBounds_toArray, List.set_cons_zero, List.set_cons_succ]
          refine wpAnyH_take (i := 6) (v := ?_) rfl (by kernel_rfl) (by kernel_rfl) (by kernel_rfl) (fun _ _ _ h => h) (Or.inl ⟨by rfl, ?_⟩) (by assumption) ?_
          rotate_left
          · intro w hSw
            go_simp
            try with_reducible rfl
          simp only [Act.put, List.getElem_toArray, List.getElem_cons_zero, List.getElem_cons_succ, List.setIfInBounds_toArray, List.set_cons_zero, List.set_cons_succ]
          refine wpAnyH_take (i := 7) (v := ?_) rfl (by kernel_rfl) (by kernel_rfl) (by kernel_rfl) (fun _ _ _ h => h) (Or.inl ⟨by rfl, ?_⟩) (by assumption) ?_
          rotate_left
          · intro w hSw
            go_simp
            try with_reducible rfl
          simp only [Act.put, List.getElem_toArray, List.getElem_cons_zero, List.getElem_cons_succ, List.setIfInBounds_toArray, List.set_cons_zero, List.set_cons_succ]
          refine wpAnyH_take (i := 8) (v := ?_) rfl (by kernel_rfl) (by kernel_rfl) (by kernel_rfl) (fun _ _ _ h => h) (Or.inl ⟨by rfl, ?_⟩) (by assumption) ?_
          rotate_left
          · intro w hSw
            go_simp
            try with_reducible rfl
          simp only [Act.put, List.getElem_toArray, List.getElem_cons_zero, List.getElem_cons_succ, List.setIfInBounds_toArray, List.set_cons_zero, List.set_cons_succ]
          refine wpAnyH_take (i := 9) (v := ?_) rfl (by kernel_rfl) (by kernel_rfl) (by kernel_rfl) (fun _ _ _ h => h) (Or.inl ⟨by rfl, ?_⟩) (by assumption) ?_
          rotate_left
          · intro w hSw
            go_simp
            try with_reducible rfl
          simp only [Act.put, List.getElem_toArray, List.getElem_cons_zero, List.getElem_cons_succ, List.setIfInBounds_toArray, List.set_cons_zero, List.set_cons_succ]
          refine wpAnyH_done (by kernel_rfl) ?_ _
          have HY := aside hHeld.2.2.out
          clear hHeld c0 c1
          clear hle he
          go_wp2
          go_ret
          exact ⟨by rw [riseK_false KL.out HE.out]; rfl, HY.out⟩
        · have HA := aside (show ∀ j, j < k + 1 → Op.bytesLess (S j).toList (S (j + 1)).toList = true from fun j hj => by
            by_cases e : j = k
            · rw [e]; exact he
            · exact hall.out j (by omega))
          go_wp2_with fail
          refine wp_region_held_drew (S := fun X => X.cell? ⟨b, off + (k + 1), none⟩ = some (.string (S (k + 1))) ∧ X.cell? ⟨b, off + k, none⟩ = some (.string (S k)) ∧ Hid (Below w.heap.size w X)) (by kernel_rfl) ⟨c1, c0, aside HX.out.drew⟩ (fun hHeld => ?_)
          refine wpAnyH_take (i := 0) (v := ?_) rfl (by kernel_rfl) (by kernel_rfl) (by kernel_rfl) (fun _ _ _ h => h) (Or.inl ⟨by rfl, ?_⟩) (by assumption) ?_
          rotate_left
          · intro w hSw
            go_simp
            try with_reducible rfl
          simp only [Act.put, List.getElem_toArray, List.getElem_cons_zero, List.setIfInBounds_toArray, List.set_cons_zero, List.set_cons_succ]
          refine wpAnyH_take (i := 1) (v := ?_) rfl (by kernel_rfl) (by kernel_rfl) (by kernel_rfl) (fun _ _ _ h => h) (Or.inl ⟨by rfl, ?_⟩) (by assumption) ?_
          rotate_left
          · intro w hSw
            go_simp
            try with_reducible rfl
          simp only [Act.put, List.getElem_toArray, List.getElem_cons_zero, List.getElem_cons_succ, List.setIfInBounds_toArray, List.set_cons_zero, List.set_cons_succ]
          refine wpAnyH_take (i := 2) (v := ?_) rfl (by kernel_rfl) (by kernel_rfl) (by kernel_rfl) (fun _ _ _ h => h) (Or.inl ⟨by rfl, ?_⟩) (by assumption) ?_
          rotate_left
          · intro w hSw
            go_simp
            try with_reducible rfl
          simp only [Act.put, List.getElem_toArray, List.getElem_cons_zero, List.getElem_cons_succ, List.setIfInBounds_toArray, List.set_cons_zero, List.set_cons_succ]
          refine wpAnyH_take (i := 3) (v := ?_) rfl (by kernel_rfl) (by kernel_rfl) (by kernel_rfl) (fun _ _ _ h => h) (Or.inl ⟨by rfl, ?_⟩) (by assumption) ?_
          rotate_left
          · intro w hSw
            go_simp
            try with_reducible rfl
          simp only [Act.put, List.getElem_toArray, List.getElem_cons_zero, List.getElem_cons_succ, List.setIfInBounds_toArray, List.set_cons_zero, List.set_cons_succ]
          refine wpAnyH_take (i := 4) (v := ?_) rfl (by kernel_rfl) (by kernel_rfl) (by kernel_rfl) (fun _ _ _ h => h) (Or.inl ⟨by rfl, ?_⟩) (by assumption) ?_
          rotate_left
          · intro w hSw
            go_simp
            try with_reducible rfl
          simp only [Act.put, List.getElem_toArray, List.getElem_cons_zero, List.getElem_cons_succ, List.setIfInBounds_toArray, List.set_cons_zero, List.set_cons_succ]
          refine wpAnyH_take (i := 5) (v := ?_) rfl (by kernel_rfl) (by kernel_rfl) (by kernel_rfl) (fun _ _ _ h => h) (Or.inl ⟨by rfl, ?_⟩) (by assumption) ?_
          rotate_left
          · intro w hSw
            go_simp
            try with_reducible rfl
          simp only [Act.put, List.getElem_toArray, List.getElem_cons_zero, List.getElem_cons_succ, List.setIfInBounds_toArray, List.set_cons_zero, List.set_cons_succ]
          refine wpAnyH_take (i := 6) (v := ?_) rfl (by kernel_rfl) (by kernel_rfl) (by kernel_rfl) (fun _ _ _ h => h) (Or.inl ⟨by rfl, ?_⟩) (by assumption) ?_
          rotate_left
          · intro w hSw
            go_simp
            try with_reducible rfl
          simp only [Act.put, List.getElem_toArray, List.getElem_cons_zero, List.getElem_cons_succ, List.setIfInBounds_toArray, List.set_cons_zero, List.set_cons_succ]
          refine wpAnyH_take (i := 7) (v := ?_) rfl (by kernel_rfl) (by kernel_rfl) (by kernel_rfl) (fun _ _ _ h => h) (Or.inl ⟨by rfl, ?_⟩) (by assumption) ?_
          rotate_left
          · intro w hSw
            go_simp
            try with_reducible rfl
          simp only [Act.put, List.getElem_toArray, List.getElem_cons_zero, List.getElem_cons_succ, List.setIfInBounds_toArray, List.set_cons_zero, List.set_cons_succ]
          refine wpAnyH_take (i := 8) (v := ?_) rfl (by kernel_rfl) (by kernel_rfl) (by kernel_rfl) (fun _ _ _ h => h) (Or.inl ⟨by rfl, ?_⟩) (by assumption) ?_
          rotate_left
          · intro w hSw
            go_simp
            try with_reducible rfl
          simp only [Act.put, List.getElem_toArray, List.getElem_cons_zero, List.getElem_cons_succ, List.setIfInBounds_toArray, List.set_cons_zero, List.set_cons_succ]
          refine wpAnyH_take (i := 9) (v := ?_) rfl (by kernel_rfl) (by kernel_rfl) (by kernel_rfl) (fun _ _ _ h => h) (Or.inl ⟨by rfl, ?_⟩) (by assumption) ?_
          rotate_left
          · intro w hSw
            go_simp
            try with_reducible rfl
          simp only [Act.put, List.getElem_toArray, List.getElem_cons_zero, List.getElem_cons_succ, List.setIfInBounds_toArray, List.set_cons_zero, List.set_cons_succ]
          refine wpAnyH_done (by kernel_rfl) ?_ _
          have HY := aside hHeld.2.2.out
          clear hHeld c0 c1
          clear hle he
          go_wp2
          go_roundw
          case rel => exact ⟨k + 1, .inr (by omega), by go_num, HA, HY.out⟩
          case measure => simp [intOf]; omega
    · have HR := aside (riseK_true (S := S) (n := len) (fun j hj => hall.out j (by omega)))
      clear hnx
      go_wp2
      go_ret
      exact ⟨by rw [HR.out]; rfl, HX.out⟩

set_option maxHeartbeats 1600000 in
theorem checkKeys_any (a : Option Addr) (len cap : Nat) (S : Nat → ByteArray) (w : World) (h : StrsIn w.heap.size w a len cap S) :
    Calls Tryd.prog 60 #[.slice a len cap] w fun e w' => e = .returned (.int .i64 (keyE S len)) ∧ Below w.heap.size w w' := by
  have H := aside h
  clear h
  obtain ⟨q, hq⟩ : ∃ q, longK S len = q := ⟨_, rfl⟩
  obtain ⟨r, hr⟩ : ∃ r, riseK S len = r := ⟨_, rfl⟩
  have C1 := aside (contK_any a len cap S w H.out)
  have C2 := aside (fun w (h : StrsIn w.heap.size w a len cap S) => rise_any a len cap S w h)
  rw [show keyE S len = if q then 20 else if r then 0 else 22 from by unfold keyE; rw [hq, hr]]
  rw [hq] at C1
  rw [hr] at C2
  clear hq hr
  go_enter Tryd.func60, Tryd.ntmps60
  go_wp2_with fail
  refine C1.out.mono ?_
  rintro e w1 ⟨rfl, hw⟩
  subst hw
  cases q
  · go_wp2_with fail
    refine (C2.out _ H.out).mono ?_
    rintro e w2 ⟨rfl, b2⟩
    cases r
    · go_wp2
      go_ret
      exact ⟨rfl, b2⟩
    · go_wp2
      go_ret
      exact ⟨rfl, b2⟩
  · go_wp2
    go_ret
    exact ⟨rfl, Below.refl _ _⟩


end Go.Proofs.YtlgcdcjhflihiaaDoor
namespace Go.Proofs.YtlgcdcjhflihiaaDoor
open Go.RowKit
set_option linter.unusedVariables false
theorem infoInt : (Tryd.prog.info? 3).map (fun i => (i.zero, i.size, i.bytes)) = some (some (.int .i64 0), 1, 8) := by kernel_rfl

/-- Where the first k of p parts of n things begin. -/
def sttCells (n p k : Nat) : List Value := (List.range k).map fun j => .int .i64 (stt n p j : Int)

theorem sttCells_succ (n p k : Nat) : sttCells n p (k + 1) = sttCells n p k ++ [.int .i64 (stt n p k : Int)] := by
  unfold sttCells; rw [List.range_succ, List.map_append]; rfl

/-- A row of beginnings, to those who read it. -/
theorem stt_at {w : World} {B g p cap n : Nat} (h : w.ownsRow B 3 1 (.slice (some ⟨g, 0, none⟩) p cap) p (sttCells n p p)) {j : Nat} (hj : j < p) : w.cell? ⟨g, j, none⟩ = some (.int .i64 (stt n p j : Int)) := by
  have c := h.cells (g := g) rfl j (.int .i64 (stt n p j : Int)) (by unfold sttCells; rw [List.getElem?_map, List.getElem?_range hj]; rfl)
  have e : (⟨g, 0, none⟩ : Addr).add j = ⟨g, 0 + j, none⟩ := by unfold Addr.add; split <;> simp_all
  rw [e, Nat.zero_add] at c
  exact c

theorem quo_stt (k n p : Nat) : ((k : Int) * (n : Int)).tdiv (p : Int) = ((stt n p k : Nat) : Int) := by
  rw [Int.tdiv_eq_ediv_of_nonneg (Int.mul_nonneg (by omega) (by omega))]
  unfold stt
  rw [Int.natCast_ediv, Int.natCast_mul]

theorem mul_small {k n : Nat} (hk : k ≤ 256) (hn : n ≤ 256) : IntKind.i64.wrap ((k : Int) * (n : Int)) = (k : Int) * (n : Int) := by
  have h1 : (k : Int) * (n : Int) ≤ 256 * 256 := Int.mul_le_mul (by omega) (by omega) (by omega) (by omega)
  have h2 : 0 ≤ (k : Int) * (n : Int) := Int.mul_nonneg (by omega) (by omega)
  rw [IntKind.wrap_i64]; omega

set_option maxHeartbeats 1600000 in
theorem starts_bad (n p : Int) (w : World) (h : ¬ (1 ≤ n ∧ n ≤ 256 ∧ 1 ≤ p ∧ p ≤ n)) : Calls Tryd.prog 84 #[.int .i64 n, .int .i64 p] w fun e w' => e = .returned (.tuple #[.slice none 0 0, .int .i64 1]) ∧ w' = w := by
  by_cases h1 : n < 1
  ·
    go_enter Tryd.func84, Tryd.ntmps84
    go_wp2
    exact bodyPost_ret (v := .tuple #[.slice none 0 0, .int .i64 1]) (by simp [results, Tryd.results84, go_sem]) rfl ⟨rfl, rfl⟩
  · by_cases h2 : 256 < n
    ·
      go_enter Tryd.func84, Tryd.ntmps84
      go_wp2
      exact bodyPost_ret (v := .tuple #[.slice none 0 0, .int .i64 1]) (by simp [results, Tryd.results84, go_sem]) rfl ⟨rfl, rfl⟩
    · by_cases h3 : p < 1
      ·
        go_enter Tryd.func84, Tryd.ntmps84
        go_wp2
        exact bodyPost_ret (v := .tuple #[.slice none 0 0, .int .i64 1]) (by simp [results, Tryd.results84, go_sem]) rfl ⟨rfl, rfl⟩
      · have h4 : n < p := by omega
        go_enter Tryd.func84, Tryd.ntmps84
        go_wp2
        exact bodyPost_ret (v := .tuple #[.slice none 0 0, .int .i64 1]) (by simp [results, Tryd.results84, go_sem]) rfl ⟨rfl, rfl⟩

set_option maxHeartbeats 3200000 in
set_option maxRecDepth 100000 in
theorem starts_any (n p : Nat) (w : World) (hp : 1 ≤ p) (hpn : p ≤ n) (hn : n ≤ 256) : Calls Tryd.prog 84 #[.int .i64 (n : Int), .int .i64 (p : Int)] w fun e w' => ∃ g cp, e = .returned (.tuple #[.slice (some ⟨g, 0, none⟩) p cp, .int .i64 0]) ∧ w'.ownsRow w.heap.size 3 1 (.slice (some ⟨g, 0, none⟩) p cp) p (sttCells n p p) ∧ g < w'.heap.size ∧ Below w.heap.size w w' := by
    obtain ⟨i0, hi0, hz0, hz1, hz2⟩ := info_parts infoInt
    have g1 : ¬ ((n : Int) < 1) := by omega
    have g2 : ¬ (256 < (n : Int)) := by omega
    have g3 : ¬ ((p : Int) < 1) := by omega
    have g4 : ¬ ((n : Int) < (p : Int)) := by omega
    have g5 : ¬ ((p : Int) = 0) := by omega
    go_enter Tryd.func84, Tryd.ntmps84
    go_wp2_with (at_make; refine wpList_make_own _ rfl _ _ 59 rfl w.heap.size 3 i0 (.int .i64 0) 1 Tryd.underlying59 hi0 hz0 hz1 _ _ _ p rfl rfl ?b1 ?b2 ?b3 (by simp) ?_)
    case b1 => omega
    case b2 => omega
    case b3 => unfold maxLen; omega
    intro w0 hown0 hgrow0
    have hb0 : Below w.heap.size w w0 := (Below.refl _ w).grown hgrow0 (Nat.le_refl _) (fun k e => by cases e)
    clear hgrow0
    go_wp2
    go_loopw [6, 26] (fun v i wr => ∃ k : Nat, k ≤ p ∧ i = .int .i64 (k : Int) ∧ wr.ownsRow w.heap.size 3 1 v k (sttCells n p k) ∧ (0 < k → ∃ g cp, v = .slice (some ⟨g, 0, none⟩) k cp) ∧ Below w.heap.size w wr) (fun _ i _ => p - (intOf i).toNat)
    case atStart => exact ⟨0, Nat.zero_le _, rfl, hown0, fun h => by omega, hb0⟩
    case round =>
      obtain ⟨k, hk, rfl, hown, hform, hnx⟩ := hrel
      by_cases hlt : (k : Int) < (p : Int)
      · have hmul := mul_small (k := k) (n := n) (by omega) hn
        have hquo := quo_stt k n p
        have hqw : IntKind.i64.wrap ((k : Int) + 1) = (k : Int) + 1 := by rw [IntKind.wrap_i64]; omega
        have hle := stt_le (n := n) (p := p) (j := k) hp (by omega)
        have hsw : IntKind.i64.wrap ((stt n p k : Nat) : Int) = ((stt n p k : Nat) : Int) := by rw [IntKind.wrap_i64]; omega
        have HS := aside (sttCells_succ n p k)
        generalize stt n p k = x at *
        clear hle hown0 hb0
        go_wp2_with (at_builtin; refine wpList_append_lies _ rfl _ _ _ rfl w.heap.size 3 i0 (.int .i64 0) 1 8 Tryd.underlying59 hi0 hz0 hz1 hz2 rfl (by decide) _ _ _ (by rfl) (hown.alloc _) ⟨wr.heap.size, 0, none⟩ 1 1 [.int .i64 (x : Int)] (by rfl) (by rfl) (World.news_of_block (cs := #[.int .i64 (x : Int)]) (t := 3) (fr := (0, 0)) (heap_alloc_new wr _)) (by simp [Value.oneCell']) (by omega) (by unfold maxLen; omega) (by omega) (by have := hnx.size; simp; omega) (wr.heap.size + 1) (by simp) ?_; intro g cp w1 hown1 hgrow hat hlt1; refine Hid.out ?_)
        refine aside ?_
        have HO := aside (show w1.ownsRow w.heap.size 3 1 (.slice (some ⟨g, 0, none⟩) (k + 1) cp) (k + 1) (sttCells n p (k + 1)) from by rw [HS.out]; exact hown1)
        have HB := aside (show Below w.heap.size w w1 from (hnx.alloc hnx.size _).grown hgrow (by have := hnx.size; simp; omega) (fun j hj => (hown.lt j hj).1))
        clear hown hown1 hgrow hat hlt1 hform hnx
        go_wp2
        go_roundw
        case rel => exact ⟨k + 1, by omega, by go_num, HO.out, fun _ => ⟨g, cp, rfl⟩, HB.out⟩
        case measure => simp [intOf]; omega
      · obtain rfl : p = k := by omega
        obtain ⟨g, cp, rfl⟩ := hform (by omega)
        have HO := aside hown
        have HB := aside hnx
        clear hown hnx hown0 hb0
        go_wp2
        exact bodyPost_ret (v := .tuple #[.slice (some ⟨g, 0, none⟩) p cp, .int .i64 0]) (by simp [results, Tryd.results84, go_sem]) rfl ⟨g, cp, rfl, HO.out, (HO.out.lt g rfl).2, HB.out⟩



end Go.Proofs.YtlgcdcjhflihiaaDoor
namespace Go.Proofs.YtlgcdcjhflihiaaDoor
open Go.RowKit
set_option linter.unusedVariables false
/-- The border behind part j. -/
def bdr (n p : Nat) (S : Nat → ByteArray) (j : Nat) : ByteArray := S (stt n p (j + 1))

theorem strUpto_succ (f : Nat → ByteArray) (k : Nat) : strCells (strUpto f (k + 1)) = strCells (strUpto f k) ++ [.string (f k)] := by
  unfold strCells strUpto
  rw [List.range_succ, List.map_append, List.map_append]
  rfl

/-- Texts that a call owns, to those who read them. -/
theorem strs_own {w : World} {B g n cap : Nat} {f : Nat → ByteArray} (h : w.ownsRow B 9 1 (.slice (some ⟨g, 0, none⟩) n cap) n (strCells (strUpto f n))) (hb : n * 16 ≤ 281474976710656) : StrsIn w.heap.size w (some ⟨g, 0, none⟩) n cap f := by
  have hcap : n ≤ cap ∧ g < w.heap.size := by
    rcases h.2 with ⟨h1, -⟩ | ⟨g', cap', cur, h1, -, h3, h2, -⟩
    · cases h1
    · cases h1; exact ⟨h2, lies h3⟩
  refine ⟨hcap.1, hb, .inr ⟨g, 0, rfl, hcap.2, fun i hi => ?_⟩⟩
  have c := h.cells (g := g) rfl i (.string (f i)) (by unfold strCells strUpto; rw [List.getElem?_map, List.getElem?_map, List.getElem?_range hi]; rfl)
  have e : (⟨g, 0, none⟩ : Addr).add i = ⟨g, 0 + i, none⟩ := by unfold Addr.add; split <;> simp_all
  rwa [e] at c

set_option maxHeartbeats 1600000 in
theorem bordersOf_bad (a : Option Addr) (n cap : Nat) (p : Int) (w : World) (h : ¬ (1 ≤ (n : Int) ∧ (n : Int) ≤ 256 ∧ 1 ≤ p ∧ p ≤ (n : Int))) :
    Calls Tryd.prog 62 #[.slice a n cap, .int .i64 p] w fun e w' => e = .returned (.tuple #[.slice none 0 0, .int .i64 1]) ∧ w' = w := by
  go_enter Tryd.func62, Tryd.ntmps62
  go_wp2_with fail
  refine (starts_bad (n : Int) p _ h).mono ?_
  rintro e w1 ⟨rfl, rfl⟩
  go_wp2
  exact bodyPost_ret (v := .tuple #[.slice none 0 0, .int .i64 1]) (by simp [results, Tryd.results62, go_sem]) rfl ⟨rfl, rfl⟩

set_option maxHeartbeats 6400000 in
set_option maxRecDepth 100000 in
theorem bordersOf_any (a : Option Addr) (n cap q : Nat) (S : Nat → ByteArray) (w : World) (h : StrsIn w.heap.size w a n cap S) (hqn : q + 1 ≤ n) (hn : n ≤ 256) :
    Calls Tryd.prog 62 #[.slice a n cap, .int .i64 ((q : Int) + 1)] w fun e w' => ∃ g cp, e = .returned (.tuple #[.slice (some ⟨g, 0, none⟩) q cp, .int .i64 0]) ∧ w'.ownsRow w.heap.size 9 1 (.slice (some ⟨g, 0, none⟩) q cp) q (strCells (strUpto (bdr n (q + 1) S) q)) ∧ g < w'.heap.size ∧ Below w.heap.size w w' := by
  obtain ⟨i0, hi0, hz0, hz1, hz2⟩ := infoStr_parts
  have hlc := h.1
  have HH := aside h.2.2
  clear h
  go_enter Tryd.func62, Tryd.ntmps62
  go_wp2_with fail
  refine (starts_any n (q + 1) _ (by omega) hqn hn).mono ?_
  rintro e w1 ⟨g1, c1, rfl, o1, l1, b1⟩
  have O1 := aside o1
  have B1 := aside b1
  have HB1 := aside b1.size
  have L1 := aside l1
  have hpw : IntKind.i64.wrap (q : Int) = (q : Int) := by rw [IntKind.wrap_i64]; omega
  have hpc : q + 1 ≤ c1 := by
    rcases o1.2 with ⟨h1, -⟩ | ⟨g', cap', cur, h1, -, -, h2, -⟩
    · cases h1
    · cases h1; exact h2
  have h0p : (0 : Int) ≤ (q : Int) := by omega
  clear o1 b1 l1
  go_wp2_with (at_make; refine wpList_make_own _ rfl _ _ 92 rfl w1.heap.size 9 i0 (.string ⟨#[]⟩) 1 Tryd.underlying92 hi0 hz0 hz1 _ _ _ q rfl rfl ?b1 ?b2 ?b3 (by simp) ?_)
  case b1 => omega
  case b2 => first | omega | (rw [hz2]; omega)
  case b3 => unfold maxLen; omega
  intro w2 hown0 hgrow0
  have hb2 : Below w1.heap.size w1 w2 := (Below.refl _ w1).grown hgrow0 (Nat.le_refl _) (fun k e => by cases e)
  have HO0 := aside hown0
  have HB2 := aside hb2
  clear hown0 hgrow0 hb2
  by_cases hc1 : c1 = 1
  · obtain rfl : q = 0 := by omega
    subst hc1
    go_wp2
    go_loopw [8, 27] (fun v i wr => ∃ g cp, v = .slice (some ⟨g, 0, none⟩) 0 cp ∧ i = .int .i64 0 ∧ wr.ownsRow w1.heap.size 9 1 (.slice (some ⟨g, 0, none⟩) 0 cp) 0 [] ∧ Below w1.heap.size w1 wr) (fun _ _ _ => 0)
    case atStart => exact ⟨_, _, rfl, rfl, HO0.out, HB2.out⟩
    case round =>
      obtain ⟨g, cp, rfl, rfl, hown, hnx⟩ := hrel
      have HO := aside hown
      have HX := aside hnx
      clear hown hnx
      go_wp2
      exact bodyPost_ret (v := .tuple #[.slice (some ⟨g, 0, none⟩) 0 cp, .int .i64 0]) (by simp [results, Tryd.results62, go_sem]) rfl ⟨g, cp, rfl, row_base HO.out HB1.out, (HO.out.lt g rfl).2, B1.out.trans (HX.out.mono HB1.out)⟩
  · have hp1 : (1 : Int) ≤ (q : Int) + 1 := by omega
    go_wp2
    go_loopw [8, 27] (fun v i wr => ∃ g k cp, k ≤ q ∧ v = .slice (some ⟨g, 0, none⟩) k cp ∧ i = .int .i64 ((k : Nat) : Int) ∧ wr.ownsRow w1.heap.size 9 1 (.slice (some ⟨g, 0, none⟩) k cp) k (strCells (strUpto (bdr n (q + 1) S) k)) ∧ Below w1.heap.size w1 wr) (fun _ i _ => q - (intOf i).toNat)
    case atStart => exact ⟨_, 0, _, Nat.zero_le _, rfl, rfl, HO0.out, HB2.out⟩
    case round =>
      obtain ⟨g, k, cp, hk, rfl, rfl, hown, hnx⟩ := hrel
      have HX := aside hnx
      by_cases hlt : (k : Int) < (q : Int)
      · have hx := stt_lt (n := n) (p := q + 1) (j := k + 1) (by omega) (by omega) (by omega)
        have d0 : wr.cell? ⟨g1, 1 + k, none⟩ = some (.int .i64 (stt n (q + 1) (k + 1) : Int)) := by
          have := (hnx.cell (p := ⟨g1, k + 1, none⟩) L1.out).trans (stt_at O1.out (j := k + 1) (by omega))
          first | exact this | (rw [Nat.add_comm 1 k]; exact this)
        have HS := aside (strUpto_succ (bdr n (q + 1) S) k)
        have hbd : bdr n (q + 1) S k = S (stt n (q + 1) (k + 1)) := rfl
        rcases HH.out with h0 | ⟨b, off, rfl, hb, hc⟩
        · omega
        have c0 := (HX.out.cell (p := ⟨b, off + stt n (q + 1) (k + 1), none⟩) (Nat.lt_of_lt_of_le hb HB1.out)).trans ((B1.out.cell (p := ⟨b, off + stt n (q + 1) (k + 1), none⟩) hb).trans (hc _ hx))
        rw [← hbd] at c0
        generalize bdr n (q + 1) S k = y at *
        generalize stt n (q + 1) (k + 1) = x at *
        have hx0 : (0 : Int) ≤ (x : Int) := by omega
        have hx1 : (x : Int) < (n : Int) := by omega
        have hk0 : (0 : Int) ≤ (k : Int) := by omega
        have hk1 : (0 : Int) ≤ (k : Int) + 1 := by omega
        have hqw : IntKind.i64.wrap ((k : Int) + 1) = (k : Int) + 1 := by rw [IntKind.wrap_i64]; omega
        have hqw2 : IntKind.i64.wrap ((k : Int) + 1 + 1) = (k : Int) + 1 + 1 := by rw [IntKind.wrap_i64]; omega
        skip
        have HNS := aside hnx.size
        clear hc hbd hnx
        go_wp2_with (at_builtin; refine wpList_append_lies _ rfl _ _ _ rfl w1.heap.size 9 i0 (.string ⟨#[]⟩) 1 16 Tryd.underlying92 hi0 hz0 hz1 hz2 rfl (by decide) _ _ _ (by rfl) (hown.alloc _) ⟨wr.heap.size, 0, none⟩ 1 1 [.string y] (by rfl) (by rfl) (World.news_of_block (cs := #[.string y]) (t := 9) (fr := (0, 0)) (heap_alloc_new wr _)) (by simp [Value.oneCell']) (by omega) (by unfold maxLen; omega) (by omega) (by have := HNS.out; simp; omega) (wr.heap.size + 1) (by simp) ?_; intro g5 cp5 w5 hown1 hgrow hat hlt1; refine Hid.out ?_)
        refine aside ?_
        have HO := aside (show w5.ownsRow w1.heap.size 9 1 (.slice (some ⟨g5, 0, none⟩) (k + 1) cp5) (k + 1) (strCells (strUpto (bdr n (q + 1) S) (k + 1))) from by rw [HS.out]; exact hown1)
        have HY := aside (show Below w1.heap.size w1 w5 from (HX.out.alloc HX.out.size _).grown hgrow (by have := HX.out.size; simp; omega) (fun j hj => (hown.lt j hj).1))
        clear hown hown1 hgrow hat hlt1 c0 d0
        go_wp2
        go_roundw
        case rel => exact ⟨g5, k + 1, cp5, by omega, by rfl, by go_num, HO.out, HY.out⟩
        case measure => simp [intOf]; omega
      · obtain rfl : q = k := by omega
        have HO := aside hown
        clear hown hnx
        go_wp2
        exact bodyPost_ret (v := .tuple #[.slice (some ⟨g, 0, none⟩) q cp, .int .i64 0]) (by simp [results, Tryd.results62, go_sem]) rfl ⟨g, cp, rfl, row_base HO.out HB1.out, (HO.out.lt g rfl).2, B1.out.trans (HX.out.mono HB1.out)⟩







end Go.Proofs.YtlgcdcjhflihiaaDoor
namespace Go.Proofs.YtlgcdcjhflihiaaDoor
open Go.RowKit
set_option linter.unusedVariables false
/-- All keys are in the range. -/
def allK (r : Rg) (S : Nat → ByteArray) (n : Nat) : Bool := (List.range n).all fun i => r.has (S i)

theorem allK_true {r : Rg} {S : Nat → ByteArray} {n : Nat} (h : ∀ i, i < n → r.has (S i) = true) : allK r S n = true := by
  unfold allK
  rw [List.all_eq_true]
  exact fun i hi => h i (List.mem_range.1 hi)

theorem allK_false {r : Rg} {S : Nat → ByteArray} {n i : Nat} (hi : i < n) (h : r.has (S i) = false) : allK r S n = false := by
  unfold allK
  rw [List.all_eq_false]
  exact ⟨i, List.mem_range.2 hi, by simp [h]⟩

theorem allK_at {r : Rg} {S : Nat → ByteArray} {n : Nat} (h : allK r S n = true) {i : Nat} (hi : i < n) : r.has (S i) = true := by
  unfold allK at h
  rw [List.all_eq_true] at h
  exact h i (List.mem_range.2 hi)

/-- Keys that may be: none too long, and they rise. -/
structure KeysUp (S : Nat → ByteArray) (n : Nat) : Prop where
  sz : ∀ i, i < n → ((S i).size : Int) ≤ 16
  up : ∀ i j, i < j → j < n → Op.bytesLess (S i).toList (S j).toList = true

theorem keysOk {S : Nat → ByteArray} {n : Nat} (h : keyE S n = 0) : KeysUp S n := by
  unfold keyE at h
  cases h1 : longK S n
  · rw [h1] at h
    cases h2 : riseK S n
    · rw [h2] at h; cases h
    · unfold longK at h1
      unfold riseK at h2
      rw [List.any_eq_false] at h1
      rw [List.all_eq_true] at h2
      have st : ∀ i, i + 1 < n → Op.bytesLess (S i).toList (S (i + 1)).toList = true := fun i hi => h2 i (List.mem_range.2 (by omega))
      refine ⟨fun i hi => by have := h1 i (List.mem_range.2 hi); simp at this; omega, ?_⟩
      intro i j hij hj
      obtain ⟨d, rfl⟩ : ∃ d, j = i + d + 1 := ⟨j - i - 1, by omega⟩
      induction d with
      | zero => exact st i hj
      | succ d ih => exact L_trans _ _ _ (ih (by omega) (by omega)) (st (i + d + 1) hj)
  · rw [h1] at h; cases h

theorem keyE_zero {S : Nat → ByteArray} {n : Nat} (h : KeysUp S n) : keyE S n = 0 := by
  unfold keyE
  rw [longK_false h.sz, riseK_true (fun k hk => h.up k (k + 1) (Nat.lt_succ_self k) hk)]
  rfl

theorem L_asym {x y : List UInt8} (h : Op.bytesLess x y = true) : Op.bytesLess y x = false := by
  cases h2 : Op.bytesLess y x
  · rfl
  · have := L_trans x y x h h2
    rw [L_irrefl] at this; cases this

/-- Not above the one and below the other. -/
theorem L_le_lt {x y z : List UInt8} (h : Op.bytesLess y x = false) (h2 : Op.bytesLess y z = true) : Op.bytesLess x z = true := by
  cases h3 : Op.bytesLess x y
  · rw [L_total x y h3 h]; exact h2
  · exact L_trans x y z h3 h2

theorem KeysUp.lt {S : Nat → ByteArray} {n : Nat} (h : KeysUp S n) {i j : Nat} (hi : i < n) (hj : j < n) : Op.bytesLess (S i).toList (S j).toList = decide (i < j) := by
  rcases Nat.lt_trichotomy i j with e | e | e
  · rw [h.up i j e hj, decide_eq_true e]
  · subst e; rw [L_irrefl, decide_eq_false (Nat.lt_irrefl i)]
  · rw [L_asym (h.up j i e hi), decide_eq_false (by omega)]

theorem has_parts {r : Rg} {k : ByteArray} (h : r.has k = true) : r.may = true ∧ (k.size : Int) ≤ 16 ∧ Op.bytesLess k.toList r.lo.toList = false ∧ (r.op || Op.bytesLess k.toList r.hi.toList) = true := by
  simp only [Rg.has, Bool.and_eq_true, decide_eq_true_eq, Bool.not_eq_true'] at h
  exact ⟨h.1.1.1, h.1.1.2, h.1.2, h.2⟩

theorem stt_up {n p : Nat} (hp : 0 < p) (hpn : p ≤ n) {i j : Nat} (h : i < j) : stt n p i < stt n p j := by
  obtain ⟨d, rfl⟩ : ∃ d, j = i + d + 1 := ⟨j - i - 1, by omega⟩
  have h1 := div_pos' hp hpn
  induction d with
  | zero => have := (stt_step n hp i).1; show stt n p i < stt n p (i + 1); omega
  | succ d ih => have := (stt_step n hp (i + d + 1)).1; have := ih (by omega); show stt n p i < stt n p (i + d + 1 + 1); omega

/-- The borders of a split may stand in the range. -/
theorem bdr_ok {r : Rg} {S : Nat → ByteArray} {n q : Nat} (hk : KeysUp S n) (ha : ∀ i, i < n → r.has (S i) = true) (hq : q + 1 ≤ n) : ∀ i, i < q → okB r (cutLo r.lo (bdr n (q + 1) S) i) (bdr n (q + 1) S i) = true := by
  intro i hi
  have hx : stt n (q + 1) (i + 1) < n := stt_lt (by omega) (by omega) (by omega)
  have h0 := has_parts (ha _ hx)
  have hl : Op.bytesLess (cutLo r.lo (bdr n (q + 1) S) i).toList (S (stt n (q + 1) (i + 1))).toList = true := by
    cases i with
    | zero =>
      show Op.bytesLess r.lo.toList _ = true
      have h1 := has_parts (ha 0 (by omega))
      have h2 := stt_up (n := n) (p := q + 1) (by omega) hq (i := 0) (j := 1) (by omega)
      rw [stt_zero] at h2
      exact L_le_lt h1.2.2.1 (hk.up 0 _ h2 hx)
    | succ i =>
      show Op.bytesLess (S (stt n (q + 1) (i + 1))).toList _ = true
      exact hk.up _ _ (stt_up (by omega) hq (by omega)) hx
  show okB r _ (S (stt n (q + 1) (i + 1))) = true
  unfold okB
  rw [hl, h0.2.2.2, decide_eq_true h0.2.1]
  rfl

theorem pieces_rise {r : Rg} {S : Nat → ByteArray} {n q : Nat} (hk : KeysUp S n) (ha : ∀ i, i < n → r.has (S i) = true) (hq : q + 1 ≤ n) (h0 : 0 < q) : rises (piece r (bdr n (q + 1) S) q) (q + 1) = true :=
  (rises_cut (has_parts (ha 0 (by omega))).1 h0).2 (bdr_ok hk ha hq)

theorem piece_none (r : Rg) (B : Nat → ByteArray) : piece r B 0 0 = r := rfl

theorem pieces_up {r : Rg} {S : Nat → ByteArray} {n q : Nat} (hk : KeysUp S n) (ha : ∀ i, i < n → r.has (S i) = true) (hq : q + 1 ≤ n) : rises (piece r (bdr n (q + 1) S) q) (q + 1) = true := by
  rcases Nat.eq_zero_or_pos q with h0 | h0
  · subst h0
    exact rises_one (has_not_emp (ha 0 (by omega)))
  · exact pieces_rise hk ha hq h0

theorem rises_may {T : Nat → Rg} {n j : Nat} (h : rises T n = true) (hj : j < n) : (T j).may = true := by
  simp only [rises, Bool.and_eq_true, Bool.not_eq_true'] at h
  cases he : (T j).may
  · rw [anyE_true (j := j) hj (emp_of_not_may he)] at h; cases h.1
  · rfl

/-- Which keys a part has. -/
theorem piece_has {r : Rg} {S : Nat → ByteArray} {n q : Nat} (hk : KeysUp S n) (ha : ∀ i, i < n → r.has (S i) = true) (hq : q + 1 ≤ n) {i j : Nat} (hi : i < n) (hj : j < q + 1) :
    (piece r (bdr n (q + 1) S) q j).has (S i) = (decide (stt n (q + 1) j ≤ i) && decide (i < stt n (q + 1) (j + 1))) := by
  have hm := rises_may (pieces_up hk ha hq) hj
  have h0 := has_parts (ha i hi)
  have hlo : (!Op.bytesLess (S i).toList (piece r (bdr n (q + 1) S) q j).lo.toList) = decide (stt n (q + 1) j ≤ i) := by
    have e : (piece r (bdr n (q + 1) S) q j).lo = cutLo r.lo (bdr n (q + 1) S) j := by unfold piece; split <;> rfl
    rw [e]
    cases j with
    | zero => show (!Op.bytesLess (S i).toList r.lo.toList) = _; rw [h0.2.2.1, stt_zero, decide_eq_true (Nat.zero_le i)]; rfl
    | succ j =>
      show (!Op.bytesLess (S i).toList (S (stt n (q + 1) (j + 1))).toList) = _
      rw [hk.lt hi (stt_lt (by omega) (by omega) (by omega))]
      by_cases e : i < stt n (q + 1) (j + 1)
      · rw [decide_eq_true e, decide_eq_false (by omega)]; rfl
      · rw [decide_eq_false e, decide_eq_true (by omega)]; rfl
  have hhi : ((piece r (bdr n (q + 1) S) q j).op || Op.bytesLess (S i).toList (piece r (bdr n (q + 1) S) q j).hi.toList) = decide (i < stt n (q + 1) (j + 1)) := by
    by_cases e : j < q
    · have e1 : piece r (bdr n (q + 1) S) q j = ⟨cutLo r.lo (bdr n (q + 1) S) j, bdr n (q + 1) S j, false⟩ := by unfold piece; rw [if_pos e]
      rw [e1]
      show (false || Op.bytesLess (S i).toList (S (stt n (q + 1) (j + 1))).toList) = _
      rw [Bool.false_or, hk.lt hi (stt_lt (by omega) (by omega) (by omega))]
    · have ej : j = q := by omega
      subst ej
      have e1 : piece r (bdr n (j + 1) S) j j = ⟨cutLo r.lo (bdr n (j + 1) S) j, r.hi, r.op⟩ := by unfold piece; rw [if_neg e]
      rw [e1]
      show (r.op || Op.bytesLess (S i).toList r.hi.toList) = _
      rw [h0.2.2.2, stt_end n (p := j + 1) (by omega), decide_eq_true hi]
  unfold Rg.has
  rw [hm, decide_eq_true h0.2.1, hlo, hhi]
  rfl

end Go.Proofs.YtlgcdcjhflihiaaDoor
namespace Go.Proofs.YtlgcdcjhflihiaaDoor
open Go.RowKit
set_option linter.unusedVariables false
theorem box_after {w X : World} {lo hi : ByteArray} {op : Bool} (b : Below (w.alloc (.cells #[.string lo, .string hi, .bool op] 35)).heap.size (w.alloc (.cells #[.string lo, .string hi, .bool op] 35)) X) :
    X.heap[w.heap.size]? = some (.cells #[.string lo, .string hi, .bool op] 35 (0, 0)) ∧ Below w.heap.size w X :=
  ⟨keep (heap_alloc_new w _) b, bthen (bnew w _) b⟩

set_option maxRecDepth 100000 in
set_option maxHeartbeats 3200000 in
theorem allHeld_any (lo hi : ByteArray) (op : Bool) (a : Option Addr) (n cap : Nat) (S : Nat → ByteArray) (w : World) (h : StrsIn w.heap.size w a n cap S) :
    Calls Tryd.prog 61 #[.agg #[.string lo, .string hi, .bool op], .slice a n cap] w fun e w' => e = .returned (.bool (allK ⟨lo, hi, op⟩ S n)) ∧ Below w.heap.size w w' := by
  have hlc := h.1
  have hl16 := h.2.1
  have HH := aside h.2.2
  clear h
  go_enter Tryd.func61, Tryd.ntmps61
  go_wp2
  go_loopw [9] (fun i wr => ∃ k : Nat, k ≤ n ∧ i = .int .i64 (k : Int) ∧ Hid (∀ j, j < k → Rg.has ⟨lo, hi, op⟩ (S j) = true) ∧ Hid (Below (w.alloc (.cells #[.string lo, .string hi, .bool op] 35)).heap.size (w.alloc (.cells #[.string lo, .string hi, .bool op] 35)) wr)) (fun i _ => n - (intOf i).toNat)
  case atStart => exact ⟨0, Nat.zero_le _, rfl, fun j hj => by omega, Below.refl _ _⟩
  case round =>
    obtain ⟨k, hk, rfl, hall, HB⟩ := hrel
    obtain ⟨hbx, hnx⟩ := box_after HB.out
    have HX := aside hnx
    obtain ⟨⟨q0, q1, q2⟩, -⟩ := box_out hbx
    by_cases hlt : (k : Int) < (n : Int)
    · rcases HH.out with hh | ⟨b, off, rfl, hb, hc⟩
      · omega
      have c0 := (hnx.cell (p := ⟨b, off + k, none⟩) hb).trans (hc k (by omega))
      have hk0 : (0 : Int) ≤ (k : Int) := by omega
      have hqw : IntKind.i64.wrap ((k : Int) + 1) = (k : Int) + 1 := by rw [IntKind.wrap_i64]; omega
      clear hc hnx hbx
      obtain ⟨x, hx⟩ : ∃ x, Rg.has ⟨lo, hi, op⟩ (S k) = x := ⟨_, rfl⟩
      have HC := aside (fun w => holds_any lo hi op (S k) w)
      rw [hx] at HC
      go_wp2_with fail
      refine (HC.out _).mono ?_
      rintro e w1 ⟨rfl, b1⟩
      have B1 := aside (HB.out.trans (b1.mono HB.out.size))
      clear b1 HC
      cases x
      · have HF := aside (allK_false (r := ⟨lo, hi, op⟩) (S := S) (n := n) (by omega) hx)
        clear q0 q1 q2 c0
        go_wp2
        go_ret
        exact ⟨by rw [HF.out]; rfl, (box_after B1.out).2⟩
      · have HA := aside (show ∀ j, j < k + 1 → Rg.has ⟨lo, hi, op⟩ (S j) = true from fun j hj => by
          by_cases e : j = k
          · rw [e]; exact hx
          · exact hall.out j (by omega))
        clear q0 q1 q2 c0
        go_wp2
        go_roundw
        case rel => exact ⟨k + 1, by omega, by go_num, HA, B1⟩
        case measure => simp [intOf]; omega
    · obtain rfl : n = k := by omega
      have HT := aside (allK_true hall.out)
      clear hnx hbx q0 q1 q2
      go_wp2
      go_ret
      exact ⟨by rw [HT.out]; rfl, HX.out⟩

/-- What is wrong with a range, its keys and a number of parts. -/
def rngE (r : Rg) (S : Nat → ByteArray) (n : Nat) (p : Int) : Int :=
  if r.chk = 0 then (if keyE S n = 0 then (if allK r S n then (if 1 ≤ (n : Int) ∧ (n : Int) ≤ 256 ∧ 1 ≤ p ∧ p ≤ (n : Int) then 0 else 1) else 22) else keyE S n) else r.chk

set_option maxHeartbeats 3200000 in
set_option maxRecDepth 100000 in
theorem ranges_chk (lo hi : ByteArray) (op : Bool) (a : Option Addr) (n cap : Nat) (S : Nat → ByteArray) (p : Int) (w : World) (h : StrsIn w.heap.size w a n cap S) (c : Int) (hch : Rg.chk ⟨lo, hi, op⟩ = c) (hc0 : ¬ c = 0) :
    Calls Tryd.prog 41 #[.agg #[.string lo, .string hi, .bool op], .slice a n cap, .int .i64 p] w fun e w' => e = .returned (.tuple #[.slice none 0 0, .int .i64 c]) ∧ Below w.heap.size w w' := by
  have HS := aside h
  clear h
  go_enter Tryd.func41, Tryd.ntmps41
  go_wp2_with fail
  refine (check_at hch _).mono ?_
  rintro e w1 ⟨rfl, b1⟩
  have X1 := aside b1
  clear b1
  obtain ⟨hbx, hnx⟩ := box_after X1.out
  obtain ⟨⟨q0, q1, q2⟩, -⟩ := box_out hbx
  have B1 := aside hnx
  clear hbx hnx
  go_wp2
  exact bodyPost_ret (v := .tuple #[.slice none 0 0, .int .i64 c]) (by simp [results, Tryd.results41, go_sem]) rfl ⟨rfl, B1.out⟩

set_option maxHeartbeats 3200000 in
set_option maxRecDepth 100000 in
theorem ranges_key (lo hi : ByteArray) (op : Bool) (a : Option Addr) (n cap : Nat) (S : Nat → ByteArray) (p : Int) (w : World) (h : StrsIn w.heap.size w a n cap S) (c : Int) (hch : Rg.chk ⟨lo, hi, op⟩ = 0) (hke : keyE S n = c) (hc0 : ¬ c = 0) :
    Calls Tryd.prog 41 #[.agg #[.string lo, .string hi, .bool op], .slice a n cap, .int .i64 p] w fun e w' => e = .returned (.tuple #[.slice none 0 0, .int .i64 c]) ∧ Below w.heap.size w w' := by
  have HS := aside h
  clear h
  go_enter Tryd.func41, Tryd.ntmps41
  go_wp2_with fail
  refine (check_at hch _).mono ?_
  rintro e w1 ⟨rfl, b1⟩
  have X1 := aside b1
  clear b1
  obtain ⟨hbx, hnx⟩ := box_after X1.out
  obtain ⟨⟨q0, q1, q2⟩, -⟩ := box_out hbx
  have B1 := aside hnx
  clear hbx hnx
  go_wp2_with fail
  refine (checkKeys_any a n cap S _ (HS.out.up B1.out B1.out.size)).mono ?_
  rw [hke]
  rintro e w2 ⟨rfl, b2⟩
  have X2 := aside (X1.out.trans (b2.mono X1.out.size))
  clear b2 q0 q1 q2
  obtain ⟨hbx, hnx⟩ := box_after X2.out
  obtain ⟨⟨q0, q1, q2⟩, -⟩ := box_out hbx
  have B2 := aside hnx
  clear hbx hnx
  go_wp2
  exact bodyPost_ret (v := .tuple #[.slice none 0 0, .int .i64 c]) (by simp [results, Tryd.results41, go_sem]) rfl ⟨rfl, B2.out⟩

set_option maxHeartbeats 3200000 in
set_option maxRecDepth 100000 in
theorem ranges_not (lo hi : ByteArray) (op : Bool) (a : Option Addr) (n cap : Nat) (S : Nat → ByteArray) (p : Int) (w : World) (h : StrsIn w.heap.size w a n cap S) (hch : Rg.chk ⟨lo, hi, op⟩ = 0) (hke : keyE S n = 0) (hal : allK ⟨lo, hi, op⟩ S n = false) :
    Calls Tryd.prog 41 #[.agg #[.string lo, .string hi, .bool op], .slice a n cap, .int .i64 p] w fun e w' => e = .returned (.tuple #[.slice none 0 0, .int .i64 22]) ∧ Below w.heap.size w w' := by
  have HS := aside h
  clear h
  go_enter Tryd.func41, Tryd.ntmps41
  go_wp2_with fail
  refine (check_at hch _).mono ?_
  rintro e w1 ⟨rfl, b1⟩
  have X1 := aside b1
  clear b1
  obtain ⟨hbx, hnx⟩ := box_after X1.out
  obtain ⟨⟨q0, q1, q2⟩, -⟩ := box_out hbx
  have B1 := aside hnx
  clear hbx hnx
  go_wp2_with fail
  refine (checkKeys_any a n cap S _ (HS.out.up B1.out B1.out.size)).mono ?_
  rw [hke]
  rintro e w2 ⟨rfl, b2⟩
  have X2 := aside (X1.out.trans (b2.mono X1.out.size))
  clear b2 q0 q1 q2
  obtain ⟨hbx, hnx⟩ := box_after X2.out
  obtain ⟨⟨q0, q1, q2⟩, -⟩ := box_out hbx
  have B2 := aside hnx
  clear hbx hnx
  go_wp2_with fail
  refine (allHeld_any lo hi op a n cap S _ (HS.out.up B2.out B2.out.size)).mono ?_
  rw [hal]
  rintro e w3 ⟨rfl, b3⟩
  have X3 := aside (X2.out.trans (b3.mono X2.out.size))
  clear b3 q0 q1 q2
  obtain ⟨hbx, hnx⟩ := box_after X3.out
  obtain ⟨⟨q0, q1, q2⟩, -⟩ := box_out hbx
  have B3 := aside hnx
  clear hbx hnx
  go_wp2
  exact bodyPost_ret (v := .tuple #[.slice none 0 0, .int .i64 22]) (by simp [results, Tryd.results41, go_sem]) rfl ⟨rfl, B3.out⟩

set_option maxHeartbeats 3200000 in
set_option maxRecDepth 100000 in
theorem ranges_arg (lo hi : ByteArray) (op : Bool) (a : Option Addr) (n cap : Nat) (S : Nat → ByteArray) (p : Int) (w : World) (h : StrsIn w.heap.size w a n cap S) (hch : Rg.chk ⟨lo, hi, op⟩ = 0) (hke : keyE S n = 0) (hal : allK ⟨lo, hi, op⟩ S n = true) (hb : ¬ (1 ≤ (n : Int) ∧ (n : Int) ≤ 256 ∧ 1 ≤ p ∧ p ≤ (n : Int))) :
    Calls Tryd.prog 41 #[.agg #[.string lo, .string hi, .bool op], .slice a n cap, .int .i64 p] w fun e w' => e = .returned (.tuple #[.slice none 0 0, .int .i64 1]) ∧ Below w.heap.size w w' := by
  have HS := aside h
  clear h
  have HB := aside hb
  clear hb
  go_enter Tryd.func41, Tryd.ntmps41
  go_wp2_with fail
  refine (check_at hch _).mono ?_
  rintro e w1 ⟨rfl, b1⟩
  have X1 := aside b1
  clear b1
  obtain ⟨hbx, hnx⟩ := box_after X1.out
  obtain ⟨⟨q0, q1, q2⟩, -⟩ := box_out hbx
  have B1 := aside hnx
  clear hbx hnx
  go_wp2_with fail
  refine (checkKeys_any a n cap S _ (HS.out.up B1.out B1.out.size)).mono ?_
  rw [hke]
  rintro e w2 ⟨rfl, b2⟩
  have X2 := aside (X1.out.trans (b2.mono X1.out.size))
  clear b2 q0 q1 q2
  obtain ⟨hbx, hnx⟩ := box_after X2.out
  obtain ⟨⟨q0, q1, q2⟩, -⟩ := box_out hbx
  have B2 := aside hnx
  clear hbx hnx
  go_wp2_with fail
  refine (allHeld_any lo hi op a n cap S _ (HS.out.up B2.out B2.out.size)).mono ?_
  rw [hal]
  rintro e w3 ⟨rfl, b3⟩
  have X3 := aside (X2.out.trans (b3.mono X2.out.size))
  clear b3 q0 q1 q2
  obtain ⟨hbx, hnx⟩ := box_after X3.out
  obtain ⟨⟨q0, q1, q2⟩, -⟩ := box_out hbx
  have B3 := aside hnx
  clear hbx hnx
  go_wp2_with fail
  refine (bordersOf_bad a n cap p _ HB.out).mono ?_
  rintro e w4 ⟨rfl, rfl⟩
  go_wp2
  exact bodyPost_ret (v := .tuple #[.slice none 0 0, .int .i64 1]) (by simp [results, Tryd.results41, go_sem]) rfl ⟨rfl, B3.out⟩

set_option maxHeartbeats 3200000 in
set_option maxRecDepth 100000 in
theorem ranges_ok (lo hi : ByteArray) (op : Bool) (a : Option Addr) (n cap : Nat) (S : Nat → ByteArray) (q : Nat) (w : World) (h : StrsIn w.heap.size w a n cap S) (hch : Rg.chk ⟨lo, hi, op⟩ = 0) (hke : keyE S n = 0) (hal : allK ⟨lo, hi, op⟩ S n = true) (hqn : q + 1 ≤ n) (hn : n ≤ 256) :
    Calls Tryd.prog 41 #[.agg #[.string lo, .string hi, .bool op], .slice a n cap, .int .i64 ((q : Int) + 1)] w fun e w' => ∃ g cp, e = .returned (.tuple #[.slice (some ⟨g, 0, none⟩) (q + 1) cp, .int .i64 0]) ∧ w'.ownsRow w.heap.size 35 3 (.slice (some ⟨g, 0, none⟩) (q + 1) cp) (q + 1) (rgCells (piece ⟨lo, hi, op⟩ (bdr n (q + 1) S) q) (q + 1)) ∧ g < w'.heap.size ∧ Below w.heap.size w w' := by
  have HS := aside h
  clear h
  have HM := aside (show Rg.may ⟨lo, hi, op⟩ = true from by unfold Rg.may; rw [hch]; rfl)
  have HR := aside (fun h0 : 0 < q => pieces_rise (r := ⟨lo, hi, op⟩) (keysOk hke) (fun i hi => allK_at hal hi) hqn h0)
  have HC := aside (rgCells_congr (f := piece ⟨lo, hi, op⟩ (bdr n (0 + 1) S) 0) (g := fun _ => ⟨lo, hi, op⟩) (n := 1) (fun i hi' => by have e : i = 0 := (by omega); rw [e]; rfl))
  go_enter Tryd.func41, Tryd.ntmps41
  go_wp2_with fail
  refine (check_at hch _).mono ?_
  rintro e w1 ⟨rfl, b1⟩
  have X1 := aside b1
  clear b1
  obtain ⟨hbx, hnx⟩ := box_after X1.out
  obtain ⟨⟨q0, q1, q2⟩, -⟩ := box_out hbx
  have B1 := aside hnx
  clear hbx hnx
  go_wp2_with fail
  refine (checkKeys_any a n cap S _ (HS.out.up B1.out B1.out.size)).mono ?_
  rw [hke]
  rintro e w2 ⟨rfl, b2⟩
  have X2 := aside (X1.out.trans (b2.mono X1.out.size))
  clear b2 q0 q1 q2
  obtain ⟨hbx, hnx⟩ := box_after X2.out
  obtain ⟨⟨q0, q1, q2⟩, -⟩ := box_out hbx
  have B2 := aside hnx
  clear hbx hnx
  go_wp2_with fail
  refine (allHeld_any lo hi op a n cap S _ (HS.out.up B2.out B2.out.size)).mono ?_
  rw [hal]
  rintro e w3 ⟨rfl, b3⟩
  have X3 := aside (X2.out.trans (b3.mono X2.out.size))
  clear b3 q0 q1 q2
  obtain ⟨hbx, hnx⟩ := box_after X3.out
  obtain ⟨⟨q0, q1, q2⟩, -⟩ := box_out hbx
  have B3 := aside hnx
  clear hbx hnx
  go_wp2_with fail
  refine (bordersOf_any a n cap q S _ (HS.out.up B3.out B3.out.size) hqn hn).mono ?_
  rintro e w4 ⟨g4, c4, rfl, o4, l4, b4⟩
  have O4 := aside o4
  have X4 := aside (X3.out.trans (b4.mono X3.out.size))
  clear b4 o4 l4 q0 q1 q2
  obtain ⟨hbx, hnx⟩ := box_after X4.out
  obtain ⟨⟨q0, q1, q2⟩, -⟩ := box_out hbx
  have B4 := aside hnx
  clear hbx hnx
  rcases Nat.eq_zero_or_pos q with h0 | h0
  · subst h0
    go_wp2_with fail
    refine (split_none lo hi op (some ⟨g4, 0, none⟩) c4 _ HM.out).mono ?_
    rintro e w5 ⟨g, cp, rfl, o5, l5, b5⟩
    have O5 := aside o5
    have B5 := aside (bthen B4.out b5)
    clear o5 b5 q0 q1 q2
    go_wp2
    exact bodyPost_ret (v := .tuple #[.slice (some ⟨g, 0, none⟩) 1 cp, .int .i64 0]) (by simp [results, Tryd.results41, go_sem]) rfl ⟨g, cp, rfl, by rw [HC.out]; exact row_base O5.out B4.out.size, l5, B5.out⟩
  · go_wp2_with fail
    refine (split_yes lo hi op (some ⟨g4, 0, none⟩) q c4 (bdr n (q + 1) S) _ HM.out (strs_own O4.out (by omega)) (by omega) h0 (HR.out h0)).mono ?_
    rintro e w5 ⟨g, cp, rfl, o5, l5, b5⟩
    have O5 := aside o5
    have B5 := aside (bthen B4.out b5)
    clear o5 b5 q0 q1 q2
    go_wp2
    exact bodyPost_ret (v := .tuple #[.slice (some ⟨g, 0, none⟩) (q + 1) cp, .int .i64 0]) (by simp [results, Tryd.results41, go_sem]) rfl ⟨g, cp, rfl, row_base O5.out B4.out.size, l5, B5.out⟩

end Go.Proofs.YtlgcdcjhflihiaaDoor
