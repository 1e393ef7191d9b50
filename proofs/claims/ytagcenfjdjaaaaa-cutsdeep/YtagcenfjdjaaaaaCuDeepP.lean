/-
  Plain mathematics: a range that is split at its keys again and again.
-/
import Derived.Test.YtagcenfjdjaaaaaCuCut
namespace Go.Proofs.Ytagcenfjdjaaaaa
open Go.RowKit
set_option linter.unusedVariables false

/-- Ranges one behind the other from where r begins, range i with the keys from c i on below c (i + 1), no more than L of them. -/
structure Pre (U : Nat → Rg) (m : Nat) (c : Nat → Nat) (S : Nat → ByteArray) (n : Nat) (r : Rg) (L : Nat) : Prop where
  c0 : c 0 = 0
  up : ∀ i, i < m → c i < c (i + 1)
  le : ∀ i, i < m → c (i + 1) ≤ c i + L
  cn : c m ≤ n
  has : ∀ i j, i < m → j < n → (U i).has (S j) = (decide (c i ≤ j) && decide (j < c (i + 1)))
  cl : ∀ i, i + 1 < m → (U i).op = false
  jn : ∀ i, i + 1 < m → (U (i + 1)).lo = (U i).hi
  lo : 0 < m → (U 0).lo = r.lo

theorem Pre.grow {U : Nat → Rg} {m : Nat} {c : Nat → Nat} {S : Nat → ByteArray} {n : Nat} {r : Rg} {L : Nat} (h : Pre U m c S n r L) : ∀ i d, i + d ≤ m → c i + d ≤ c (i + d)
  | i, 0, _ => Nat.le_refl _
  | i, d + 1, hd => by
    have h1 := h.grow i d (by omega)
    have h2 := h.up (i + d) (by omega)
    show c i + (d + 1) ≤ c (i + d + 1)
    omega

theorem Pre.top {U : Nat → Rg} {m : Nat} {c : Nat → Nat} {S : Nat → ByteArray} {n : Nat} {r : Rg} {L : Nat} (h : Pre U m c S n r L) {i : Nat} (hi : i ≤ m) : c i ≤ n := by
  have := h.grow i (m - i) (by omega)
  rw [show i + (m - i) = m from by omega] at this
  have := h.cn
  omega

theorem Pre.len {U : Nat → Rg} {m : Nat} {c : Nat → Nat} {S : Nat → ByteArray} {n : Nat} {r : Rg} {L : Nat} (h : Pre U m c S n r L) : m ≤ n := by
  have h1 := h.grow 0 m (by omega)
  rw [Nat.zero_add] at h1
  have := h.cn
  omega

/-- All of r. -/
structure Full (U : Nat → Rg) (m : Nat) (c : Nat → Nat) (S : Nat → ByteArray) (n : Nat) (r : Rg) (L : Nat) : Prop where
  pre : Pre U m c S n r L
  cm : c m = n
  pos : 0 < m
  en : endAl (U (m - 1)) r = true

/-- The first i ranges of T, split. -/
structure Half (U : Nat → Rg) (m' : Nat) (c' : Nat → Nat) (T : Nat → Rg) (i : Nat) (c : Nat → Nat) (S : Nat → ByteArray) (n : Nat) (r : Rg) (L : Nat) : Prop where
  pre : Pre U m' c' S n r L
  at_ : c' m' = c i
  zero : i = 0 → m' = 0
  last : 0 < i → 0 < m' ∧ (U (m' - 1)).hi = (T (i - 1)).hi ∧ (U (m' - 1)).op = (T (i - 1)).op

/-- One range, split. -/
structure Blk (V : Nat → Rg) (s : Nat) (v : Nat → Nat) (x : Rg) (a e : Nat) (S : Nat → ByteArray) (n L : Nat) : Prop where
  pos : 0 < s
  v0 : v 0 = a
  ve : v s = e
  up : ∀ j, j < s → v j < v (j + 1)
  le : ∀ j, j < s → v (j + 1) ≤ v j + L
  has : ∀ j k, j < s → k < n → (V j).has (S k) = (decide (v j ≤ k) && decide (k < v (j + 1)))
  cl : ∀ j, j + 1 < s → (V j).op = false
  jn : ∀ j, j + 1 < s → (V (j + 1)).lo = (V j).hi
  lo : (V 0).lo = x.lo
  hi : (V (s - 1)).hi = x.hi
  op : (V (s - 1)).op = x.op

def appR (U : Nat → Rg) (m : Nat) (V : Nat → Rg) : Nat → Rg := fun j => if j < m then U j else V (j - m)
def appC (c : Nat → Nat) (m : Nat) (v : Nat → Nat) : Nat → Nat := fun j => if j ≤ m then c j else v (j - m)

theorem appC_low {c v : Nat → Nat} {m j : Nat} (h : j ≤ m) : appC c m v j = c j := if_pos h
theorem appC_high {c v : Nat → Nat} {m j : Nat} (e : c m = v 0) (h : m ≤ j) : appC c m v j = v (j - m) := by
  unfold appC
  by_cases q : j ≤ m
  · have : j = m := by omega
    subst this
    rw [if_pos (Nat.le_refl _), Nat.sub_self]; exact e
  · rw [if_neg q]
theorem appR_low {U V : Nat → Rg} {m j : Nat} (h : j < m) : appR U m V j = U j := if_pos h
theorem appR_high {U V : Nat → Rg} {m j : Nat} (h : m ≤ j) : appR U m V j = V (j - m) := if_neg (by omega)

theorem Half.app {T U V : Nat → Rg} {m m' s i : Nat} {c c' v : Nat → Nat} {S : Nat → ByteArray} {n : Nat} {r : Rg} {L L' : Nat} (hT : Pre T m c S n r L) (hi : i < m) (h : Half U m' c' T i c S n r L') (b : Blk V s v (T i) (c i) (c (i + 1)) S n L') :
    Half (appR U m' V) (m' + s) (appC c' m' v) T (i + 1) c S n r L' := by
  have e0 : c' m' = v 0 := by rw [h.at_, b.v0]
  have i0 : 0 < m' → 0 < i := by
    intro hm
    rcases Nat.eq_zero_or_pos i with q | q
    · have := h.zero q; omega
    · exact q
  have hend : (appR U m' V (m' + s - 1)) = V (s - 1) := by
    have := b.pos
    rw [appR_high (by omega)]
    congr 1
    omega
  refine ⟨⟨?_, ?_, ?_, ?_, ?_, ?_, ?_, ?_⟩, ?_, fun e => by omega, fun _ => ⟨by have := b.pos; omega, ?_, ?_⟩⟩
  · rw [appC_low (Nat.zero_le _)]; exact h.pre.c0
  · intro j hj
    by_cases q : j < m'
    · rw [appC_low (by omega), appC_low (by omega)]; exact h.pre.up j q
    · rw [appC_high e0 (by omega), appC_high e0 (by omega), show j + 1 - m' = j - m' + 1 from by omega]
      exact b.up _ (by omega)
  · intro j hj
    by_cases q : j < m'
    · rw [appC_low (by omega), appC_low (by omega)]; exact h.pre.le j q
    · rw [appC_high e0 (by omega), appC_high e0 (by omega), show j + 1 - m' = j - m' + 1 from by omega]
      exact b.le _ (by omega)
  · rw [appC_high e0 (by omega), show m' + s - m' = s from by omega, b.ve]
    exact hT.top (by omega)
  · intro j k hj hk
    by_cases q : j < m'
    · rw [appR_low q, appC_low (by omega), appC_low (by omega)]; exact h.pre.has j k q hk
    · rw [appR_high (by omega), appC_high e0 (by omega), appC_high e0 (by omega), show j + 1 - m' = j - m' + 1 from by omega]
      exact b.has _ k (by omega) hk
  · intro j hj
    by_cases q : j + 1 < m'
    · rw [appR_low (by omega)]; exact h.pre.cl j q
    · by_cases q2 : j < m'
      · have hm : j = m' - 1 := by omega
        have hi0 := i0 (by omega)
        rw [appR_low q2, hm, (h.last hi0).2.2]
        exact hT.cl (i - 1) (by omega)
      · rw [appR_high (by omega)]; exact b.cl _ (by omega)
  · intro j hj
    by_cases q : j + 1 < m'
    · rw [appR_low q, appR_low (by omega)]; exact h.pre.jn j q
    · by_cases q2 : j < m'
      · have hm : j = m' - 1 := by omega
        have hi0 := i0 (by omega)
        rw [appR_low q2, appR_high (by omega), show j + 1 - m' = 0 from by omega, b.lo, hm, (h.last hi0).2.1]
        have := hT.jn (i - 1) (by omega)
        rw [show i - 1 + 1 = i from by omega] at this
        exact this
      · rw [appR_high (by omega), appR_high (by omega), show j + 1 - m' = j - m' + 1 from by omega]
        exact b.jn _ (by omega)
  · intro _
    by_cases q : 0 < m'
    · rw [appR_low q]; exact h.pre.lo q
    · have hi0 : i = 0 := by
        rcases Nat.eq_zero_or_pos i with q2 | q2
        · exact q2
        · have := (h.last q2).1; omega
      rw [appR_high (by omega), show 0 - m' = 0 from by omega, b.lo, hi0]
      exact hT.lo (by omega)
  · rw [appC_high e0 (by omega), show m' + s - m' = s from by omega, b.ve]
  · rw [hend, b.hi, Nat.add_sub_cancel]
  · rw [hend, b.op, Nat.add_sub_cancel]

theorem endAl_same {x y r : Rg} (h1 : x.hi = y.hi) (h2 : x.op = y.op) : endAl x r = endAl y r := by
  unfold endAl; rw [h1, h2]

theorem Half.full {T U : Nat → Rg} {m m' : Nat} {c c' : Nat → Nat} {S : Nat → ByteArray} {n : Nat} {r : Rg} {L L' : Nat} (hT : Full T m c S n r L) (h : Half U m' c' T m c S n r L') : Full U m' c' S n r L' := by
  have hl := h.last hT.pos
  exact ⟨h.pre, by rw [h.at_, hT.cm], hl.1, by rw [endAl_same hl.2.1 hl.2.2]; exact hT.en⟩

theorem half_nil (U T : Nat → Rg) (c : Nat → Nat) (S : Nat → ByteArray) (n : Nat) (r : Rg) (L : Nat) (h0 : c 0 = 0) : Half U 0 (fun _ => 0) T 0 c S n r L :=
  ⟨⟨rfl, fun i hi => by omega, fun i hi => by omega, Nat.zero_le _, fun i j hi => by omega, fun i hi => by omega, fun i hi => by omega, fun hi => by omega⟩, h0.symm, fun _ => rfl, fun hi => by omega⟩

theorem blk_one {T : Nat → Rg} {m i : Nat} {c : Nat → Nat} {S : Nat → ByteArray} {n : Nat} {r : Rg} {L L' : Nat} (hT : Pre T m c S n r L) (hi : i < m) (h1 : c (i + 1) ≤ c i + L') :
    Blk (fun _ => T i) 1 (fun j => if j = 0 then c i else c (i + 1)) (T i) (c i) (c (i + 1)) S n L' := by
  have e : ∀ j, j < 1 → j = 0 := fun j hj => by omega
  refine ⟨by omega, rfl, rfl, fun j hj => ?_, fun j hj => ?_, fun j k hj hk => ?_, fun j hj => by omega, fun j hj => by omega, rfl, rfl, rfl⟩
  · rw [e j hj]; exact hT.up i hi
  · rw [e j hj]; exact h1
  · rw [e j hj]; exact hT.has i k hi hk

theorem cnt_zero {T : Nat → Rg} {k : ByteArray} : ∀ {n j : Nat}, cnt T k n = 0 → j < n → (T j).has k = false
  | n + 1, j, h, hj => by
    simp only [cnt] at h
    by_cases e : j = n
    · subst e
      cases q : (T j).has k
      · rfl
      · rw [q] at h; simp at h
    · exact cnt_zero (n := n) (by omega) (by omega)

/-- What a range has not, no piece of it has. -/
theorem piece_sub {r : Rg} {B : Nat → ByteArray} {q j : Nat} {k : ByteArray} (hm : r.may = true) (hr : rises (piece r B q) (q + 1) = true) (hj : j < q + 1) (h : r.has k = false) : (piece r B q j).has k = false := by
  have := cnt_chain (chain_of (piece_tiles hr)) hm k
  rw [h] at this
  exact cnt_zero this hj

theorem cdiv_mono {a b d : Nat} (h : a ≤ b) : cdiv a d ≤ cdiv b d := by
  unfold cdiv
  exact Nat.div_le_div_right (by omega)

theorem part_next' {k b q : Nat} (hk : 0 < k) (hb : 0 < b) (hq : q = min k b) (j : Nat) : stt k q (j + 1) ≤ stt k q j + cdiv k b := by
  rcases Nat.lt_or_ge k b with h | h
  · have e : q = k := by omega
    subst e
    have h1 := stt_cdiv q (p := q) hk j
    have h2 : cdiv q q = 1 := by rw [cdiv_big hk (Nat.le_refl _), if_neg (by omega)]
    have h3 : 1 ≤ cdiv q b := by rw [cdiv_pos hk hb]; exact Nat.le_add_left 1 _
    omega
  · have e : q = b := by omega
    subst e
    exact stt_cdiv k hb j

/-- The keys of one range. -/
def shf (S : Nat → ByteArray) (a : Nat) : Nat → ByteArray := fun j => S (a + j)

theorem shf_ok {S : Nat → ByteArray} {n a k : Nat} (h : KeysOk S n) (hk : a + k ≤ n) : KeysOk (shf S a) k :=
  ⟨fun i hi => h.sz _ (by omega), fun i j hij hj => h.up _ _ (by omega) (by omega)⟩

theorem shf_has {T : Nat → Rg} {m i : Nat} {c : Nat → Nat} {S : Nat → ByteArray} {n : Nat} {r : Rg} {L : Nat} (hT : Pre T m c S n r L) (hi : i < m) : ∀ j, j < c (i + 1) - c i → (T i).has (shf S (c i) j) = true := by
  intro j hj
  have := hT.top (i := i + 1) (by omega)
  show (T i).has (S (c i + j)) = true
  rw [hT.has i (c i + j) hi (by omega), decide_eq_true (by omega), decide_eq_true (by omega)]
  rfl

theorem blk_split {T : Nat → Rg} {m i q b : Nat} {c : Nat → Nat} {S : Nat → ByteArray} {n : Nat} {r : Rg} {L L' : Nat} (hK : KeysOk S n) (hT : Pre T m c S n r L) (hi : i < m) (hb : 0 < b) (hq : q + 1 = min (c (i + 1) - c i) b) (hL : cdiv L b ≤ L') :
    Blk (piece (T i) (bdr (c (i + 1) - c i) (q + 1) (shf S (c i))) q) (q + 1) (fun j => c i + stt (c (i + 1) - c i) (q + 1) j) (T i) (c i) (c (i + 1)) S n L' := by
  have ht := hT.top (i := i + 1) (by omega)
  have hu := hT.up i hi
  have hk : KeysOk (shf S (c i)) (c (i + 1) - c i) := shf_ok hK (by omega)
  have ha := shf_has hT hi
  have hqn : q + 1 ≤ c (i + 1) - c i := by omega
  have hmay := (has_parts (ha 0 (by omega))).1
  refine ⟨by omega, by rw [stt_zero]; omega, by rw [stt_end _ (by omega)]; omega, fun j hj => ?_, fun j hj => ?_, fun j k hj hkn => ?_, fun j hj => ?_, fun j hj => ?_, ?_, ?_, ?_⟩
  · have := stt_up (n := c (i + 1) - c i) (p := q + 1) (by omega) hqn (i := j) (j := j + 1) (by omega)
    omega
  · have h1 := part_next' (k := c (i + 1) - c i) (b := b) (q := q + 1) (by omega) hb hq j
    have h2 := cdiv_mono (d := b) (show c (i + 1) - c i ≤ L from by have := hT.le i hi; omega)
    show c i + _ ≤ c i + _ + L'
    omega
  · by_cases e : c i ≤ k ∧ k < c (i + 1)
    · obtain ⟨d, rfl⟩ : ∃ d, k = c i + d := ⟨k - c i, by omega⟩
      have := piece_has hk ha hqn (i := d) (j := j) (by omega) hj
      rw [show shf S (c i) d = S (c i + d) from rfl] at this
      rw [this]
      congr 1
      · by_cases e1 : stt (c (i + 1) - c i) (q + 1) j ≤ d
        · rw [decide_eq_true e1, decide_eq_true (by omega)]
        · rw [decide_eq_false e1, decide_eq_false (by omega)]
      · by_cases e1 : d < stt (c (i + 1) - c i) (q + 1) (j + 1)
        · rw [decide_eq_true e1, decide_eq_true (by omega)]
        · rw [decide_eq_false e1, decide_eq_false (by omega)]
    · have hno : (T i).has (S k) = false := by
        rw [hT.has i k hi hkn]
        by_cases e1 : c i ≤ k
        · rw [decide_eq_false (show ¬ k < c (i + 1) from by omega), Bool.and_false]
        · rw [decide_eq_false e1]; rfl
      rw [piece_sub hmay (pieces_up hk ha hqn) hj hno]
      have s1 := stt_le (n := c (i + 1) - c i) (p := q + 1) (j := j + 1) (by omega) (by omega)
      by_cases e1 : c i + stt (c (i + 1) - c i) (q + 1) j ≤ k
      · rw [decide_eq_false (show ¬ k < c i + stt (c (i + 1) - c i) (q + 1) (j + 1) from by omega), Bool.and_false]
      · rw [decide_eq_false e1]; rfl
  · unfold piece; rw [if_pos (by omega)]
  · unfold piece; rw [if_pos (show j < q from by omega)]; split <;> rfl
  · unfold piece; split <;> rfl
  · rw [Nat.add_sub_cancel]; unfold piece; rw [if_neg (Nat.lt_irrefl q)]
  · rw [Nat.add_sub_cancel]; unfold piece; rw [if_neg (Nat.lt_irrefl q)]

/-- Ranges that cover all of r tile it. -/
theorem Full.tiles {U : Nat → Rg} {m : Nat} {c : Nat → Nat} {S : Nat → ByteArray} {n : Nat} {r : Rg} {L : Nat} (h : Full U m c S n r L) : tiles U m r = true := by
  have ne : ∀ i, i < m → (U i).emp = false := by
    intro i hi
    have h1 := h.pre.up i hi
    have h2 := h.pre.top (i := i + 1) (by omega)
    refine has_not_emp (k := S (c i)) ?_
    rw [h.pre.has i (c i) hi (by omega), decide_eq_true (Nat.le_refl _), decide_eq_true h1]
    rfl
  unfold Go.Proofs.Ytagcenfjdjaaaaa.tiles rises
  rw [decide_eq_true h.pos, anyE_false ne, h.en, h.pre.lo h.pos]
  simp only [Bool.not_false, Bool.true_and, Bool.and_true, beq_self_eq_true, Bool.and_eq_true, List.all_eq_true, upto, List.mem_map, List.mem_range]
  refine ⟨?_, ?_⟩
  · rintro x ⟨j, hj, rfl⟩
    simp [okP, h.pre.cl j (by omega), h.pre.jn j (by omega), L_irrefl]
  · rintro x ⟨j, hj, rfl⟩
    simp [joinP, h.pre.jn j (by omega)]

theorem full_start {S : Nat → ByteArray} {n : Nat} {r : Rg} (hn : 0 < n) (ha : ∀ i, i < n → r.has (S i) = true) : Full (fun _ => r) 1 (fun j => if j = 0 then 0 else n) S n r n := by
  have e : ∀ j, j < 1 → j = 0 := fun j hj => by omega
  refine ⟨⟨rfl, fun i hi => ?_, fun i hi => ?_, Nat.le_refl _, fun i j hi hj => ?_, fun i hi => by omega, fun i hi => by omega, fun _ => rfl⟩, rfl, by omega, ?_⟩
  · rw [e i hi]; exact hn
  · rw [e i hi]; show n ≤ 0 + n; omega
  · rw [e i hi, ha j hj]
    show true = (decide (0 ≤ j) && decide (j < n))
    rw [decide_eq_true (Nat.zero_le j), decide_eq_true hj]; rfl
  · cases hq : r.op <;> simp [endAl, hq]

/-- How many of the first j keys range i has. -/
def cj (c : Nat → Nat) (i j : Nat) : Nat := min j (c (i + 1)) - min j (c i)

theorem cj_zero (c : Nat → Nat) (i : Nat) : cj c i 0 = 0 := by unfold cj; omega
theorem cj_in {c : Nat → Nat} {i j : Nat} (h1 : c i ≤ j) (h2 : j < c (i + 1)) : cj c i (j + 1) = cj c i j + 1 ∧ c i + cj c i j = j := by unfold cj; omega
theorem cj_out {c : Nat → Nat} {i j : Nat} (hu : c i < c (i + 1)) (h : ¬ (c i ≤ j ∧ j < c (i + 1))) : cj c i (j + 1) = cj c i j := by unfold cj; omega
theorem cj_all {c : Nat → Nat} {i n : Nat} (hu : c i < c (i + 1)) (h : c (i + 1) ≤ n) : cj c i n = c (i + 1) - c i := by unfold cj; omega
theorem cj_le {c : Nat → Nat} {i j : Nat} (hu : c i < c (i + 1)) : cj c i j ≤ c (i + 1) - c i := by unfold cj; omega

end Go.Proofs.Ytagcenfjdjaaaaa
