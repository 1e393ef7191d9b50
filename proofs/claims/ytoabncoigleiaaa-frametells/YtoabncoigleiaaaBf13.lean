/-
  A frame lent: its lists with two marks behind each.
-/
import Derived.Test.YtoabncoigleiaaaBf10
import Derived.Test.YtoabncoigleiaaaBf12
import Derived.Deep.CutBlock
import Derived.Deep.DeepCutAuto
namespace Go.Proofs.Ytoabncoigleiaaa
open Go.RowKit
set_option linter.unusedVariables false
def mkE : En := ⟨⟨#[109, 97, 114, 107]⟩, 0, 0, ⟨#[]⟩, false⟩
def bhE : En := ⟨⟨#[98, 101, 104, 105, 110, 100]⟩, 0, 0, ⟨#[]⟩, false⟩
/-- Entries with the two marks behind them. -/
def extT (T : Nat → En) (n : Nat) : Nat → En := fun k => if k < n then T k else if k = n then mkE else bhE
theorem extT_lt {T : Nat → En} {n k : Nat} (h : k < n) : extT T n k = T k := if_pos h
theorem firstEF_ext (T : Nat → En) (n : Nat) : firstEF (extT T n) (n + 2) = firstEF T n ++ [mkE, bhE] := by
  unfold firstEF
  rw [List.range_succ, List.range_succ, List.map_append, List.map_append, List.append_assoc]
  congr 1
  · exact List.map_congr_left (fun k hk => extT_lt (List.mem_range.1 hk))
  · have h1 : ¬ n + 1 < n := by omega
    simp [extT, h1]
theorem extT_keys {T : Nat → En} {n : Nat} (h : ∀ k, k < n → (T k).k.size ≤ 140737488351232) : ∀ k, k < n + 2 → (extT T n k).k.size ≤ 140737488351232 := by
  intro k hk
  unfold extT
  split
  · rename_i h1; exact h k h1
  · split
    · show ByteArray.size ⟨#[109, 97, 114, 107]⟩ ≤ _; decide
    · show ByteArray.size ⟨#[98, 101, 104, 105, 110, 100]⟩ ≤ _; decide
def pmK (k : Int) : Pm := ⟨k, ⟨#[]⟩, ⟨#[]⟩, false, 0, 0, 0, none, 0, 0, fun _ => mkE⟩
/-- A part whose entries have the marks behind them. -/
def LP (p q : Pm) : Prop := q.kind = p.kind ∧ q.lo = p.lo ∧ q.hi = p.hi ∧ q.op = p.op ∧ q.cnt = p.cnt ∧ q.s0 = p.s0 ∧ q.s1 = p.s1 ∧ q.el = p.el + 2 ∧ q.T = extT p.T p.el
theorem OwnF.turn {w w2 : World} {B g n cp j ge el ce : Nat} {P : Nat → Pm} {T : Nat → En} (h : OwnF w B g n cp P) (hrow : w2.ownsRow B 51 8 (.slice (some ⟨g, 0, none⟩) n cp) n (ptCells (firstP P n)))
    (hent : ∀ i, i < n → i ≠ j → ∃ q, (P i).ea = some ⟨q, 0, none⟩ ∧ w2.ownsRow B 55 5 (.slice (some ⟨q, 0, none⟩) (P i).el (P i).ec) (P i).el (entCells (firstEF (P i).T (P i).el))) (hj : j < n)
    (hown : w2.ownsRow B 55 5 (.slice (some ⟨ge, 0, none⟩) el ce) el (entCells (firstEF T el))) (hap : ∀ i, i < n → i ≠ j → (P i).ea ≠ some ⟨ge, 0, none⟩) (hk : ∀ k, k < el → (T k).k.size ≤ 140737488351232) :
    OwnF (w2.setCell ⟨g, j * 8 + 7, none⟩ (.slice (some ⟨ge, 0, none⟩) el ce)) B g n cp (putP P j ((P j).with (some ⟨ge, 0, none⟩) el ce T)) := by
  refine ⟨?_, fun i hi => ?_, fun i k hi hk' hne => ?_, fun i hi => ?_⟩
  · rw [firstP_put P n j _ hj, ← ptCells_set (firstP P n) j (P j) ((P j).with (some ⟨ge, 0, none⟩) el ce T) (by unfold firstP; rw [List.getElem?_map, List.getElem?_range hj]; rfl) (by rfl)]
    exact (hrow.stored (j * 8 + 7) _).1
  · by_cases e : i = j
    · subst e
      rw [putP_at]
      exact ⟨ge, rfl, own_apartF hown (fun q => by subst q; exact absurd (own_type hown hrow) (by decide)) _⟩
    · rw [putP_ne e]
      obtain ⟨q, k1, k2⟩ := hent i hi e
      exact ⟨q, k1, own_apartF k2 (fun u => by subst u; exact absurd (own_type k2 hrow) (by decide)) _⟩
  · by_cases e : i = j
    · subst e
      rw [putP_at, putP_ne (fun u => hne u.symm)]
      exact fun u => hap k hk' (fun v => hne v.symm) u.symm
    · rw [putP_ne e]
      by_cases e2 : k = j
      · subst e2
        rw [putP_at]
        exact hap i hi e
      · rw [putP_ne e2]
        exact h.apart i k hi hk' hne
  · by_cases e : i = j
    · subst e
      rw [putP_at]; exact hk
    · rw [putP_ne e]; exact h.keys i hi
/-- Parts lent: rows of their own with the marks behind them; d: how many of the marks a part's entries show. -/
structure LentF (w : World) (B g n cp : Nat) (P Q : Nat → Pm) (d : Nat → Nat) : Prop where
  row : w.ownsRow B 51 8 (.slice (some ⟨g, 0, none⟩) (n + 2) cp) (n + 2) (ptCells (firstP Q n ++ [pmK 77, pmK 78]))
  ent : ∀ i, i < n → ∃ ge, (Q i).ea = some ⟨ge, 0, none⟩ ∧ w.ownsRow B 55 5 (.slice (some ⟨ge, 0, none⟩) ((P i).el + 2) (Q i).ec) ((P i).el + 2) (entCells (firstEF (extT (P i).T (P i).el) ((P i).el + 2)))
  apart : ∀ i j, i < n → j < n → i ≠ j → (Q i).ea ≠ (Q j).ea
  keys : ∀ i, i < n → ∀ k, k < (P i).el → ((P i).T k).k.size ≤ 140737488351232
  vals : ∀ i, i < n → (Q i).kind = (P i).kind ∧ (Q i).lo = (P i).lo ∧ (Q i).hi = (P i).hi ∧ (Q i).op = (P i).op ∧ (Q i).cnt = (P i).cnt ∧ (Q i).s0 = (P i).s0 ∧ (Q i).s1 = (P i).s1 ∧ (Q i).el = (P i).el + d i
theorem lent_ents {w : World} {B n b t : Nat} {P Q : Nat → Pm} {cs : Array Value} (h : ∀ i, i < n → ∃ ge, (Q i).ea = some ⟨ge, 0, none⟩ ∧ w.ownsRow B 55 5 (.slice (some ⟨ge, 0, none⟩) ((P i).el + 2) (Q i).ec) ((P i).el + 2) (entCells (firstEF (extT (P i).T (P i).el) ((P i).el + 2)))) (hb : B ≤ b) (hk : w.heap[b]? = some (.cells cs t (0, 0))) (ht : 55 ≠ t) (j : Nat) (u : Value) :
    ∀ i, i < n → ∃ ge, (Q i).ea = some ⟨ge, 0, none⟩ ∧ (w.setCell ⟨b, j, none⟩ u).ownsRow B 55 5 (.slice (some ⟨ge, 0, none⟩) ((P i).el + 2) (Q i).ec) ((P i).el + 2) (entCells (firstEF (extT (P i).T (P i).el) ((P i).el + 2))) := by
  intro i hi
  obtain ⟨ge, h1, h2⟩ := h i hi
  exact ⟨ge, h1, own_apartF h2 (fun e => own_blk h2 hk ht e.symm) u⟩
/-- What lent tells. -/
def LentR (w : World) (len : Nat) (P : Nat → Pm) (hd : Option Addr → Nat → Nat → Value) (e : Ending) (w' : World) : Prop := ∃ g cp P' Q, e = .returned (hd (some ⟨g, 0, none⟩) (len + 2) cp) ∧ LentF w' w.heap.size g len cp P' Q (fun _ => 2) ∧ (∀ i, i < len → SamePm (P i) (P' i)) ∧ Below w.heap.size w w'
set_option maxHeartbeats 6400000 in
set_option maxRecDepth 100000 in
theorem lent_any (fr tz o l n tn : Int) (a : Option Addr) (len cap : Nat) (P : Nat → Pm) (w : World) (hp : PartsIn w a len cap P) (hz : len ≤ 536870912) (hOk : ∀ i, i < len → ((P i).ea = none ∧ (P i).el = 0 ∧ (P i).ec = 0 ∨ ∃ y, (P i).ea = some y) ∧ (P i).el ≤ 536870912) :
    Calls Try.prog 9 #[.agg #[.int .i64 fr, .int .i64 tz, .int .i64 o, .int .i64 l, .int .i64 n, .int .i64 tn, .slice a len cap]] w (LentR w len P (fun x y z => .agg #[.int .i64 fr, .int .i64 tz, .int .i64 o, .int .i64 l, .int .i64 n, .int .i64 tn, .slice x y z])) := by
  have HOK := aside hOk
  have HZ := aside hz
  have hmx : (len : Int) ≤ 9223372036854775807 := by omega
  have bn := bthen (bnew w (.cells #[.int .i64 fr, .int .i64 tz, .int .i64 o, .int .i64 l, .int .i64 n, .int .i64 tn, .slice a len cap] 26)) (bnew _ (.cells #[.int .i64 0, .int .i64 0, .int .i64 0, .int .i64 0, .int .i64 0, .int .i64 0, .slice none 0 0] 26))
  have K2 := aside (heap_alloc_new (w.alloc (.cells #[.int .i64 fr, .int .i64 tz, .int .i64 o, .int .i64 l, .int .i64 n, .int .i64 tn, .slice a len cap] 26)) (.cells #[.int .i64 0, .int .i64 0, .int .i64 0, .int .i64 0, .int .i64 0, .int .i64 0, .slice none 0 0] 26))
  have K1 := aside (blk_on (heap_alloc_new w (.cells #[.int .i64 fr, .int .i64 tz, .int .i64 o, .int .i64 l, .int .i64 n, .int .i64 tn, .slice a len cap] 26)) (bnew _ (.cells #[.int .i64 0, .int .i64 0, .int .i64 0, .int .i64 0, .int .i64 0, .int .i64 0, .slice none 0 0] 26)))
  simp only [World.size_alloc] at K2
  have HP := aside (hp.keep bn)
  have BB := aside bn
  clear hp hOk hz bn
  go_enter Try.func9, Try.ntmps9
  go_upto_region 1 with fail
  obtain ⟨i1, hi1⟩ : ∃ i1, w.heap.size = i1 := ⟨_, rfl⟩
  obtain ⟨i2, hi2⟩ : ∃ i2, i1 + 1 = i2 := ⟨_, rfl⟩
  have HI := aside (show w.heap.size ≤ i2 by omega)
  rw [hi1, hi2] at K2
  rw [hi1] at K1
  rw [hi1, hi2]
  clear hi1 hi2
  generalize (w.alloc (.cells #[.int .i64 fr, .int .i64 tz, .int .i64 o, .int .i64 l, .int .i64 n, .int .i64 tn, .slice a len cap] 26)).alloc (.cells #[.int .i64 0, .int .i64 0, .int .i64 0, .int .i64 0, .int .i64 0, .int .i64 0, .slice none 0 0] 26) = X0 at K1 K2 HP BB ⊢
  obtain ⟨f0, f1, f2, f3, f4, f5, f6⟩ := sep7 K1.out
  go_wp2_with fail
  refine (cloneR_any fr tz o l n tn a len cap P X0 HP.out (by have := HZ.out; omega) (fun i hi => ⟨(HOK.out i hi).1, by have := (HOK.out i hi).2; omega⟩)).mono ?_
  rintro r X1 ⟨g, cp, P', rfl, OW0, HS0, b1⟩
  have OW := aside (OW0.low BB.out.size)
  have HKY := aside OW0.keys
  have HS := aside HS0
  replace K2 := aside (blk_on K2.out b1)
  replace BB := aside (bthen BB.out b1)
  clear OW0 HS0 b1 f0 f1 f2 f3 f4 f5 f6 K1 HP
  have HI2X := aside (show i2 < X1.heap.size from (Array.getElem?_eq_some_iff.1 K2.out).1)
  have bn := bnew X1 (.cells #[.int .i64 fr, .int .i64 tz, .int .i64 o, .int .i64 l, .int .i64 n, .int .i64 tn, .slice (some ⟨g, 0, none⟩) len cp] 26)
  have K3 := aside (heap_alloc_new X1 (.cells #[.int .i64 fr, .int .i64 tz, .int .i64 o, .int .i64 l, .int .i64 n, .int .i64 tn, .slice (some ⟨g, 0, none⟩) len cp] 26))
  replace K2 := aside (blk_on K2.out bn)
  replace BB := aside (bthen BB.out bn)
  replace OW := aside (OW.out.on bn)
  clear bn
  go_upto_region 2 with fail
  obtain ⟨i3, hi3⟩ : ∃ i3, X1.heap.size = i3 := ⟨_, rfl⟩
  have HI3 := aside (show w.heap.size ≤ i3 from by have := BB.out.size; rw [World.size_alloc] at this; have h2 := (OW.out.lts).1; rw [World.size_alloc] at h2; omega)
  have HI23 := aside (show i3 ≠ i2 from by have := (Array.getElem?_eq_some_iff.1 K2.out).1; rw [World.size_alloc] at this; intro e; have h3 := HI2X.out; omega)
  rw [hi3] at K3 ⊢
  clear hi3
  generalize X1.alloc (.cells #[.int .i64 fr, .int .i64 tz, .int .i64 o, .int .i64 l, .int .i64 n, .int .i64 tn, .slice (some ⟨g, 0, none⟩) len cp] 26) = X2 at K2 K3 BB OW ⊢
  go_wp2
  go_loopw [4] (fun t wr => ∃ (j : Nat) (Q : Nat → Pm), t = .int .i64 (j : Int) ∧ j ≤ len ∧ Hid (OwnF wr w.heap.size g len cp Q) ∧ Hid (∀ i, i < len → (i < j → LP (P' i) (Q i)) ∧ (¬ i < j → Q i = P' i)) ∧ Hid (wr.heap[i2]? = some (.cells #[.int .i64 0, .int .i64 0, .int .i64 0, .int .i64 0, .int .i64 0, .int .i64 0, .slice none 0 0] 26 (0, 0))) ∧ Hid (wr.heap[i3]? = some (.cells #[.int .i64 fr, .int .i64 tz, .int .i64 o, .int .i64 l, .int .i64 n, .int .i64 tn, .slice (some ⟨g, 0, none⟩) len cp] 26 (0, 0))) ∧ Hid (Below w.heap.size w wr)) (fun t _ => len - (intOf t).toNat)
  case atStart => exact ⟨0, P', rfl, Nat.zero_le _, OW.out, (fun i hi => ⟨fun h => by omega, fun _ => rfl⟩), K2.out, K3.out, BB.out⟩
  case round =>
    clear K2 K3 BB OW
    obtain ⟨j, Q, rfl, hj, OW, HQ, K2, K3, BB⟩ := hrel
    obtain ⟨f0, f1, f2, f3, f4, f5, f6⟩ := sep7 K3.out
    by_cases hlt : (j : Int) < (len : Int)
    · have hj0 : (0 : Int) ≤ (j : Int) := by omega
      obtain ⟨ge, hea, hown⟩ := OW.out.ent j (by omega)
      have hq0 := (HQ.out j (by omega)).2 (by omega)
      have hcl := rowP_cells OW.out.row (i := j) (by rw [firstP_len]; omega)
      rw [firstP_nth Q (by omega)] at hcl
      have hc7 := hcl.2.2.2.2.2.2.2
      rw [hea] at hc7
      obtain ⟨el, hel⟩ : ∃ el, (Q j).el = el := ⟨_, rfl⟩
      obtain ⟨ec, hec⟩ : ∃ ec, (Q j).ec = ec := ⟨_, rfl⟩
      rw [hel, hec] at hc7 hown
      have HEL := aside hel
      have HEA := aside hea
      have HQJ := aside hq0
      have OE := aside hown
      have HSM := aside (show el ≤ 536870912 from by
        have h1 := (HOK.out j (by omega)).2
        have h2 := (HS.out j (by omega)).2.2.2.2.2.2.2.1
        rw [hq0] at hel
        omega)
      have HGE := aside (show ge ≠ g ∧ ge ≠ i3 ∧ ge ≠ i2 ∧ w.heap.size ≤ ge ∧ ge < wr.heap.size from ⟨fun e => by subst e; exact absurd (own_type OE.out OW.out.row) (by decide), own_blk OE.out K3.out (by decide), own_blk OE.out K2.out (by decide), (OE.out.lt ge rfl).1, (OE.out.lt ge rfl).2⟩)
      clear hcl hel hec hea hown hq0
      go_wp2_with fail
      refine wp_region_until (z := 15) (S := fun Y => Y.cell? ⟨i3, 6, none⟩ = some (.slice (some ⟨g, 0, none⟩) len cp) ∧ Y.cell? ⟨g, j * 8 + 7, none⟩ = some (.slice (some ⟨ge, 0, none⟩) el ec)) (by kernel_rfl) ⟨f6, hc7⟩ (fun hHeld => ?_)
      clear f0 f1 f2 f3 f4 f5 f6 hc7
      refine Until.take (i := 0) (v := ?_) [15] rfl (by kernel_rfl) (by kernel_rfl) (by kernel_rfl) (by kernel_rfl) (by rfl) (by rfl) (by kernel_rfl) (fun _ _ _ h => h) (Or.inl ⟨by rfl, ?_⟩) (by assumption) ?_
      rotate_left
      · intro w hSw
        go_simp
        try with_reducible rfl
      simp only [Act.put, List.getElem_toArray, List.getElem_cons_zero, List.setIfInBounds_toArray, List.set_cons_zero, List.set_cons_succ]
      refine Until.take (i := 1) (v := ?_) [15] rfl (by kernel_rfl) (by kernel_rfl) (by kernel_rfl) (by kernel_rfl) (by rfl) (by rfl) (by kernel_rfl) (fun _ _ _ h => h) (Or.inl ⟨by rfl, ?_⟩) (by assumption) ?_
      rotate_left
      · intro w hSw
        go_simp
        try with_reducible rfl
      simp only [Act.put, List.getElem_toArray, List.getElem_cons_zero, List.getElem_cons_succ, List.setIfInBounds_toArray, List.set_cons_zero, List.set_cons_succ]
      refine Until.take (i := 2) (v := ?_) [15] rfl (by kernel_rfl) (by kernel_rfl) (by kernel_rfl) (by kernel_rfl) (by rfl) (by rfl) (by kernel_rfl) (fun _ _ _ h => h) (Or.inl ⟨by rfl, ?_⟩) (by assumption) ?_
      rotate_left
      · intro w hSw
        go_simp
        try with_reducible rfl
      simp only [Act.put, List.getElem_toArray, List.getElem_cons_zero, List.getElem_cons_succ, List.setIfInBounds_toArray, List.set_cons_zero, List.set_cons_succ]
      refine Until.take (i := 3) (v := ?_) [15] rfl (by kernel_rfl) (by kernel_rfl) (by kernel_rfl) (by kernel_rfl) (by rfl) (by rfl) (by kernel_rfl) (fun _ _ _ h => h) (Or.inl ⟨by rfl, ?_⟩) (by assumption) ?_
      rotate_left
      · intro w hSw
        go_simp
        try with_reducible rfl
      simp only [Act.put, List.getElem_toArray, List.getElem_cons_zero, List.getElem_cons_succ, List.setIfInBounds_toArray, List.set_cons_zero, List.set_cons_succ]
      refine Until.take (i := 4) (v := ?_) [15] rfl (by kernel_rfl) (by kernel_rfl) (by kernel_rfl) (by kernel_rfl) (by rfl) (by rfl) (by kernel_rfl) (fun _ _ _ h => h) (Or.inl ⟨by rfl, ?_⟩) (by assumption) ?_
      rotate_left
      · intro w hSw
        go_simp
        try with_reducible rfl
      simp only [Act.put, List.getElem_toArray, List.getElem_cons_zero, List.getElem_cons_succ, List.setIfInBounds_toArray, List.set_cons_zero, List.set_cons_succ]
      refine Until.take (i := 5) (v := ?_) [15] rfl (by kernel_rfl) (by kernel_rfl) (by kernel_rfl) (by kernel_rfl) (by rfl) (by rfl) (by kernel_rfl) (fun _ _ _ h => h) (Or.inl ⟨by rfl, ?_⟩) (by assumption) ?_
      rotate_left
      · intro w hSw
        go_simp
        try with_reducible rfl
      simp only [Act.put, List.getElem_toArray, List.getElem_cons_zero, List.getElem_cons_succ, List.setIfInBounds_toArray, List.set_cons_zero, List.set_cons_succ]
      refine Until.take (i := 6) (v := ?_) [15] rfl (by kernel_rfl) (by kernel_rfl) (by kernel_rfl) (by kernel_rfl) (by rfl) (by rfl) (by kernel_rfl) (fun _ _ _ h => h) (Or.inl ⟨by rfl, ?_⟩) (by assumption) ?_
      rotate_left
      · intro w hSw
        go_simp
        try with_reducible rfl
      simp only [Act.put, List.getElem_toArray, List.getElem_cons_zero, List.getElem_cons_succ, List.setIfInBounds_toArray, List.set_cons_zero, List.set_cons_succ]
      refine Until.take (i := 7) (v := ?_) [15] rfl (by kernel_rfl) (by kernel_rfl) (by kernel_rfl) (by kernel_rfl) (by rfl) (by rfl) (by kernel_rfl) (fun _ _ _ h => h) (Or.inl ⟨by rfl, ?_⟩) (by assumption) ?_
      rotate_left
      · intro w hSw
        go_simp
        try with_reducible rfl
      simp only [Act.put, List.getElem_toArray, List.getElem_cons_zero, List.getElem_cons_succ, List.setIfInBounds_toArray, List.set_cons_zero, List.set_cons_succ]
      refine Until.take (i := 8) (v := ?_) [15] rfl (by kernel_rfl) (by kernel_rfl) (by kernel_rfl) (by kernel_rfl) (by rfl) (by rfl) (by kernel_rfl) (fun _ _ _ h => h) (Or.inl ⟨by rfl, ?_⟩) (by assumption) ?_
      rotate_left
      · intro w hSw
        go_simp
        try with_reducible rfl
      simp only [Act.put, List.getElem_toArray, List.getElem_cons_zero, List.getElem_cons_succ, List.setIfInBounds_toArray, List.set_cons_zero, List.set_cons_succ]
      refine Until.take (i := 9) (v := ?_) [15] rfl (by kernel_rfl) (by kernel_rfl) (by kernel_rfl) (by kernel_rfl) (by rfl) (by rfl) (by kernel_rfl) (fun _ _ _ h => h) (Or.inl ⟨by rfl, ?_⟩) (by assumption) ?_
      rotate_left
      · intro w hSw
        go_simp
        try with_reducible rfl
      simp only [Act.put, List.getElem_toArray, List.getElem_cons_zero, List.getElem_cons_succ, List.setIfInBounds_toArray, List.set_cons_zero, List.set_cons_succ]
      refine Until.take (i := 10) (v := ?_) [15] rfl (by kernel_rfl) (by kernel_rfl) (by kernel_rfl) (by kernel_rfl) (by rfl) (by rfl) (by kernel_rfl) (fun _ _ _ h => h) (Or.inl ⟨by rfl, ?_⟩) (by assumption) ?_
      rotate_left
      · intro w hSw
        go_simp
        try with_reducible rfl
      simp only [Act.put, List.getElem_toArray, List.getElem_cons_zero, List.getElem_cons_succ, List.setIfInBounds_toArray, List.set_cons_zero, List.set_cons_succ]
      have bd := (Below.refl wr.heap.size wr).drew
      replace OW := aside (OW.out.on bd)
      replace OE := aside (own_on OE.out bd)
      replace K2 := aside (blk_on K2.out bd)
      replace K3 := aside (blk_on K3.out bd)
      replace BB := aside (bthen BB.out bd)
      have HGX := aside (show ge < wr.drew.heap.size from HGE.out.2.2.2.2)
      clear bd
      generalize wr.drew = Xd at OW OE K2 K3 BB HGX hHeld ⊢
      refine Until.step (i := 11) (by kernel_rfl) rfl (by rfl) (fun K' hK' => ?_)
      go_simp
      have bN := bnew Xd (.cells #[.string ⟨#[109, 97, 114, 107]⟩, .int .i64 0, .int .i64 0, .string ⟨#[]⟩, .bool false, .string ⟨#[98, 101, 104, 105, 110, 100]⟩, .int .i64 0, .int .i64 0, .string ⟨#[]⟩, .bool false] 55)
      have KN := aside (heap_alloc_new Xd (.cells #[.string ⟨#[109, 97, 114, 107]⟩, .int .i64 0, .int .i64 0, .string ⟨#[]⟩, .bool false, .string ⟨#[98, 101, 104, 105, 110, 100]⟩, .int .i64 0, .int .i64 0, .string ⟨#[]⟩, .bool false] 55))
      refine hK'.out _ _ ⟨cell_in hHeld.1 bN, cell_in hHeld.2 bN⟩ (fun hHeld => ?_)
      clear hK' K'
      replace OW := aside (OW.out.on bN)
      replace OE := aside (own_on OE.out bN)
      replace K2 := aside (blk_on K2.out bN)
      replace K3 := aside (blk_on K3.out bN)
      replace BB := aside (bthen BB.out bN)
      obtain ⟨nb, hnb⟩ : ∃ nb, Xd.heap.size = nb := ⟨_, rfl⟩
      rw [hnb] at KN ⊢
      clear hnb bN
      generalize Xd.alloc (.cells #[.string ⟨#[109, 97, 114, 107]⟩, .int .i64 0, .int .i64 0, .string ⟨#[]⟩, .bool false, .string ⟨#[98, 101, 104, 105, 110, 100]⟩, .int .i64 0, .int .i64 0, .string ⟨#[]⟩, .bool false] 55) = Xn at OW OE K2 K3 BB KN hHeld ⊢
      refine Until.step (i := 12) (by kernel_rfl) rfl (by rfl) (fun K' hK' => ?_)
      rw [if_pos (by kernel_rfl)]
      refine op_append_two _ _ rfl w.heap.size el ge ec (firstEF (Q j).T el) (by rfl) OE.out nb 2 mkE bhE (by rfl) KN.out (by have := HSM.out; omega) BB.out.size ?_
      intro g3 cap3 X3 own3 gr3 hg3
      have kg : Keeps (fun x => x = ge) Xn X3 := (Keeps.refl _ _).grown gr3 (fun k hk _ => (Option.some.inj hk).symm)
      have HLT := aside OW.out.lts
      refine hK'.out _ _ ⟨(kg.cell (p := ⟨i3, 6, none⟩) (Array.getElem?_eq_some_iff.1 K3.out).1 (fun h => HGE.out.2.1 h.symm)).trans hHeld.1, (kg.cell (p := ⟨g, j * 8 + 7, none⟩) HLT.out.1.2 (fun h => HGE.out.1 h.symm)).trans hHeld.2⟩ (fun hHeld => ?_)
      clear hK' K'
      have HROW := aside (ownsRow_keep OW.out.row kg (fun k hk e => by have h1 : g = k := (by simpa [Value.ownBlock] using hk); exact HGE.out.1 (e.symm.trans h1.symm)))
      have HENT := aside (show ∀ i, i < len → i ≠ j → ∃ q, (Q i).ea = some ⟨q, 0, none⟩ ∧ X3.ownsRow w.heap.size 55 5 (.slice (some ⟨q, 0, none⟩) (Q i).el (Q i).ec) (Q i).el (entCells (firstEF (Q i).T (Q i).el)) from fun i hi hne => by
        obtain ⟨q, k1, k2⟩ := OW.out.ent i hi
        refine ⟨q, k1, ownsRow_keep k2 kg (fun k hk e => ?_)⟩
        have h1 : q = k := (by simpa [Value.ownBlock] using hk)
        exact OW.out.apart i j hi (by omega) hne (by rw [k1, HEA.out, h1, e]))
      have HAP := aside (show ∀ i, i < len → i ≠ j → (Q i).ea ≠ some ⟨g3, 0, none⟩ from fun i hi hne e => by
        rcases hg3 with h | h
        · exact OW.out.apart i j hi (by omega) hne (by rw [e, HEA.out, h])
        · have := (HLT.out.2 i hi g3 e).2; omega)
      have OW3 := aside (OW.out.turn (j := j) (ge := g3) (el := el + 2) (ce := cap3) (T := extT (Q j).T el) HROW.out HENT.out (by omega) (by rw [firstEF_ext]; exact own3) HAP.out (extT_keys (by have := OW.out.keys j (by omega); rw [HEL.out] at this; exact this)))
      have HGP := aside (show w.heap.size ≤ g ∧ i3 ≠ g ∧ i2 ≠ g from ⟨HLT.out.1.1, fun e => by subst e; exact (own_blk OW.out.row K3.out (by decide)) rfl, fun e => by subst e; exact (own_blk OW.out.row K2.out (by decide)) rfl⟩)
      have fz : X3.frozen? ⟨g, j * 8 + 7, none⟩ = false := by
        rcases HROW.out.2 with ⟨h1, _⟩ | ⟨q, c, cur, h1, h2, h3, _⟩
        · cases h1
        · injection h1 with e1 _ _
          injection e1 with e1
          injection e1 with e1 _ _
          subst e1
          exact frozen_of_row _ _ _ _ _ h3
      replace K2 := aside ((kg.block i2 (Array.getElem?_eq_some_iff.1 K2.out).1 (fun h => HGE.out.2.2.1 h.symm)).trans K2.out)
      replace K3 := aside ((kg.block i3 (Array.getElem?_eq_some_iff.1 K3.out).1 (fun h => HGE.out.2.1 h.symm)).trans K3.out)
      replace BB := aside (BB.out.trans (kg.below BB.out.size (fun k hk e => by have := HGE.out.2.2.2.1; omega)))
      clear kg own3 gr3 hg3 OE KN HAP HENT
      refine Until.take (i := 13) (v := ?_) [14, 15] rfl (by kernel_rfl) (by kernel_rfl) (by kernel_rfl) (by kernel_rfl) (by rfl) (by rfl) (by kernel_rfl) (fun _ _ _ h => h) (Or.inl ⟨by rfl, ?_⟩) (by assumption) ?_
      rotate_left
      · intro w hSw
        go_simp
        try with_reducible rfl
      simp only [Act.put, List.getElem_toArray, List.getElem_cons_zero, List.getElem_cons_succ, List.setIfInBounds_toArray, List.set_cons_zero, List.set_cons_succ]
      refine Until.take (i := 14) (v := ?_) [15] rfl (by kernel_rfl) (by kernel_rfl) (by kernel_rfl) (by kernel_rfl) (by rfl) (by rfl) (by kernel_rfl) (fun _ _ _ h => h) (Or.inl ⟨by rfl, ?_⟩) (by assumption) ?_
      rotate_left
      · intro w hSw
        go_simp
        try with_reducible rfl
      simp only [Act.put, List.getElem_toArray, List.getElem_cons_zero, List.getElem_cons_succ, List.setIfInBounds_toArray, List.set_cons_zero, List.set_cons_succ]
      refine Until.last (by kernel_rfl) rfl (fun K' hK' => ?_)
      rw [if_pos (by kernel_rfl)]
      obtain ⟨hc6, hc7⟩ := hHeld
      go_simp
      refine hK'.out _ _ ?_
      clear hK' K'
      refine wpAny_of_held (S := fun _ => True) _ _ _ _ ?_
      have hHeld : True := trivial
      refine wpAnyH_done (by kernel_rfl) ?_ _
      have K2' := aside (set_far1 K2.out (HGP.out.2.2) (j * 8 + 7) (.slice (some ⟨g3, 0, none⟩) (el + 2) cap3))
      have K3' := aside (set_far1 K3.out (HGP.out.2.1) (j * 8 + 7) (.slice (some ⟨g3, 0, none⟩) (el + 2) cap3))
      have BB' := aside (BB.out.setCell (p := ⟨g, j * 8 + 7, none⟩) HGP.out.1 (.slice (some ⟨g3, 0, none⟩) (el + 2) cap3))
      have HQ' := aside (show ∀ i, i < len → (i < j + 1 → LP (P' i) (putP Q j ((Q j).with (some ⟨g3, 0, none⟩) (el + 2) cap3 (extT (Q j).T el)) i)) ∧ (¬ i < j + 1 → putP Q j ((Q j).with (some ⟨g3, 0, none⟩) (el + 2) cap3 (extT (Q j).T el)) i = P' i) from fun i hi => by
        by_cases e : i = j
        · subst e
          refine ⟨fun _ => ?_, fun h => by omega⟩
          rw [putP_at]
          unfold Pm.with LP
          dsimp only
          rw [← HEL.out, HQJ.out]
          exact ⟨rfl, rfl, rfl, rfl, rfl, rfl, rfl, rfl, rfl⟩
        · rw [putP_ne e]
          exact ⟨fun h => (HQ.out i hi).1 (by omega), fun h => (HQ.out i hi).2 (by omega)⟩)
      clear hHeld hc6 hc7 fz
      go_wp2
      go_roundw
      case rel => exact ⟨j + 1, _, by go_num, by omega, OW3.out, HQ'.out, K2'.out, K3'.out, BB'.out⟩
      case measure => simp [intOf]; omega
    · have hjl : j = len := by omega
      subst hjl
      have HLT := aside OW.out.lts
      have bN := bnew wr (.cells #[.int .i64 77, .string ⟨#[]⟩, .string ⟨#[]⟩, .bool false, .int .i64 0, .int .u64 0, .int .u64 0, .slice none 0 0, .int .i64 78, .string ⟨#[]⟩, .string ⟨#[]⟩, .bool false, .int .i64 0, .int .u64 0, .int .u64 0, .slice none 0 0] 51)
      have KN := aside (heap_alloc_new wr (.cells #[.int .i64 77, .string ⟨#[]⟩, .string ⟨#[]⟩, .bool false, .int .i64 0, .int .u64 0, .int .u64 0, .slice none 0 0, .int .i64 78, .string ⟨#[]⟩, .string ⟨#[]⟩, .bool false, .int .i64 0, .int .u64 0, .int .u64 0, .slice none 0 0] 51))
      have HPI := aside (show PartsIn (wr.alloc (.cells #[.int .i64 77, .string ⟨#[]⟩, .string ⟨#[]⟩, .bool false, .int .i64 0, .int .u64 0, .int .u64 0, .slice none 0 0, .int .i64 78, .string ⟨#[]⟩, .string ⟨#[]⟩, .bool false, .int .i64 0, .int .u64 0, .int .u64 0, .slice none 0 0] 51)) (some ⟨wr.heap.size, 0, none⟩) 2 2 (fun i => if i = 0 then pmK 77 else pmK 78) from
        ⟨Nat.le_refl _, by unfold maxLen; omega, .inr ⟨wr.heap.size, 0, rfl, by rw [World.size_alloc]; omega, fun i hi => ⟨by
          by_cases e : i = 0
          · subst e
            exact ⟨by rw [cell_of_row _ _ 0 _ _ _ KN.out]; rfl, by rw [cell_of_row _ _ 1 _ _ _ KN.out]; rfl, by rw [cell_of_row _ _ 2 _ _ _ KN.out]; rfl, by rw [cell_of_row _ _ 3 _ _ _ KN.out]; rfl, by rw [cell_of_row _ _ 4 _ _ _ KN.out]; rfl, by rw [cell_of_row _ _ 5 _ _ _ KN.out]; rfl, by rw [cell_of_row _ _ 6 _ _ _ KN.out]; rfl, by rw [cell_of_row _ _ 7 _ _ _ KN.out]; rfl⟩
          · obtain rfl : i = 1 := by omega
            exact ⟨by rw [cell_of_row _ _ (0 + 1 * 8) _ _ _ KN.out]; rfl, by rw [cell_of_row _ _ (0 + 1 * 8 + 1) _ _ _ KN.out]; rfl, by rw [cell_of_row _ _ (0 + 1 * 8 + 2) _ _ _ KN.out]; rfl, by rw [cell_of_row _ _ (0 + 1 * 8 + 3) _ _ _ KN.out]; rfl, by rw [cell_of_row _ _ (0 + 1 * 8 + 4) _ _ _ KN.out]; rfl, by rw [cell_of_row _ _ (0 + 1 * 8 + 5) _ _ _ KN.out]; rfl, by rw [cell_of_row _ _ (0 + 1 * 8 + 6) _ _ _ KN.out]; rfl, by rw [cell_of_row _ _ (0 + 1 * 8 + 7) _ _ _ KN.out]; rfl⟩, by
          by_cases e : i = 0
          · subst e
            exact ⟨Nat.le_refl _, Nat.zero_le _, .inl rfl⟩
          · obtain rfl : i = 1 := by omega
            exact ⟨Nat.le_refl _, Nat.zero_le _, .inl rfl⟩⟩⟩⟩)
      replace OW := aside (OW.out.on bN)
      replace K2 := aside (blk_on K2.out bN)
      replace K3 := aside (blk_on K3.out bN)
      have BB1 := aside (bthen BB.out bN)
      clear bN BB
      go_wp2_with (at_builtin; refine wpList_plain rfl fun K hK => op_append_parts (V := w) _ _ rfl j (.slice (some ⟨g, 0, none⟩) j cp) (firstP Q j) (by rfl) OW.out.row ⟨wr.heap.size, 0, none⟩ 2 2 (fun i => if i = 0 then pmK 77 else pmK 78) (by rfl) HPI.out (by have := HZ.out; omega) BB1.out ?_; intro v5 w5 own5 b5 g5; refine hK _ _ ?_; refine Hid.out ?_)
      refine aside ?_
      obtain ⟨g6, cp6, rfl, -⟩ := own_sl own5 (by omega)
      have kg : Keeps (fun x => x = g) (wr.alloc (.cells #[.int .i64 77, .string ⟨#[]⟩, .string ⟨#[]⟩, .bool false, .int .i64 0, .int .u64 0, .int .u64 0, .slice none 0 0, .int .i64 78, .string ⟨#[]⟩, .string ⟨#[]⟩, .bool false, .int .i64 0, .int .u64 0, .int .u64 0, .slice none 0 0] 51)) w5 := (Keeps.refl _ _).grown g5 (fun k hk _ => (Option.some.inj (show some g = some k from hk)).symm)
      have HN2 := aside (show i3 ≠ g ∧ i2 ≠ g from ⟨fun e => by subst e; exact (own_blk OW.out.row K3.out (by decide)) rfl, fun e => by subst e; exact (own_blk OW.out.row K2.out (by decide)) rfl⟩)
      replace K2 := aside ((kg.block i2 (Array.getElem?_eq_some_iff.1 K2.out).1 HN2.out.2).trans K2.out)
      replace K3 := aside ((kg.block i3 (Array.getElem?_eq_some_iff.1 K3.out).1 HN2.out.1).trans K3.out)
      have BF := aside b5
      have R5 := aside (show w5.ownsRow w.heap.size 51 8 (.slice (some ⟨g6, 0, none⟩) (j + 2) cp6) (j + 2) (ptCells (firstP Q j ++ [pmK 77, pmK 78])) from own5)
      have E5 := aside (show ∀ i, i < j → ∃ ge, (Q i).ea = some ⟨ge, 0, none⟩ ∧ w5.ownsRow w.heap.size 55 5 (.slice (some ⟨ge, 0, none⟩) ((P' i).el + 2) (Q i).ec) ((P' i).el + 2) (entCells (firstEF (extT (P' i).T (P' i).el) ((P' i).el + 2))) from fun i hi => by
        obtain ⟨q, k1, k2⟩ := OW.out.ent i hi
        have hl := (HQ.out i hi).1 (by omega)
        rw [hl.2.2.2.2.2.2.2.1, hl.2.2.2.2.2.2.2.2] at k2
        refine ⟨q, k1, ownsRow_keep k2 kg (fun k hk e => ?_)⟩
        have h1 : q = k := (by simpa [Value.ownBlock] using hk)
        exact absurd (own_type (show (wr.alloc (.cells #[.int .i64 77, .string ⟨#[]⟩, .string ⟨#[]⟩, .bool false, .int .i64 0, .int .u64 0, .int .u64 0, .slice none 0 0, .int .i64 78, .string ⟨#[]⟩, .string ⟨#[]⟩, .bool false, .int .i64 0, .int .u64 0, .int .u64 0, .slice none 0 0] 51)).ownsRow w.heap.size 55 5 (.slice (some ⟨g, 0, none⟩) ((P' i).el + 2) (Q i).ec) ((P' i).el + 2) _ from by rw [← e, ← h1]; exact k2) OW.out.row) (by decide))
      have HG6 := aside (show i3 ≠ g6 ∧ i2 ≠ g6 from ⟨fun e => by subst e; exact (own_blk R5.out K3.out (by decide)) rfl, fun e => by subst e; exact (own_blk R5.out K2.out (by decide)) rfl⟩)
      have HAP := aside OW.out.apart
      have K3b := aside K3.out
      have HI32 := aside (show i3 ≠ i2 ∧ w.heap.size ≤ i3 ∧ w.heap.size ≤ i2 from ⟨HI23.out, HI3.out, HI.out⟩)
      clear own5 b5 g5 kg OW KN HPI BB1 HLT f0 f1 f2 f3 f4 f5 f6 HN2
      obtain ⟨f0, f1, f2, f3, f4, f5, f6⟩ := sep7 K3.out
      have fz6 := frozen_of_row _ _ 6 _ _ K3.out
      go_upto_region 7 with fail
      have kz := set_in 6 (.slice (some ⟨g6, 0, none⟩) (j + 2) cp6) K3.out
      simp only [List.setIfInBounds_toArray, List.set_cons_zero, List.set_cons_succ] at kz
      replace K3 := aside kz
      replace K2 := aside (set_far1 K2.out (fun e => HI32.out.1 e.symm) 6 (.slice (some ⟨g6, 0, none⟩) (j + 2) cp6))
      replace R5 := aside (own_apartF R5.out HG6.out.1 (.slice (some ⟨g6, 0, none⟩) (j + 2) cp6) (k := 6))
      replace E5 := aside (lent_ents E5.out HI32.out.2.1 K3b.out (by decide) 6 (.slice (some ⟨g6, 0, none⟩) (j + 2) cp6))
      replace BF := aside (BF.out.setCell (p := ⟨i3, 6, none⟩) HI32.out.2.1 (.slice (some ⟨g6, 0, none⟩) (j + 2) cp6))
      clear kz f0 f1 f2 f3 f4 f5 f6 fz6 K3b
      generalize w5.setCell ⟨i3, 6, none⟩ (.slice (some ⟨g6, 0, none⟩) (j + 2) cp6) = Y at K2 K3 R5 E5 BF ⊢
      obtain ⟨f0, f1, f2, f3, f4, f5, f6⟩ := sep7 K3.out
      obtain ⟨a0, a1, a2, a3, a4, a5, a6, hkz⟩ : ∃ a0 a1 a2 a3 a4 a5 a6 : Value, Y.heap[i2]? = some (Obj.cells #[a0, a1, a2, a3, a4, a5, a6] 26 (0, 0)) := ⟨_, _, _, _, _, _, _, K2.out⟩
      replace K2 := aside hkz
      clear hkz
      obtain ⟨z0, z1, z2, z3, z4, z5, z6⟩ := sep7 K2.out
      have y0 := frozen_of_row _ _ 0 _ _ K2.out
      have y1 := frozen_of_row _ _ 1 _ _ K2.out
      have y2 := frozen_of_row _ _ 2 _ _ K2.out
      have y3 := frozen_of_row _ _ 3 _ _ K2.out
      have y4 := frozen_of_row _ _ 4 _ _ K2.out
      have y5 := frozen_of_row _ _ 5 _ _ K2.out
      have y6 := frozen_of_row _ _ 6 _ _ K2.out
      have kz := (set_in 6 (.slice (some ⟨g6, 0, none⟩) (j + 2) cp6) (set_in 5 (.int .i64 tn) (set_in 4 (.int .i64 n) (set_in 3 (.int .i64 l) (set_in 2 (.int .i64 o) (set_in 1 (.int .i64 tz) (set_in 0 (.int .i64 fr) K2.out)))))))
      simp only [List.setIfInBounds_toArray, List.set_cons_zero, List.set_cons_succ] at kz
      have KR := aside kz
      have BG := aside (((((((BF.out.setCell (p := ⟨i2, 0, none⟩) HI32.out.2.2 (.int .i64 fr)).setCell (p := ⟨i2, 1, none⟩) HI32.out.2.2 (.int .i64 tz)).setCell (p := ⟨i2, 2, none⟩) HI32.out.2.2 (.int .i64 o)).setCell (p := ⟨i2, 3, none⟩) HI32.out.2.2 (.int .i64 l)).setCell (p := ⟨i2, 4, none⟩) HI32.out.2.2 (.int .i64 n)).setCell (p := ⟨i2, 5, none⟩) HI32.out.2.2 (.int .i64 tn)).setCell (p := ⟨i2, 6, none⟩) HI32.out.2.2 (.slice (some ⟨g6, 0, none⟩) (j + 2) cp6))
      have RG := aside (own_apartF (own_apartF (own_apartF (own_apartF (own_apartF (own_apartF (own_apartF R5.out HG6.out.2 (.int .i64 fr) (k := 0)) HG6.out.2 (.int .i64 tz) (k := 1)) HG6.out.2 (.int .i64 o) (k := 2)) HG6.out.2 (.int .i64 l) (k := 3)) HG6.out.2 (.int .i64 n) (k := 4)) HG6.out.2 (.int .i64 tn) (k := 5)) HG6.out.2 (.slice (some ⟨g6, 0, none⟩) (j + 2) cp6) (k := 6))
      have EG0 := E5.out
      have EG1 := lent_ents EG0 HI32.out.2.2 K2.out (by decide) 0 (.int .i64 fr)
      have KQ1 := (set_in 0 (.int .i64 fr) K2.out)
      have EG2 := lent_ents EG1 HI32.out.2.2 KQ1 (by decide) 1 (.int .i64 tz)
      have KQ2 := (set_in 1 (.int .i64 tz) (set_in 0 (.int .i64 fr) K2.out))
      have EG3 := lent_ents EG2 HI32.out.2.2 KQ2 (by decide) 2 (.int .i64 o)
      have KQ3 := (set_in 2 (.int .i64 o) (set_in 1 (.int .i64 tz) (set_in 0 (.int .i64 fr) K2.out)))
      have EG4 := lent_ents EG3 HI32.out.2.2 KQ3 (by decide) 3 (.int .i64 l)
      have KQ4 := (set_in 3 (.int .i64 l) (set_in 2 (.int .i64 o) (set_in 1 (.int .i64 tz) (set_in 0 (.int .i64 fr) K2.out))))
      have EG5 := lent_ents EG4 HI32.out.2.2 KQ4 (by decide) 4 (.int .i64 n)
      have KQ5 := (set_in 4 (.int .i64 n) (set_in 3 (.int .i64 l) (set_in 2 (.int .i64 o) (set_in 1 (.int .i64 tz) (set_in 0 (.int .i64 fr) K2.out)))))
      have EG6 := lent_ents EG5 HI32.out.2.2 KQ5 (by decide) 5 (.int .i64 tn)
      have KQ6 := (set_in 5 (.int .i64 tn) (set_in 4 (.int .i64 n) (set_in 3 (.int .i64 l) (set_in 2 (.int .i64 o) (set_in 1 (.int .i64 tz) (set_in 0 (.int .i64 fr) K2.out))))))
      have EG7 := lent_ents EG6 HI32.out.2.2 KQ6 (by decide) 6 (.slice (some ⟨g6, 0, none⟩) (j + 2) cp6)
      have EG := aside EG7
      clear kz EG0 EG1 EG2 EG3 EG4 EG5 EG6 EG7 KQ1 KQ2 KQ3 KQ4 KQ5 KQ6
      go_wp2
      obtain ⟨r0, r1, r2, r3, r4, r5, r6⟩ := sep7 KR.out
      exact bodyPost_ret (v := .agg #[.int .i64 fr, .int .i64 tz, .int .i64 o, .int .i64 l, .int .i64 n, .int .i64 tn, .slice (some ⟨g6, 0, none⟩) (j + 2) cp6]) (by simp [results, Try.results9, go_sem, r0, r1, r2, r3, r4, r5, r6]) rfl ⟨g6, cp6, P', Q, rfl, ⟨RG.out, EG.out, HAP.out, HKY.out, fun i hi => by
        obtain ⟨l1, l2, l3, l4, l5, l6, l7, l8, l9⟩ := (HQ.out i hi).1 (by omega)
        exact ⟨l1, l2, l3, l4, l5, l6, l7, l8⟩⟩, HS.out, BG.out⟩
end Go.Proofs.Ytoabncoigleiaaa
