/-
  How many entries the ranges of a session have; rows of ranges; ranges of a split, by the contracts.
-/
import Derived.Test.YtfkdhambbpkmpaaDoorBv18
namespace Go.Proofs.YtfkdhambbpkmpaaDoor
open Go.RowKit
set_option linter.unusedVariables false
/-- How many of a list's entries lie in some ranges. -/
def sumIn (l : List Rg) (X : List En) : Nat := (l.map (fun r => (inL r X).length)).sum
theorem sumIn_nil (X : List En) : sumIn [] X = 0 := rfl
theorem sumIn_cons (r : Rg) (l : List Rg) (X : List En) : sumIn (r :: l) X = (inL r X).length + sumIn l X := by simp [sumIn]
theorem sumIn_append (l k : List Rg) (X : List En) : sumIn (l ++ k) X = sumIn l X + sumIn k X := by simp [sumIn]
theorem inL_cons (r : Rg) (x : En) (X : List En) : (inL r (x :: X)).length = (r.has x.k).toNat + (inL r X).length := by
  unfold inL
  rw [List.filter_cons]
  cases r.has x.k <;> simp <;> omega
theorem cnt_sum (T : Nat → Rg) (k : ByteArray) : ∀ n, (((List.range n).map T).map (fun r => (r.has k).toNat)).sum = cnt T k n
  | 0 => rfl
  | n + 1 => by rw [List.range_succ, List.map_append, List.map_append, List.sum_append, cnt_sum T k n]; simp [cnt]
theorem sumIn_pieces {T : Nat → Rg} {n : Nat} {r : Rg} (h : ∀ k, cnt T k n = (r.has k).toNat) : ∀ X : List En, sumIn ((List.range n).map T) X = (inL r X).length
  | [] => by
    unfold sumIn inL
    simp only [List.filter_nil, List.length_nil]
    induction (List.map T (List.range n)) with
    | nil => rfl
    | cons a l ih => simpa using ih
  | x :: X => by
    rw [inL_cons, ← sumIn_pieces h X, ← h x.k, ← cnt_sum T x.k n]
    unfold sumIn
    simp only [inL_cons]
    induction (List.map T (List.range n)) with
    | nil => rfl
    | cons a l ih => simp only [List.map_cons, List.sum_cons]; omega
theorem cuts_sum {b : Nat} {r : Rg} {M : List En} (hM : MapL M) (hr : r.may = true) (hb : 1 ≤ min b (inL r M).length) (X : List En) : sumIn (cutsL b r (inL r M)) X = (inL r X).length := by
  obtain ⟨q, hq⟩ : ∃ q, min b (inL r M).length = q + 1 := ⟨min b (inL r M).length - 1, by omega⟩
  have hk := keysUp_map (in_mapG hM r)
  have ha : ∀ i, i < (inL r M).length → r.has (keyL (inL r M) i) = true := fun i hi => allK_at (allK_in r M) hi
  unfold cutsL
  rw [hq, Nat.add_sub_cancel]
  exact sumIn_pieces (fun k => cnt_chain (chain_of (piece_tiles (pieces_up hk ha (by omega)))) hr k) X
theorem cuts_len (b : Nat) (r : Rg) (l : List En) : (cutsL b r l).length = min b l.length := by simp [cutsL]
theorem out_sum {b lf : Nat} {M T : List En} (hM : MapL M) (hb : 2 ≤ b) (X : List En) : ∀ {l : List Rg}, (∀ r ∈ l, r.may = true) → sumIn (l.flatMap (twOut b lf M T)) X ≤ sumIn l X
  | [], _ => Nat.le_refl _
  | r :: l, h => by
    rw [List.flatMap_cons, sumIn_append, sumIn_cons]
    have h1 := out_sum (b := b) (lf := lf) (M := M) (T := T) hM hb X (l := l) (fun s hs => h s (List.mem_cons_of_mem _ hs))
    have h2 : sumIn (twOut b lf M T r) X ≤ (inL r X).length := by
      unfold twOut
      split
      · simp [sumIn_nil]
      · split
        · simp [sumIn_nil]
        · rename_i h9
          exact Nat.le_of_eq (cuts_sum hM (h r (List.mem_cons_self ..)) (by omega) X)
    omega
theorem out_len {b lf : Nat} {M T : List En} : ∀ {l : List Rg}, (l.flatMap (twOut b lf M T)).length ≤ sumIn l M
  | [] => Nat.le_refl _
  | r :: l => by
    rw [List.flatMap_cons, List.length_append, sumIn_cons]
    have h1 := out_len (b := b) (lf := lf) (M := M) (T := T) (l := l)
    have h2 : (twOut b lf M T r).length ≤ (inL r M).length := by
      unfold twOut
      split
      · simp
      · split
        · simp
        · rw [cuts_len]; omega
    omega
theorem out_take {b lf : Nat} {M T : List En} {l : List Rg} (j : Nat) : ((l.take j).flatMap (twOut b lf M T)).length ≤ sumIn l M := by
  refine Nat.le_trans ?_ (out_len (b := b) (lf := lf) (M := M) (T := T) (l := l))
  conv => rhs; rw [← List.take_append_drop j l, List.flatMap_append, List.length_append]
  omega
/-- The cells of a range. -/
def rgF (r : Rg) : List Value := [.string r.lo, .string r.hi, .bool r.op]
theorem rgF_ok : RowF rgF 3 := ⟨fun e => rfl, fun e u hu => by simp [rgF] at hu; rcases hu with rfl | rfl | rfl <;> rfl, by omega⟩
theorem rgCells_row (f : Nat → Rg) (n : Nat) : rgCells f n = rowC rgF ((List.range n).map f) := by
  induction n with
  | zero => rfl
  | succ n ih => rw [List.range_succ, List.map_append, rowC_append, ← ih]; rfl
theorem keyL_eq (l : List En) : (fun i => (l.map (fun e => e.k)).getD i ByteArray.empty) = keyL l := by
  funext i
  unfold keyL nthE
  rw [List.getD_eq_getElem?_getD, List.getElem?_map, List.getD_eq_getElem?_getD]
  cases l[i]? <;> rfl
set_option maxHeartbeats 3200000 in
theorem rcuts_any {w : World} {B : Nat} {a : Option Addr} {c n : Nat} (b : Nat) (r : Rg) {M : List En} (hs : w.ownsRow B 9 1 (.slice a n c) n (strCells ((inL r M).map (fun e => e.k)))) (hn : (inL r M).length = n) (hl : n ≤ 256) (hr : r.may = true) (hM : MapL M) (hb : 1 ≤ min b n) :
    Calls Tryd.prog 45 #[.agg #[.string r.lo, .string r.hi, .bool r.op], .slice a n c, .int .i64 ((min b n : Nat) : Int)] w fun e w' => ∃ g m cp, e = .returned (.tuple #[.slice (some ⟨g, 0, none⟩) m cp, .int .i64 0]) ∧ RowIn rgF w' (some ⟨g, 0, none⟩) m cp (cutsL b r (inL r M)) ∧ w.heap.size ≤ g ∧ Below w.heap.size w w' := by
  obtain ⟨q, hq⟩ : ∃ q, min b n = q + 1 := ⟨min b n - 1, by omega⟩
  have hS := strs_of_row hs (Nat.le_refl _) (by omega)
  rw [keyL_eq] at hS
  have hk := keysUp_map (in_mapG hM r)
  have h1 := rranges_ok r.lo r.hi r.op a n c (keyL (inL r M)) q w hS (chk_of_mayG hr) (by rw [← hn]; exact keyE_zero hk) (by rw [← hn]; exact allK_in r M) (by omega) hl
  rw [hq, show (((q + 1 : Nat)) : Int) = (q : Int) + 1 from by omega]
  refine h1.mono ?_
  rintro e w1 ⟨g, cp, rfl, ho, hg, hb1⟩
  refine ⟨g, q + 1, cp, rfl, ?_, ?_, hb1⟩
  · have h2 : rgCells (piece ⟨r.lo, r.hi, r.op⟩ (bdr n (q + 1) (keyL (inL r M))) q) (q + 1) = rowC rgF (cutsL b r (inL r M)) := by
      rw [rgCells_row]
      unfold cutsL
      rw [hn, hq, Nat.add_sub_cancel]
    rw [h2] at ho
    exact RowIn.of_own rgF_ok ho
  · rcases ho.2 with ⟨h3, -⟩ | ⟨g', cap, cur, h3, h4, -⟩
    · cases h3
    · injection h3 with h3
      injection h3 with h3
      injection h3 with h3
      omega
set_option maxHeartbeats 3200000 in
theorem gcuts_any {w : World} {B : Nat} {a : Option Addr} {c n : Nat} (b : Nat) (r : Rg) {M : List En} (hs : w.ownsRow B 9 1 (.slice a n c) n (strCells ((inL r M).map (fun e => e.k)))) (hn : (inL r M).length = n) (hl : n ≤ 256) (hr : r.may = true) (hM : MapL M) (hb : 1 ≤ min b n) :
    Calls Tryd.prog 54 #[.agg #[.string r.lo, .string r.hi, .bool r.op], .slice a n c, .int .i64 ((min b n : Nat) : Int)] w fun e w' => ∃ g m cp, e = .returned (.tuple #[.slice (some ⟨g, 0, none⟩) m cp, .int .i64 0]) ∧ RowIn rgF w' (some ⟨g, 0, none⟩) m cp (cutsL b r (inL r M)) ∧ w.heap.size ≤ g ∧ Below w.heap.size w w' := by
  obtain ⟨q, hq⟩ : ∃ q, min b n = q + 1 := ⟨min b n - 1, by omega⟩
  have hS := strs_of_row hs (Nat.le_refl _) (by omega)
  rw [keyL_eq] at hS
  have hk := keysUp_map (in_mapG hM r)
  have h1 := ranges_ok r.lo r.hi r.op a n c (keyL (inL r M)) q w hS (chk_of_mayG hr) (by rw [← hn]; exact keyE_zero hk) (by rw [← hn]; exact allK_in r M) (by omega) hl
  rw [hq, show (((q + 1 : Nat)) : Int) = (q : Int) + 1 from by omega]
  refine h1.mono ?_
  rintro e w1 ⟨g, cp, rfl, ho, hg, hb1⟩
  refine ⟨g, q + 1, cp, rfl, ?_, ?_, hb1⟩
  · have h2 : rgCells (piece ⟨r.lo, r.hi, r.op⟩ (bdr n (q + 1) (keyL (inL r M))) q) (q + 1) = rowC rgF (cutsL b r (inL r M)) := by
      rw [rgCells_row]
      unfold cutsL
      rw [hn, hq, Nat.add_sub_cancel]
    rw [h2] at ho
    exact RowIn.of_own rgF_ok ho
  · rcases ho.2 with ⟨h3, -⟩ | ⟨g', cap, cur, h3, h4, -⟩
    · cases h3
    · injection h3 with h3
      injection h3 with h3
      injection h3 with h3
      omega
end Go.Proofs.YtfkdhambbpkmpaaDoor
