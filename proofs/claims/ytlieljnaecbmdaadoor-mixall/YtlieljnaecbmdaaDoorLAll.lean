/-
  The law MixAll, walked.
-/
import Derived.Test.YtlieljnaecbmdaaDoorMShown
import Derived.Test.YtlieljnaecbmdaaDoorMAll
import Derived.Test.YtlieljnaecbmdaaDoorMRows
import Derived.OrdersHeld
namespace Go.Proofs.YtlieljnaecbmdaaDoor
open Go.RowKit
set_option linter.unusedVariables false

/-- The entry behind the list's length. -/
def spE : En := ⟨⟨#[115, 112, 97, 114, 101]⟩, 9, 0, ⟨#[]⟩, false⟩

/-- An entry with another value, dead where it was not. -/
def twE (e : En) : En := ⟨e.k, e.c, e.n, ⟨#[97, 110, 111, 116, 104, 101, 114]⟩, !e.d⟩

def turnL (T : Nat → En) (len j : Nat) : List En := (List.range len).map fun i => if i < j then twE (T i) else T i

theorem turnL_zero (T : Nat → En) (len : Nat) : turnL T len 0 = (List.range len).map T := by simp [turnL]

theorem entCells_set : ∀ (l : List En) (j : Nat) (v : ByteArray) (d : Bool), j < l.length → ((entCells l).set (j * 5 + 3) (.string v)).set (j * 5 + 4) (.bool d) = entCells (l.set j ⟨(nthE l j).k, (nthE l j).c, (nthE l j).n, v, d⟩)
  | [], j, v, d, h => by simp at h
  | x :: t, 0, v, d, h => by simp [entCells, entVals, nthE]
  | x :: t, j + 1, v, d, h => by
    have ih := entCells_set t j v d (by simpa using h)
    simp only [entCells, List.set_cons_succ]
    rw [List.set_append_right _ _ (by simp [entVals]; omega), List.set_append_right _ _ (by simp [entVals]; omega)]
    simp only [show (entVals x).length = 5 from rfl]
    rw [show (j + 1) * 5 + 3 - 5 = j * 5 + 3 from by omega, show (j + 1) * 5 + 4 - 5 = j * 5 + 4 from by omega, ih]
    rfl

theorem turnL_length (T : Nat → En) (len j : Nat) : (turnL T len j).length = len := by simp [turnL]

theorem turn_nth (T : Nat → En) {len j i : Nat} (hi : i < len) : nthE (turnL T len j ++ [spE]) i = if i < j then twE (T i) else T i := by
  have := nthE_get (l := turnL T len j ++ [spE]) (i := i) (by simp [turnL]; omega)
  rw [List.getElem?_append_left (by rw [turnL_length]; exact hi), turnL, List.getElem?_map, List.getElem?_range hi] at this
  simpa [turnL] using this.symm

theorem turn_last (T : Nat → En) (len j : Nat) : nthE (turnL T len j ++ [spE]) len = spE := by
  have := nthE_get (l := turnL T len j ++ [spE]) (i := len) (by simp [turnL])
  rw [List.getElem?_append_right (by rw [turnL_length]; omega), turnL_length] at this
  simpa using this.symm

theorem turn_set (T : Nat → En) {len j : Nat} (hj : j < len) : (turnL T len j ++ [spE]).set j (twE (T j)) = turnL T len (j + 1) ++ [spE] := by
  rw [List.set_append_left _ _ (by rw [turnL_length]; exact hj)]
  congr 1
  apply List.ext_getElem?
  intro i
  rw [List.getElem?_set]
  by_cases hij : j = i
  · subst hij
    rw [if_pos rfl, if_pos (by rw [turnL_length]; exact hj), turnL, List.getElem?_map, List.getElem?_range hj]
    simp
  · rw [if_neg hij]
    by_cases hi : i < len
    · simp only [turnL, List.getElem?_map, List.getElem?_range hi, Option.map_some, Option.some.injEq]
      by_cases h1 : i < j
      · rw [if_pos h1, if_pos (by omega)]
      · rw [if_neg h1, if_neg (by omega)]
    · rw [List.getElem?_eq_none (by rw [turnL_length]; omega), List.getElem?_eq_none (by rw [turnL_length]; omega)]

theorem allV_same {T T' : Nat → En} {n : Nat} (h : ∀ i, i < n → (T' i).k = (T i).k ∧ (T' i).c = (T i).c ∧ (T' i).n = (T i).n) : allV T' n = allV T n := by
  have e0 : (firstE T' n).map f0 = (firstE T n).map f0 := by
    simp only [firstE, List.map_map]
    refine List.map_congr_left fun i hi => ?_
    obtain ⟨h1, h2, h3⟩ := h i (by simpa using hi)
    simp [f0, h1, h2, h3]
  have e1 : (firstE T' n).map f1 = (firstE T n).map f1 := by
    simp only [firstE, List.map_map]
    refine List.map_congr_left fun i hi => ?_
    obtain ⟨h1, h2, h3⟩ := h i (by simpa using hi)
    simp [f1, h1, h2, h3]
  unfold allV allI
  rw [e0, e1]

theorem keys_turn {w : World} {a : Option Addr} {len cap : Nat} {T : Nat → En} (h : EntsIn w a len cap T) (j : Nat) : KeysOk (turnL T len j ++ [spE]) := by
  intro e he
  rcases List.mem_append.1 he with he | he
  · simp only [turnL, List.mem_map, List.mem_range] at he
    obtain ⟨i, hi, rfl⟩ := he
    rcases h.2.2 with h0 | ⟨b, off, -, -, hc⟩
    · omega
    · have hk := (hc i hi).2
      by_cases hij : i < j
      · rw [if_pos hij]; exact hk
      · rw [if_neg hij]; exact hk
  · simp at he
    subst he
    decide

theorem ent_ne_same (k v : ByteArray) (c n : Int) (d : Bool) (w : World) : (binOp .neq 32 (.agg #[.string k, .int .i64 c, .int .i64 n, .string v, .bool d]) (.agg #[.string k, .int .i64 c, .int .i64 n, .string v, .bool d])).run Tryd.prog w = .ok (.bool false) w := by
  go_simp
  try simp

/-- The spare entry's block, and the frame. -/
structure ASt (w W : World) (q : Nat) : Prop where
  below : Below w.heap.size w W
  low : w.heap.size ≤ q
  sp : W.heap[q]? = some (.cells #[.string ⟨#[115, 112, 97, 114, 101]⟩, .int .i64 9, .int .i64 0, .string ⟨#[]⟩, .bool false] 32 (0, 0))

theorem ASt.keep {w W W2 : World} {q : Nat} (h : ASt w W q) (b : Below W.heap.size W W2) : ASt w W2 q := ⟨bthen h.below b, h.low, blk_on h.sp b⟩

theorem keep4 {V X X' : World} {q : Nat} (h : Below V.heap.size V X ∧ X.cell? ⟨q, 0, none⟩ = some (.string ⟨#[115, 112, 97, 114, 101]⟩) ∧ X.cell? ⟨q, 1, none⟩ = some (.int .i64 9) ∧ X.cell? ⟨q, 2, none⟩ = some (.int .i64 0) ∧ X.cell? ⟨q, 3, none⟩ = some (.string ⟨#[]⟩) ∧ X.cell? ⟨q, 4, none⟩ = some (.bool false)) (bb : Below X.heap.size X X') : Below V.heap.size V X' ∧ X'.cell? ⟨q, 0, none⟩ = some (.string ⟨#[115, 112, 97, 114, 101]⟩) ∧ X'.cell? ⟨q, 1, none⟩ = some (.int .i64 9) ∧ X'.cell? ⟨q, 2, none⟩ = some (.int .i64 0) ∧ X'.cell? ⟨q, 3, none⟩ = some (.string ⟨#[]⟩) ∧ X'.cell? ⟨q, 4, none⟩ = some (.bool false) := by
  obtain ⟨h, h0, h1, h2, h3, h4⟩ := h
  exact ⟨bthen h bb, cell_in h0 bb, cell_in h1 bb, cell_in h2 bb, cell_in h3 bb, cell_in h4 bb⟩

theorem keep5 {W2 X X' : World} {q g len : Nat} (h : Below W2.heap.size W2 X ∧ X.cell? ⟨q, 0, none⟩ = some (.string ⟨#[115, 112, 97, 114, 101]⟩) ∧ X.cell? ⟨q, 1, none⟩ = some (.int .i64 9) ∧ X.cell? ⟨q, 2, none⟩ = some (.int .i64 0) ∧ X.cell? ⟨q, 3, none⟩ = some (.string ⟨#[]⟩) ∧ X.cell? ⟨q, 4, none⟩ = some (.bool false) ∧ X.cell? ⟨g, len * 5, none⟩ = some (.string ⟨#[115, 112, 97, 114, 101]⟩) ∧ X.cell? ⟨g, len * 5 + 1, none⟩ = some (.int .i64 9) ∧ X.cell? ⟨g, len * 5 + 2, none⟩ = some (.int .i64 0) ∧ X.cell? ⟨g, len * 5 + 3, none⟩ = some (.string ⟨#[]⟩) ∧ X.cell? ⟨g, len * 5 + 4, none⟩ = some (.bool false)) (bb : Below X.heap.size X X') : Below W2.heap.size W2 X' ∧ X'.cell? ⟨q, 0, none⟩ = some (.string ⟨#[115, 112, 97, 114, 101]⟩) ∧ X'.cell? ⟨q, 1, none⟩ = some (.int .i64 9) ∧ X'.cell? ⟨q, 2, none⟩ = some (.int .i64 0) ∧ X'.cell? ⟨q, 3, none⟩ = some (.string ⟨#[]⟩) ∧ X'.cell? ⟨q, 4, none⟩ = some (.bool false) ∧ X'.cell? ⟨g, len * 5, none⟩ = some (.string ⟨#[115, 112, 97, 114, 101]⟩) ∧ X'.cell? ⟨g, len * 5 + 1, none⟩ = some (.int .i64 9) ∧ X'.cell? ⟨g, len * 5 + 2, none⟩ = some (.int .i64 0) ∧ X'.cell? ⟨g, len * 5 + 3, none⟩ = some (.string ⟨#[]⟩) ∧ X'.cell? ⟨g, len * 5 + 4, none⟩ = some (.bool false) := by
  obtain ⟨h, h0, h1, h2, h3, h4, h5, h6, h7, h8, h9⟩ := h
  exact ⟨bthen h bb, cell_in h0 bb, cell_in h1 bb, cell_in h2 bb, cell_in h3 bb, cell_in h4 bb, cell_in h5 bb, cell_in h6 bb, cell_in h7 bb, cell_in h8 bb, cell_in h9 bb⟩

theorem s4_of {w V X : World} {q : Nat} (F : ASt w V q) (b : Below V.heap.size V X) : Below V.heap.size V X ∧ X.cell? ⟨q, 0, none⟩ = some (.string ⟨#[115, 112, 97, 114, 101]⟩) ∧ X.cell? ⟨q, 1, none⟩ = some (.int .i64 9) ∧ X.cell? ⟨q, 2, none⟩ = some (.int .i64 0) ∧ X.cell? ⟨q, 3, none⟩ = some (.string ⟨#[]⟩) ∧ X.cell? ⟨q, 4, none⟩ = some (.bool false) := by
  have h := quint (blk_on F.sp b)
  exact ⟨b, h.1, h.2.1, h.2.2.1, h.2.2.2.1, h.2.2.2.2⟩

theorem turn_stored {W : World} {B g len cap j : Nat} {T : Nat → En} (h : W.ownsRow B 32 5 (.slice (some ⟨g, 0, none⟩) (len + 1) cap) (len + 1) (entCells (turnL T len j ++ [spE]))) (hj : j < len) :
    ((W.setCell ⟨g, j * 5 + 3, none⟩ (.string ⟨#[97, 110, 111, 116, 104, 101, 114]⟩)).setCell ⟨g, j * 5 + 4, none⟩ (.bool (!(T j).d))).ownsRow B 32 5 (.slice (some ⟨g, 0, none⟩) (len + 1) cap) (len + 1) (entCells (turnL T len (j + 1) ++ [spE])) := by
  have h2 := ((h.stored (j * 5 + 3) (.string ⟨#[97, 110, 111, 116, 104, 101, 114]⟩)).1.stored (j * 5 + 4) (.bool (!(T j).d))).1
  rw [entCells_set _ _ _ _ (by rw [List.length_append, turnL_length]; omega), turn_nth T hj, if_neg (Nat.lt_irrefl j)] at h2
  have e := turn_set T hj
  rw [twE] at e
  rw [← e]
  exact h2

theorem ASt.set {w W : World} {q g o : Nat} (h : ASt w W q) (hg : q < g) (u : Value) : ASt w (W.setCell ⟨g, o, none⟩ u) q :=
  ⟨h.below.setCell (by have := h.low; simp; omega) _, h.low, by rw [heap_setCell_other _ _ _ _ (by simp; omega)]; exact h.sp⟩

theorem ASt.drew {w W : World} {q : Nat} (h : ASt w W q) : ASt w W.drew q := ⟨h.below.drew, h.low, h.sp⟩

/-- What All says of the first len entries of an owned row whose keys and versions are those of T. -/
theorem all_row {w X : World} {a : Option Addr} {B g cap cap2 len j : Nat} {T : Nat → En} (L : Lanes X) (hE : EntsIn w a len cap T) (own : X.ownsRow B 32 5 (.slice (some ⟨g, 0, none⟩) (len + 1) cap2) (len + 1) (entCells (turnL T len j ++ [spE]))) :
    Calls Tryd.prog 12 #[.slice (some ⟨g, 0, none⟩) len cap2] X fun e w' => e = .returned (allV T len) ∧ Below X.heap.size X w' := by
  have hc := row_max own
  have h := all_any (some ⟨g, 0, none⟩) len cap2 (fun i => nthE (turnL T len j ++ [spE]) (0 + i)) X L (ents_of_row own (keys_turn hE j) (o := 0) (m := len) (c := cap2) (by omega) (by omega) (by omega) (.inr rfl))
  rwa [allV_same (T := T) (fun i hi => by rw [Nat.zero_add, turn_nth T hi]; split <;> exact ⟨rfl, rfl, rfl⟩)] at h

def TRel (w : World) (V : Nat) (len : Nat) (T : Nat → En) (q g cap2 : Nat) (i : Value) (wr : World) : Prop :=
  ∃ j : Nat, i = .int .i64 (j : Int) ∧ j ≤ len ∧ ASt w wr q ∧ wr.ownsRow V 32 5 (.slice (some ⟨g, 0, none⟩) (len + 1) cap2) (len + 1) (entCells (turnL T len j ++ [spE]))

theorem own_drew' {w : World} {base : Nat} {e : TypeId} {size : Nat} {v : Value} {n : Nat} {xs : List Value} (h : w.ownsRow base e size v n xs) : w.drew.ownsRow base e size v n xs := h

set_option maxRecDepth 100000 in
set_option maxHeartbeats 6400000 in
theorem lall_walk (a : Option Addr) (len cap : Nat) (T : Nat → En) (w : World) (L : Lanes w) (hE : EntsIn w a len cap T) (hform : (a = none ∧ len = 0 ∧ cap = 0) ∨ ∃ y, a = some y) (hz : len * 56 ≤ 140737488351232) :
    Calls Tryd.prog 4 #[.slice a len cap] w fun e w' => e = .returned (.bool true) ∧ Below w.heap.size w w' := by
  have LL := aside L
  have HE := aside hE
  clear L hE
  go_enter Tryd.func4, Tryd.ntmps4
  go_wp2_with fail
  refine (shown_any _ LL.out).mono ?_
  rintro e w1 ⟨rfl, b1⟩
  have F0 := aside (show ASt w (w1.alloc (.cells #[.string ⟨#[115, 112, 97, 114, 101]⟩, .int .i64 9, .int .i64 0, .string ⟨#[]⟩, .bool false] 32)) w1.heap.size from ⟨bthen b1 (bnew w1 _), b1.size, heap_alloc_new w1 _⟩)
  have hqV : w1.heap.size < (w1.alloc (.cells #[.string ⟨#[115, 112, 97, 114, 101]⟩, .int .i64 9, .int .i64 0, .string ⟨#[]⟩, .bool false] 32)).heap.size := by simp
  clear b1
  go_wp2_with fail
  generalize w1.alloc (.cells #[.string ⟨#[115, 112, 97, 114, 101]⟩, .int .i64 9, .int .i64 0, .string ⟨#[]⟩, .bool false] 32) = V at *
  generalize w1.heap.size = q at *
  refine wp_region_held_drew (S := fun X => Below V.heap.size V X ∧ X.cell? ⟨q, 0, none⟩ = some (.string ⟨#[115, 112, 97, 114, 101]⟩) ∧ X.cell? ⟨q, 1, none⟩ = some (.int .i64 9) ∧ X.cell? ⟨q, 2, none⟩ = some (.int .i64 0) ∧ X.cell? ⟨q, 3, none⟩ = some (.string ⟨#[]⟩) ∧ X.cell? ⟨q, 4, none⟩ = some (.bool false)) (by kernel_rfl) (s4_of F0.out (Below.refl _ V).drew) (fun hHeld => ?_)
  refine wpAnyH_take (i := 0) (v := ?_) rfl (by kernel_rfl) (by kernel_rfl) (by kernel_rfl) (fun _ _ _ h => h) (Or.inl ⟨by rfl, ?_⟩) (by assumption) ?_
  rotate_left
  · intro w hSw
    go_simp
    try with_reducible rfl
  simp only [Act.put, List.getElem_toArray, List.getElem_cons_zero, List.setIfInBounds_toArray, List.set_cons_zero, List.set_cons_succ]
  refine wpAnyH_take (i := 2) (v := ?_) rfl (by kernel_rfl) (by kernel_rfl) (by kernel_rfl) (fun _ _ _ h => h) (Or.inl ⟨by rfl, ?_⟩) (by assumption) ?_
  rotate_left
  · intro w hSw
    go_simp
    try with_reducible rfl
  simp only [Act.put, List.getElem_toArray, List.getElem_cons_zero, List.getElem_cons_succ, List.setIfInBounds_toArray, List.set_cons_zero, List.set_cons_succ]
  refine wpAnyH_ready (rs := [1, 3]) (by kernel_rfl) (by simp) ?_
  refine AllReadyH.cons rfl (fun K hK => ?_) (AllReadyH.cons rfl (fun K hK => ?_) AllReadyH.nil)
  · rw [if_pos (by kernel_rfl)]
    refine op_append_copy _ _ rfl (by rfl) a len cap T (by rfl) (HE.out.keep (bthen F0.out.below hHeld.1)) hform hz ?_
    intro v1 X1 own1 b1x
    refine hK.out _ _ (s4_of F0.out (bthen hHeld.1 b1x)) (fun hHeld => ?_)
    clear hK K
    simp only [Act.put, List.getElem_toArray, List.getElem_cons_zero, List.getElem_cons_succ, List.setIfInBounds_toArray, List.set_cons_zero, List.set_cons_succ]
    rw [← turnL_zero] at own1
    refine wpAnyH_ready (rs := [3]) (by kernel_rfl) (by simp) ?_
    refine AllReadyH.cons rfl (fun K hK => ?_) AllReadyH.nil
    go_simp
    refine hK.out _ _ (s4_of F0.out (bthen hHeld.1 (bnew X1 _))) (fun hHeld => ?_)
    clear hK K
    replace own1 := own1.alloc (.cells #[.string ⟨#[115, 112, 97, 114, 101]⟩, .int .i64 9, .int .i64 0, .string ⟨#[]⟩, .bool false] 32)
    refine wpAnyH_ready (rs := [4]) (by kernel_rfl) (by simp) ?_
    refine AllReadyH.cons rfl (fun K hK => ?_) AllReadyH.nil
    rw [if_pos (by kernel_rfl)]
    refine op_append_ent _ _ rfl V.heap.size len v1 (turnL T len 0) (by rfl) own1 _ 1 spE (by rfl) (heap_alloc_new X1 _) hz hHeld.1.size ?_
    intro g cap2 W2 own2 gr2
    have bX2 := hHeld.1.grown gr2 hHeld.1.size (fun k hk => (own1.lt k hk).1)
    refine hK.out _ _ (s4_of F0.out bX2) (fun hHeld => ?_)
    clear hK K gr2 own1
    simp only [Act.put, List.getElem_toArray, List.getElem_cons_zero, List.getElem_cons_succ, List.setIfInBounds_toArray, List.set_cons_zero, List.set_cons_succ]
    refine wpAnyH_take (i := 5) (v := ?_) rfl (by kernel_rfl) (by kernel_rfl) (by kernel_rfl) (fun _ _ _ h => h) (Or.inl ⟨by rfl, ?_⟩) (by assumption) ?_
    rotate_left
    · intro w hSw
      go_simp
      try with_reducible rfl
    simp only [Act.put, List.getElem_toArray, List.getElem_cons_zero, List.getElem_cons_succ, List.setIfInBounds_toArray, List.set_cons_zero, List.set_cons_succ]
    refine wpAnyH_done (by kernel_rfl) ?_ _
    have hgV := (own2.lt g rfl).1
    have hcx := row_max own2
    have hmx : (len : Int) + 1 ≤ 9223372036854775807 := by have := hcx.1; have := hcx.2; unfold maxLen at *; omega
    have hlc : len ≤ cap2 := by omega
    have hii : (len : Int) < (len : Int) + 1 := by omega
    have hi0 : (0 : Int) ≤ (len : Int) := by omega
    have F2 := aside (F0.out.keep bX2)
    have hE2 := aside (HE.out.keep F2.out.below)
    have OW := aside own2
    have CA : Hid (∀ X, Below W2.heap.size W2 X → Calls Tryd.prog 12 #[.slice (some ⟨g, 0, none⟩) len cap2] X fun e w' => e = .returned (allV T len) ∧ Below X.heap.size X w') := fun X b => all_row (LL.out.keep (bthen F2.out.below b)) HE.out (own_on OW.out b)
    have CR : Hid (∀ X, Below W2.heap.size W2 X → Calls Tryd.prog 13 #[.slice a len cap] X fun e w' => e = .returned (allV T len) ∧ Below X.heap.size X w') := fun X b => allRef_any a len cap T X (hE2.out.keep b)
    have CA2 : Hid (∀ (X : World) (j : Nat), Below w.heap.size w X → X.ownsRow V.heap.size 32 5 (.slice (some ⟨g, 0, none⟩) (len + 1) cap2) (len + 1) (entCells (turnL T len j ++ [spE])) → Calls Tryd.prog 12 #[.slice (some ⟨g, 0, none⟩) len cap2] X fun e w' => e = .returned (allV T len) ∧ Below X.heap.size X w') := fun X j b own => all_row (LL.out.keep b) HE.out own
    have CR2 : Hid (∀ X, Below w.heap.size w X → Calls Tryd.prog 13 #[.slice a len cap] X fun e w' => e = .returned (allV T len) ∧ Below X.heap.size X w') := fun X b => allRef_any a len cap T X (HE.out.keep b)
    unfold allV at CA CR CA2 CR2
    generalize allI f0 (firstE T len) = x0 at *
    generalize allI f1 (firstE T len) = x1 at *
    have nn := fun (X : World) => sum_ne_no (a := x0) (b := x1) rfl rfl X
    have yy := sum_same x0 x1
    have en := ent_ne_same ⟨#[115, 112, 97, 114, 101]⟩ ⟨#[]⟩ 9 0 false
    have hl5 := row_cells own2 (i := len) (by rw [List.length_append, turnL_length]; simp)
    rw [turn_last] at hl5
    have S0 : Hid (Below W2.heap.size W2 W2.drew ∧ W2.drew.cell? ⟨q, 0, none⟩ = some (.string ⟨#[115, 112, 97, 114, 101]⟩) ∧ W2.drew.cell? ⟨q, 1, none⟩ = some (.int .i64 9) ∧ W2.drew.cell? ⟨q, 2, none⟩ = some (.int .i64 0) ∧ W2.drew.cell? ⟨q, 3, none⟩ = some (.string ⟨#[]⟩) ∧ W2.drew.cell? ⟨q, 4, none⟩ = some (.bool false) ∧ W2.drew.cell? ⟨g, len * 5, none⟩ = some (.string ⟨#[115, 112, 97, 114, 101]⟩) ∧ W2.drew.cell? ⟨g, len * 5 + 1, none⟩ = some (.int .i64 9) ∧ W2.drew.cell? ⟨g, len * 5 + 2, none⟩ = some (.int .i64 0) ∧ W2.drew.cell? ⟨g, len * 5 + 3, none⟩ = some (.string ⟨#[]⟩) ∧ W2.drew.cell? ⟨g, len * 5 + 4, none⟩ = some (.bool false)) := ⟨(Below.refl _ W2).drew, (quint F2.out.sp).1, (quint F2.out.sp).2.1, (quint F2.out.sp).2.2.1, (quint F2.out.sp).2.2.2.1, (quint F2.out.sp).2.2.2.2, hl5.1, hl5.2.1, hl5.2.2.1, hl5.2.2.2.1, hl5.2.2.2.2⟩
    clear hHeld own2 bX2 hl5 hcx
    go_wp2_with fail
    refine wp_region_held_drew (S := fun X => Below W2.heap.size W2 X ∧ X.cell? ⟨q, 0, none⟩ = some (.string ⟨#[115, 112, 97, 114, 101]⟩) ∧ X.cell? ⟨q, 1, none⟩ = some (.int .i64 9) ∧ X.cell? ⟨q, 2, none⟩ = some (.int .i64 0) ∧ X.cell? ⟨q, 3, none⟩ = some (.string ⟨#[]⟩) ∧ X.cell? ⟨q, 4, none⟩ = some (.bool false) ∧ X.cell? ⟨g, len * 5, none⟩ = some (.string ⟨#[115, 112, 97, 114, 101]⟩) ∧ X.cell? ⟨g, len * 5 + 1, none⟩ = some (.int .i64 9) ∧ X.cell? ⟨g, len * 5 + 2, none⟩ = some (.int .i64 0) ∧ X.cell? ⟨g, len * 5 + 3, none⟩ = some (.string ⟨#[]⟩) ∧ X.cell? ⟨g, len * 5 + 4, none⟩ = some (.bool false)) (by kernel_rfl) S0.out (fun hHeld => ?_)
    clear S0
    refine wpAnyH_take (i := 0) (v := ?_) rfl (by kernel_rfl) (by kernel_rfl) (by kernel_rfl) (fun _ _ _ h => h) (Or.inl ⟨by rfl, ?_⟩) (by assumption) ?_
    rotate_left
    · intro w hSw
      go_simp
      try with_reducible rfl
    simp only [Act.put, List.getElem_toArray, List.getElem_cons_zero, List.setIfInBounds_toArray, List.set_cons_zero, List.set_cons_succ]
    refine wpAnyH_take (i := 1) (v := ?_) rfl (by kernel_rfl) (by kernel_rfl) (by kernel_rfl) (fun _ _ _ h => h) (Or.inl ⟨by rfl, ?_⟩) (by assumption) ?_
    rotate_left
    · intro w hSw
      go_simp
      try with_reducible rfl
    simp only [Act.put, List.getElem_toArray, List.getElem_cons_zero, List.getElem_cons_succ, List.setIfInBounds_toArray, List.set_cons_zero, List.set_cons_succ]
    refine wpAnyH_take (i := 2) (v := ?_) rfl (by kernel_rfl) (by kernel_rfl) (by kernel_rfl) (fun _ _ _ h => h) (Or.inl ⟨by rfl, ?_⟩) (by assumption) ?_
    rotate_left
    · intro w hSw
      go_simp
      try with_reducible rfl
    simp only [Act.put, List.getElem_toArray, List.getElem_cons_zero, List.getElem_cons_succ, List.setIfInBounds_toArray, List.set_cons_zero, List.set_cons_succ]
    refine wpAnyH_take (i := 3) (v := ?_) rfl (by kernel_rfl) (by kernel_rfl) (by kernel_rfl) (fun _ _ _ h => h) (Or.inl ⟨by rfl, ?_⟩) (by assumption) ?_
    rotate_left
    · intro w hSw
      go_simp
      try with_reducible rfl
    simp only [Act.put, List.getElem_toArray, List.getElem_cons_zero, List.getElem_cons_succ, List.setIfInBounds_toArray, List.set_cons_zero, List.set_cons_succ]
    refine wpAnyH_take (i := 5) (v := ?_) rfl (by kernel_rfl) (by kernel_rfl) (by kernel_rfl) (fun _ _ _ h => h) (Or.inl ⟨by rfl, ?_⟩) (by assumption) ?_
    rotate_left
    · intro w hSw
      go_simp
      try with_reducible rfl
    simp only [Act.put, List.getElem_toArray, List.getElem_cons_zero, List.getElem_cons_succ, List.setIfInBounds_toArray, List.set_cons_zero, List.set_cons_succ]
    refine wpAnyH_ready (rs := [4]) (by kernel_rfl) (by simp) ?_
    refine AllReadyH.cons rfl (fun K hK => ?_) AllReadyH.nil
    go_simp
    refine (CA.out _ hHeld.1).mono ?_
    rintro e w9 ⟨rfl, bb⟩
    refine hK.out _ _ (keep5 hHeld bb) (fun hHeld => ?_)
    clear hK K 
    refine wpAnyH_ready (rs := [6]) (by kernel_rfl) (by simp) ?_
    refine AllReadyH.cons rfl (fun K hK => ?_) AllReadyH.nil
    go_simp
    refine (CR.out _ hHeld.1).mono ?_
    rintro e w9 ⟨rfl, bb⟩
    refine hK.out _ _ (keep5 hHeld bb) (fun hHeld => ?_)
    clear hK K 
    refine wpAnyH_take (i := 7) (v := ?_) rfl (by kernel_rfl) (by kernel_rfl) (by kernel_rfl) (fun _ _ _ h => h) (Or.inl ⟨by rfl, ?_⟩) (by assumption) ?_
    rotate_left
    · intro w hSw
      go_simp
      try with_reducible rfl
    simp only [Act.put, List.getElem_toArray, List.getElem_cons_zero, List.getElem_cons_succ, List.setIfInBounds_toArray, List.set_cons_zero, List.set_cons_succ]
    refine wpAnyH_take (i := 8) (v := ?_) rfl (by kernel_rfl) (by kernel_rfl) (by kernel_rfl) (fun _ _ _ h => h) (Or.inl ⟨by rfl, ?_⟩) (by assumption) ?_
    rotate_left
    · intro w hSw
      go_simp
      try with_reducible rfl
    simp only [Act.put, List.getElem_toArray, List.getElem_cons_zero, List.getElem_cons_succ, List.setIfInBounds_toArray, List.set_cons_zero, List.set_cons_succ]
    refine wpAnyH_take (i := 9) (v := ?_) rfl (by kernel_rfl) (by kernel_rfl) (by kernel_rfl) (fun _ _ _ h => h) (Or.inl ⟨by rfl, ?_⟩) (by assumption) ?_
    rotate_left
    · intro w hSw
      go_simp
      try with_reducible rfl
    simp only [Act.put, List.getElem_toArray, List.getElem_cons_zero, List.getElem_cons_succ, List.setIfInBounds_toArray, List.set_cons_zero, List.set_cons_succ]
    refine wpAnyH_take (i := 10) (v := ?_) rfl (by kernel_rfl) (by kernel_rfl) (by kernel_rfl) (fun _ _ _ h => h) (Or.inl ⟨by rfl, ?_⟩) (by assumption) ?_
    rotate_left
    · intro w hSw
      go_simp
      try with_reducible rfl
    simp only [Act.put, List.getElem_toArray, List.getElem_cons_zero, List.getElem_cons_succ, List.setIfInBounds_toArray, List.set_cons_zero, List.set_cons_succ]
    refine wpAnyH_take (i := 11) (v := ?_) rfl (by kernel_rfl) (by kernel_rfl) (by kernel_rfl) (fun _ _ _ h => h) (Or.inl ⟨by rfl, ?_⟩) (by assumption) ?_
    rotate_left
    · intro w hSw
      go_simp
      try with_reducible rfl
    simp only [Act.put, List.getElem_toArray, List.getElem_cons_zero, List.getElem_cons_succ, List.setIfInBounds_toArray, List.set_cons_zero, List.set_cons_succ]
    refine wpAnyH_take (i := 12) (v := ?_) rfl (by kernel_rfl) (by kernel_rfl) (by kernel_rfl) (fun _ _ _ h => h) (Or.inl ⟨by rfl, ?_⟩) (by assumption) ?_
    rotate_left
    · intro w hSw
      go_simp
      try with_reducible rfl
    simp only [Act.put, List.getElem_toArray, List.getElem_cons_zero, List.getElem_cons_succ, List.setIfInBounds_toArray, List.set_cons_zero, List.set_cons_succ]
    refine wpAnyH_take (i := 13) (v := ?_) rfl (by kernel_rfl) (by kernel_rfl) (by kernel_rfl) (fun _ _ _ h => h) (Or.inl ⟨by rfl, ?_⟩) (by assumption) ?_
    rotate_left
    · intro w hSw
      go_simp
      try with_reducible rfl
    simp only [Act.put, List.getElem_toArray, List.getElem_cons_zero, List.getElem_cons_succ, List.setIfInBounds_toArray, List.set_cons_zero, List.set_cons_succ]
    refine wpAnyH_take (i := 14) (v := ?_) rfl (by kernel_rfl) (by kernel_rfl) (by kernel_rfl) (fun _ _ _ h => h) (Or.inl ⟨by rfl, ?_⟩) (by assumption) ?_
    rotate_left
    · intro w hSw
      go_simp
      try with_reducible rfl
    simp only [Act.put, List.getElem_toArray, List.getElem_cons_zero, List.getElem_cons_succ, List.setIfInBounds_toArray, List.set_cons_zero, List.set_cons_succ]
    refine wpAnyH_take (i := 15) (v := ?_) rfl (by kernel_rfl) (by kernel_rfl) (by kernel_rfl) (fun _ _ _ h => h) (Or.inl ⟨by rfl, ?_⟩) (by assumption) ?_
    rotate_left
    · intro w hSw
      go_simp
      try with_reducible rfl
    simp only [Act.put, List.getElem_toArray, List.getElem_cons_zero, List.getElem_cons_succ, List.setIfInBounds_toArray, List.set_cons_zero, List.set_cons_succ]
    refine wpAnyH_take (i := 16) (v := ?_) rfl (by kernel_rfl) (by kernel_rfl) (by kernel_rfl) (fun _ _ _ h => h) (Or.inl ⟨by rfl, ?_⟩) (by assumption) ?_
    rotate_left
    · intro w hSw
      go_simp
      try with_reducible rfl
    simp only [Act.put, List.getElem_toArray, List.getElem_cons_zero, List.getElem_cons_succ, List.setIfInBounds_toArray, List.set_cons_zero, List.set_cons_succ]
    refine wpAnyH_done (by kernel_rfl) ?_ _
    have F3 := aside (F2.out.keep hHeld.1)
    have O3 := aside (own_on OW.out hHeld.1)
    clear hHeld CA CR OW F2 hE2 F0
    go_wp2_with fail
    go_loopw [34] (fun i wr => TRel w V.heap.size len T q g cap2 i wr) (fun i _ => len - (intOf i).toNat)
    case atStart => exact ⟨0, rfl, Nat.zero_le _, F3.out, O3.out⟩
    case round =>
      clear F3 O3
      obtain ⟨j, rfl, hj, F, own⟩ := hrel
      have HF := aside F
      have HO := aside own
      have hqg : q < g := by omega
      by_cases hlt : (j : Int) < (len : Int)
      · have hjl : j < len := by omega
        have hE3 := HE.out.keep F.below
        rcases hE3.2.2 with h0 | ⟨b, off, rfl, hb, hc⟩
        · omega
        · obtain ⟨⟨c0, c1, c2, c3, c4⟩, -⟩ := hc j hjl
          have hr5 := row_cells own (i := j) (by rw [List.length_append, turnL_length]; omega)
          rw [turn_nth T hjl, if_neg (Nat.lt_irrefl j)] at hr5
          obtain ⟨d0, d1, d2, d3, d4⟩ := hr5
          have z3 := own.frozenAt (j * 5 + 3)
          have z4 := own.frozenAt (j * 5 + 4)
          have ST := aside (turn_stored (own_drew' HO.out) hjl)
          have ej := ent_ne_same (T j).k (T j).v (T j).c (T j).n (T j).d
          have hj0 : (0 : Int) ≤ (j : Int) := by omega
          clear hc hE3 own F hb
          generalize T j = t at *
          go_wp2_with fail
          go_region
          all_goals
            go_wp2
            go_roundw
            case rel => exact ⟨j + 1, by go_num, by omega, (HF.out.drew.set hqg _).set hqg _, ST.out⟩
            case measure => simp [intOf]; omega
      · clear own F
        go_wp2_with fail
        refine (CA2.out _ j HF.out.below HO.out).mono ?_
        rintro e w5 ⟨rfl, b5⟩
        have B5 := aside (bthen HF.out.below b5)
        clear b5
        go_wp2_with fail
        refine (CR2.out _ B5.out).mono ?_
        rintro e w6 ⟨rfl, b6⟩
        have B6 := aside (bthen B5.out b6)
        clear b6
        go_wp2
        go_ret
        exact ⟨rfl, B6.out⟩
  · go_simp
    refine hK.out _ _ (s4_of F0.out (bthen hHeld.1 (bnew _ _))) (fun hHeld => ?_)
    clear hK K
    refine wpAnyH_ready (rs := [1]) (by kernel_rfl) (by simp) ?_
    refine AllReadyH.cons rfl (fun K hK => ?_) AllReadyH.nil
    rw [if_pos (by kernel_rfl)]
    refine op_append_copy _ _ rfl (by rfl) a len cap T (by rfl) (HE.out.keep (bthen F0.out.below hHeld.1)) hform hz ?_
    intro v1 X1 own1 b1x
    refine hK.out _ _ (s4_of F0.out (bthen hHeld.1 b1x)) (fun hHeld => ?_)
    clear hK K
    simp only [Act.put, List.getElem_toArray, List.getElem_cons_zero, List.getElem_cons_succ, List.setIfInBounds_toArray, List.set_cons_zero, List.set_cons_succ]
    rw [← turnL_zero] at own1
    replace own1 := own_low own1 (base' := V.heap.size) (by simp)
    refine wpAnyH_ready (rs := [4]) (by kernel_rfl) (by simp) ?_
    refine AllReadyH.cons rfl (fun K hK => ?_) AllReadyH.nil
    rw [if_pos (by kernel_rfl)]
    refine op_append_ent _ _ rfl V.heap.size len v1 (turnL T len 0) (by rfl) own1 _ 1 spE (by rfl) (blk_on (heap_alloc_new V.drew _) b1x) hz hHeld.1.size ?_
    intro g cap2 W2 own2 gr2
    have bX2 := hHeld.1.grown gr2 hHeld.1.size (fun k hk => (own1.lt k hk).1)
    refine hK.out _ _ (s4_of F0.out bX2) (fun hHeld => ?_)
    clear hK K gr2 own1
    simp only [Act.put, List.getElem_toArray, List.getElem_cons_zero, List.getElem_cons_succ, List.setIfInBounds_toArray, List.set_cons_zero, List.set_cons_succ]
    refine wpAnyH_take (i := 5) (v := ?_) rfl (by kernel_rfl) (by kernel_rfl) (by kernel_rfl) (fun _ _ _ h => h) (Or.inl ⟨by rfl, ?_⟩) (by assumption) ?_
    rotate_left
    · intro w hSw
      go_simp
      try with_reducible rfl
    simp only [Act.put, List.getElem_toArray, List.getElem_cons_zero, List.getElem_cons_succ, List.setIfInBounds_toArray, List.set_cons_zero, List.set_cons_succ]
    refine wpAnyH_done (by kernel_rfl) ?_ _
    have hgV := (own2.lt g rfl).1
    have hcx := row_max own2
    have hmx : (len : Int) + 1 ≤ 9223372036854775807 := by have := hcx.1; have := hcx.2; unfold maxLen at *; omega
    have hlc : len ≤ cap2 := by omega
    have hii : (len : Int) < (len : Int) + 1 := by omega
    have hi0 : (0 : Int) ≤ (len : Int) := by omega
    have F2 := aside (F0.out.keep bX2)
    have hE2 := aside (HE.out.keep F2.out.below)
    have OW := aside own2
    have CA : Hid (∀ X, Below W2.heap.size W2 X → Calls Tryd.prog 12 #[.slice (some ⟨g, 0, none⟩) len cap2] X fun e w' => e = .returned (allV T len) ∧ Below X.heap.size X w') := fun X b => all_row (LL.out.keep (bthen F2.out.below b)) HE.out (own_on OW.out b)
    have CR : Hid (∀ X, Below W2.heap.size W2 X → Calls Tryd.prog 13 #[.slice a len cap] X fun e w' => e = .returned (allV T len) ∧ Below X.heap.size X w') := fun X b => allRef_any a len cap T X (hE2.out.keep b)
    have CA2 : Hid (∀ (X : World) (j : Nat), Below w.heap.size w X → X.ownsRow V.heap.size 32 5 (.slice (some ⟨g, 0, none⟩) (len + 1) cap2) (len + 1) (entCells (turnL T len j ++ [spE])) → Calls Tryd.prog 12 #[.slice (some ⟨g, 0, none⟩) len cap2] X fun e w' => e = .returned (allV T len) ∧ Below X.heap.size X w') := fun X j b own => all_row (LL.out.keep b) HE.out own
    have CR2 : Hid (∀ X, Below w.heap.size w X → Calls Tryd.prog 13 #[.slice a len cap] X fun e w' => e = .returned (allV T len) ∧ Below X.heap.size X w') := fun X b => allRef_any a len cap T X (HE.out.keep b)
    unfold allV at CA CR CA2 CR2
    generalize allI f0 (firstE T len) = x0 at *
    generalize allI f1 (firstE T len) = x1 at *
    have nn := fun (X : World) => sum_ne_no (a := x0) (b := x1) rfl rfl X
    have yy := sum_same x0 x1
    have en := ent_ne_same ⟨#[115, 112, 97, 114, 101]⟩ ⟨#[]⟩ 9 0 false
    have hl5 := row_cells own2 (i := len) (by rw [List.length_append, turnL_length]; simp)
    rw [turn_last] at hl5
    have S0 : Hid (Below W2.heap.size W2 W2.drew ∧ W2.drew.cell? ⟨q, 0, none⟩ = some (.string ⟨#[115, 112, 97, 114, 101]⟩) ∧ W2.drew.cell? ⟨q, 1, none⟩ = some (.int .i64 9) ∧ W2.drew.cell? ⟨q, 2, none⟩ = some (.int .i64 0) ∧ W2.drew.cell? ⟨q, 3, none⟩ = some (.string ⟨#[]⟩) ∧ W2.drew.cell? ⟨q, 4, none⟩ = some (.bool false) ∧ W2.drew.cell? ⟨g, len * 5, none⟩ = some (.string ⟨#[115, 112, 97, 114, 101]⟩) ∧ W2.drew.cell? ⟨g, len * 5 + 1, none⟩ = some (.int .i64 9) ∧ W2.drew.cell? ⟨g, len * 5 + 2, none⟩ = some (.int .i64 0) ∧ W2.drew.cell? ⟨g, len * 5 + 3, none⟩ = some (.string ⟨#[]⟩) ∧ W2.drew.cell? ⟨g, len * 5 + 4, none⟩ = some (.bool false)) := ⟨(Below.refl _ W2).drew, (quint F2.out.sp).1, (quint F2.out.sp).2.1, (quint F2.out.sp).2.2.1, (quint F2.out.sp).2.2.2.1, (quint F2.out.sp).2.2.2.2, hl5.1, hl5.2.1, hl5.2.2.1, hl5.2.2.2.1, hl5.2.2.2.2⟩
    clear hHeld own2 bX2 hl5 hcx
    go_wp2_with fail
    refine wp_region_held_drew (S := fun X => Below W2.heap.size W2 X ∧ X.cell? ⟨q, 0, none⟩ = some (.string ⟨#[115, 112, 97, 114, 101]⟩) ∧ X.cell? ⟨q, 1, none⟩ = some (.int .i64 9) ∧ X.cell? ⟨q, 2, none⟩ = some (.int .i64 0) ∧ X.cell? ⟨q, 3, none⟩ = some (.string ⟨#[]⟩) ∧ X.cell? ⟨q, 4, none⟩ = some (.bool false) ∧ X.cell? ⟨g, len * 5, none⟩ = some (.string ⟨#[115, 112, 97, 114, 101]⟩) ∧ X.cell? ⟨g, len * 5 + 1, none⟩ = some (.int .i64 9) ∧ X.cell? ⟨g, len * 5 + 2, none⟩ = some (.int .i64 0) ∧ X.cell? ⟨g, len * 5 + 3, none⟩ = some (.string ⟨#[]⟩) ∧ X.cell? ⟨g, len * 5 + 4, none⟩ = some (.bool false)) (by kernel_rfl) S0.out (fun hHeld => ?_)
    clear S0
    refine wpAnyH_take (i := 0) (v := ?_) rfl (by kernel_rfl) (by kernel_rfl) (by kernel_rfl) (fun _ _ _ h => h) (Or.inl ⟨by rfl, ?_⟩) (by assumption) ?_
    rotate_left
    · intro w hSw
      go_simp
      try with_reducible rfl
    simp only [Act.put, List.getElem_toArray, List.getElem_cons_zero, List.setIfInBounds_toArray, List.set_cons_zero, List.set_cons_succ]
    refine wpAnyH_take (i := 1) (v := ?_) rfl (by kernel_rfl) (by kernel_rfl) (by kernel_rfl) (fun _ _ _ h => h) (Or.inl ⟨by rfl, ?_⟩) (by assumption) ?_
    rotate_left
    · intro w hSw
      go_simp
      try with_reducible rfl
    simp only [Act.put, List.getElem_toArray, List.getElem_cons_zero, List.getElem_cons_succ, List.setIfInBounds_toArray, List.set_cons_zero, List.set_cons_succ]
    refine wpAnyH_take (i := 2) (v := ?_) rfl (by kernel_rfl) (by kernel_rfl) (by kernel_rfl) (fun _ _ _ h => h) (Or.inl ⟨by rfl, ?_⟩) (by assumption) ?_
    rotate_left
    · intro w hSw
      go_simp
      try with_reducible rfl
    simp only [Act.put, List.getElem_toArray, List.getElem_cons_zero, List.getElem_cons_succ, List.setIfInBounds_toArray, List.set_cons_zero, List.set_cons_succ]
    refine wpAnyH_take (i := 3) (v := ?_) rfl (by kernel_rfl) (by kernel_rfl) (by kernel_rfl) (fun _ _ _ h => h) (Or.inl ⟨by rfl, ?_⟩) (by assumption) ?_
    rotate_left
    · intro w hSw
      go_simp
      try with_reducible rfl
    simp only [Act.put, List.getElem_toArray, List.getElem_cons_zero, List.getElem_cons_succ, List.setIfInBounds_toArray, List.set_cons_zero, List.set_cons_succ]
    refine wpAnyH_take (i := 5) (v := ?_) rfl (by kernel_rfl) (by kernel_rfl) (by kernel_rfl) (fun _ _ _ h => h) (Or.inl ⟨by rfl, ?_⟩) (by assumption) ?_
    rotate_left
    · intro w hSw
      go_simp
      try with_reducible rfl
    simp only [Act.put, List.getElem_toArray, List.getElem_cons_zero, List.getElem_cons_succ, List.setIfInBounds_toArray, List.set_cons_zero, List.set_cons_succ]
    refine wpAnyH_ready (rs := [4]) (by kernel_rfl) (by simp) ?_
    refine AllReadyH.cons rfl (fun K hK => ?_) AllReadyH.nil
    go_simp
    refine (CA.out _ hHeld.1).mono ?_
    rintro e w9 ⟨rfl, bb⟩
    refine hK.out _ _ (keep5 hHeld bb) (fun hHeld => ?_)
    clear hK K 
    refine wpAnyH_ready (rs := [6]) (by kernel_rfl) (by simp) ?_
    refine AllReadyH.cons rfl (fun K hK => ?_) AllReadyH.nil
    go_simp
    refine (CR.out _ hHeld.1).mono ?_
    rintro e w9 ⟨rfl, bb⟩
    refine hK.out _ _ (keep5 hHeld bb) (fun hHeld => ?_)
    clear hK K 
    refine wpAnyH_take (i := 7) (v := ?_) rfl (by kernel_rfl) (by kernel_rfl) (by kernel_rfl) (fun _ _ _ h => h) (Or.inl ⟨by rfl, ?_⟩) (by assumption) ?_
    rotate_left
    · intro w hSw
      go_simp
      try with_reducible rfl
    simp only [Act.put, List.getElem_toArray, List.getElem_cons_zero, List.getElem_cons_succ, List.setIfInBounds_toArray, List.set_cons_zero, List.set_cons_succ]
    refine wpAnyH_take (i := 8) (v := ?_) rfl (by kernel_rfl) (by kernel_rfl) (by kernel_rfl) (fun _ _ _ h => h) (Or.inl ⟨by rfl, ?_⟩) (by assumption) ?_
    rotate_left
    · intro w hSw
      go_simp
      try with_reducible rfl
    simp only [Act.put, List.getElem_toArray, List.getElem_cons_zero, List.getElem_cons_succ, List.setIfInBounds_toArray, List.set_cons_zero, List.set_cons_succ]
    refine wpAnyH_take (i := 9) (v := ?_) rfl (by kernel_rfl) (by kernel_rfl) (by kernel_rfl) (fun _ _ _ h => h) (Or.inl ⟨by rfl, ?_⟩) (by assumption) ?_
    rotate_left
    · intro w hSw
      go_simp
      try with_reducible rfl
    simp only [Act.put, List.getElem_toArray, List.getElem_cons_zero, List.getElem_cons_succ, List.setIfInBounds_toArray, List.set_cons_zero, List.set_cons_succ]
    refine wpAnyH_take (i := 10) (v := ?_) rfl (by kernel_rfl) (by kernel_rfl) (by kernel_rfl) (fun _ _ _ h => h) (Or.inl ⟨by rfl, ?_⟩) (by assumption) ?_
    rotate_left
    · intro w hSw
      go_simp
      try with_reducible rfl
    simp only [Act.put, List.getElem_toArray, List.getElem_cons_zero, List.getElem_cons_succ, List.setIfInBounds_toArray, List.set_cons_zero, List.set_cons_succ]
    refine wpAnyH_take (i := 11) (v := ?_) rfl (by kernel_rfl) (by kernel_rfl) (by kernel_rfl) (fun _ _ _ h => h) (Or.inl ⟨by rfl, ?_⟩) (by assumption) ?_
    rotate_left
    · intro w hSw
      go_simp
      try with_reducible rfl
    simp only [Act.put, List.getElem_toArray, List.getElem_cons_zero, List.getElem_cons_succ, List.setIfInBounds_toArray, List.set_cons_zero, List.set_cons_succ]
    refine wpAnyH_take (i := 12) (v := ?_) rfl (by kernel_rfl) (by kernel_rfl) (by kernel_rfl) (fun _ _ _ h => h) (Or.inl ⟨by rfl, ?_⟩) (by assumption) ?_
    rotate_left
    · intro w hSw
      go_simp
      try with_reducible rfl
    simp only [Act.put, List.getElem_toArray, List.getElem_cons_zero, List.getElem_cons_succ, List.setIfInBounds_toArray, List.set_cons_zero, List.set_cons_succ]
    refine wpAnyH_take (i := 13) (v := ?_) rfl (by kernel_rfl) (by kernel_rfl) (by kernel_rfl) (fun _ _ _ h => h) (Or.inl ⟨by rfl, ?_⟩) (by assumption) ?_
    rotate_left
    · intro w hSw
      go_simp
      try with_reducible rfl
    simp only [Act.put, List.getElem_toArray, List.getElem_cons_zero, List.getElem_cons_succ, List.setIfInBounds_toArray, List.set_cons_zero, List.set_cons_succ]
    refine wpAnyH_take (i := 14) (v := ?_) rfl (by kernel_rfl) (by kernel_rfl) (by kernel_rfl) (fun _ _ _ h => h) (Or.inl ⟨by rfl, ?_⟩) (by assumption) ?_
    rotate_left
    · intro w hSw
      go_simp
      try with_reducible rfl
    simp only [Act.put, List.getElem_toArray, List.getElem_cons_zero, List.getElem_cons_succ, List.setIfInBounds_toArray, List.set_cons_zero, List.set_cons_succ]
    refine wpAnyH_take (i := 15) (v := ?_) rfl (by kernel_rfl) (by kernel_rfl) (by kernel_rfl) (fun _ _ _ h => h) (Or.inl ⟨by rfl, ?_⟩) (by assumption) ?_
    rotate_left
    · intro w hSw
      go_simp
      try with_reducible rfl
    simp only [Act.put, List.getElem_toArray, List.getElem_cons_zero, List.getElem_cons_succ, List.setIfInBounds_toArray, List.set_cons_zero, List.set_cons_succ]
    refine wpAnyH_take (i := 16) (v := ?_) rfl (by kernel_rfl) (by kernel_rfl) (by kernel_rfl) (fun _ _ _ h => h) (Or.inl ⟨by rfl, ?_⟩) (by assumption) ?_
    rotate_left
    · intro w hSw
      go_simp
      try with_reducible rfl
    simp only [Act.put, List.getElem_toArray, List.getElem_cons_zero, List.getElem_cons_succ, List.setIfInBounds_toArray, List.set_cons_zero, List.set_cons_succ]
    refine wpAnyH_done (by kernel_rfl) ?_ _
    have F3 := aside (F2.out.keep hHeld.1)
    have O3 := aside (own_on OW.out hHeld.1)
    clear hHeld CA CR OW F2 hE2 F0
    go_wp2_with fail
    go_loopw [34] (fun i wr => TRel w V.heap.size len T q g cap2 i wr) (fun i _ => len - (intOf i).toNat)
    case atStart => exact ⟨0, rfl, Nat.zero_le _, F3.out, O3.out⟩
    case round =>
      clear F3 O3
      obtain ⟨j, rfl, hj, F, own⟩ := hrel
      have HF := aside F
      have HO := aside own
      have hqg : q < g := by omega
      by_cases hlt : (j : Int) < (len : Int)
      · have hjl : j < len := by omega
        have hE3 := HE.out.keep F.below
        rcases hE3.2.2 with h0 | ⟨b, off, rfl, hb, hc⟩
        · omega
        · obtain ⟨⟨c0, c1, c2, c3, c4⟩, -⟩ := hc j hjl
          have hr5 := row_cells own (i := j) (by rw [List.length_append, turnL_length]; omega)
          rw [turn_nth T hjl, if_neg (Nat.lt_irrefl j)] at hr5
          obtain ⟨d0, d1, d2, d3, d4⟩ := hr5
          have z3 := own.frozenAt (j * 5 + 3)
          have z4 := own.frozenAt (j * 5 + 4)
          have ST := aside (turn_stored (own_drew' HO.out) hjl)
          have ej := ent_ne_same (T j).k (T j).v (T j).c (T j).n (T j).d
          have hj0 : (0 : Int) ≤ (j : Int) := by omega
          clear hc hE3 own F hb
          generalize T j = t at *
          go_wp2_with fail
          go_region
          all_goals
            go_wp2
            go_roundw
            case rel => exact ⟨j + 1, by go_num, by omega, (HF.out.drew.set hqg _).set hqg _, ST.out⟩
            case measure => simp [intOf]; omega
      · clear own F
        go_wp2_with fail
        refine (CA2.out _ j HF.out.below HO.out).mono ?_
        rintro e w5 ⟨rfl, b5⟩
        have B5 := aside (bthen HF.out.below b5)
        clear b5
        go_wp2_with fail
        refine (CR2.out _ B5.out).mono ?_
        rintro e w6 ⟨rfl, b6⟩
        have B6 := aside (bthen B5.out b6)
        clear b6
        go_wp2
        go_ret
        exact ⟨rfl, B6.out⟩

end Go.Proofs.YtlieljnaecbmdaaDoor
