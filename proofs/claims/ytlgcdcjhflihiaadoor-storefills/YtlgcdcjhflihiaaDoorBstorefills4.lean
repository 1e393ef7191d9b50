/-
  Plain mathematics: a tree's n-th row, what a node holds, folds of rows by their numbers.
  Len, Get, Rank, At, New and Clone (E).
  Plain mathematics: a tree's rows as a sorted list, and what Put, Get, Rank, At and Fold are of it.
  A region that draws its order inside a round of a range over a function: by the walk that holds a set of facts.
-/
import Derived.Test.YtlgcdcjhflihiaaDoorBstorefills2
import Derived.Test.YtlgcdcjhflihiaaDoorBstorefills3
import Derived.Test.YtlgcdcjhflihiaaDoorBstorefills1
import Derived.RangeFuncNested
import Derived.RangeFuncBound
import Derived.RangeFuncCalls
import Derived.RangeFuncLeaves
import Derived.RangeFuncWrites
import Derived.Shelf.Abstract
import Derived.Shelf.RegionOpen
import Derived.OwnWalkIn
import Derived.TacticsInMore
import Derived.LoopNIn
import Derived.LoopIn
import Derived.Stop.RegionWithIn
import Derived.OrdersHeld
import Derived.OrdersIn
import Derived.Deep.RegionHeld
namespace Go.Proofs.YtlgcdcjhflihiaaDoor
open Go.RowKit
set_option linter.unusedVariables false
namespace Tr
variable {β α : Type}
def val (z : β) : Tr β α → β
  | nil => z
  | node _ _ v _ _ => v

def key : Tr β α → ByteArray
  | nil => ⟨#[]⟩
  | node _ k _ _ _ => k

/-- The tree whose root is row i. -/
def nth : Tr β α → Int → Tr β α
  | nil, _ => nil
  | node l k v s r, i => if i < (l.cnt : Int) then nth l i else if (l.cnt : Int) < i then nth r (i - ((l.cnt : Int) + 1)) else node l k v s r

/-- The fold of the rows from i on below j. -/
def fld (J : α → α → α) (e : α) : Tr β α → Nat → Nat → α
  | nil, _, _ => e
  | node l k v s r, i, j =>
    if i = 0 ∧ j = (node l k v s r).cnt then (node l k v s r).sum J e else
    if j ≤ l.cnt then fld J e l i j else
    if l.cnt < i then fld J e r (i - l.cnt - 1) (j - l.cnt - 1) else
    if l.cnt + 1 < j then J (if i < l.cnt then J (fld J e l i l.cnt) s else s) (fld J e r 0 (j - l.cnt - 1)) else (if i < l.cnt then J (fld J e l i l.cnt) s else s)

/-- How often it joins. -/
def fldC : Tr β α → Nat → Nat → Nat
  | nil, _, _ => 0
  | node l k v s r, i, j =>
    if i = 0 ∧ j = (node l k v s r).cnt then 0 else
    if j ≤ l.cnt then fldC l i j else
    if l.cnt < i then fldC r (i - l.cnt - 1) (j - l.cnt - 1) else
    (if i < l.cnt then fldC l i l.cnt + 1 else 0) + (if l.cnt + 1 < j then fldC r 0 (j - l.cnt - 1) + 1 else 0)

theorem fldC_full (t : Tr β α) : fldC t 0 t.cnt = 0 := by
  cases t with
  | nil => rfl
  | node l k v s r => simp [fldC]

theorem fldC_tail' : ∀ (t : Tr β α) (i j : Nat), j = t.cnt → fldC t i j ≤ 2 * t.ht
  | nil, i, j, _ => by simp [fldC]
  | node l k v s r, i, j, hj => by
    have h1 := fldC_tail' l i l.cnt rfl
    have h2 := fldC_tail' r (i - l.cnt - 1) (j - l.cnt - 1) (by simp only [cnt] at hj; omega)
    have h3 : fldC r 0 (j - l.cnt - 1) = 0 := by
      rw [show j - l.cnt - 1 = r.cnt from by simp only [cnt] at hj; omega]; exact fldC_full r
    simp only [fldC, ht]
    split
    · omega
    · split
      · simp only [cnt] at hj; omega
      · split
        · omega
        · rw [h3]; split <;> split <;> omega

theorem fldC_tail (t : Tr β α) (i : Nat) : fldC t i t.cnt ≤ 2 * t.ht := fldC_tail' t i _ rfl

theorem fldC_head : ∀ (t : Tr β α) (j : Nat), fldC t 0 j ≤ 2 * t.ht
  | nil, j => by simp [fldC]
  | node l k v s r, j => by
    have h1 := fldC_head l j
    have h2 := fldC_head r (j - l.cnt - 1)
    have h3 := fldC_full l
    simp only [fldC, ht]
    split
    · omega
    · split
      · omega
      · split
        · omega
        · rw [h3]; split <;> split <;> omega

theorem fldC_le : ∀ (t : Tr β α) (i j : Nat), fldC t i j ≤ 4 * t.ht
  | nil, i, j => by simp [fldC]
  | node l k v s r, i, j => by
    have h1 := fldC_le l i j
    have h2 := fldC_le r (i - l.cnt - 1) (j - l.cnt - 1)
    have h3 := fldC_tail l i
    have h4 := fldC_head r (j - l.cnt - 1)
    simp only [fldC, ht]
    split
    · omega
    · split
      · omega
      · split
        · omega
        · split <;> split <;> omega

theorem fld_le {z : α → Nat} {J : α → α → α} (hJ : ∀ a b, z (J a b) ≤ z a + z b) (e : α) : ∀ (t : Tr β α) (i j : Nat), i < j → j ≤ t.cnt → z (fld J e t i j) ≤ t.wt z
  | nil, i, j, h1, h2 => by simp [cnt] at h2; omega
  | node l k v s r, i, j, h1, h2 => by
    have hs := sum_le hJ e (node l k v s r) rfl
    have a1 := fld_le hJ e l i j h1
    have a2 : l.cnt < i → z (fld J e r (i - l.cnt - 1) (j - l.cnt - 1)) ≤ r.wt z := fun h => fld_le hJ e r _ _ (by omega) (by simp only [cnt] at h2; omega)
    have a3 : i < l.cnt → z (fld J e l i l.cnt) ≤ l.wt z := fun h => fld_le hJ e l _ _ h (Nat.le_refl _)
    have a4 : l.cnt + 1 < j → z (fld J e r 0 (j - l.cnt - 1)) ≤ r.wt z := fun h => fld_le hJ e r _ _ (by omega) (by simp only [cnt] at h2; omega)
    have a5 : i < l.cnt → z (J (fld J e l i l.cnt) s) ≤ l.wt z + z s := fun h => by have := hJ (fld J e l i l.cnt) s; have := a3 h; omega
    simp only [fld]
    split
    · exact hs
    · simp only [wt]
      split
      · have := a1 (by assumption); omega
      · split
        · have := a2 (by assumption); omega
        · split
          · rename_i g
            have b1 := a4 g
            split
            · rename_i g2
              have := hJ (J (fld J e l i l.cnt) s) (fld J e r 0 (j - l.cnt - 1))
              have := a5 g2
              omega
            · have := hJ s (fld J e r 0 (j - l.cnt - 1))
              omega
          · split
            · rename_i g2
              have := a5 g2
              omega
            · omega

/-- Fold, as it is asked. -/
def fol (J : α → α → α) (e : α) (t : Tr β α) (i j : Int) : α := if max i 0 < min j (t.cnt : Int) then fld J e t (max i 0).toNat (min j (t.cnt : Int)).toNat else e

def folC (t : Tr β α) (i j : Int) : Nat := if max i 0 < min j (t.cnt : Int) then fldC t (max i 0).toNat (min j (t.cnt : Int)).toNat else 0

theorem folC_le (t : Tr β α) (i j : Int) : folC t i j ≤ 4 * t.ht := by
  unfold folC
  split
  · exact fldC_le _ _ _
  · omega

theorem fol_eq (J : α → α → α) (e : α) (t : Tr β α) (i j : Int) {i' j' : Int} (hi : max i 0 = i') (hj : min j (t.cnt : Int) = j') : fol J e t i j = if i' < j' then fld J e t i'.toNat j'.toNat else e := by subst hi hj; rfl

theorem folC_eq (t : Tr β α) (i j : Int) {i' j' : Int} (hi : max i 0 = i') (hj : min j (t.cnt : Int) = j') : folC t i j = if i' < j' then fldC t i'.toNat j'.toNat else 0 := by subst hi hj; rfl

end Tr
end Go.Proofs.YtlgcdcjhflihiaaDoor
namespace Go.Proofs.YtlgcdcjhflihiaaDoor
open Go.RowKit
set_option linter.unusedVariables false

set_option maxHeartbeats 1600000 in
theorem lenE {w : World} {tb : Nat} {jv : Value} {p0 : Option Addr} {T : Tr En Tl} (ht : TObjE w tb jv p0) (hT : IsTE w p0 T) :
    Calls Tryd.prog 32 #[.pointer (some ⟨tb, 0, none⟩)] w fun e w' => e = .returned (.int .i64 (T.cnt : Int)) ∧ w' = w := by
  obtain ⟨-, -, -, -, r0, -⟩ := tobjE ht
  have C := aside (rowsE hT)
  generalize (T.cnt : Int) = n at *
  clear ht hT
  go_enter Tryd.func32, Tryd.ntmps32
  go_wp2_with fail
  refine C.out.mono ?_
  rintro e w1 ⟨rfl, rfl⟩
  go_wp2
  go_ret
  exact ⟨rfl, rfl⟩

set_option maxHeartbeats 1600000 in
set_option maxRecDepth 100000 in
theorem rankE (k : ByteArray) {w : World} {tb : Nat} {jv : Value} {p0 : Option Addr} {T : Tr En Tl} (ht : TObjE w tb jv p0) (hT : IsTE w p0 T) (hh : T.ht ≤ 1000000) (hcn : T.cnt ≤ 4611686018427387904) :
    Calls Tryd.prog 57 #[.pointer (some ⟨tb, 0, none⟩), .string k] w fun e w' => e = .returned (.int .i64 (Tr.lower k T : Int)) ∧ Below w.heap.size w w' := by
  have C := aside (downE k ht hT hh hcn)
  clear ht hT hh hcn
  go_enter Tryd.func57, Tryd.ntmps57
  go_wp2_with fail
  refine C.out.mono ?_
  rintro e w1 ⟨pre, p, b, cap, rfl, h1, h2, h3, h4, h5⟩
  have H3 := aside h3
  clear h1 h2 h3 h4 h5 C
  go_wp2
  go_ret
  exact ⟨rfl, H3.out⟩

set_option maxHeartbeats 1600000 in
set_option maxRecDepth 100000 in
theorem getE (k : ByteArray) {w : World} {tb : Nat} {jv : Value} {p0 : Option Addr} {T : Tr En Tl} (ht : TObjE w tb jv p0) (hT : IsTE w p0 T) (hh : T.ht ≤ 1000000) (hcn : T.cnt ≤ 4611686018427387904) :
    Calls Tryd.prog 36 #[.pointer (some ⟨tb, 0, none⟩), .string k] w fun e w' => e = .returned (.tuple #[.agg #[.string ((Tr.found k T).val eNone).k, .int .i64 ((Tr.found k T).val eNone).c, .int .i64 ((Tr.found k T).val eNone).n, .string ((Tr.found k T).val eNone).v, .bool ((Tr.found k T).val eNone).d], .bool (!(Tr.found k T).isNil)]) ∧ Below w.heap.size w w' := by
  have b0 := bnew w (.cells #[.string ⟨#[]⟩, .int .i64 0, .int .i64 0, .string ⟨#[]⟩, .bool false] 39)
  have C := aside (downE k (blk_on ht b0) (hT.on ((Stay.refl _ _).alloc _)) hh hcn)
  have B0 := aside b0
  have G0 := aside (heap_alloc_new w (.cells #[.string ⟨#[]⟩, .int .i64 0, .int .i64 0, .string ⟨#[]⟩, .bool false] 39))
  obtain ⟨F, hF⟩ : ∃ F, Tr.found k T = F := ⟨_, rfl⟩
  have HF := aside hF
  rw [hF]
  clear ht hT hh hcn hF b0
  go_enter Tryd.func36, Tryd.ntmps36
  go_wp2_with fail
  refine C.out.mono ?_
  rintro e w1 ⟨pre, p, b, cap, rfl, h1, h2, h3, h4, h5⟩
  have H3 := aside (bthen B0.out h3)
  rw [HF.out] at h1
  have G1 := aside (blk_on G0.out h3)
  have H4 := aside h3
  clear h2 h3 h4 h5 C HF G0
  have hB := aside H3.out
  cases F with
  | nil =>
    obtain rfl : p = none := h1
    obtain ⟨s0, s1, s2, s3, s4, z0, z1, z2, z3, z4⟩ := penta (blk_on G1.out (bnew w1 (.cells #[.string ⟨#[]⟩, .int .i64 0, .int .i64 0, .string ⟨#[]⟩, .bool false] 39)))
    go_wp2
    refine bodyPost_ret (v := .tuple #[.agg #[.string ⟨#[]⟩, .int .i64 0, .int .i64 0, .string ⟨#[]⟩, .bool false], .bool false]) (by simp [results, Tryd.results36, go_sem, s0, s1, s2, s3, s4]) rfl ⟨rfl, ?_⟩
    exact (((((bthen hB.out (bnew w1 _)).setCell (by dsimp only; omega) _).setCell (by dsimp only; omega) _).setCell (by dsimp only; omega) _).setCell (by dsimp only; omega) _).setCell (by dsimp only; omega) _
  | node l k' v s r =>
    obtain ⟨b', lp, rp, rfl, hb, _, _⟩ := h1
    have hn := nodeE (blk_on hb H4.out)
    obtain ⟨-, c0, c1, c2, c3, c4, -, -, -, -, -, -, -, -, -, -⟩ := hn
    obtain ⟨s0, s1, s2, s3, s4, z0, z1, z2, z3, z4⟩ := penta G1.out
    clear hb
    go_wp2
    refine bodyPost_ret (v := .tuple #[.agg #[.string v.k, .int .i64 v.c, .int .i64 v.n, .string v.v, .bool v.d], .bool true]) (by simp [results, Tryd.results36, go_sem, s0, s1, s2, s3, s4]) rfl ⟨rfl, ?_⟩
    exact (((((hB.out).setCell (by dsimp only; omega) _).setCell (by dsimp only; omega) _).setCell (by dsimp only; omega) _).setCell (by dsimp only; omega) _).setCell (by dsimp only; omega) _

set_option maxHeartbeats 1600000 in
set_option maxRecDepth 100000 in
theorem newE (fn : Fn) (first cap : Array Value) (w : World) :
    Calls Tryd.prog 65 #[.agg #[.int .i64 0, .int .u64 0, .int .u64 0], .func fn first cap] w fun e w' => ∃ tb, e = .returned (.pointer (some ⟨tb, 0, none⟩)) ∧ TObjE w' tb (.func fn first cap) none ∧ Below w.heap.size w w' ∧ w.heap.size ≤ tb := by
  have H1 := aside (heap_alloc_new (w.alloc (.cells #[.int .i64 0, .int .u64 0, .int .u64 0] 64)) (.cells #[.int .i64 0, .int .u64 0, .int .u64 0, .func fn first cap, .pointer none] 111))
  go_enter Tryd.func65, Tryd.ntmps65
  go_wp2
  go_ret
  refine ⟨_, rfl, by have := H1.out; simp only [World.size_alloc] at this; exact this, (bnew w _).alloc (by simp) _, by omega⟩

end Go.Proofs.YtlgcdcjhflihiaaDoor
namespace Go.Proofs.YtlgcdcjhflihiaaDoor
open Go.RowKit
set_option linter.unusedVariables false
variable {β α : Type}
/-- Keys rise. -/
def Rises (l : List (Rw β α)) : Prop := l.Pairwise (fun a b => kLt a.k b.k = true)

/-- A row put into a sorted list. -/
def ins (k : ByteArray) (v : β) (s : α) : List (Rw β α) → List (Rw β α)
  | [] => [⟨k, v, s⟩]
  | y :: l => if kLt k y.k then ⟨k, v, s⟩ :: y :: l else if kLt y.k k then y :: ins k v s l else ⟨k, v, s⟩ :: l

theorem ins_left {k : ByteArray} {v : β} {s : α} {y : Rw β α} (B : List (Rw β α)) (h : kLt k y.k = true) : ∀ A : List (Rw β α), ins k v s (A ++ y :: B) = ins k v s A ++ y :: B
  | [] => by simp [ins, h]
  | a :: A => by
    simp only [List.cons_append, ins, ins_left B h A]
    split
    · rfl
    · split <;> rfl

theorem ins_right {k : ByteArray} {v : β} {s : α} : ∀ (A B : List (Rw β α)), (∀ a ∈ A, kLt a.k k = true) → ins k v s (A ++ B) = A ++ ins k v s B
  | [], B, _ => rfl
  | a :: A, B, h => by
    have h1 := h a List.mem_cons_self
    simp only [List.cons_append, ins, kLt_asymm h1, h1, if_true, if_false, Bool.false_eq_true, ins_right A B (fun x hx => h x (List.mem_cons_of_mem _ hx))]

theorem ins_same {k : ByteArray} {v : β} {s : α} {y : Rw β α} (A B : List (Rw β α)) (hA : ∀ a ∈ A, kLt a.k k = true) (h1 : kLt k y.k = false) (h2 : kLt y.k k = false) : ins k v s (A ++ y :: B) = A ++ ⟨k, v, s⟩ :: B := by
  rw [ins_right A _ hA]; simp [ins, h1, h2]

theorem rises_parts {A B : List (Rw β α)} {y : Rw β α} (h : Rises (A ++ y :: B)) : Rises A ∧ Rises B ∧ (∀ a ∈ A, kLt a.k y.k = true) ∧ (∀ b ∈ B, kLt y.k b.k = true) ∧ (∀ a ∈ A, ∀ b ∈ B, kLt a.k b.k = true) := by
  unfold Rises at *
  rw [List.pairwise_append, List.pairwise_cons] at h
  exact ⟨h.1, h.2.1.2, fun a ha => h.2.2 a ha y List.mem_cons_self, h.2.1.1, fun a ha b hb => h.2.2 a ha b (List.mem_cons_of_mem _ hb)⟩

theorem rows_put (k : ByteArray) (v : β) (s : α) : ∀ t : Tr β α, Rises t.rows → (Tr.put k v s t).rows = ins k v s t.rows
  | .nil, _ => rfl
  | .node l k' v' s' r, h => by
    obtain ⟨h1, h2, h3, h4, _⟩ := rises_parts h
    simp only [Tr.put, Tr.rows]
    cases q1 : kLt k k'
    · cases q2 : kLt k' k
      · simp only [Bool.false_eq_true, if_false, Tr.rows]
        rw [ins_same l.rows r.rows (fun a ha => kLt_trans_le (h3 a ha) q1) q1 q2]
      · simp only [Bool.false_eq_true, if_false, if_true]
        rw [Tr.rows_level, rows_put k v s r h2, ins_right l.rows _ (fun a ha => kLt_trans (h3 a ha) q2)]
        simp [ins, q1, q2]
    · simp only [if_true]
      rw [Tr.rows_level, rows_put k v s l h1, ins_left r.rows q1]

theorem ins_mem {k : ByteArray} {v : β} {s : α} : ∀ (l : List (Rw β α)) (x : Rw β α), x ∈ ins k v s l → x = ⟨k, v, s⟩ ∨ x ∈ l
  | [], x, h => by simp [ins] at h; exact .inl h
  | y :: l, x, h => by
    simp only [ins] at h
    split at h
    · rcases List.mem_cons.1 h with h | h
      · exact .inl h
      · exact .inr h
    · split at h
      · rcases List.mem_cons.1 h with h | h
        · exact .inr (h ▸ List.mem_cons_self)
        · rcases ins_mem l x h with h | h
          · exact .inl h
          · exact .inr (List.mem_cons_of_mem _ h)
      · rcases List.mem_cons.1 h with h | h
        · exact .inl h
        · exact .inr (List.mem_cons_of_mem _ h)

theorem rises_ins {k : ByteArray} {v : β} {s : α} : ∀ l : List (Rw β α), Rises l → Rises (ins k v s l)
  | [], _ => by simp [ins, Rises]
  | y :: l, h => by
    have h' := h
    unfold Rises at h'
    rw [List.pairwise_cons] at h'
    obtain ⟨h1, h2⟩ := h'
    simp only [ins]
    split
    · rename_i q
      unfold Rises
      rw [List.pairwise_cons]
      refine ⟨fun b hb => ?_, h⟩
      rcases List.mem_cons.1 hb with rfl | hb
      · exact q
      · exact kLt_trans q (h1 b hb)
    · rename_i q
      split
      · rename_i q2
        unfold Rises
        rw [List.pairwise_cons]
        refine ⟨fun b hb => ?_, rises_ins l h2⟩
        rcases ins_mem l b hb with rfl | hb
        · exact q2
        · exact h1 b hb
      · rename_i q2
        unfold Rises
        rw [List.pairwise_cons]
        refine ⟨fun b hb => ?_, h2⟩
        have e : k = y.k := kLt_total (by simpa using q) (by simpa using q2)
        show kLt k b.k = true
        rw [e]; exact h1 b hb

theorem ins_length {k : ByteArray} {v : β} {s : α} : ∀ l : List (Rw β α), (ins k v s l).length ≤ l.length + 1
  | [] => by simp [ins]
  | y :: l => by
    have := ins_length (k := k) (v := v) (s := s) l
    simp only [ins]
    split
    · simp
    · split
      · simp only [List.length_cons]; omega
      · simp

/-- The row of a key. -/
def look (k : ByteArray) (l : List (Rw β α)) : Option (Rw β α) := l.find? (fun y => !kLt k y.k && !kLt y.k k)

/-- How many rows have a lower key. -/
def rankL (k : ByteArray) (l : List (Rw β α)) : Nat := (l.filter (fun y => kLt y.k k)).length

theorem look_none {k : ByteArray} {l : List (Rw β α)} (h : ∀ y ∈ l, kLt k y.k = true ∨ kLt y.k k = true) : look k l = none := by
  unfold look
  rw [List.find?_eq_none]
  intro y hy
  rcases h y hy with h | h <;> simp [h]

theorem look_found (k : ByteArray) : ∀ t : Tr β α, Rises t.rows → look k t.rows = match Tr.found k t with | .nil => none | .node _ k' v s _ => some ⟨k', v, s⟩
  | .nil, _ => rfl
  | .node l k' v' s' r, h => by
    obtain ⟨h1, h2, h3, h4, _⟩ := rises_parts h
    have il := look_found k l h1
    have ir := look_found k r h2
    simp only [Tr.found, Tr.rows]
    unfold look at il ir ⊢
    rw [List.find?_append]
    cases q1 : kLt k k'
    · cases q2 : kLt k' k
      · have e : k = k' := kLt_total q1 q2
        have : l.rows.find? (fun y => !kLt k y.k && !kLt y.k k) = none := look_none (fun y hy => .inr (by rw [e]; exact h3 y hy))
        rw [this]
        simp [q1, q2]
      · have : l.rows.find? (fun y => !kLt k y.k && !kLt y.k k) = none := look_none (fun y hy => .inr (kLt_trans (h3 y hy) q2))
        rw [this]
        simp only [Option.none_or, List.find?_cons, q1, q2, Bool.not_true, Bool.not_false, Bool.and_false, Bool.false_eq_true, if_false, if_true]
        exact ir
    · have : r.rows.find? (fun y => !kLt k y.k && !kLt y.k k) = none := look_none (fun y hy => .inl (kLt_trans q1 (h4 y hy)))
      simp only [List.find?_cons, q1, Bool.not_true, Bool.false_and, this, if_true, Option.or_none]
      exact il

theorem rank_all {k : ByteArray} : ∀ {l : List (Rw β α)}, (∀ y ∈ l, kLt y.k k = true) → rankL k l = l.length
  | [], _ => rfl
  | y :: l, h => by
    have := rank_all (l := l) (fun x hx => h x (List.mem_cons_of_mem _ hx))
    unfold rankL at *
    rw [List.filter_cons_of_pos (by simpa using h y List.mem_cons_self)]
    simp [this]

theorem rank_none {k : ByteArray} {l : List (Rw β α)} (h : ∀ y ∈ l, kLt y.k k = false) : rankL k l = 0 := by
  unfold rankL
  rw [List.filter_eq_nil_iff.2 (fun y hy => by simp [h y hy])]
  rfl

theorem rank_append (k : ByteArray) (A B : List (Rw β α)) : rankL k (A ++ B) = rankL k A + rankL k B := by
  unfold rankL; rw [List.filter_append, List.length_append]

theorem rank_cons (k : ByteArray) (y : Rw β α) (B : List (Rw β α)) : rankL k (y :: B) = (if kLt y.k k then 1 else 0) + rankL k B := by
  unfold rankL; rw [List.filter_cons]; split <;> simp <;> omega

theorem lower_rank (k : ByteArray) : ∀ t : Tr β α, Rises t.rows → Tr.lower k t = rankL k t.rows
  | .nil, _ => rfl
  | .node l k' v' s' r, h => by
    obtain ⟨h1, h2, h3, h4, _⟩ := rises_parts h
    have il := lower_rank k l h1
    have ir := lower_rank k r h2
    simp only [Tr.lower, Tr.rows]
    rw [rank_append, rank_cons]
    cases q1 : kLt k k'
    · cases q2 : kLt k' k
      · have e : k = k' := kLt_total q1 q2
        rw [rank_all (fun y hy => by rw [e]; exact h3 y hy), rank_none (fun y hy => by rw [e]; exact kLt_asymm (h4 y hy)), Tr.rows_length]
        simp
      · rw [rank_all (fun y hy => kLt_trans (h3 y hy) q2), Tr.rows_length, ir]
        simp
        omega
    · rw [rank_none (l := r.rows) (fun y hy => kLt_asymm (kLt_trans q1 (h4 y hy))), kLt_asymm q1, il]
      simp

theorem nth_rows : ∀ (t : Tr β α) (i : Nat), (match Tr.nth t (i : Int) with | .nil => none | .node _ k v s _ => some (⟨k, v, s⟩ : Rw β α)) = t.rows[i]?
  | .nil, i => rfl
  | .node l k v s r, i => by
    have il := nth_rows l i
    have ir := nth_rows r (i - l.cnt - 1)
    have hl := Tr.rows_length l
    simp only [Tr.nth, Tr.rows]
    by_cases q1 : (i : Int) < (l.cnt : Int)
    · rw [if_pos q1, List.getElem?_append_left (by omega)]
      exact il
    · rw [if_neg q1, List.getElem?_append_right (by omega)]
      by_cases q2 : (l.cnt : Int) < (i : Int)
      · rw [if_pos q2, show (i : Int) - ((l.cnt : Int) + 1) = ((i - l.cnt - 1 : Nat) : Int) from by omega, ir, hl, show i - l.cnt = (i - l.cnt - 1) + 1 from by omega]
        simp
      · rw [if_neg q2, hl, show i - l.cnt = 0 from by omega]
        rfl

theorem nth_neg : ∀ (t : Tr β α) (i : Int), i < 0 → Tr.nth t i = .nil
  | .nil, _, _ => rfl
  | .node l k v s r, i, h => by
    simp only [Tr.nth]
    rw [if_pos (by omega)]
    exact nth_neg l i h

theorem nth_over : ∀ (t : Tr β α) (i : Int), (t.cnt : Int) ≤ i → Tr.nth t i = .nil
  | .nil, _, _ => rfl
  | .node l k v s r, i, h => by
    simp only [Tr.cnt] at h
    simp only [Tr.nth]
    rw [if_neg (by omega), if_pos (by omega)]
    exact nth_over r _ (by omega)

/-- What a join must be. -/
structure Mon (J : α → α → α) (e : α) : Prop where
  assoc : ∀ a b c, J (J a b) c = J a (J b c)
  left : ∀ a, J e a = a
  right : ∀ a, J a e = a

/-- Summaries joined in their order. -/
def foldL (J : α → α → α) (e : α) (l : List (Rw β α)) : α := l.foldl (fun a y => J a y.s) e

theorem foldL_from {J : α → α → α} {e : α} (m : Mon J e) : ∀ (l : List (Rw β α)) (a : α), l.foldl (fun a y => J a y.s) a = J a (foldL J e l)
  | [], a => by simp [foldL, m.right]
  | y :: l, a => by
    have h1 := foldL_from m l (J a y.s)
    have h2 := foldL_from m l (J e y.s)
    unfold foldL at *
    rw [List.foldl_cons, List.foldl_cons, h1, h2, m.left, m.assoc]

theorem foldL_append {J : α → α → α} {e : α} (m : Mon J e) (A B : List (Rw β α)) : foldL J e (A ++ B) = J (foldL J e A) (foldL J e B) := by
  rw [← foldL_from m B (foldL J e A)]
  unfold foldL
  rw [List.foldl_append]

theorem foldL_cons {J : α → α → α} {e : α} (m : Mon J e) (y : Rw β α) (B : List (Rw β α)) : foldL J e (y :: B) = J y.s (foldL J e B) := by
  rw [← foldL_from m B y.s]
  unfold foldL
  rw [List.foldl_cons, m.left]

theorem foldL_nil {J : α → α → α} {e : α} : foldL J e ([] : List (Rw β α)) = e := rfl

theorem isNil_rows {t : Tr β α} (h : t.isNil = true) : t = .nil := by cases t; rfl; cases h

theorem sum_rows {J : α → α → α} {e : α} (m : Mon J e) : ∀ t : Tr β α, t.sum J e = foldL J e t.rows
  | .nil => rfl
  | .node l k v s r => by
    have hl := sum_rows m l
    have hr := sum_rows m r
    simp only [Tr.sum, Tr.rows]
    rw [foldL_append m, foldL_cons m, ← hl, ← hr]
    cases q1 : l.isNil <;> cases q2 : r.isNil
    · simp [m.assoc]
    · rw [isNil_rows q2]; simp [Tr.sum, m.right]
    · rw [isNil_rows q1]; simp [Tr.sum, m.left]
    · rw [isNil_rows q1, isNil_rows q2]; simp [Tr.sum, m.left, m.right]

/-- The rows from i on below j. -/
def seg (l : List (Rw β α)) (i j : Nat) : List (Rw β α) := (l.take j).drop i

theorem seg_full (l : List (Rw β α)) : seg l 0 l.length = l := by simp [seg]

theorem fld_rows {J : α → α → α} {e : α} (m : Mon J e) : ∀ (t : Tr β α) (i j : Nat), i < j → j ≤ t.cnt → Tr.fld J e t i j = foldL J e (seg t.rows i j)
  | .nil, i, j, h1, h2 => by simp [Tr.cnt] at h2; omega
  | .node l k v s r, i, j, h1, h2 => by
    have il := fld_rows m l
    have ir := fld_rows m r
    have hl := Tr.rows_length l
    have hr := Tr.rows_length r
    simp only [Tr.cnt] at h2
    simp only [Tr.fld]
    split
    · rename_i g
      rw [g.1, g.2, sum_rows m, ← Tr.rows_length, seg_full]
    · simp only [Tr.rows, seg]
      split
      · rename_i g
        rw [il i j h1 g, List.take_append_of_le_length (by omega)]
        rfl
      · rename_i g
        rw [List.take_append, List.take_of_length_le (show l.rows.length ≤ j from by omega), show j - l.rows.length = (j - l.cnt - 1) + 1 from by omega, List.take_succ_cons]
        split
        · rename_i g2
          rw [ir _ _ (by omega) (by omega), List.drop_append, List.drop_of_length_le (show l.rows.length ≤ i from by omega), show i - l.rows.length = (i - l.cnt - 1) + 1 from by omega]
          simp [seg]
        · rename_i g2
          rw [List.drop_append, show i - l.rows.length = 0 from by omega, List.drop_zero, foldL_append m, foldL_cons m]
          have a1 : (if i < l.cnt then J (Tr.fld J e l i l.cnt) s else s) = J (foldL J e (l.rows.drop i)) s := by
            split
            · rename_i g3
              rw [il i l.cnt g3 (Nat.le_refl _)]
              simp only [seg]
              rw [List.take_of_length_le (by omega)]
            · rename_i g3
              rw [List.drop_of_length_le (by omega), foldL_nil, m.left]
          rw [a1]
          split
          · rename_i g4
            rw [ir 0 _ (by omega) (by omega)]
            simp only [seg, List.drop_zero]
            exact m.assoc _ _ _
          · rename_i g4
            rw [show j - l.cnt - 1 = 0 from by omega, List.take_zero, foldL_nil, m.right]

theorem fol_rows {J : α → α → α} {e : α} (m : Mon J e) (t : Tr β α) (i j : Int) : Tr.fol J e t i j = foldL J e (seg t.rows (max i 0).toNat (min j (t.cnt : Int)).toNat) := by
  unfold Tr.fol
  split
  · exact fld_rows m t _ _ (by omega) (by omega)
  · rename_i h
    rw [show seg t.rows (max i 0).toNat (min j (t.cnt : Int)).toNat = [] from by
      unfold seg
      apply List.drop_of_length_le
      rw [List.length_take]
      omega]
    rfl

theorem fol_nat {J : α → α → α} {e : α} (m : Mon J e) (t : Tr β α) (i j : Nat) (hj : j ≤ t.cnt) : Tr.fol J e t (i : Int) (j : Int) = foldL J e (seg t.rows i j) := by
  rw [fol_rows m, show (max (i : Int) 0).toNat = i from by omega, show (min (j : Int) (t.cnt : Int)).toNat = j from by omega]

theorem mon_map : Mon mJoin mZero := by
  constructor
  · intro a b c; simp only [mJoin]; congr 1 <;> grind
  · intro a; cases a; simp [mJoin, mZero]
  · intro a; cases a; simp [mJoin, mZero]

end Go.Proofs.YtlgcdcjhflihiaaDoor
namespace Go.Proofs.YtlgcdcjhflihiaaDoor
open Go.RowKit Go.Shelf
set_option linter.unusedVariables false

theorem rows_wide {n : Nat} {P : Program} {row : String} {args : Array Value} {w : World} {R : Value → World → Prop} (l : Nat) (h : Rows P row args w R) : RowsIn (Fence.wide.inRound l) n P row args w R :=
  fun c cs _ => let ⟨v, w', r, s⟩ := h c cs; ⟨v, w', r, stepsIn_wide.2 s⟩

theorem oper_round {P : Program} {o : Oper} {a : Act} {w : World} {K : Act → World → Prop} {Q : Exit → Act → World → Prop} (l n : Nat) (hd : ∀ c, o.op ≠ .defer c) (h : o.wp P a w K Q) : o.wpIn (Fence.wide.inRound l) n P a w K Q := by
  refine ⟨fun _ _ => trivial, ?_⟩
  unfold Oper.wp at h
  rw [Oper.semAt_plain _ _ _ hd]
  generalize (execOp a.eval o).run P w = r at *
  cases r with
  | ok x w' =>
    cases x <;> simp only [Oper.upon, Oper.uponIn] at h ⊢ <;>
      first
        | exact h
        | exact ⟨fun e => (by cases e), CallsIn.inRound l (callsIn_wide.2 h)⟩
        | exact ⟨fun e => (by cases e), rows_wide l h⟩
  | halt x w' => cases x <;> simp only [Oper.upon, Oper.uponIn] at h ⊢ <;> exact h

theorem wpAnyIn_round {P : Program} {md : Region.Mode} {ops : Array Oper} {Q : Exit → Act → World → Prop} (l n : Nat) (hd : ∀ (i : Nat) (o : Oper), ops[i]? = some o → ∀ c, o.op ≠ .defer c) (hQ : ¬ LetsOut Q) :
    ∀ (fuel : Nat) (listed : Array Bool) (a : Act) (w : World), wpAny P md ops Q fuel listed a w → wpAnyIn (Fence.wide.inRound l) n P md ops Q fuel listed a w
  | 0, _, _, _, h => h
  | fuel + 1, _, _, _, h => ⟨h.1, fun i hi => by
      have h2 := h.2 i hi
      unfold wpOp at h2
      unfold wpOpIn
      split
      · rename_i e; simp only [e] at h2; exact wpAnyIn_round l n hd hQ fuel _ _ _ h2
      · rename_i o e
        simp only [e] at h2
        split
        · rename_i hw
          simp only [hw, if_true] at h2
          rcases h2 with h2 | h2
          · exact Oper.wpIn_mono (fun a w => wpAnyIn_round l n hd hQ fuel _ a w) (oper_round l n (hd i o e) h2)
          · exact absurd h2.2 hQ
        · rename_i hw
          simp only [hw] at h2
          exact ⟨fun _ _ => trivial, wpAnyIn_round l n hd hQ fuel _ _ _ h2⟩⟩

/-- Which operations a region has that defer: none. -/
def noDefer (ops : Array Oper) : Bool := ops.all fun o => match o.op with | .defer _ => false | _ => true

theorem noDefer_spec {ops : Array Oper} (h : noDefer ops = true) : ∀ (i : Nat) (o : Oper), ops[i]? = some o → ∀ c, o.op ≠ .defer c := fun i o e c hc => by
  unfold noDefer at h
  rw [Array.all_eq_true] at h
  obtain ⟨hlt, he⟩ := Array.getElem?_eq_some_iff.1 e
  have := h i hlt
  rw [he, hc] at this
  cases this

theorem wpIn_region_held {P : Program} {id : Nat} {ops : Array Oper} {Q : Exit → Act → World → Prop} {S : World → Prop} {a : Act} {w : World} {l n : Nat} (hm : P.follows .mixedOrders = true) (hd : noDefer ops = true) (hQ : ¬ LetsOut Q) (hS : S w.drew)
    (h : S w.drew → wpAnyH P .any ops Q S ops.size (Array.replicate ops.size false) a w.drew) : (Code.region id ops true).wpIn (Fence.wide.inRound l) n P Q a w :=
  wpIn_region_any hm (wpAnyIn_round l n (noDefer_spec hd) hQ _ _ _ _ (wpAny_of_held _ _ _ _ (h hS)))

end Go.Proofs.YtlgcdcjhflihiaaDoor
