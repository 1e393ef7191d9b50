/-
  Plain mathematics: a tree's rows as a sorted list, and what Put, Get, Rank, At and Fold are of it.
  A region that draws its order inside a round of a range over a function: by the walk that holds a set of facts.
  The walk over a tree: which rows it hands out, and when it stops.
  Add and Less of the code and of the document: lane by lane, modulo 2^64.
  Join of the code and of the document: counts added, wrapping round; sums added lane by lane.
  Meters: a new one, its Join, how often it did.
  both (E): it joins by the meter; what it defers does nothing where the join returns.
-/
import Derived.Test.YtlgcdcjhflihiaaDoorBstoreturned1
import Derived.RangeFuncNested
import Derived.RangeFuncBound
import Derived.RangeFuncCalls
import Derived.RangeFuncLeaves
import Derived.RangeFuncWrites
import Derived.Shelf.Abstract
import Derived.Shelf.RegionOpen
import Derived.OwnWalkIn
import Derived.TacticsInMore
import Derived.LoopNIn
import Derived.LoopIn
import Derived.Stop.RegionWithIn
import Derived.OrdersHeld
import Derived.OrdersIn
import Derived.Deep.RegionHeld
import Derived.Defers
import Derived.Recover
import Derived.Deep.RegionWith
import Derived.Deep.RegionHeld3
namespace Go.Proofs.YtlgcdcjhflihiaaDoor
open Go.RowKit
set_option linter.unusedVariables false
variable {β α : Type}
/-- Keys rise. -/
def Rises (l : List (Rw β α)) : Prop := l.Pairwise (fun a b => kLt a.k b.k = true)

/-- A row put into a sorted list. -/
def ins (k : ByteArray) (v : β) (s : α) : List (Rw β α) → List (Rw β α)
  | [] => [⟨k, v, s⟩]
  | y :: l => if kLt k y.k then ⟨k, v, s⟩ :: y :: l else if kLt y.k k then y :: ins k v s l else ⟨k, v, s⟩ :: l

theorem ins_left {k : ByteArray} {v : β} {s : α} {y : Rw β α} (B : List (Rw β α)) (h : kLt k y.k = true) : ∀ A : List (Rw β α), ins k v s (A ++ y :: B) = ins k v s A ++ y :: B
  | [] => by simp [ins, h]
  | a :: A => by
    simp only [List.cons_append, ins, ins_left B h A]
    split
    · rfl
    · split <;> rfl

theorem ins_right {k : ByteArray} {v : β} {s : α} : ∀ (A B : List (Rw β α)), (∀ a ∈ A, kLt a.k k = true) → ins k v s (A ++ B) = A ++ ins k v s B
  | [], B, _ => rfl
  | a :: A, B, h => by
    have h1 := h a List.mem_cons_self
    simp only [List.cons_append, ins, kLt_asymm h1, h1, if_true, if_false, Bool.false_eq_true, ins_right A B (fun x hx => h x (List.mem_cons_of_mem _ hx))]

theorem ins_same {k : ByteArray} {v : β} {s : α} {y : Rw β α} (A B : List (Rw β α)) (hA : ∀ a ∈ A, kLt a.k k = true) (h1 : kLt k y.k = false) (h2 : kLt y.k k = false) : ins k v s (A ++ y :: B) = A ++ ⟨k, v, s⟩ :: B := by
  rw [ins_right A _ hA]; simp [ins, h1, h2]

theorem rises_parts {A B : List (Rw β α)} {y : Rw β α} (h : Rises (A ++ y :: B)) : Rises A ∧ Rises B ∧ (∀ a ∈ A, kLt a.k y.k = true) ∧ (∀ b ∈ B, kLt y.k b.k = true) ∧ (∀ a ∈ A, ∀ b ∈ B, kLt a.k b.k = true) := by
  unfold Rises at *
  rw [List.pairwise_append, List.pairwise_cons] at h
  exact ⟨h.1, h.2.1.2, fun a ha => h.2.2 a ha y List.mem_cons_self, h.2.1.1, fun a ha b hb => h.2.2 a ha b (List.mem_cons_of_mem _ hb)⟩

theorem rows_put (k : ByteArray) (v : β) (s : α) : ∀ t : Tr β α, Rises t.rows → (Tr.put k v s t).rows = ins k v s t.rows
  | .nil, _ => rfl
  | .node l k' v' s' r, h => by
    obtain ⟨h1, h2, h3, h4, _⟩ := rises_parts h
    simp only [Tr.put, Tr.rows]
    cases q1 : kLt k k'
    · cases q2 : kLt k' k
      · simp only [Bool.false_eq_true, if_false, Tr.rows]
        rw [ins_same l.rows r.rows (fun a ha => kLt_trans_le (h3 a ha) q1) q1 q2]
      · simp only [Bool.false_eq_true, if_false, if_true]
        rw [Tr.rows_level, rows_put k v s r h2, ins_right l.rows _ (fun a ha => kLt_trans (h3 a ha) q2)]
        simp [ins, q1, q2]
    · simp only [if_true]
      rw [Tr.rows_level, rows_put k v s l h1, ins_left r.rows q1]

theorem ins_mem {k : ByteArray} {v : β} {s : α} : ∀ (l : List (Rw β α)) (x : Rw β α), x ∈ ins k v s l → x = ⟨k, v, s⟩ ∨ x ∈ l
  | [], x, h => by simp [ins] at h; exact .inl h
  | y :: l, x, h => by
    simp only [ins] at h
    split at h
    · rcases List.mem_cons.1 h with h | h
      · exact .inl h
      · exact .inr h
    · split at h
      · rcases List.mem_cons.1 h with h | h
        · exact .inr (h ▸ List.mem_cons_self)
        · rcases ins_mem l x h with h | h
          · exact .inl h
          · exact .inr (List.mem_cons_of_mem _ h)
      · rcases List.mem_cons.1 h with h | h
        · exact .inl h
        · exact .inr (List.mem_cons_of_mem _ h)

theorem rises_ins {k : ByteArray} {v : β} {s : α} : ∀ l : List (Rw β α), Rises l → Rises (ins k v s l)
  | [], _ => by simp [ins, Rises]
  | y :: l, h => by
    have h' := h
    unfold Rises at h'
    rw [List.pairwise_cons] at h'
    obtain ⟨h1, h2⟩ := h'
    simp only [ins]
    split
    · rename_i q
      unfold Rises
      rw [List.pairwise_cons]
      refine ⟨fun b hb => ?_, h⟩
      rcases List.mem_cons.1 hb with rfl | hb
      · exact q
      · exact kLt_trans q (h1 b hb)
    · rename_i q
      split
      · rename_i q2
        unfold Rises
        rw [List.pairwise_cons]
        refine ⟨fun b hb => ?_, rises_ins l h2⟩
        rcases ins_mem l b hb with rfl | hb
        · exact q2
        · exact h1 b hb
      · rename_i q2
        unfold Rises
        rw [List.pairwise_cons]
        refine ⟨fun b hb => ?_, h2⟩
        have e : k = y.k := kLt_total (by simpa using q) (by simpa using q2)
        show kLt k b.k = true
        rw [e]; exact h1 b hb

theorem ins_length {k : ByteArray} {v : β} {s : α} : ∀ l : List (Rw β α), (ins k v s l).length ≤ l.length + 1
  | [] => by simp [ins]
  | y :: l => by
    have := ins_length (k := k) (v := v) (s := s) l
    simp only [ins]
    split
    · simp
    · split
      · simp only [List.length_cons]; omega
      · simp

/-- The row of a key. -/
def look (k : ByteArray) (l : List (Rw β α)) : Option (Rw β α) := l.find? (fun y => !kLt k y.k && !kLt y.k k)

/-- How many rows have a lower key. -/
def rankL (k : ByteArray) (l : List (Rw β α)) : Nat := (l.filter (fun y => kLt y.k k)).length

theorem look_none {k : ByteArray} {l : List (Rw β α)} (h : ∀ y ∈ l, kLt k y.k = true ∨ kLt y.k k = true) : look k l = none := by
  unfold look
  rw [List.find?_eq_none]
  intro y hy
  rcases h y hy with h | h <;> simp [h]

theorem look_found (k : ByteArray) : ∀ t : Tr β α, Rises t.rows → look k t.rows = match Tr.found k t with | .nil => none | .node _ k' v s _ => some ⟨k', v, s⟩
  | .nil, _ => rfl
  | .node l k' v' s' r, h => by
    obtain ⟨h1, h2, h3, h4, _⟩ := rises_parts h
    have il := look_found k l h1
    have ir := look_found k r h2
    simp only [Tr.found, Tr.rows]
    unfold look at il ir ⊢
    rw [List.find?_append]
    cases q1 : kLt k k'
    · cases q2 : kLt k' k
      · have e : k = k' := kLt_total q1 q2
        have : l.rows.find? (fun y => !kLt k y.k && !kLt y.k k) = none := look_none (fun y hy => .inr (by rw [e]; exact h3 y hy))
        rw [this]
        simp [q1, q2]
      · have : l.rows.find? (fun y => !kLt k y.k && !kLt y.k k) = none := look_none (fun y hy => .inr (kLt_trans (h3 y hy) q2))
        rw [this]
        simp only [Option.none_or, List.find?_cons, q1, q2, Bool.not_true, Bool.not_false, Bool.and_false, Bool.false_eq_true, if_false, if_true]
        exact ir
    · have : r.rows.find? (fun y => !kLt k y.k && !kLt y.k k) = none := look_none (fun y hy => .inl (kLt_trans q1 (h4 y hy)))
      simp only [List.find?_cons, q1, Bool.not_true, Bool.false_and, this, if_true, Option.or_none]
      exact il

theorem rank_all {k : ByteArray} : ∀ {l : List (Rw β α)}, (∀ y ∈ l, kLt y.k k = true) → rankL k l = l.length
  | [], _ => rfl
  | y :: l, h => by
    have := rank_all (l := l) (fun x hx => h x (List.mem_cons_of_mem _ hx))
    unfold rankL at *
    rw [List.filter_cons_of_pos (by simpa using h y List.mem_cons_self)]
    simp [this]

theorem rank_none {k : ByteArray} {l : List (Rw β α)} (h : ∀ y ∈ l, kLt y.k k = false) : rankL k l = 0 := by
  unfold rankL
  rw [List.filter_eq_nil_iff.2 (fun y hy => by simp [h y hy])]
  rfl

theorem rank_append (k : ByteArray) (A B : List (Rw β α)) : rankL k (A ++ B) = rankL k A + rankL k B := by
  unfold rankL; rw [List.filter_append, List.length_append]

theorem rank_cons (k : ByteArray) (y : Rw β α) (B : List (Rw β α)) : rankL k (y :: B) = (if kLt y.k k then 1 else 0) + rankL k B := by
  unfold rankL; rw [List.filter_cons]; split <;> simp <;> omega

theorem lower_rank (k : ByteArray) : ∀ t : Tr β α, Rises t.rows → Tr.lower k t = rankL k t.rows
  | .nil, _ => rfl
  | .node l k' v' s' r, h => by
    obtain ⟨h1, h2, h3, h4, _⟩ := rises_parts h
    have il := lower_rank k l h1
    have ir := lower_rank k r h2
    simp only [Tr.lower, Tr.rows]
    rw [rank_append, rank_cons]
    cases q1 : kLt k k'
    · cases q2 : kLt k' k
      · have e : k = k' := kLt_total q1 q2
        rw [rank_all (fun y hy => by rw [e]; exact h3 y hy), rank_none (fun y hy => by rw [e]; exact kLt_asymm (h4 y hy)), Tr.rows_length]
        simp
      · rw [rank_all (fun y hy => kLt_trans (h3 y hy) q2), Tr.rows_length, ir]
        simp
        omega
    · rw [rank_none (l := r.rows) (fun y hy => kLt_asymm (kLt_trans q1 (h4 y hy))), kLt_asymm q1, il]
      simp

theorem nth_rows : ∀ (t : Tr β α) (i : Nat), (match Tr.nth t (i : Int) with | .nil => none | .node _ k v s _ => some (⟨k, v, s⟩ : Rw β α)) = t.rows[i]?
  | .nil, i => rfl
  | .node l k v s r, i => by
    have il := nth_rows l i
    have ir := nth_rows r (i - l.cnt - 1)
    have hl := Tr.rows_length l
    simp only [Tr.nth, Tr.rows]
    by_cases q1 : (i : Int) < (l.cnt : Int)
    · rw [if_pos q1, List.getElem?_append_left (by omega)]
      exact il
    · rw [if_neg q1, List.getElem?_append_right (by omega)]
      by_cases q2 : (l.cnt : Int) < (i : Int)
      · rw [if_pos q2, show (i : Int) - ((l.cnt : Int) + 1) = ((i - l.cnt - 1 : Nat) : Int) from by omega, ir, hl, show i - l.cnt = (i - l.cnt - 1) + 1 from by omega]
        simp
      · rw [if_neg q2, hl, show i - l.cnt = 0 from by omega]
        rfl

theorem nth_neg : ∀ (t : Tr β α) (i : Int), i < 0 → Tr.nth t i = .nil
  | .nil, _, _ => rfl
  | .node l k v s r, i, h => by
    simp only [Tr.nth]
    rw [if_pos (by omega)]
    exact nth_neg l i h

theorem nth_over : ∀ (t : Tr β α) (i : Int), (t.cnt : Int) ≤ i → Tr.nth t i = .nil
  | .nil, _, _ => rfl
  | .node l k v s r, i, h => by
    simp only [Tr.cnt] at h
    simp only [Tr.nth]
    rw [if_neg (by omega), if_pos (by omega)]
    exact nth_over r _ (by omega)

/-- What a join must be. -/
structure Mon (J : α → α → α) (e : α) : Prop where
  assoc : ∀ a b c, J (J a b) c = J a (J b c)
  left : ∀ a, J e a = a
  right : ∀ a, J a e = a

/-- Summaries joined in their order. -/
def foldL (J : α → α → α) (e : α) (l : List (Rw β α)) : α := l.foldl (fun a y => J a y.s) e

theorem foldL_from {J : α → α → α} {e : α} (m : Mon J e) : ∀ (l : List (Rw β α)) (a : α), l.foldl (fun a y => J a y.s) a = J a (foldL J e l)
  | [], a => by simp [foldL, m.right]
  | y :: l, a => by
    have h1 := foldL_from m l (J a y.s)
    have h2 := foldL_from m l (J e y.s)
    unfold foldL at *
    rw [List.foldl_cons, List.foldl_cons, h1, h2, m.left, m.assoc]

theorem foldL_append {J : α → α → α} {e : α} (m : Mon J e) (A B : List (Rw β α)) : foldL J e (A ++ B) = J (foldL J e A) (foldL J e B) := by
  rw [← foldL_from m B (foldL J e A)]
  unfold foldL
  rw [List.foldl_append]

theorem foldL_cons {J : α → α → α} {e : α} (m : Mon J e) (y : Rw β α) (B : List (Rw β α)) : foldL J e (y :: B) = J y.s (foldL J e B) := by
  rw [← foldL_from m B y.s]
  unfold foldL
  rw [List.foldl_cons, m.left]

theorem foldL_nil {J : α → α → α} {e : α} : foldL J e ([] : List (Rw β α)) = e := rfl

theorem isNil_rows {t : Tr β α} (h : t.isNil = true) : t = .nil := by cases t; rfl; cases h

theorem sum_rows {J : α → α → α} {e : α} (m : Mon J e) : ∀ t : Tr β α, t.sum J e = foldL J e t.rows
  | .nil => rfl
  | .node l k v s r => by
    have hl := sum_rows m l
    have hr := sum_rows m r
    simp only [Tr.sum, Tr.rows]
    rw [foldL_append m, foldL_cons m, ← hl, ← hr]
    cases q1 : l.isNil <;> cases q2 : r.isNil
    · simp [m.assoc]
    · rw [isNil_rows q2]; simp [Tr.sum, m.right]
    · rw [isNil_rows q1]; simp [Tr.sum, m.left]
    · rw [isNil_rows q1, isNil_rows q2]; simp [Tr.sum, m.left, m.right]

/-- The rows from i on below j. -/
def seg (l : List (Rw β α)) (i j : Nat) : List (Rw β α) := (l.take j).drop i

theorem seg_full (l : List (Rw β α)) : seg l 0 l.length = l := by simp [seg]

theorem fld_rows {J : α → α → α} {e : α} (m : Mon J e) : ∀ (t : Tr β α) (i j : Nat), i < j → j ≤ t.cnt → Tr.fld J e t i j = foldL J e (seg t.rows i j)
  | .nil, i, j, h1, h2 => by simp [Tr.cnt] at h2; omega
  | .node l k v s r, i, j, h1, h2 => by
    have il := fld_rows m l
    have ir := fld_rows m r
    have hl := Tr.rows_length l
    have hr := Tr.rows_length r
    simp only [Tr.cnt] at h2
    simp only [Tr.fld]
    split
    · rename_i g
      rw [g.1, g.2, sum_rows m, ← Tr.rows_length, seg_full]
    · simp only [Tr.rows, seg]
      split
      · rename_i g
        rw [il i j h1 g, List.take_append_of_le_length (by omega)]
        rfl
      · rename_i g
        rw [List.take_append, List.take_of_length_le (show l.rows.length ≤ j from by omega), show j - l.rows.length = (j - l.cnt - 1) + 1 from by omega, List.take_succ_cons]
        split
        · rename_i g2
          rw [ir _ _ (by omega) (by omega), List.drop_append, List.drop_of_length_le (show l.rows.length ≤ i from by omega), show i - l.rows.length = (i - l.cnt - 1) + 1 from by omega]
          simp [seg]
        · rename_i g2
          rw [List.drop_append, show i - l.rows.length = 0 from by omega, List.drop_zero, foldL_append m, foldL_cons m]
          have a1 : (if i < l.cnt then J (Tr.fld J e l i l.cnt) s else s) = J (foldL J e (l.rows.drop i)) s := by
            split
            · rename_i g3
              rw [il i l.cnt g3 (Nat.le_refl _)]
              simp only [seg]
              rw [List.take_of_length_le (by omega)]
            · rename_i g3
              rw [List.drop_of_length_le (by omega), foldL_nil, m.left]
          rw [a1]
          split
          · rename_i g4
            rw [ir 0 _ (by omega) (by omega)]
            simp only [seg, List.drop_zero]
            exact m.assoc _ _ _
          · rename_i g4
            rw [show j - l.cnt - 1 = 0 from by omega, List.take_zero, foldL_nil, m.right]

theorem fol_rows {J : α → α → α} {e : α} (m : Mon J e) (t : Tr β α) (i j : Int) : Tr.fol J e t i j = foldL J e (seg t.rows (max i 0).toNat (min j (t.cnt : Int)).toNat) := by
  unfold Tr.fol
  split
  · exact fld_rows m t _ _ (by omega) (by omega)
  · rename_i h
    rw [show seg t.rows (max i 0).toNat (min j (t.cnt : Int)).toNat = [] from by
      unfold seg
      apply List.drop_of_length_le
      rw [List.length_take]
      omega]
    rfl

theorem fol_nat {J : α → α → α} {e : α} (m : Mon J e) (t : Tr β α) (i j : Nat) (hj : j ≤ t.cnt) : Tr.fol J e t (i : Int) (j : Int) = foldL J e (seg t.rows i j) := by
  rw [fol_rows m, show (max (i : Int) 0).toNat = i from by omega, show (min (j : Int) (t.cnt : Int)).toNat = j from by omega]

theorem mon_map : Mon mJoin mZero := by
  constructor
  · intro a b c; simp only [mJoin]; congr 1 <;> grind
  · intro a; cases a; simp [mJoin, mZero]
  · intro a; cases a; simp [mJoin, mZero]

end Go.Proofs.YtlgcdcjhflihiaaDoor
namespace Go.Proofs.YtlgcdcjhflihiaaDoor
open Go.RowKit Go.Shelf
set_option linter.unusedVariables false

theorem rows_wide {n : Nat} {P : Program} {row : String} {args : Array Value} {w : World} {R : Value → World → Prop} (l : Nat) (h : Rows P row args w R) : RowsIn (Fence.wide.inRound l) n P row args w R :=
  fun c cs _ => let ⟨v, w', r, s⟩ := h c cs; ⟨v, w', r, stepsIn_wide.2 s⟩

theorem oper_round {P : Program} {o : Oper} {a : Act} {w : World} {K : Act → World → Prop} {Q : Exit → Act → World → Prop} (l n : Nat) (hd : ∀ c, o.op ≠ .defer c) (h : o.wp P a w K Q) : o.wpIn (Fence.wide.inRound l) n P a w K Q := by
  refine ⟨fun _ _ => trivial, ?_⟩
  unfold Oper.wp at h
  rw [Oper.semAt_plain _ _ _ hd]
  generalize (execOp a.eval o).run P w = r at *
  cases r with
  | ok x w' =>
    cases x <;> simp only [Oper.upon, Oper.uponIn] at h ⊢ <;>
      first
        | exact h
        | exact ⟨fun e => (by cases e), CallsIn.inRound l (callsIn_wide.2 h)⟩
        | exact ⟨fun e => (by cases e), rows_wide l h⟩
  | halt x w' => cases x <;> simp only [Oper.upon, Oper.uponIn] at h ⊢ <;> exact h

theorem wpAnyIn_round {P : Program} {md : Region.Mode} {ops : Array Oper} {Q : Exit → Act → World → Prop} (l n : Nat) (hd : ∀ (i : Nat) (o : Oper), ops[i]? = some o → ∀ c, o.op ≠ .defer c) (hQ : ¬ LetsOut Q) :
    ∀ (fuel : Nat) (listed : Array Bool) (a : Act) (w : World), wpAny P md ops Q fuel listed a w → wpAnyIn (Fence.wide.inRound l) n P md ops Q fuel listed a w
  | 0, _, _, _, h => h
  | fuel + 1, _, _, _, h => ⟨h.1, fun i hi => by
      have h2 := h.2 i hi
      unfold wpOp at h2
      unfold wpOpIn
      split
      · rename_i e; simp only [e] at h2; exact wpAnyIn_round l n hd hQ fuel _ _ _ h2
      · rename_i o e
        simp only [e] at h2
        split
        · rename_i hw
          simp only [hw, if_true] at h2
          rcases h2 with h2 | h2
          · exact Oper.wpIn_mono (fun a w => wpAnyIn_round l n hd hQ fuel _ a w) (oper_round l n (hd i o e) h2)
          · exact absurd h2.2 hQ
        · rename_i hw
          simp only [hw] at h2
          exact ⟨fun _ _ => trivial, wpAnyIn_round l n hd hQ fuel _ _ _ h2⟩⟩

/-- Which operations a region has that defer: none. -/
def noDefer (ops : Array Oper) : Bool := ops.all fun o => match o.op with | .defer _ => false | _ => true

theorem noDefer_spec {ops : Array Oper} (h : noDefer ops = true) : ∀ (i : Nat) (o : Oper), ops[i]? = some o → ∀ c, o.op ≠ .defer c := fun i o e c hc => by
  unfold noDefer at h
  rw [Array.all_eq_true] at h
  obtain ⟨hlt, he⟩ := Array.getElem?_eq_some_iff.1 e
  have := h i hlt
  rw [he, hc] at this
  cases this

theorem wpIn_region_held {P : Program} {id : Nat} {ops : Array Oper} {Q : Exit → Act → World → Prop} {S : World → Prop} {a : Act} {w : World} {l n : Nat} (hm : P.follows .mixedOrders = true) (hd : noDefer ops = true) (hQ : ¬ LetsOut Q) (hS : S w.drew)
    (h : S w.drew → wpAnyH P .any ops Q S ops.size (Array.replicate ops.size false) a w.drew) : (Code.region id ops true).wpIn (Fence.wide.inRound l) n P Q a w :=
  wpIn_region_any hm (wpAnyIn_round l n (noDefer_spec hd) hQ _ _ _ _ (wpAny_of_held _ _ _ _ (h hS)))

end Go.Proofs.YtlgcdcjhflihiaaDoor
namespace Go.Proofs.YtlgcdcjhflihiaaDoor
open Go.RowKit Go.Shelf
set_option linter.unusedVariables false

attribute [local go_sem] Oper.semAt_some

/-- A row, as it is handed out. -/
def encs2 (x : Rw En Tl) : Array Value := #[.string x.k, .agg #[.string x.v.k, .int .i64 x.v.c, .int .i64 x.v.n, .string x.v.v, .bool x.v.d]]

theorem seg_none {β α : Type} (l : List (Rw β α)) {i j : Nat} (h : j ≤ i) : seg l i j = [] := by
  unfold seg
  rw [List.drop_eq_nil_iff]
  simp; omega

/-- The part of a node's rows: of the left side, its own, of the right side. -/
theorem seg_node {β α : Type} (A B : List (Rw β α)) (y : Rw β α) {i j : Nat} (hj : j ≤ A.length + 1 + B.length) :
    seg (A ++ y :: B) i j = seg A i (min j A.length) ++ ((if i ≤ A.length ∧ A.length < j then [y] else []) ++ seg B (i - A.length - 1) (j - A.length - 1)) := by
  unfold seg
  rw [List.take_append, List.drop_append]
  by_cases h : A.length < j
  · obtain ⟨m, rfl⟩ : ∃ m, j = A.length + 1 + m := ⟨j - A.length - 1, by omega⟩
    rw [show A.length + 1 + m - A.length = m + 1 from by omega, List.take_succ_cons, show min (A.length + 1 + m) A.length = A.length from by omega, List.take_of_length_le (by omega : A.length ≤ A.length + 1 + m), List.take_length, show m + 1 - 1 = m from by omega]
    by_cases h2 : i ≤ A.length
    · rw [if_pos ⟨h2, h⟩, show i - A.length = 0 from by omega, show 0 - 1 = 0 from rfl]
      simp
    · rw [if_neg (by omega), show i - A.length = (i - A.length - 1) + 1 from by omega, List.drop_succ_cons]
      simp
  · rw [show j - A.length = 0 from by omega, if_neg (by omega), show min j A.length = j from by omega]
    simp

/-- How a walk comes back. -/
def WOk (J Jx : List (Rw En Tl) → World → Prop) (pre sg : List (Rw En Tl)) (W0 : World) (e : Ending) (W' : World) : Prop :=
  (e = .returned (.bool true) ∧ J (pre ++ sg) W' ∧ Stay 120 W0 W') ∨ (e = .returned (.bool false) ∧ ∃ q, q <+: pre ++ sg ∧ Jx q W')

/-- What yield does. -/
def YOk (l m N : Nat) (Kp : World → World → Prop) (J Jx : List (Rw En Tl) → World → Prop) : Prop :=
  ∀ pre x W1, J pre W1 → pre.length < N → YieldAt Fence.wide m Tryd.prog l (encs2 x) W1 fun e W' =>
    (e = .returned (.bool true) ∧ J (pre ++ [x]) W' ∧ Kp W1 W') ∨ (e = .returned (.bool false) ∧ Jx (pre ++ [x]) W')

def WalkOk (l N : Nat) (J Jx : List (Rw En Tl) → World → Prop) (T : Tr En Tl) : Prop :=
  ∀ (I K : Int) (p : Option Addr) (pre : List (Rw En Tl)) (W : World), IsTE W p T → 0 ≤ I → K ≤ (T.cnt : Int) → J pre W → pre.length + (K.toNat - I.toNat) ≤ N → -4611686018427387904 ≤ K →
    Calls Tryd.prog 59 #[.pointer p, .int .i64 I, .int .i64 K, .func (.yield l) #[] #[]] W (WOk J Jx pre (seg T.rows I.toNat K.toNat) W)

theorem sgI {I K : Int} (h : K ≤ I) (l : List (Rw En Tl)) : seg l I.toNat K.toNat = [] := seg_none l (by omega)

set_option maxHeartbeats 1600000 in
set_option maxRecDepth 100000 in
/-- Nothing to walk. -/
theorem walkNone (l : Nat) (J Jx : List (Rw En Tl) → World → Prop) (pre : List (Rw En Tl)) (I K : Int) (p : Option Addr) (W : World) (h : K ≤ I) (hJ : J pre W) :
    Calls Tryd.prog 59 #[.pointer p, .int .i64 I, .int .i64 K, .func (.yield l) #[] #[]] W (WOk J Jx pre [] W) := by
  have HJ := aside hJ
  clear hJ
  go_enter Tryd.func59, Tryd.ntmps59
  go_wp2
  go_ret
  exact .inl ⟨rfl, by rw [List.append_nil]; exact HJ.out, Stay.refl _ _⟩

set_option maxHeartbeats 6400000 in
set_option maxRecDepth 100000 in
theorem walkHigh {l m N : Nat} {J Jx : List (Rw En Tl) → World → Prop} {Kp : World → World → Prop} (hKp : ∀ A B, Kp A B → Stay 120 A B) (hd : ∀ s W, J s W → J s W.drew) (hY : YOk l m N Kp J Jx)
    {W : World} {b : Nat} {k : ByteArray} {v : En} {s q : Tl} {lp rp : Option Addr} {C H I K lc : Int} {pre sl sr all : List (Rw En Tl)} (hb : W.heap[b]? = some (.cells #[.string k, .string v.k, .int .i64 v.c, .int .i64 v.n, .string v.v, .bool v.d, .int .i64 s.n, .int .u64 s.a, .int .u64 s.b, .pointer lp, .pointer rp, .int .i64 C, .int .i64 H, .int .i64 q.n, .int .u64 q.a, .int .u64 q.b] 120 (0, 0)))
    (CR : Calls Tryd.prog 51 #[.pointer lp] W fun e w' => e = .returned (.int .i64 lc) ∧ w' = W)
    (CL : Calls Tryd.prog 59 #[.pointer lp, .int .i64 I, .int .i64 lc, .func (.yield l) #[] #[]] W (WOk J Jx pre sl W))
    (CT : ∀ W', Stay 120 W W' → J (pre ++ sl) W' → Calls Tryd.prog 59 #[.pointer rp, .int .i64 (I - lc - 1), .int .i64 (K - lc - 1), .func (.yield l) #[] #[]] W' (WOk J Jx (pre ++ sl) sr W'))
    (h1 : I < K) (ho : ¬ I ≤ lc) (ho2 : lc < K) (w1 : IntKind.i64.wrap (I - lc) = I - lc) (w2 : IntKind.i64.wrap (I - lc - 1) = I - lc - 1) (w3 : IntKind.i64.wrap (K - lc) = K - lc) (w4 : IntKind.i64.wrap (K - lc - 1) = K - lc - 1)
    (hall : sl ++ ([] ++ sr) = all) :
    Calls Tryd.prog 59 #[.pointer (some ⟨b, 0, none⟩), .int .i64 I, .int .i64 K, .func (.yield l) #[] #[]] W (WOk J Jx pre all W) := by
  have HN := aside hb
  have CR' := aside CR
  have CL' := aside CL
  have CT' := aside CT
  have HY := aside hY
  have HA := aside hall
  skip
  have HD := aside hd
  have HKP := aside hKp
  have hn := nodeE hb
  obtain ⟨-, -, -, -, -, -, -, -, -, n9, -, -, -, -, -, -⟩ := hn
  clear hb CR CL CT hY hall hd hKp
  have hx : I - lc - 1 < 0 ∨ ¬ I - lc - 1 < 0 := by omega
  have hx0 : ¬ I - lc - 1 < 0 := by omega
  clear hx
  refine (callsIn_wide (n := m + 1)).1 ?_
  refine callsIn_of_wp Tryd.func59 rfl trivial ?_ rfl
  simp only [Tryd.ntmps59, List.size_toArray, List.length_cons, List.length_nil, Nat.reduceAdd, Nat.reduceSub, Array.replicate_succ, Array.replicate_zero, List.push_toArray, List.append_toArray, List.nil_append, List.cons_append]
  gi_wp2_with fail
  refine ⟨trivial, ?_⟩
  refine (callsIn_wide.2 CR'.out).mono ?_
  rintro e w5 ⟨rfl, rfl⟩
  gi_wp2_with fail
  refine ⟨trivial, ?_⟩
  refine (callsIn_wide.2 CL'.out).mono ?_
  rintro e w6 (⟨rfl, hJ, hs⟩ | ⟨rfl, z, hz, hx⟩)
  rotate_left
  · have HX := aside hx
    have HZ := aside hz
    clear hx hz
    gi_wp2
    refine bodyPost_ret (v := .bool false) (by simp [results, Tryd.results59, go_sem]) rfl (.inr ⟨rfl, z, ?_, HX.out⟩)
    have hz := HZ.out
    rw [← HA.out]
    exact hz.trans (List.prefix_append_right_inj pre |>.2 (List.prefix_append _ _))
  · have HJ := aside hJ
    have HS := aside hs
    clear hJ hs n9 CR' CL'
    gi_wp2_with fail
    refine wpIn_region_any (by kernel_rfl) ?_
    refine wpAnyIn_take (i := 0) (v := ?_) rfl rfl (by kernel_rfl) (by kernel_rfl) (by kernel_rfl) (fun _ _ _ h => h) ⟨Or.inl ⟨by rfl, ?_⟩, fun _ => rfl⟩ ?_
    rotate_left
    · intro w
      go_simp
      try with_reducible rfl
    simp only [Act.put, List.getElem_toArray, List.getElem_cons_zero, List.setIfInBounds_toArray, List.set_cons_zero, List.set_cons_succ]
    refine wpAnyIn_take (i := 1) (v := ?_) rfl rfl (by kernel_rfl) (by kernel_rfl) (by kernel_rfl) (fun _ _ _ h => h) ⟨Or.inl ⟨by rfl, ?_⟩, fun _ => rfl⟩ ?_
    rotate_left
    · intro w
      go_simp
      try with_reducible rfl
    simp only [Act.put, List.getElem_toArray, List.getElem_cons_zero, List.getElem_cons_succ, List.setIfInBounds_toArray, List.set_cons_zero, List.set_cons_succ]
    refine wpAnyIn_take (i := 2) (v := .bool false) rfl rfl (by kernel_rfl) (by kernel_rfl) (by kernel_rfl) (fun _ _ _ h => h) ⟨Or.inl ⟨by rfl, ?_⟩, fun _ => rfl⟩ ?_
    · intro w
      go_simp
      try omega
    simp only [Act.put, List.getElem_toArray, List.getElem_cons_zero, List.getElem_cons_succ, List.setIfInBounds_toArray, List.set_cons_zero, List.set_cons_succ]
    refine wpAnyIn_take (i := 3) (v := ?_) rfl rfl (by kernel_rfl) (by kernel_rfl) (by kernel_rfl) (fun _ _ _ h => h) ⟨Or.inl ⟨by rfl, ?_⟩, fun _ => rfl⟩ ?_
    rotate_left
    · intro w
      go_simp
      try with_reducible rfl
    simp only [Act.put, List.getElem_toArray, List.getElem_cons_zero, List.getElem_cons_succ, List.setIfInBounds_toArray, List.set_cons_zero, List.set_cons_succ]
    refine wpAnyIn_take (i := 4) (v := undef) rfl rfl (by kernel_rfl) (by kernel_rfl) (by kernel_rfl) (fun _ _ _ h => h) ⟨Or.inr ⟨by rfl, rfl⟩, fun _ => rfl⟩ ?_
    simp only [Act.put, List.getElem_toArray, List.getElem_cons_zero, List.getElem_cons_succ, List.setIfInBounds_toArray, List.set_cons_zero, List.set_cons_succ]
    refine wpAnyIn_take (i := 5) (v := undef) rfl rfl (by kernel_rfl) (by kernel_rfl) (by kernel_rfl) (fun _ _ _ h => h) ⟨Or.inr ⟨by rfl, rfl⟩, fun _ => rfl⟩ ?_
    simp only [Act.put, List.getElem_toArray, List.getElem_cons_zero, List.getElem_cons_succ, List.setIfInBounds_toArray, List.set_cons_zero, List.set_cons_succ]
    refine wpAnyIn_take (i := 6) (v := undef) rfl rfl (by kernel_rfl) (by kernel_rfl) (by kernel_rfl) (fun _ _ _ h => h) ⟨Or.inr ⟨by rfl, rfl⟩, fun _ => rfl⟩ ?_
    simp only [Act.put, List.getElem_toArray, List.getElem_cons_zero, List.getElem_cons_succ, List.setIfInBounds_toArray, List.set_cons_zero, List.set_cons_succ]
    refine wpAnyIn_take (i := 7) (v := ?_) rfl rfl (by kernel_rfl) (by kernel_rfl) (by kernel_rfl) (fun _ _ _ h => h) ⟨Or.inl ⟨by rfl, ?_⟩, fun _ => rfl⟩ ?_
    rotate_left
    · intro w
      go_simp
      try with_reducible rfl
    simp only [Act.put, List.getElem_toArray, List.getElem_cons_zero, List.getElem_cons_succ, List.setIfInBounds_toArray, List.set_cons_zero, List.set_cons_succ]
    refine wpAnyIn_take (i := 8) (v := ?_) rfl rfl (by kernel_rfl) (by kernel_rfl) (by kernel_rfl) (fun _ _ _ h => h) ⟨Or.inl ⟨by rfl, ?_⟩, fun _ => rfl⟩ ?_
    rotate_left
    · intro w
      go_simp
      try with_reducible rfl
    simp only [Act.put, List.getElem_toArray, List.getElem_cons_zero, List.getElem_cons_succ, List.setIfInBounds_toArray, List.set_cons_zero, List.set_cons_succ]
    refine wpAnyIn_take (i := 9) (v := undef) rfl rfl (by kernel_rfl) (by kernel_rfl) (by kernel_rfl) (fun _ _ _ h => h) ⟨Or.inr ⟨by rfl, rfl⟩, fun _ => rfl⟩ ?_
    simp only [Act.put, List.getElem_toArray, List.getElem_cons_zero, List.getElem_cons_succ, List.setIfInBounds_toArray, List.set_cons_zero, List.set_cons_succ]
    refine wpAnyIn_take (i := 10) (v := undef) rfl rfl (by kernel_rfl) (by kernel_rfl) (by kernel_rfl) (fun _ _ _ h => h) ⟨Or.inr ⟨by rfl, rfl⟩, fun _ => rfl⟩ ?_
    simp only [Act.put, List.getElem_toArray, List.getElem_cons_zero, List.getElem_cons_succ, List.setIfInBounds_toArray, List.set_cons_zero, List.set_cons_succ]
    refine wpAnyIn_take (i := 11) (v := undef) rfl rfl (by kernel_rfl) (by kernel_rfl) (by kernel_rfl) (fun _ _ _ h => h) ⟨Or.inr ⟨by rfl, rfl⟩, fun _ => rfl⟩ ?_
    simp only [Act.put, List.getElem_toArray, List.getElem_cons_zero, List.getElem_cons_succ, List.setIfInBounds_toArray, List.set_cons_zero, List.set_cons_succ]
    refine wpAnyIn_take (i := 12) (v := undef) rfl rfl (by kernel_rfl) (by kernel_rfl) (by kernel_rfl) (fun _ _ _ h => h) ⟨Or.inr ⟨by rfl, rfl⟩, fun _ => rfl⟩ ?_
    simp only [Act.put, List.getElem_toArray, List.getElem_cons_zero, List.getElem_cons_succ, List.setIfInBounds_toArray, List.set_cons_zero, List.set_cons_succ]
    refine wpAnyIn_take (i := 13) (v := undef) rfl rfl (by kernel_rfl) (by kernel_rfl) (by kernel_rfl) (fun _ _ _ h => h) ⟨Or.inr ⟨by rfl, rfl⟩, fun _ => rfl⟩ ?_
    simp only [Act.put, List.getElem_toArray, List.getElem_cons_zero, List.getElem_cons_succ, List.setIfInBounds_toArray, List.set_cons_zero, List.set_cons_succ]
    refine wpAnyIn_take (i := 14) (v := undef) rfl rfl (by kernel_rfl) (by kernel_rfl) (by kernel_rfl) (fun _ _ _ h => h) ⟨Or.inr ⟨by rfl, rfl⟩, fun _ => rfl⟩ ?_
    simp only [Act.put, List.getElem_toArray, List.getElem_cons_zero, List.getElem_cons_succ, List.setIfInBounds_toArray, List.set_cons_zero, List.set_cons_succ]
    refine wpAnyIn_take (i := 15) (v := undef) rfl rfl (by kernel_rfl) (by kernel_rfl) (by kernel_rfl) (fun _ _ _ h => h) ⟨Or.inr ⟨by rfl, rfl⟩, fun _ => rfl⟩ ?_
    simp only [Act.put, List.getElem_toArray, List.getElem_cons_zero, List.getElem_cons_succ, List.setIfInBounds_toArray, List.set_cons_zero, List.set_cons_succ]
    refine wpAnyIn_take (i := 16) (v := undef) rfl rfl (by kernel_rfl) (by kernel_rfl) (by kernel_rfl) (fun _ _ _ h => h) ⟨Or.inr ⟨by rfl, rfl⟩, fun _ => rfl⟩ ?_
    simp only [Act.put, List.getElem_toArray, List.getElem_cons_zero, List.getElem_cons_succ, List.setIfInBounds_toArray, List.set_cons_zero, List.set_cons_succ]
    refine wpAnyIn_take (i := 17) (v := undef) rfl rfl (by kernel_rfl) (by kernel_rfl) (by kernel_rfl) (fun _ _ _ h => h) ⟨Or.inr ⟨by rfl, rfl⟩, fun _ => rfl⟩ ?_
    simp only [Act.put, List.getElem_toArray, List.getElem_cons_zero, List.getElem_cons_succ, List.setIfInBounds_toArray, List.set_cons_zero, List.set_cons_succ]
    refine wpAnyIn_take (i := 18) (v := undef) rfl rfl (by kernel_rfl) (by kernel_rfl) (by kernel_rfl) (fun _ _ _ h => h) ⟨Or.inr ⟨by rfl, rfl⟩, fun _ => rfl⟩ ?_
    simp only [Act.put, List.getElem_toArray, List.getElem_cons_zero, List.getElem_cons_succ, List.setIfInBounds_toArray, List.set_cons_zero, List.set_cons_succ]
    refine wpAnyIn_take (i := 19) (v := undef) rfl rfl (by kernel_rfl) (by kernel_rfl) (by kernel_rfl) (fun _ _ _ h => h) ⟨Or.inr ⟨by rfl, rfl⟩, fun _ => rfl⟩ ?_
    simp only [Act.put, List.getElem_toArray, List.getElem_cons_zero, List.getElem_cons_succ, List.setIfInBounds_toArray, List.set_cons_zero, List.set_cons_succ]
    refine wpAnyIn_take (i := 20) (v := undef) rfl rfl (by kernel_rfl) (by kernel_rfl) (by kernel_rfl) (fun _ _ _ h => h) ⟨Or.inr ⟨by rfl, rfl⟩, fun _ => rfl⟩ ?_
    simp only [Act.put, List.getElem_toArray, List.getElem_cons_zero, List.getElem_cons_succ, List.setIfInBounds_toArray, List.set_cons_zero, List.set_cons_succ]
    refine wpAnyIn_take (i := 21) (v := undef) rfl rfl (by kernel_rfl) (by kernel_rfl) (by kernel_rfl) (fun _ _ _ h => h) ⟨Or.inr ⟨by rfl, rfl⟩, fun _ => rfl⟩ ?_
    simp only [Act.put, List.getElem_toArray, List.getElem_cons_zero, List.getElem_cons_succ, List.setIfInBounds_toArray, List.set_cons_zero, List.set_cons_succ]
    refine wpAnyIn_take (i := 22) (v := ?_) rfl rfl (by kernel_rfl) (by kernel_rfl) (by kernel_rfl) (fun _ _ _ h => h) ⟨Or.inl ⟨by rfl, ?_⟩, fun _ => rfl⟩ ?_
    rotate_left
    · intro w
      go_simp
      try with_reducible rfl
    simp only [Act.put, List.getElem_toArray, List.getElem_cons_zero, List.getElem_cons_succ, List.setIfInBounds_toArray, List.set_cons_zero, List.set_cons_succ]
    refine wpAnyIn_done (by kernel_rfl) ?_ _
    have hn2 := nodeE (HS.out _ _ HN.out)
    obtain ⟨-, -, -, -, -, -, -, -, -, -, n10, -, -, -, -, -⟩ := hn2
    have d9 := (cell_drew_own w6 ⟨b, 10, none⟩).trans n10
    gi_wp2_with fail
    refine ⟨trivial, ?_⟩
    refine (callsIn_wide.2 (CT'.out _ HS.out.drew (HD.out _ _ HJ.out))).mono ?_
    rintro e w7 (⟨rfl, hJ, hs⟩ | ⟨rfl, z, hz, hx⟩)
    · have HJ2 := aside hJ
      have HS2 := aside hs
      clear hJ hs n10 d9
      gi_wp2
      refine bodyPost_ret (v := .bool true) (by simp [results, Tryd.results59, go_sem]) rfl (.inl ⟨rfl, ?_, HS.out.trans HS2.out⟩)
      have h9 := HJ2.out
      rw [← HA.out]
      simpa [List.append_assoc] using h9
    · have HX := aside hx
      have HZ := aside hz
      clear hx hz n10 d9
      gi_wp2
      refine bodyPost_ret (v := .bool false) (by simp [results, Tryd.results59, go_sem]) rfl (.inr ⟨rfl, z, ?_, HX.out⟩)
      have h9 := HZ.out
      rw [← HA.out]
      simpa [List.append_assoc] using h9

set_option maxHeartbeats 6400000 in
set_option maxRecDepth 100000 in
theorem walkLow {l m N : Nat} {J Jx : List (Rw En Tl) → World → Prop} {Kp : World → World → Prop} (hKp : ∀ A B, Kp A B → Stay 120 A B) (hd : ∀ s W, J s W → J s W.drew) (hY : YOk l m N Kp J Jx)
    {W : World} {b : Nat} {k : ByteArray} {v : En} {s q : Tl} {lp rp : Option Addr} {C H I K lc : Int} {pre sl sr all : List (Rw En Tl)} (hb : W.heap[b]? = some (.cells #[.string k, .string v.k, .int .i64 v.c, .int .i64 v.n, .string v.v, .bool v.d, .int .i64 s.n, .int .u64 s.a, .int .u64 s.b, .pointer lp, .pointer rp, .int .i64 C, .int .i64 H, .int .i64 q.n, .int .u64 q.a, .int .u64 q.b] 120 (0, 0)))
    (CR : Calls Tryd.prog 51 #[.pointer lp] W fun e w' => e = .returned (.int .i64 lc) ∧ w' = W)
    (CL : Calls Tryd.prog 59 #[.pointer lp, .int .i64 I, .int .i64 K, .func (.yield l) #[] #[]] W (WOk J Jx pre sl W))
    (CT : ∀ W', Stay 120 W W' → J (pre ++ sl) W' → Calls Tryd.prog 59 #[.pointer rp, .int .i64 0, .int .i64 (K - lc - 1), .func (.yield l) #[] #[]] W' (WOk J Jx (pre ++ sl) sr W'))
    (h1 : I < K) (ho : I ≤ lc) (ho2 : ¬ lc < K) (w1 : IntKind.i64.wrap (I - lc) = I - lc) (w2 : IntKind.i64.wrap (I - lc - 1) = I - lc - 1) (w3 : IntKind.i64.wrap (K - lc) = K - lc) (w4 : IntKind.i64.wrap (K - lc - 1) = K - lc - 1)
    (hall : sl ++ ([] ++ sr) = all) :
    Calls Tryd.prog 59 #[.pointer (some ⟨b, 0, none⟩), .int .i64 I, .int .i64 K, .func (.yield l) #[] #[]] W (WOk J Jx pre all W) := by
  have HN := aside hb
  have CR' := aside CR
  have CL' := aside CL
  have CT' := aside CT
  have HY := aside hY
  have HA := aside hall
  skip
  have HD := aside hd
  have HKP := aside hKp
  have hn := nodeE hb
  obtain ⟨-, -, -, -, -, -, -, -, -, n9, -, -, -, -, -, -⟩ := hn
  clear hb CR CL CT hY hall hd hKp
  have hx : I - lc - 1 < 0 ∨ ¬ I - lc - 1 < 0 := by omega
  have hx0 : I - lc - 1 < 0 := by omega
  clear hx
  refine (callsIn_wide (n := m + 1)).1 ?_
  refine callsIn_of_wp Tryd.func59 rfl trivial ?_ rfl
  simp only [Tryd.ntmps59, List.size_toArray, List.length_cons, List.length_nil, Nat.reduceAdd, Nat.reduceSub, Array.replicate_succ, Array.replicate_zero, List.push_toArray, List.append_toArray, List.nil_append, List.cons_append]
  gi_wp2_with fail
  refine ⟨trivial, ?_⟩
  refine (callsIn_wide.2 CR'.out).mono ?_
  rintro e w5 ⟨rfl, rfl⟩
  gi_wp2_with fail
  refine ⟨trivial, ?_⟩
  refine (callsIn_wide.2 CL'.out).mono ?_
  rintro e w6 (⟨rfl, hJ, hs⟩ | ⟨rfl, z, hz, hx⟩)
  rotate_left
  · have HX := aside hx
    have HZ := aside hz
    clear hx hz
    gi_wp2
    refine bodyPost_ret (v := .bool false) (by simp [results, Tryd.results59, go_sem]) rfl (.inr ⟨rfl, z, ?_, HX.out⟩)
    have hz := HZ.out
    rw [← HA.out]
    exact hz.trans (List.prefix_append_right_inj pre |>.2 (List.prefix_append _ _))
  · have HJ := aside hJ
    have HS := aside hs
    clear hJ hs n9 CR' CL'
    gi_wp2_with fail
    refine wpIn_region_any (by kernel_rfl) ?_
    refine wpAnyIn_take (i := 0) (v := ?_) rfl rfl (by kernel_rfl) (by kernel_rfl) (by kernel_rfl) (fun _ _ _ h => h) ⟨Or.inl ⟨by rfl, ?_⟩, fun _ => rfl⟩ ?_
    rotate_left
    · intro w
      go_simp
      try with_reducible rfl
    simp only [Act.put, List.getElem_toArray, List.getElem_cons_zero, List.setIfInBounds_toArray, List.set_cons_zero, List.set_cons_succ]
    refine wpAnyIn_take (i := 1) (v := ?_) rfl rfl (by kernel_rfl) (by kernel_rfl) (by kernel_rfl) (fun _ _ _ h => h) ⟨Or.inl ⟨by rfl, ?_⟩, fun _ => rfl⟩ ?_
    rotate_left
    · intro w
      go_simp
      try with_reducible rfl
    simp only [Act.put, List.getElem_toArray, List.getElem_cons_zero, List.getElem_cons_succ, List.setIfInBounds_toArray, List.set_cons_zero, List.set_cons_succ]
    refine wpAnyIn_take (i := 2) (v := .bool true) rfl rfl (by kernel_rfl) (by kernel_rfl) (by kernel_rfl) (fun _ _ _ h => h) ⟨Or.inl ⟨by rfl, ?_⟩, fun _ => rfl⟩ ?_
    · intro w
      go_simp
      try omega
    simp only [Act.put, List.getElem_toArray, List.getElem_cons_zero, List.getElem_cons_succ, List.setIfInBounds_toArray, List.set_cons_zero, List.set_cons_succ]
    refine wpAnyIn_take (i := 3) (v := ?_) rfl rfl (by kernel_rfl) (by kernel_rfl) (by kernel_rfl) (fun _ _ _ h => h) ⟨Or.inl ⟨by rfl, ?_⟩, fun _ => rfl⟩ ?_
    rotate_left
    · intro w
      go_simp
      try with_reducible rfl
    simp only [Act.put, List.getElem_toArray, List.getElem_cons_zero, List.getElem_cons_succ, List.setIfInBounds_toArray, List.set_cons_zero, List.set_cons_succ]
    refine wpAnyIn_take (i := 4) (v := ?_) rfl rfl (by kernel_rfl) (by kernel_rfl) (by kernel_rfl) (fun _ _ _ h => h) ⟨Or.inl ⟨by rfl, ?_⟩, fun _ => rfl⟩ ?_
    rotate_left
    · intro w
      go_simp
      try with_reducible rfl
    simp only [Act.put, List.getElem_toArray, List.getElem_cons_zero, List.getElem_cons_succ, List.setIfInBounds_toArray, List.set_cons_zero, List.set_cons_succ]
    refine wpAnyIn_take (i := 5) (v := ?_) rfl rfl (by kernel_rfl) (by kernel_rfl) (by kernel_rfl) (fun _ _ _ h => h) ⟨Or.inl ⟨by rfl, ?_⟩, fun _ => rfl⟩ ?_
    rotate_left
    · intro w
      go_simp
      try with_reducible rfl
    simp only [Act.put, List.getElem_toArray, List.getElem_cons_zero, List.getElem_cons_succ, List.setIfInBounds_toArray, List.set_cons_zero, List.set_cons_succ]
    refine wpAnyIn_take (i := 6) (v := .bool false) rfl rfl (by kernel_rfl) (by kernel_rfl) (by kernel_rfl) (fun _ _ _ h => h) ⟨Or.inl ⟨by rfl, ?_⟩, fun _ => rfl⟩ ?_
    · intro w
      go_simp
      try omega
    simp only [Act.put, List.getElem_toArray, List.getElem_cons_zero, List.getElem_cons_succ, List.setIfInBounds_toArray, List.set_cons_zero, List.set_cons_succ]
    refine wpAnyIn_take (i := 7) (v := ?_) rfl rfl (by kernel_rfl) (by kernel_rfl) (by kernel_rfl) (fun _ _ _ h => h) ⟨Or.inl ⟨by rfl, ?_⟩, fun _ => rfl⟩ ?_
    rotate_left
    · intro w
      go_simp
      try with_reducible rfl
    simp only [Act.put, List.getElem_toArray, List.getElem_cons_zero, List.getElem_cons_succ, List.setIfInBounds_toArray, List.set_cons_zero, List.set_cons_succ]
    refine wpAnyIn_take (i := 8) (v := ?_) rfl rfl (by kernel_rfl) (by kernel_rfl) (by kernel_rfl) (fun _ _ _ h => h) ⟨Or.inl ⟨by rfl, ?_⟩, fun _ => rfl⟩ ?_
    rotate_left
    · intro w
      go_simp
      try with_reducible rfl
    simp only [Act.put, List.getElem_toArray, List.getElem_cons_zero, List.getElem_cons_succ, List.setIfInBounds_toArray, List.set_cons_zero, List.set_cons_succ]
    refine wpAnyIn_take (i := 9) (v := undef) rfl rfl (by kernel_rfl) (by kernel_rfl) (by kernel_rfl) (fun _ _ _ h => h) ⟨Or.inr ⟨by rfl, rfl⟩, fun _ => rfl⟩ ?_
    simp only [Act.put, List.getElem_toArray, List.getElem_cons_zero, List.getElem_cons_succ, List.setIfInBounds_toArray, List.set_cons_zero, List.set_cons_succ]
    refine wpAnyIn_take (i := 10) (v := undef) rfl rfl (by kernel_rfl) (by kernel_rfl) (by kernel_rfl) (fun _ _ _ h => h) ⟨Or.inr ⟨by rfl, rfl⟩, fun _ => rfl⟩ ?_
    simp only [Act.put, List.getElem_toArray, List.getElem_cons_zero, List.getElem_cons_succ, List.setIfInBounds_toArray, List.set_cons_zero, List.set_cons_succ]
    refine wpAnyIn_take (i := 11) (v := undef) rfl rfl (by kernel_rfl) (by kernel_rfl) (by kernel_rfl) (fun _ _ _ h => h) ⟨Or.inr ⟨by rfl, rfl⟩, fun _ => rfl⟩ ?_
    simp only [Act.put, List.getElem_toArray, List.getElem_cons_zero, List.getElem_cons_succ, List.setIfInBounds_toArray, List.set_cons_zero, List.set_cons_succ]
    refine wpAnyIn_take (i := 12) (v := undef) rfl rfl (by kernel_rfl) (by kernel_rfl) (by kernel_rfl) (fun _ _ _ h => h) ⟨Or.inr ⟨by rfl, rfl⟩, fun _ => rfl⟩ ?_
    simp only [Act.put, List.getElem_toArray, List.getElem_cons_zero, List.getElem_cons_succ, List.setIfInBounds_toArray, List.set_cons_zero, List.set_cons_succ]
    refine wpAnyIn_take (i := 13) (v := undef) rfl rfl (by kernel_rfl) (by kernel_rfl) (by kernel_rfl) (fun _ _ _ h => h) ⟨Or.inr ⟨by rfl, rfl⟩, fun _ => rfl⟩ ?_
    simp only [Act.put, List.getElem_toArray, List.getElem_cons_zero, List.getElem_cons_succ, List.setIfInBounds_toArray, List.set_cons_zero, List.set_cons_succ]
    refine wpAnyIn_take (i := 14) (v := undef) rfl rfl (by kernel_rfl) (by kernel_rfl) (by kernel_rfl) (fun _ _ _ h => h) ⟨Or.inr ⟨by rfl, rfl⟩, fun _ => rfl⟩ ?_
    simp only [Act.put, List.getElem_toArray, List.getElem_cons_zero, List.getElem_cons_succ, List.setIfInBounds_toArray, List.set_cons_zero, List.set_cons_succ]
    refine wpAnyIn_take (i := 15) (v := undef) rfl rfl (by kernel_rfl) (by kernel_rfl) (by kernel_rfl) (fun _ _ _ h => h) ⟨Or.inr ⟨by rfl, rfl⟩, fun _ => rfl⟩ ?_
    simp only [Act.put, List.getElem_toArray, List.getElem_cons_zero, List.getElem_cons_succ, List.setIfInBounds_toArray, List.set_cons_zero, List.set_cons_succ]
    refine wpAnyIn_take (i := 16) (v := undef) rfl rfl (by kernel_rfl) (by kernel_rfl) (by kernel_rfl) (fun _ _ _ h => h) ⟨Or.inr ⟨by rfl, rfl⟩, fun _ => rfl⟩ ?_
    simp only [Act.put, List.getElem_toArray, List.getElem_cons_zero, List.getElem_cons_succ, List.setIfInBounds_toArray, List.set_cons_zero, List.set_cons_succ]
    refine wpAnyIn_take (i := 17) (v := undef) rfl rfl (by kernel_rfl) (by kernel_rfl) (by kernel_rfl) (fun _ _ _ h => h) ⟨Or.inr ⟨by rfl, rfl⟩, fun _ => rfl⟩ ?_
    simp only [Act.put, List.getElem_toArray, List.getElem_cons_zero, List.getElem_cons_succ, List.setIfInBounds_toArray, List.set_cons_zero, List.set_cons_succ]
    refine wpAnyIn_take (i := 18) (v := undef) rfl rfl (by kernel_rfl) (by kernel_rfl) (by kernel_rfl) (fun _ _ _ h => h) ⟨Or.inr ⟨by rfl, rfl⟩, fun _ => rfl⟩ ?_
    simp only [Act.put, List.getElem_toArray, List.getElem_cons_zero, List.getElem_cons_succ, List.setIfInBounds_toArray, List.set_cons_zero, List.set_cons_succ]
    refine wpAnyIn_take (i := 19) (v := undef) rfl rfl (by kernel_rfl) (by kernel_rfl) (by kernel_rfl) (fun _ _ _ h => h) ⟨Or.inr ⟨by rfl, rfl⟩, fun _ => rfl⟩ ?_
    simp only [Act.put, List.getElem_toArray, List.getElem_cons_zero, List.getElem_cons_succ, List.setIfInBounds_toArray, List.set_cons_zero, List.set_cons_succ]
    refine wpAnyIn_take (i := 20) (v := undef) rfl rfl (by kernel_rfl) (by kernel_rfl) (by kernel_rfl) (fun _ _ _ h => h) ⟨Or.inr ⟨by rfl, rfl⟩, fun _ => rfl⟩ ?_
    simp only [Act.put, List.getElem_toArray, List.getElem_cons_zero, List.getElem_cons_succ, List.setIfInBounds_toArray, List.set_cons_zero, List.set_cons_succ]
    refine wpAnyIn_take (i := 21) (v := undef) rfl rfl (by kernel_rfl) (by kernel_rfl) (by kernel_rfl) (fun _ _ _ h => h) ⟨Or.inr ⟨by rfl, rfl⟩, fun _ => rfl⟩ ?_
    simp only [Act.put, List.getElem_toArray, List.getElem_cons_zero, List.getElem_cons_succ, List.setIfInBounds_toArray, List.set_cons_zero, List.set_cons_succ]
    refine wpAnyIn_take (i := 22) (v := ?_) rfl rfl (by kernel_rfl) (by kernel_rfl) (by kernel_rfl) (fun _ _ _ h => h) ⟨Or.inl ⟨by rfl, ?_⟩, fun _ => rfl⟩ ?_
    rotate_left
    · intro w
      go_simp
      try with_reducible rfl
    simp only [Act.put, List.getElem_toArray, List.getElem_cons_zero, List.getElem_cons_succ, List.setIfInBounds_toArray, List.set_cons_zero, List.set_cons_succ]
    refine wpAnyIn_done (by kernel_rfl) ?_ _
    have hn2 := nodeE (HS.out _ _ HN.out)
    obtain ⟨-, -, -, -, -, -, -, -, -, -, n10, -, -, -, -, -⟩ := hn2
    have d9 := (cell_drew_own w6 ⟨b, 10, none⟩).trans n10
    gi_wp2_with fail
    refine ⟨trivial, ?_⟩
    refine (callsIn_wide.2 (CT'.out _ HS.out.drew (HD.out _ _ HJ.out))).mono ?_
    rintro e w7 (⟨rfl, hJ, hs⟩ | ⟨rfl, z, hz, hx⟩)
    · have HJ2 := aside hJ
      have HS2 := aside hs
      clear hJ hs n10 d9
      gi_wp2
      refine bodyPost_ret (v := .bool true) (by simp [results, Tryd.results59, go_sem]) rfl (.inl ⟨rfl, ?_, HS.out.trans HS2.out⟩)
      have h9 := HJ2.out
      rw [← HA.out]
      simpa [List.append_assoc] using h9
    · have HX := aside hx
      have HZ := aside hz
      clear hx hz n10 d9
      gi_wp2
      refine bodyPost_ret (v := .bool false) (by simp [results, Tryd.results59, go_sem]) rfl (.inr ⟨rfl, z, ?_, HX.out⟩)
      have h9 := HZ.out
      rw [← HA.out]
      simpa [List.append_assoc] using h9

set_option maxHeartbeats 6400000 in
set_option maxRecDepth 100000 in
theorem walkOwn {l m N : Nat} {J Jx : List (Rw En Tl) → World → Prop} {Kp : World → World → Prop} (hKp : ∀ A B, Kp A B → Stay 120 A B) (hd : ∀ s W, J s W → J s W.drew) (hY : YOk l m N Kp J Jx)
    {W : World} {b : Nat} {k : ByteArray} {v : En} {s q : Tl} {lp rp : Option Addr} {C H I K lc : Int} {pre sl sr all : List (Rw En Tl)} (hb : W.heap[b]? = some (.cells #[.string k, .string v.k, .int .i64 v.c, .int .i64 v.n, .string v.v, .bool v.d, .int .i64 s.n, .int .u64 s.a, .int .u64 s.b, .pointer lp, .pointer rp, .int .i64 C, .int .i64 H, .int .i64 q.n, .int .u64 q.a, .int .u64 q.b] 120 (0, 0)))
    (CR : Calls Tryd.prog 51 #[.pointer lp] W fun e w' => e = .returned (.int .i64 lc) ∧ w' = W)
    (CL : Calls Tryd.prog 59 #[.pointer lp, .int .i64 I, .int .i64 lc, .func (.yield l) #[] #[]] W (WOk J Jx pre sl W))
    (CT : ∀ W', Stay 120 W W' → J (pre ++ sl ++ [⟨k, v, s⟩]) W' → Calls Tryd.prog 59 #[.pointer rp, .int .i64 0, .int .i64 (K - lc - 1), .func (.yield l) #[] #[]] W' (WOk J Jx (pre ++ sl ++ [⟨k, v, s⟩]) sr W'))
    (h1 : I < K) (ho : I ≤ lc) (ho2 : lc < K) (w1 : IntKind.i64.wrap (I - lc) = I - lc) (w2 : IntKind.i64.wrap (I - lc - 1) = I - lc - 1) (w3 : IntKind.i64.wrap (K - lc) = K - lc) (w4 : IntKind.i64.wrap (K - lc - 1) = K - lc - 1)
    (hall : sl ++ ([⟨k, v, s⟩] ++ sr) = all) (hN : (pre ++ sl).length < N) :
    Calls Tryd.prog 59 #[.pointer (some ⟨b, 0, none⟩), .int .i64 I, .int .i64 K, .func (.yield l) #[] #[]] W (WOk J Jx pre all W) := by
  have HN := aside hb
  have CR' := aside CR
  have CL' := aside CL
  have CT' := aside CT
  have HY := aside hY
  have HA := aside hall
  have HLN := aside hN
  have HD := aside hd
  have HKP := aside hKp
  have hn := nodeE hb
  obtain ⟨-, -, -, -, -, -, -, -, -, n9, -, -, -, -, -, -⟩ := hn
  clear hb CR CL CT hY hall hd hKp hN
  have hx : I - lc - 1 < 0 ∨ ¬ I - lc - 1 < 0 := by omega
  have hx0 : I - lc - 1 < 0 := by omega
  clear hx
  refine (callsIn_wide (n := m + 1)).1 ?_
  refine callsIn_of_wp Tryd.func59 rfl trivial ?_ rfl
  simp only [Tryd.ntmps59, List.size_toArray, List.length_cons, List.length_nil, Nat.reduceAdd, Nat.reduceSub, Array.replicate_succ, Array.replicate_zero, List.push_toArray, List.append_toArray, List.nil_append, List.cons_append]
  gi_wp2_with fail
  refine ⟨trivial, ?_⟩
  refine (callsIn_wide.2 CR'.out).mono ?_
  rintro e w5 ⟨rfl, rfl⟩
  gi_wp2_with fail
  refine ⟨trivial, ?_⟩
  refine (callsIn_wide.2 CL'.out).mono ?_
  rintro e w6 (⟨rfl, hJ, hs⟩ | ⟨rfl, z, hz, hx⟩)
  rotate_left
  · have HX := aside hx
    have HZ := aside hz
    clear hx hz
    gi_wp2
    refine bodyPost_ret (v := .bool false) (by simp [results, Tryd.results59, go_sem]) rfl (.inr ⟨rfl, z, ?_, HX.out⟩)
    have hz := HZ.out
    rw [← HA.out]
    exact hz.trans (List.prefix_append_right_inj pre |>.2 (List.prefix_append _ _))
  · have HJ := aside hJ
    have HS := aside hs
    clear hJ hs n9 CR' CL'
    gi_wp2_with fail
    refine wpIn_region_any (by kernel_rfl) ?_
    refine wpAnyIn_take (i := 0) (v := ?_) rfl rfl (by kernel_rfl) (by kernel_rfl) (by kernel_rfl) (fun _ _ _ h => h) ⟨Or.inl ⟨by rfl, ?_⟩, fun _ => rfl⟩ ?_
    rotate_left
    · intro w
      go_simp
      try with_reducible rfl
    simp only [Act.put, List.getElem_toArray, List.getElem_cons_zero, List.setIfInBounds_toArray, List.set_cons_zero, List.set_cons_succ]
    refine wpAnyIn_take (i := 1) (v := ?_) rfl rfl (by kernel_rfl) (by kernel_rfl) (by kernel_rfl) (fun _ _ _ h => h) ⟨Or.inl ⟨by rfl, ?_⟩, fun _ => rfl⟩ ?_
    rotate_left
    · intro w
      go_simp
      try with_reducible rfl
    simp only [Act.put, List.getElem_toArray, List.getElem_cons_zero, List.getElem_cons_succ, List.setIfInBounds_toArray, List.set_cons_zero, List.set_cons_succ]
    refine wpAnyIn_take (i := 2) (v := .bool true) rfl rfl (by kernel_rfl) (by kernel_rfl) (by kernel_rfl) (fun _ _ _ h => h) ⟨Or.inl ⟨by rfl, ?_⟩, fun _ => rfl⟩ ?_
    · intro w
      go_simp
      try omega
    simp only [Act.put, List.getElem_toArray, List.getElem_cons_zero, List.getElem_cons_succ, List.setIfInBounds_toArray, List.set_cons_zero, List.set_cons_succ]
    refine wpAnyIn_take (i := 3) (v := ?_) rfl rfl (by kernel_rfl) (by kernel_rfl) (by kernel_rfl) (fun _ _ _ h => h) ⟨Or.inl ⟨by rfl, ?_⟩, fun _ => rfl⟩ ?_
    rotate_left
    · intro w
      go_simp
      try with_reducible rfl
    simp only [Act.put, List.getElem_toArray, List.getElem_cons_zero, List.getElem_cons_succ, List.setIfInBounds_toArray, List.set_cons_zero, List.set_cons_succ]
    refine wpAnyIn_take (i := 4) (v := ?_) rfl rfl (by kernel_rfl) (by kernel_rfl) (by kernel_rfl) (fun _ _ _ h => h) ⟨Or.inl ⟨by rfl, ?_⟩, fun _ => rfl⟩ ?_
    rotate_left
    · intro w
      go_simp
      try with_reducible rfl
    simp only [Act.put, List.getElem_toArray, List.getElem_cons_zero, List.getElem_cons_succ, List.setIfInBounds_toArray, List.set_cons_zero, List.set_cons_succ]
    refine wpAnyIn_take (i := 5) (v := ?_) rfl rfl (by kernel_rfl) (by kernel_rfl) (by kernel_rfl) (fun _ _ _ h => h) ⟨Or.inl ⟨by rfl, ?_⟩, fun _ => rfl⟩ ?_
    rotate_left
    · intro w
      go_simp
      try with_reducible rfl
    simp only [Act.put, List.getElem_toArray, List.getElem_cons_zero, List.getElem_cons_succ, List.setIfInBounds_toArray, List.set_cons_zero, List.set_cons_succ]
    refine wpAnyIn_take (i := 6) (v := .bool true) rfl rfl (by kernel_rfl) (by kernel_rfl) (by kernel_rfl) (fun _ _ _ h => h) ⟨Or.inl ⟨by rfl, ?_⟩, fun _ => rfl⟩ ?_
    · intro w
      go_simp
      try omega
    simp only [Act.put, List.getElem_toArray, List.getElem_cons_zero, List.getElem_cons_succ, List.setIfInBounds_toArray, List.set_cons_zero, List.set_cons_succ]
    refine wpAnyIn_take (i := 7) (v := ?_) rfl rfl (by kernel_rfl) (by kernel_rfl) (by kernel_rfl) (fun _ _ _ h => h) ⟨Or.inl ⟨by rfl, ?_⟩, fun _ => rfl⟩ ?_
    rotate_left
    · intro w
      go_simp
      try with_reducible rfl
    simp only [Act.put, List.getElem_toArray, List.getElem_cons_zero, List.getElem_cons_succ, List.setIfInBounds_toArray, List.set_cons_zero, List.set_cons_succ]
    refine wpAnyIn_take (i := 8) (v := ?_) rfl rfl (by kernel_rfl) (by kernel_rfl) (by kernel_rfl) (fun _ _ _ h => h) ⟨Or.inl ⟨by rfl, ?_⟩, fun _ => rfl⟩ ?_
    rotate_left
    · intro w
      go_simp
      try with_reducible rfl
    simp only [Act.put, List.getElem_toArray, List.getElem_cons_zero, List.getElem_cons_succ, List.setIfInBounds_toArray, List.set_cons_zero, List.set_cons_succ]
    refine wpAnyIn_take (i := 9) (v := ?_) rfl rfl (by kernel_rfl) (by kernel_rfl) (by kernel_rfl) (fun _ _ _ h => h) ⟨Or.inl ⟨by rfl, ?_⟩, fun _ => rfl⟩ ?_
    rotate_left
    · intro w
      go_simp
      try with_reducible rfl
    simp only [Act.put, List.getElem_toArray, List.getElem_cons_zero, List.getElem_cons_succ, List.setIfInBounds_toArray, List.set_cons_zero, List.set_cons_succ]
    refine wpAnyIn_take (i := 10) (v := ?_) rfl rfl (by kernel_rfl) (by kernel_rfl) (by kernel_rfl) (fun _ _ _ h => h) ⟨Or.inl ⟨by rfl, ?_⟩, fun _ => rfl⟩ ?_
    rotate_left
    · intro w
      go_simp
      try with_reducible rfl
    simp only [Act.put, List.getElem_toArray, List.getElem_cons_zero, List.getElem_cons_succ, List.setIfInBounds_toArray, List.set_cons_zero, List.set_cons_succ]
    refine wpAnyIn_take (i := 11) (v := ?_) rfl rfl (by kernel_rfl) (by kernel_rfl) (by kernel_rfl) (fun _ _ _ h => h) ⟨Or.inl ⟨by rfl, ?_⟩, fun _ => rfl⟩ ?_
    rotate_left
    · intro w
      go_simp
      try with_reducible rfl
    simp only [Act.put, List.getElem_toArray, List.getElem_cons_zero, List.getElem_cons_succ, List.setIfInBounds_toArray, List.set_cons_zero, List.set_cons_succ]
    refine wpAnyIn_take (i := 12) (v := ?_) rfl rfl (by kernel_rfl) (by kernel_rfl) (by kernel_rfl) (fun _ _ _ h => h) ⟨Or.inl ⟨by rfl, ?_⟩, fun _ => rfl⟩ ?_
    rotate_left
    · intro w
      go_simp
      try with_reducible rfl
    simp only [Act.put, List.getElem_toArray, List.getElem_cons_zero, List.getElem_cons_succ, List.setIfInBounds_toArray, List.set_cons_zero, List.set_cons_succ]
    refine wpAnyIn_take (i := 13) (v := ?_) rfl rfl (by kernel_rfl) (by kernel_rfl) (by kernel_rfl) (fun _ _ _ h => h) ⟨Or.inl ⟨by rfl, ?_⟩, fun _ => rfl⟩ ?_
    rotate_left
    · intro w
      go_simp
      try with_reducible rfl
    simp only [Act.put, List.getElem_toArray, List.getElem_cons_zero, List.getElem_cons_succ, List.setIfInBounds_toArray, List.set_cons_zero, List.set_cons_succ]
    refine wpAnyIn_take (i := 15) (v := ?_) rfl rfl (by kernel_rfl) (by kernel_rfl) (by kernel_rfl) (fun _ _ _ h => h) ⟨Or.inl ⟨by rfl, ?_⟩, fun _ => rfl⟩ ?_
    rotate_left
    · intro w
      go_simp
      try with_reducible rfl
    simp only [Act.put, List.getElem_toArray, List.getElem_cons_zero, List.getElem_cons_succ, List.setIfInBounds_toArray, List.set_cons_zero, List.set_cons_succ]
    refine wpAnyIn_take (i := 16) (v := ?_) rfl rfl (by kernel_rfl) (by kernel_rfl) (by kernel_rfl) (fun _ _ _ h => h) ⟨Or.inl ⟨by rfl, ?_⟩, fun _ => rfl⟩ ?_
    rotate_left
    · intro w
      go_simp
      try with_reducible rfl
    simp only [Act.put, List.getElem_toArray, List.getElem_cons_zero, List.getElem_cons_succ, List.setIfInBounds_toArray, List.set_cons_zero, List.set_cons_succ]
    refine wpAnyIn_take (i := 17) (v := ?_) rfl rfl (by kernel_rfl) (by kernel_rfl) (by kernel_rfl) (fun _ _ _ h => h) ⟨Or.inl ⟨by rfl, ?_⟩, fun _ => rfl⟩ ?_
    rotate_left
    · intro w
      go_simp
      try with_reducible rfl
    simp only [Act.put, List.getElem_toArray, List.getElem_cons_zero, List.getElem_cons_succ, List.setIfInBounds_toArray, List.set_cons_zero, List.set_cons_succ]
    refine wpAnyIn_take (i := 18) (v := ?_) rfl rfl (by kernel_rfl) (by kernel_rfl) (by kernel_rfl) (fun _ _ _ h => h) ⟨Or.inl ⟨by rfl, ?_⟩, fun _ => rfl⟩ ?_
    rotate_left
    · intro w
      go_simp
      try with_reducible rfl
    simp only [Act.put, List.getElem_toArray, List.getElem_cons_zero, List.getElem_cons_succ, List.setIfInBounds_toArray, List.set_cons_zero, List.set_cons_succ]
    have hn2 := nodeE (HS.out.drew _ _ HN.out)
    obtain ⟨n0, n1, n2, n3, n4, n5, -, -, -, -, -, -, -, -, -, -⟩ := hn2
    obtain ⟨fn, tmps, assign, body, hy, hR⟩ := HY.out (pre ++ sl) ⟨k, v, s⟩ w6.drew (HD.out _ _ HJ.out) HLN.out
    dsimp only [encs2] at hy
    have HR := aside hR
    clear hR
    refine wpAnyIn_ready (rs := [14, 19]) (by kernel_rfl) (by simp) ?_
    refine AllReadyIn.cons rfl (fun K hK => ?_) (AllReadyIn.cons rfl (fun K hK => ?_) AllReadyIn.nil)
    · go_simp
      refine hK _ _ ?_
      clear hK K
      refine wpAnyIn_ready (rs := [19]) (by kernel_rfl) (by simp) ?_
      refine AllReadyIn.cons rfl (fun K hK => ?_) AllReadyIn.nil
      go_simp
      refine hK _ _ ?_
      clear hK K
      refine wpAnyIn_ready (rs := [20]) (by kernel_rfl) (by simp) ?_
      refine AllReadyIn.cons rfl (fun K hK => ?_) AllReadyIn.nil
      go_simp
      refine HR.out.mono ?_
      rintro e w7 (⟨rfl, hJ2, hk2⟩ | ⟨rfl, hx2⟩)
      · refine hK _ _ ?_
        clear hK K hy n0 n1 n2 n3 n4 n5
        have HJ2 := aside hJ2
        have HS2 := aside ((HS.out.drew).trans (HKP.out _ _ hk2))
        clear hJ2 hk2
        refine wpAnyIn_take (i := 21) (v := ?_) rfl rfl (by kernel_rfl) (by kernel_rfl) (by kernel_rfl) (fun _ _ _ h => h) ⟨Or.inl ⟨by rfl, ?_⟩, fun _ => rfl⟩ ?_
        rotate_left
        · intro w
          go_simp
          try with_reducible rfl
        simp only [Act.put, List.getElem_toArray, List.getElem_cons_zero, List.getElem_cons_succ, List.setIfInBounds_toArray, List.set_cons_zero, List.set_cons_succ]
        refine wpAnyIn_take (i := 22) (v := ?_) rfl rfl (by kernel_rfl) (by kernel_rfl) (by kernel_rfl) (fun _ _ _ h => h) ⟨Or.inl ⟨by rfl, ?_⟩, fun _ => rfl⟩ ?_
        rotate_left
        · intro w
          go_simp
          try with_reducible rfl
        simp only [Act.put, List.getElem_toArray, List.getElem_cons_zero, List.getElem_cons_succ, List.setIfInBounds_toArray, List.set_cons_zero, List.set_cons_succ]
        refine wpAnyIn_done (by kernel_rfl) ?_ _
        have hn2 := nodeE (HS2.out _ _ HN.out)
        obtain ⟨-, -, -, -, -, -, -, -, -, -, n10, -, -, -, -, -⟩ := hn2
        gi_wp2_with fail
        refine ⟨trivial, ?_⟩
        refine (callsIn_wide.2 (CT'.out _ HS2.out HJ2.out)).mono ?_
        rintro e w8 (⟨rfl, hJ, hs⟩ | ⟨rfl, z, hz, hx⟩)
        · have HJ3 := aside hJ
          have HS3 := aside hs
          clear hJ hs n10
          gi_wp2
          refine bodyPost_ret (v := .bool true) (by simp [results, Tryd.results59, go_sem]) rfl (.inl ⟨rfl, ?_, HS2.out.trans HS3.out⟩)
          have h9 := HJ3.out
          rw [← HA.out]
          simpa [List.append_assoc] using h9
        · have HX := aside hx
          have HZ := aside hz
          clear hx hz n10
          gi_wp2
          refine bodyPost_ret (v := .bool false) (by simp [results, Tryd.results59, go_sem]) rfl (.inr ⟨rfl, z, ?_, HX.out⟩)
          have h9 := HZ.out
          rw [← HA.out]
          simpa [List.append_assoc] using h9
      · refine hK _ _ ?_
        clear hK K hy n0 n1 n2 n3 n4 n5
        have HX := aside hx2
        clear hx2
        refine wpAnyIn_take (i := 21) (v := ?_) rfl rfl (by kernel_rfl) (by kernel_rfl) (by kernel_rfl) (fun _ _ _ h => h) ⟨Or.inl ⟨by rfl, ?_⟩, fun _ => rfl⟩ ?_
        rotate_left
        · intro w
          go_simp
          try with_reducible rfl
        simp only [Act.put, List.getElem_toArray, List.getElem_cons_zero, List.getElem_cons_succ, List.setIfInBounds_toArray, List.set_cons_zero, List.set_cons_succ]
        refine wpAnyIn_take (i := 22) (v := ?_) rfl rfl (by kernel_rfl) (by kernel_rfl) (by kernel_rfl) (fun _ _ _ h => h) ⟨Or.inl ⟨by rfl, ?_⟩, fun _ => rfl⟩ ?_
        rotate_left
        · intro w
          go_simp
          try with_reducible rfl
        simp only [Act.put, List.getElem_toArray, List.getElem_cons_zero, List.getElem_cons_succ, List.setIfInBounds_toArray, List.set_cons_zero, List.set_cons_succ]
        refine wpAnyIn_done (by kernel_rfl) ?_ _
        gi_wp2
        refine bodyPost_ret (v := .bool false) (by simp [results, Tryd.results59, go_sem]) rfl (.inr ⟨rfl, pre ++ sl ++ [⟨k, v, s⟩], ?_, HX.out⟩)
        rw [← HA.out]
        exact ⟨sr, by simp [List.append_assoc]⟩
    · go_simp
      refine hK _ _ ?_
      clear hK K
      refine wpAnyIn_ready (rs := [14]) (by kernel_rfl) (by simp) ?_
      refine AllReadyIn.cons rfl (fun K hK => ?_) AllReadyIn.nil
      go_simp
      refine hK _ _ ?_
      clear hK K
      refine wpAnyIn_ready (rs := [20]) (by kernel_rfl) (by simp) ?_
      refine AllReadyIn.cons rfl (fun K hK => ?_) AllReadyIn.nil
      go_simp
      refine HR.out.mono ?_
      rintro e w7 (⟨rfl, hJ2, hk2⟩ | ⟨rfl, hx2⟩)
      · refine hK _ _ ?_
        clear hK K hy n0 n1 n2 n3 n4 n5
        have HJ2 := aside hJ2
        have HS2 := aside ((HS.out.drew).trans (HKP.out _ _ hk2))
        clear hJ2 hk2
        refine wpAnyIn_take (i := 21) (v := ?_) rfl rfl (by kernel_rfl) (by kernel_rfl) (by kernel_rfl) (fun _ _ _ h => h) ⟨Or.inl ⟨by rfl, ?_⟩, fun _ => rfl⟩ ?_
        rotate_left
        · intro w
          go_simp
          try with_reducible rfl
        simp only [Act.put, List.getElem_toArray, List.getElem_cons_zero, List.getElem_cons_succ, List.setIfInBounds_toArray, List.set_cons_zero, List.set_cons_succ]
        refine wpAnyIn_take (i := 22) (v := ?_) rfl rfl (by kernel_rfl) (by kernel_rfl) (by kernel_rfl) (fun _ _ _ h => h) ⟨Or.inl ⟨by rfl, ?_⟩, fun _ => rfl⟩ ?_
        rotate_left
        · intro w
          go_simp
          try with_reducible rfl
        simp only [Act.put, List.getElem_toArray, List.getElem_cons_zero, List.getElem_cons_succ, List.setIfInBounds_toArray, List.set_cons_zero, List.set_cons_succ]
        refine wpAnyIn_done (by kernel_rfl) ?_ _
        have hn2 := nodeE (HS2.out _ _ HN.out)
        obtain ⟨-, -, -, -, -, -, -, -, -, -, n10, -, -, -, -, -⟩ := hn2
        gi_wp2_with fail
        refine ⟨trivial, ?_⟩
        refine (callsIn_wide.2 (CT'.out _ HS2.out HJ2.out)).mono ?_
        rintro e w8 (⟨rfl, hJ, hs⟩ | ⟨rfl, z, hz, hx⟩)
        · have HJ3 := aside hJ
          have HS3 := aside hs
          clear hJ hs n10
          gi_wp2
          refine bodyPost_ret (v := .bool true) (by simp [results, Tryd.results59, go_sem]) rfl (.inl ⟨rfl, ?_, HS2.out.trans HS3.out⟩)
          have h9 := HJ3.out
          rw [← HA.out]
          simpa [List.append_assoc] using h9
        · have HX := aside hx
          have HZ := aside hz
          clear hx hz n10
          gi_wp2
          refine bodyPost_ret (v := .bool false) (by simp [results, Tryd.results59, go_sem]) rfl (.inr ⟨rfl, z, ?_, HX.out⟩)
          have h9 := HZ.out
          rw [← HA.out]
          simpa [List.append_assoc] using h9
      · refine hK _ _ ?_
        clear hK K hy n0 n1 n2 n3 n4 n5
        have HX := aside hx2
        clear hx2
        refine wpAnyIn_take (i := 21) (v := ?_) rfl rfl (by kernel_rfl) (by kernel_rfl) (by kernel_rfl) (fun _ _ _ h => h) ⟨Or.inl ⟨by rfl, ?_⟩, fun _ => rfl⟩ ?_
        rotate_left
        · intro w
          go_simp
          try with_reducible rfl
        simp only [Act.put, List.getElem_toArray, List.getElem_cons_zero, List.getElem_cons_succ, List.setIfInBounds_toArray, List.set_cons_zero, List.set_cons_succ]
        refine wpAnyIn_take (i := 22) (v := ?_) rfl rfl (by kernel_rfl) (by kernel_rfl) (by kernel_rfl) (fun _ _ _ h => h) ⟨Or.inl ⟨by rfl, ?_⟩, fun _ => rfl⟩ ?_
        rotate_left
        · intro w
          go_simp
          try with_reducible rfl
        simp only [Act.put, List.getElem_toArray, List.getElem_cons_zero, List.getElem_cons_succ, List.setIfInBounds_toArray, List.set_cons_zero, List.set_cons_succ]
        refine wpAnyIn_done (by kernel_rfl) ?_ _
        gi_wp2
        refine bodyPost_ret (v := .bool false) (by simp [results, Tryd.results59, go_sem]) rfl (.inr ⟨rfl, pre ++ sl ++ [⟨k, v, s⟩], ?_, HX.out⟩)
        rw [← HA.out]
        exact ⟨sr, by simp [List.append_assoc]⟩

end Go.Proofs.YtlgcdcjhflihiaaDoor
namespace Go.Proofs.YtlgcdcjhflihiaaDoor
open Go.RowKit
set_option linter.unusedVariables false
/-- The memory in Add's and Less's loop: the first sum, the second, the result. -/
def add3 (w : World) (x0 x1 b0 b1 r0 r1 : Int) : World :=
  ((w.alloc (.cells #[.int .u64 x0, .int .u64 x1] 62)).alloc (.cells #[.int .u64 b0, .int .u64 b1] 62)).alloc (.cells #[.int .u64 r0, .int .u64 r1] 62)

theorem add3_below (w : World) (x0 x1 b0 b1 r0 r1 : Int) : Below w.heap.size w (add3 w x0 x1 b0 b1 r0 r1) := ((bnew w _).alloc (by simp) _).alloc (by simp; omega) _

def AddRel (w : World) (a0 a1 b0 b1 s0 s1 : Int) (i : Value) (wr : World) : Prop :=
  (i = .int .i64 0 ∧ wr = add3 w a0 a1 b0 b1 0 0) ∨ (i = .int .i64 1 ∧ wr = (add3 w s0 a1 b0 b1 0 0).drew) ∨ (i = .int .i64 2 ∧ wr = (add3 w s0 s1 b0 b1 0 0).drew.drew)

set_option maxHeartbeats 1600000 in
set_option maxRecDepth 100000 in
theorem add_any (a0 a1 b0 b1 : Int) (w : World) :
    Calls Tryd.prog 50 #[.agg #[.int .u64 a0, .int .u64 a1], .agg #[.int .u64 b0, .int .u64 b1]] w fun e w' => e = .returned (.agg #[.int .u64 (IntKind.u64.wrap (a0 + b0)), .int .u64 (IntKind.u64.wrap (a1 + b1))]) ∧ Below w.heap.size w w' := by
  go_enter Tryd.func50, Tryd.ntmps50
  go_wp2
  go_loopw [6] (fun i wr => AddRel w a0 a1 b0 b1 (IntKind.u64.wrap (a0 + b0)) (IntKind.u64.wrap (a1 + b1)) i wr) (fun i _ => 2 - (intOf i).toNat)
  case atStart => exact .inl ⟨rfl, rfl⟩
  case round =>
    obtain ⟨rfl, rfl⟩ | ⟨rfl, rfl⟩ | ⟨rfl, rfl⟩ := hrel
    · unfold add3
      go_wp2
      go_region
      go_wp2
      go_roundw
      case rel => exact .inr (.inl ⟨rfl, rfl⟩)
      case measure => simp [intOf]
    · unfold add3
      go_wp2
      go_region
      go_wp2
      go_roundw
      case rel => exact .inr (.inr ⟨rfl, rfl⟩)
      case measure => simp [intOf]
    · unfold add3
      go_wp2
      exact bodyPost_ret (v := .agg #[.int .u64 (IntKind.u64.wrap (a0 + b0)), .int .u64 (IntKind.u64.wrap (a1 + b1))]) (by simp [results, Tryd.results50, go_sem]) rfl ⟨rfl, (add3_below w (IntKind.u64.wrap (a0 + b0)) (IntKind.u64.wrap (a1 + b1)) b0 b1 (IntKind.u64.wrap (a0 + b0)) (IntKind.u64.wrap (a1 + b1))).drew.drew⟩




end Go.Proofs.YtlgcdcjhflihiaaDoor
namespace Go.Proofs.YtlgcdcjhflihiaaDoor
open Go.RowKit
set_option linter.unusedVariables false
/-- Two tallies and the result's place, in memory. -/
structure J3 (w V : World) (n a b m c d : Int) : Prop where
  below : Below w.heap.size w V
  b0 : V.heap[w.heap.size]? = some (.cells #[.int .i64 n, .int .u64 a, .int .u64 b] 64)
  b1 : V.heap[w.heap.size + 1]? = some (.cells #[.int .i64 m, .int .u64 c, .int .u64 d] 64)
  b2 : V.heap[w.heap.size + 1 + 1]? = some (.cells #[.int .i64 0, .int .u64 0, .int .u64 0] 64)

theorem j3_st (w : World) (n a b m c d : Int) : J3 w (((w.alloc (.cells #[.int .i64 n, .int .u64 a, .int .u64 b] 64)).alloc (.cells #[.int .i64 m, .int .u64 c, .int .u64 d] 64)).alloc (.cells #[.int .i64 0, .int .u64 0, .int .u64 0] 64)) n a b m c d := by
  refine ⟨((bnew w _).alloc (by simp) _).alloc (by simp; omega) _, blk_on (blk_on (heap_alloc_new w _) (bnew _ _)) (bnew _ _), ?_, ?_⟩
  · refine blk_on ?_ (bnew _ _)
    rw [show w.heap.size + 1 = (w.alloc (.cells #[.int .i64 n, .int .u64 a, .int .u64 b] 64)).heap.size from by simp]
    exact heap_alloc_new _ _
  · rw [show w.heap.size + 1 + 1 = ((w.alloc (.cells #[.int .i64 n, .int .u64 a, .int .u64 b] 64)).alloc (.cells #[.int .i64 m, .int .u64 c, .int .u64 d] 64)).heap.size from by simp]
    exact heap_alloc_new _ _

theorem J3.drew {w V : World} {n a b m c d : Int} (h : J3 w V n a b m c d) : J3 w V.drew n a b m c d := ⟨h.below.drew, h.b0, h.b1, h.b2⟩

theorem J3.keep {w V W : World} {n a b m c d : Int} (h : J3 w V n a b m c d) (b' : Below V.heap.size V W) : J3 w W n a b m c d := ⟨bthen h.below b', blk_on h.b0 b', blk_on h.b1 b', blk_on h.b2 b'⟩

theorem J3.held {w X : World} {n a b m c d : Int} (h : J3 w X n a b m c d) : Below w.heap.size w X ∧ X.cell? ⟨w.heap.size, 0, none⟩ = some (.int .i64 n) ∧ X.cell? ⟨w.heap.size, 1, none⟩ = some (.int .u64 a) ∧ X.cell? ⟨w.heap.size, 2, none⟩ = some (.int .u64 b) ∧ X.cell? ⟨w.heap.size + 1, 0, none⟩ = some (.int .i64 m) ∧ X.cell? ⟨w.heap.size + 1, 1, none⟩ = some (.int .u64 c) ∧ X.cell? ⟨w.heap.size + 1, 2, none⟩ = some (.int .u64 d) :=
  ⟨h.below, (tri h.b0).1, (tri h.b0).2.1, (tri h.b0).2.2.1, (tri h.b1).1, (tri h.b1).2.1, (tri h.b1).2.2.1⟩

theorem j3_set {w X : World} {n a b m c d : Int} (h : Below w.heap.size w X ∧ X.cell? ⟨w.heap.size, 0, none⟩ = some (.int .i64 n) ∧ X.cell? ⟨w.heap.size, 1, none⟩ = some (.int .u64 a) ∧ X.cell? ⟨w.heap.size, 2, none⟩ = some (.int .u64 b) ∧ X.cell? ⟨w.heap.size + 1, 0, none⟩ = some (.int .i64 m) ∧ X.cell? ⟨w.heap.size + 1, 1, none⟩ = some (.int .u64 c) ∧ X.cell? ⟨w.heap.size + 1, 2, none⟩ = some (.int .u64 d)) (k : Nat) (u : Value) : Below w.heap.size w (X.setCell ⟨w.heap.size + 1 + 1, k, none⟩ u) ∧ (X.setCell ⟨w.heap.size + 1 + 1, k, none⟩ u).cell? ⟨w.heap.size, 0, none⟩ = some (.int .i64 n) ∧ (X.setCell ⟨w.heap.size + 1 + 1, k, none⟩ u).cell? ⟨w.heap.size, 1, none⟩ = some (.int .u64 a) ∧ (X.setCell ⟨w.heap.size + 1 + 1, k, none⟩ u).cell? ⟨w.heap.size, 2, none⟩ = some (.int .u64 b) ∧ (X.setCell ⟨w.heap.size + 1 + 1, k, none⟩ u).cell? ⟨w.heap.size + 1, 0, none⟩ = some (.int .i64 m) ∧ (X.setCell ⟨w.heap.size + 1 + 1, k, none⟩ u).cell? ⟨w.heap.size + 1, 1, none⟩ = some (.int .u64 c) ∧ (X.setCell ⟨w.heap.size + 1 + 1, k, none⟩ u).cell? ⟨w.heap.size + 1, 2, none⟩ = some (.int .u64 d) := by
  obtain ⟨h, h0, h1, h2, h3, h4, h5⟩ := h
  exact ⟨h.setCell (by simp; omega) _, cell_apart h0 (by dsimp only; omega), cell_apart h1 (by dsimp only; omega), cell_apart h2 (by dsimp only; omega), cell_apart h3 (by dsimp only; omega), cell_apart h4 (by dsimp only; omega), cell_apart h5 (by dsimp only; omega)⟩

set_option maxHeartbeats 1600000 in
set_option maxRecDepth 100000 in
theorem join_any (n a b m c d : Int) (w : World) :
    Calls Tryd.prog 30 #[.agg #[.int .i64 n, .int .u64 a, .int .u64 b], .agg #[.int .i64 m, .int .u64 c, .int .u64 d]] w fun e w' => e = .returned (.agg #[.int .i64 (IntKind.i64.wrap (n + m)), .int .u64 (IntKind.u64.wrap (a + c)), .int .u64 (IntKind.u64.wrap (b + d))]) ∧ Below w.heap.size w w' := by
  have J := aside (j3_st w n a b m c d)
  go_enter Tryd.func30, Tryd.ntmps30
  go_wp2_with fail
  generalize ((w.alloc (.cells #[.int .i64 n, .int .u64 a, .int .u64 b] 64)).alloc (.cells #[.int .i64 m, .int .u64 c, .int .u64 d] 64)).alloc (.cells #[.int .i64 0, .int .u64 0, .int .u64 0] 64) = V at *
  refine wp_region_held_drew (S := fun X => Below w.heap.size w X ∧ X.cell? ⟨w.heap.size, 0, none⟩ = some (.int .i64 n) ∧ X.cell? ⟨w.heap.size, 1, none⟩ = some (.int .u64 a) ∧ X.cell? ⟨w.heap.size, 2, none⟩ = some (.int .u64 b) ∧ X.cell? ⟨w.heap.size + 1, 0, none⟩ = some (.int .i64 m) ∧ X.cell? ⟨w.heap.size + 1, 1, none⟩ = some (.int .u64 c) ∧ X.cell? ⟨w.heap.size + 1, 2, none⟩ = some (.int .u64 d)) (by kernel_rfl) J.out.drew.held (fun hHeld => ?_)
  refine wpAnyH_take (i := 0) (v := ?_) rfl (by kernel_rfl) (by kernel_rfl) (by kernel_rfl) (fun _ _ _ h => h) (Or.inl ⟨by rfl, ?_⟩) (by assumption) ?_
  rotate_left
  · intro w hSw
    go_simp
    try with_reducible rfl
  simp only [Act.put, List.getElem_toArray, List.getElem_cons_zero, List.setIfInBounds_toArray, List.set_cons_zero, List.set_cons_succ]
  refine wpAnyH_take (i := 1) (v := ?_) rfl (by kernel_rfl) (by kernel_rfl) (by kernel_rfl) (fun _ _ _ h => h) (Or.inl ⟨by rfl, ?_⟩) (by assumption) ?_
  rotate_left
  · intro w hSw
    go_simp
    try with_reducible rfl
  simp only [Act.put, List.getElem_toArray, List.getElem_cons_zero, List.getElem_cons_succ, List.setIfInBounds_toArray, List.set_cons_zero, List.set_cons_succ]
  refine wpAnyH_take (i := 2) (v := ?_) rfl (by kernel_rfl) (by kernel_rfl) (by kernel_rfl) (fun _ _ _ h => h) (Or.inl ⟨by rfl, ?_⟩) (by assumption) ?_
  rotate_left
  · intro w hSw
    go_simp
    try with_reducible rfl
  simp only [Act.put, List.getElem_toArray, List.getElem_cons_zero, List.getElem_cons_succ, List.setIfInBounds_toArray, List.set_cons_zero, List.set_cons_succ]
  refine wpAnyH_take (i := 3) (v := ?_) rfl (by kernel_rfl) (by kernel_rfl) (by kernel_rfl) (fun _ _ _ h => h) (Or.inl ⟨by rfl, ?_⟩) (by assumption) ?_
  rotate_left
  · intro w hSw
    go_simp
    try with_reducible rfl
  simp only [Act.put, List.getElem_toArray, List.getElem_cons_zero, List.getElem_cons_succ, List.setIfInBounds_toArray, List.set_cons_zero, List.set_cons_succ]
  refine wpAnyH_take (i := 4) (v := ?_) rfl (by kernel_rfl) (by kernel_rfl) (by kernel_rfl) (fun _ _ _ h => h) (Or.inl ⟨by rfl, ?_⟩) (by assumption) ?_
  rotate_left
  · intro w hSw
    go_simp
    try with_reducible rfl
  simp only [Act.put, List.getElem_toArray, List.getElem_cons_zero, List.getElem_cons_succ, List.setIfInBounds_toArray, List.set_cons_zero, List.set_cons_succ]
  refine wpAnyH_take (i := 5) (v := ?_) rfl (by kernel_rfl) (by kernel_rfl) (by kernel_rfl) (fun _ _ _ h => h) (Or.inl ⟨by rfl, ?_⟩) (by assumption) ?_
  rotate_left
  · intro w hSw
    go_simp
    try with_reducible rfl
  simp only [Act.put, List.getElem_toArray, List.getElem_cons_zero, List.getElem_cons_succ, List.setIfInBounds_toArray, List.set_cons_zero, List.set_cons_succ]
  refine wpAnyH_take (i := 6) (v := ?_) rfl (by kernel_rfl) (by kernel_rfl) (by kernel_rfl) (fun _ _ _ h => h) (Or.inl ⟨by rfl, ?_⟩) (by assumption) ?_
  rotate_left
  · intro w hSw
    go_simp
    try with_reducible rfl
  simp only [Act.put, List.getElem_toArray, List.getElem_cons_zero, List.getElem_cons_succ, List.setIfInBounds_toArray, List.set_cons_zero, List.set_cons_succ]
  refine wpAnyH_take (i := 7) (v := ?_) rfl (by kernel_rfl) (by kernel_rfl) (by kernel_rfl) (fun _ _ _ h => h) (Or.inl ⟨by rfl, ?_⟩) (by assumption) ?_
  rotate_left
  · intro w hSw
    go_simp
    try with_reducible rfl
  simp only [Act.put, List.getElem_toArray, List.getElem_cons_zero, List.getElem_cons_succ, List.setIfInBounds_toArray, List.set_cons_zero, List.set_cons_succ]
  refine wpAnyH_take (i := 8) (v := ?_) rfl (by kernel_rfl) (by kernel_rfl) (by kernel_rfl) (fun _ _ _ h => h) (Or.inl ⟨by rfl, ?_⟩) (by assumption) ?_
  rotate_left
  · intro w hSw
    go_simp
    try with_reducible rfl
  simp only [Act.put, List.getElem_toArray, List.getElem_cons_zero, List.getElem_cons_succ, List.setIfInBounds_toArray, List.set_cons_zero, List.set_cons_succ]
  refine wpAnyH_ready (rs := [9]) (by kernel_rfl) (by simp) ?_
  refine AllReadyH.cons rfl (fun K hK => ?_) AllReadyH.nil
  go_simp
  refine (add_any _ _ _ _ _).mono ?_
  rintro e w9 ⟨rfl, bb⟩
  refine hK.out _ _ ((J.out.drew.keep bb).held) (fun hHeld => ?_)
  clear hK K 
  have J1 := aside (J.out.drew.keep bb)
  obtain ⟨s0, s1, s2, z0, z1, z2⟩ := tri J1.out.b2
  clear bb
  refine wpAnyH_take (i := 10) (v := ?_) rfl (by kernel_rfl) (by kernel_rfl) (by kernel_rfl) (fun _ _ _ h => h) (Or.inl ⟨by rfl, ?_⟩) (by assumption) ?_
  rotate_left
  · intro w hSw
    go_simp
    try with_reducible rfl
  simp only [Act.put, List.getElem_toArray, List.getElem_cons_zero, List.getElem_cons_succ, List.setIfInBounds_toArray, List.set_cons_zero, List.set_cons_succ]
  refine wpAnyH_ready (rs := [11]) (by kernel_rfl) (by simp) ?_
  refine AllReadyH.cons rfl (fun K hK => ?_) AllReadyH.nil
  go_simp
  refine hK.out _ _ (j3_set (j3_set (j3_set J1.out.held 0 _) 1 _) 2 _) (fun hHeld => ?_)
  clear hK K 
  refine wpAnyH_done (by kernel_rfl) ?_ _
  go_wp2
  exact bodyPost_ret (v := .agg #[.int .i64 (IntKind.i64.wrap (n + m)), .int .u64 (IntKind.u64.wrap (a + c)), .int .u64 (IntKind.u64.wrap (b + d))]) (by simp [results, Tryd.results30, go_sem, s0, s1, s2]) rfl ⟨rfl, ((J1.out.below.setCell (by simp; omega) _).setCell (by simp; omega) _).setCell (by simp; omega) _⟩

theorem join_at {n a b m c d r x y : Int} (h : IntKind.i64.wrap (n + m) = r) (h0 : IntKind.u64.wrap (a + c) = x) (h1 : IntKind.u64.wrap (b + d) = y) (w : World) :
    Calls Tryd.prog 30 #[.agg #[.int .i64 n, .int .u64 a, .int .u64 b], .agg #[.int .i64 m, .int .u64 c, .int .u64 d]] w fun e w' => e = .returned (.agg #[.int .i64 r, .int .u64 x, .int .u64 y]) ∧ Below w.heap.size w w' := by
  subst h h0 h1; exact join_any n a b m c d w



end Go.Proofs.YtlgcdcjhflihiaaDoor
namespace Go.Proofs.YtlgcdcjhflihiaaDoor
open Go.RowKit
set_option linter.unusedVariables false
set_option maxHeartbeats 1600000 in
theorem newMeter_any (w : World) :
    Calls Tryd.prog 64 #[] w fun e w' => e = .returned (.pointer (some ⟨w.heap.size, 0, none⟩)) ∧ w' = w.alloc (.cells #[.int .i64 0] 149) := by
  go_enter Tryd.func64, Tryd.ntmps64
  go_wp2
  go_ret
  exact ⟨rfl, rfl⟩


set_option maxHeartbeats 1600000 in
set_option maxRecDepth 100000 in
theorem mjoin_at {w : World} {g : Nat} {j r n a b m c d s x y : Int} (hr : IntKind.i64.wrap (j + 1) = r) (hs : IntKind.i64.wrap (n + m) = s) (hx : IntKind.u64.wrap (a + c) = x) (hy : IntKind.u64.wrap (b + d) = y) (h : w.heap[g]? = some (.cells #[.int .i64 j] 149 (0, 0))) :
    Calls Tryd.prog 66 #[.pointer (some ⟨g, 0, none⟩), .agg #[.int .i64 n, .int .u64 a, .int .u64 b], .agg #[.int .i64 m, .int .u64 c, .int .u64 d]] w fun e w' => e = .returned (.agg #[.int .i64 s, .int .u64 x, .int .u64 y]) ∧ w'.heap[g]? = some (.cells #[.int .i64 r] 149 (0, 0)) ∧ Keeps (fun k => k = g) w w' := by
  have J := aside (j3_st w n a b m c d)
  have hlt := (Array.getElem?_eq_some_iff.1 h).1
  have H := aside (blk_on h (j3_st w n a b m c d).below)
  have c0 := cell_one H.out
  have z0 := frozen_one H.out
  have CJ := aside (fun W => join_at hs hx hy W)
  clear h hs hx hy
  go_enter Tryd.func66, Tryd.ntmps66
  go_wp2_with fail
  have G := aside (heap_setCell_same _ g 0 _ _ (.int .i64 r) H.out)
  have G2 := aside ((heap_setCell_other _ ⟨g, 0, none⟩ (w.heap.size + 1 + 1) (.int .i64 r) (by dsimp only; omega)).trans J.out.b2)
  have KK := aside (Keeps.setCell (S := fun k => k = g) (Keeps.of_below J.out.below _) (p := ⟨g, 0, none⟩) (fun _ => rfl) (.int .i64 r))
  generalize World.setCell (((w.alloc (.cells #[.int .i64 n, .int .u64 a, .int .u64 b] 64)).alloc (.cells #[.int .i64 m, .int .u64 c, .int .u64 d] 64)).alloc (.cells #[.int .i64 0, .int .u64 0, .int .u64 0] 64)) ⟨g, 0, none⟩ (.int .i64 r) = V at *
  clear J H c0 z0
  refine (CJ.out _).mono ?_
  rintro e w1 ⟨rfl, b1⟩
  have G' := aside (blk_on G.out b1)
  have G2' := aside (blk_on G2.out b1)
  have K1 := aside (KK.out.trans (Keeps.of_below b1 _))
  clear b1 G G2 KK
  obtain ⟨s0, s1, s2, z0, z1, z2⟩ := tri G2'.out
  go_wp2
  refine bodyPost_ret (v := .agg #[.int .i64 s, .int .u64 x, .int .u64 y]) (by simp [results, Tryd.results66, go_sem, s0, s1, s2]) rfl ⟨rfl, ?_, ?_⟩
  · rw [heap_setCell_other _ _ _ _ (by dsimp only; omega), heap_setCell_other _ _ _ _ (by dsimp only; omega), heap_setCell_other _ _ _ _ (by dsimp only; omega)]
    exact G'.out
  · exact ((K1.out.setCell (by intro h; simp at h; omega) _).setCell (by intro h; simp at h; omega) _).setCell (by intro h; simp at h; omega) _

end Go.Proofs.YtlgcdcjhflihiaaDoor
namespace Go.Proofs.YtlgcdcjhflihiaaDoor
open Go.RowKit
set_option linter.unusedVariables false

/-- both joins, and counts where the join counts. -/
def BothOkE (jv : Value) (c : Option Nat) : Prop :=
  ∀ (W : World) (tb n : Nat) (root : Option Addr) (a b : Tl), TObjE W tb jv root → CntE c n W → tSz a + tSz b ≤ 4611686018427387904 →
    Calls Tryd.prog 86 #[.pointer (some ⟨tb, 0, none⟩), .agg #[.int .i64 a.n, .int .u64 a.a, .int .u64 a.b], .agg #[.int .i64 b.n, .int .u64 b.a, .int .u64 b.b]] W fun e w' => e = .returned (.agg #[.int .i64 (tJoin a b).n, .int .u64 (tJoin a b).a, .int .u64 (tJoin a b).b]) ∧ CntE c (n + 1) w' ∧ Keeps (OnC c) W w'

theorem catch_idleE (p q : Addr) (w : World) :
    CallsD Tryd.prog 96 #[.pointer (some p), .pointer (some q)] .returning w fun e u' w' => e = .returned (.tuple #[]) ∧ u' = .returning ∧ w' = w := by
  refine callsD_of_wpS Tryd.func96 rfl fun c₀ cs hu => ?_
  apply wpS_seq
  apply wpS_region
  simp [wpOpsS, go_sem, recoverD, hu, Tryd.ntmps96, Exit.thenS]
  refine wpS_cond (t := false) (by simp [Act.eval, Array.replicate]) ?_
  simp only [Bool.false_eq_true, if_false]
  refine wpS_of_wp (wp_skip ?_)
  cases c₀
  simp_all [bodyPostS, results, Tryd.results96]

/-- What both has laid. -/
structure BStE (W V : World) (tb n : Nat) (jv : Value) (root : Option Addr) (c : Option Nat) (a b : Tl) : Prop where
  keeps : Keeps (OnC c) W V
  cnt : CntE c n V
  tobj : TObjE V tb jv root
  b0 : V.heap[W.heap.size]? = some (.cells #[.pointer (some ⟨tb, 0, none⟩)] 80 (0, 0))
  b1 : V.heap[W.heap.size + 1]? = some (.cells #[.int .i64 a.n, .int .u64 a.a, .int .u64 a.b] 64 (0, 0))
  b2 : V.heap[W.heap.size + 1 + 1]? = some (.cells #[.int .i64 b.n, .int .u64 b.a, .int .u64 b.b] 64 (0, 0))
  b3 : V.heap[W.heap.size + 1 + 1 + 1]? = some (.cells #[.int .i64 0, .int .u64 0, .int .u64 0] 64 (0, 0))

theorem BStE.drew {W V : World} {tb n : Nat} {jv : Value} {root : Option Addr} {c : Option Nat} {a b : Tl} (h : BStE W V tb n jv root c a b) : BStE W V.drew tb n jv root c a b := ⟨h.keeps.drew, h.cnt.drew, h.tobj, h.b0, h.b1, h.b2, h.b3⟩

theorem BStE.on {W V V' : World} {tb n m : Nat} {jv : Value} {root : Option Addr} {c : Option Nat} {a b : Tl} (h : BStE W V tb n jv root c a b) (hc : CntE c n W) (k : Keeps (OnC c) V V') (hm : CntE c m V') : BStE W V' tb m jv root c a b :=
  ⟨h.keeps.trans k, hm, h.tobj.onC h.cnt k, blk_keep h.b0 k (hc.lt (by omega)), blk_keep h.b1 k (hc.lt (by omega)), blk_keep h.b2 k (hc.lt (by omega)), blk_keep h.b3 k (hc.lt (by omega))⟩

theorem bstE {W : World} {tb n : Nat} {jv : Value} {root : Option Addr} {c : Option Nat} (a b : Tl) (hc : CntE c n W) (ht : TObjE W tb jv root) : BStE W ((((W.alloc (.cells #[.pointer (some ⟨tb, 0, none⟩)] 80)).alloc (.cells #[.int .i64 a.n, .int .u64 a.a, .int .u64 a.b] 64)).alloc (.cells #[.int .i64 b.n, .int .u64 b.a, .int .u64 b.b] 64)).alloc (.cells #[.int .i64 0, .int .u64 0, .int .u64 0] 64)) tb n jv root c a b := by
  refine ⟨?_, ?_, ?_, ?_, ?_, ?_, ?_⟩
  · exact ((((Keeps.refl _ W).alloc _).alloc _).alloc _).alloc _
  · exact (((hc.alloc _).alloc _).alloc _).alloc _
  · unfold TObjE at ht ⊢; exact blk_on (blk_on (blk_on (blk_on ht (bnew _ _)) (bnew _ _)) (bnew _ _)) (bnew _ _)
  · have h0 := heap_alloc_new W (.cells #[.pointer (some ⟨tb, 0, none⟩)] 80)
    try simp only [World.size_alloc] at h0
    exact blk_on (blk_on (blk_on (h0) (bnew _ _)) (bnew _ _)) (bnew _ _)
  · have h0 := heap_alloc_new (W.alloc (.cells #[.pointer (some ⟨tb, 0, none⟩)] 80)) (.cells #[.int .i64 a.n, .int .u64 a.a, .int .u64 a.b] 64)
    try simp only [World.size_alloc] at h0
    exact blk_on (blk_on (h0) (bnew _ _)) (bnew _ _)
  · have h0 := heap_alloc_new ((W.alloc (.cells #[.pointer (some ⟨tb, 0, none⟩)] 80)).alloc (.cells #[.int .i64 a.n, .int .u64 a.a, .int .u64 a.b] 64)) (.cells #[.int .i64 b.n, .int .u64 b.a, .int .u64 b.b] 64)
    try simp only [World.size_alloc] at h0
    exact blk_on (h0) (bnew _ _)
  · have h0 := heap_alloc_new (((W.alloc (.cells #[.pointer (some ⟨tb, 0, none⟩)] 80)).alloc (.cells #[.int .i64 a.n, .int .u64 a.a, .int .u64 a.b] 64)).alloc (.cells #[.int .i64 b.n, .int .u64 b.a, .int .u64 b.b] 64)) (.cells #[.int .i64 0, .int .u64 0, .int .u64 0] 64)
    try simp only [World.size_alloc] at h0
    exact h0

theorem BStE.held {W X : World} {tb n : Nat} {jv : Value} {root : Option Addr} {c : Option Nat} {a b : Tl} (h : BStE W X tb n jv root c a b) : X.cell? ⟨W.heap.size, 0, none⟩ = some (.pointer (some ⟨tb, 0, none⟩)) ∧ X.cell? ⟨W.heap.size + 1, 0, none⟩ = some (.int .i64 a.n) ∧ X.cell? ⟨W.heap.size + 1, 1, none⟩ = some (.int .u64 a.a) ∧ X.cell? ⟨W.heap.size + 1, 2, none⟩ = some (.int .u64 a.b) ∧ X.cell? ⟨W.heap.size + 1 + 1, 0, none⟩ = some (.int .i64 b.n) ∧ X.cell? ⟨W.heap.size + 1 + 1, 1, none⟩ = some (.int .u64 b.a) ∧ X.cell? ⟨W.heap.size + 1 + 1, 2, none⟩ = some (.int .u64 b.b) ∧ X.cell? ⟨tb, 3, none⟩ = some (jv) := ⟨(cell_one h.b0), (tri h.b1).1, (tri h.b1).2.1, (tri h.b1).2.2.1, (tri h.b2).1, (tri h.b2).2.1, (tri h.b2).2.2.1, (tobjE h.tobj).2.2.2.1⟩

theorem bst_set {W X : World} {tb n : Nat} {jv : Value} {root : Option Addr} {c : Option Nat} {a b : Tl} (h : X.cell? ⟨W.heap.size, 0, none⟩ = some (.pointer (some ⟨tb, 0, none⟩)) ∧ X.cell? ⟨W.heap.size + 1, 0, none⟩ = some (.int .i64 a.n) ∧ X.cell? ⟨W.heap.size + 1, 1, none⟩ = some (.int .u64 a.a) ∧ X.cell? ⟨W.heap.size + 1, 2, none⟩ = some (.int .u64 a.b) ∧ X.cell? ⟨W.heap.size + 1 + 1, 0, none⟩ = some (.int .i64 b.n) ∧ X.cell? ⟨W.heap.size + 1 + 1, 1, none⟩ = some (.int .u64 b.a) ∧ X.cell? ⟨W.heap.size + 1 + 1, 2, none⟩ = some (.int .u64 b.b) ∧ X.cell? ⟨tb, 3, none⟩ = some (jv)) (B : BStE W X tb n jv root c a b) (y : Tl) : (set3 X (W.heap.size + 1 + 1 + 1) y).cell? ⟨W.heap.size, 0, none⟩ = some (.pointer (some ⟨tb, 0, none⟩)) ∧ (set3 X (W.heap.size + 1 + 1 + 1) y).cell? ⟨W.heap.size + 1, 0, none⟩ = some (.int .i64 a.n) ∧ (set3 X (W.heap.size + 1 + 1 + 1) y).cell? ⟨W.heap.size + 1, 1, none⟩ = some (.int .u64 a.a) ∧ (set3 X (W.heap.size + 1 + 1 + 1) y).cell? ⟨W.heap.size + 1, 2, none⟩ = some (.int .u64 a.b) ∧ (set3 X (W.heap.size + 1 + 1 + 1) y).cell? ⟨W.heap.size + 1 + 1, 0, none⟩ = some (.int .i64 b.n) ∧ (set3 X (W.heap.size + 1 + 1 + 1) y).cell? ⟨W.heap.size + 1 + 1, 1, none⟩ = some (.int .u64 b.a) ∧ (set3 X (W.heap.size + 1 + 1 + 1) y).cell? ⟨W.heap.size + 1 + 1, 2, none⟩ = some (.int .u64 b.b) ∧ (set3 X (W.heap.size + 1 + 1 + 1) y).cell? ⟨tb, 3, none⟩ = some (jv) := by
  obtain ⟨h0, h1, h2, h3, h4, h5, h6, h7⟩ := h
  refine ⟨set3_cell y h0 (by dsimp only; omega), set3_cell y h1 (by dsimp only; omega), set3_cell y h2 (by dsimp only; omega), set3_cell y h3 (by dsimp only; omega), set3_cell y h4 (by dsimp only; omega), set3_cell y h5 (by dsimp only; omega), set3_cell y h6 (by dsimp only; omega), set3_cell y h7 ?_⟩
  intro e
  have h8 := B.tobj
  have h9 := B.b3
  unfold TObjE at h8
  dsimp only at e
  rw [e, h9] at h8
  simp at h8

theorem bst_end {W X : World} {tb n m : Nat} {jv : Value} {root : Option Addr} {c : Option Nat} {a b : Tl} (hc : CntE c m W) (B : BStE W X tb n jv root c a b) (y : Tl) :
    CntE c n (set3 X (W.heap.size + 1 + 1 + 1) y) ∧ Keeps (OnC c) W (set3 X (W.heap.size + 1 + 1 + 1) y) :=
  ⟨B.cnt.set3 (hc.lt (by omega)) y, B.keeps.set3 (fun e => by omega) y⟩

theorem meterE (f h : Tl) (g n : Nat) (w : World) (hc : CntE (some g) n w) :
    Calls Tryd.prog 66 #[.pointer (some ⟨g, 0, none⟩), .agg #[.int .i64 f.n, .int .u64 f.a, .int .u64 f.b], .agg #[.int .i64 h.n, .int .u64 h.a, .int .u64 h.b]] w fun e w' => e = .returned (.agg #[.int .i64 (tJoin f h).n, .int .u64 (tJoin f h).a, .int .u64 (tJoin f h).b]) ∧ CntE (some g) (n + 1) w' ∧ Keeps (OnC (some g)) w w' := by
  refine (mjoin_at (r := IntKind.i64.wrap ((n + 1 : Nat) : Int)) (by simp only [IntKind.wrap_i64]; omega) (tJoin_n f h) (tJoin_a f h) (tJoin_b f h) (hc g rfl)).mono fun e w' h => ⟨h.1, fun b e => ?_, h.2.2.mono (fun k _ e => by subst e; rfl)⟩
  cases e
  exact h.2.1

set_option maxHeartbeats 1600000 in
set_option maxRecDepth 100000 in
theorem bothE (g : Nat) : BothOkE (.func (.func 66) #[.pointer (some ⟨g, 0, none⟩)] #[]) (some g) := by
  intro W tb n root a b hT hC hS
  have hmf : ∀ (fn : Fn) (first cap : Array Value) (w : World), (Instr.makeFunc fn first cap).run Tryd.prog w = .ok (.func fn first cap) w := fun _ _ _ _ => rfl
  have CJ := aside (fun (w : World) (h : CntE (some g) n w) => meterE a b g n w h)
  have B := aside (bstE a b hC hT)
  have HC := aside hC
  clear hT hC hS
  go_enter_defers Tryd.func86, Tryd.ntmps86
  go_wp2_with fail
  generalize (((W.alloc (.cells #[.pointer (some ⟨tb, 0, none⟩)] 80)).alloc (.cells #[.int .i64 a.n, .int .u64 a.a, .int .u64 a.b] 64)).alloc (.cells #[.int .i64 b.n, .int .u64 b.a, .int .u64 b.b] 64)).alloc (.cells #[.int .i64 0, .int .u64 0, .int .u64 0] 64) = V at *
  refine wp_region_noPanic ?_
  refine wp_region_held_drew (S := fun X => X.cell? ⟨W.heap.size, 0, none⟩ = some (.pointer (some ⟨tb, 0, none⟩)) ∧ X.cell? ⟨W.heap.size + 1, 0, none⟩ = some (.int .i64 a.n) ∧ X.cell? ⟨W.heap.size + 1, 1, none⟩ = some (.int .u64 a.a) ∧ X.cell? ⟨W.heap.size + 1, 2, none⟩ = some (.int .u64 a.b) ∧ X.cell? ⟨W.heap.size + 1 + 1, 0, none⟩ = some (.int .i64 b.n) ∧ X.cell? ⟨W.heap.size + 1 + 1, 1, none⟩ = some (.int .u64 b.a) ∧ X.cell? ⟨W.heap.size + 1 + 1, 2, none⟩ = some (.int .u64 b.b) ∧ X.cell? ⟨tb, 3, none⟩ = some (.func (.func 66) #[.pointer (some ⟨g, 0, none⟩)] #[])) (by kernel_rfl) B.out.drew.held (fun hHeld => ?_)
  refine wpAnyH_take (i := 0) (v := ?_) rfl (by kernel_rfl) (by kernel_rfl) (by kernel_rfl) (fun _ _ _ h => h) (Or.inl ⟨by rfl, ?_⟩) (by assumption) ?_
  rotate_left
  · intro w hSw
    go_simp
    try with_reducible rfl
  simp only [Act.put, List.getElem_toArray, List.getElem_cons_zero, List.setIfInBounds_toArray, List.set_cons_zero, List.set_cons_succ]
  refine wpAnyH_take (i := 1) (v := ?_) rfl (by kernel_rfl) (by kernel_rfl) (by kernel_rfl) (fun _ _ _ h => h) (Or.inl ⟨by rfl, ?_⟩) (by assumption) ?_
  rotate_left
  · intro w hSw
    go_simp
    try with_reducible rfl
  simp only [Act.put, List.getElem_toArray, List.getElem_cons_zero, List.getElem_cons_succ, List.setIfInBounds_toArray, List.set_cons_zero, List.set_cons_succ]
  refine wpAnyH_take (i := 2) (v := ?_) rfl (by kernel_rfl) (by kernel_rfl) (by kernel_rfl) (fun _ _ _ h => h) (Or.inl ⟨by rfl, ?_⟩) (by assumption) ?_
  rotate_left
  · intro w hSw
    go_simp
    try with_reducible rfl
  simp only [Act.put, List.getElem_toArray, List.getElem_cons_zero, List.getElem_cons_succ, List.setIfInBounds_toArray, List.set_cons_zero, List.set_cons_succ]
  refine wpAnyH_take (i := 3) (v := ?_) rfl (by kernel_rfl) (by kernel_rfl) (by kernel_rfl) (fun _ _ _ h => h) (Or.inl ⟨by rfl, ?_⟩) (by assumption) ?_
  rotate_left
  · intro w hSw
    go_simp
    try with_reducible rfl
  simp only [Act.put, List.getElem_toArray, List.getElem_cons_zero, List.getElem_cons_succ, List.setIfInBounds_toArray, List.set_cons_zero, List.set_cons_succ]
  refine wpAnyH_take (i := 4) (v := ?_) rfl (by kernel_rfl) (by kernel_rfl) (by kernel_rfl) (fun _ _ _ h => h) (Or.inl ⟨by rfl, ?_⟩) (by assumption) ?_
  rotate_left
  · intro w hSw
    go_simp
    try with_reducible rfl
  simp only [Act.put, List.getElem_toArray, List.getElem_cons_zero, List.getElem_cons_succ, List.setIfInBounds_toArray, List.set_cons_zero, List.set_cons_succ]
  refine wpAnyH_take (i := 5) (v := ?_) rfl (by kernel_rfl) (by kernel_rfl) (by kernel_rfl) (fun _ _ _ h => h) (Or.inl ⟨by rfl, ?_⟩) (by assumption) ?_
  rotate_left
  · intro w hSw
    go_simp
    try with_reducible rfl
  simp only [Act.put, List.getElem_toArray, List.getElem_cons_zero, List.getElem_cons_succ, List.setIfInBounds_toArray, List.set_cons_zero, List.set_cons_succ]
  refine wpAnyH_ready (rs := [6]) (by kernel_rfl) (by simp) ?_
  refine AllReadyH.cons rfl (fun K hK => ?_) AllReadyH.nil
  go_simp
  refine (CJ.out _ B.out.drew.cnt).mono ?_
  rintro e w9 ⟨rfl, bc, kk⟩
  refine hK.out _ _ ((B.out.drew.on HC.out kk bc).held) (fun hHeld => ?_)
  clear hK K 
  have B1 := aside (B.out.drew.on HC.out kk bc)
  obtain ⟨s0, s1, s2, z0, z1, z2⟩ := tri B1.out.b3
  clear bc kk B
  refine wpAnyH_ready (rs := [7]) (by kernel_rfl) (by simp) ?_
  refine AllReadyH.cons rfl (fun K hK => ?_) AllReadyH.nil
  go_simp
  refine hK.out _ _ (bst_set hHeld B1.out (tJoin a b)) (fun hHeld => ?_)
  clear hK K 
  refine wpAnyH_done (by kernel_rfl) (NoPanic.normal ?_) _
  go_wp2
  have E := aside (bst_end HC.out B1.out (tJoin a b))
  obtain ⟨r0, r1, r2, -, -, -⟩ := tri (set3_same B1.out.b3 (tJoin a b))
  unfold set3 at E r0 r1 r2
  clear hHeld s0 s1 s2 z0 z1 z2 B1 CJ
  generalize ((w9.setCell ⟨W.heap.size + 1 + 1 + 1, 0, none⟩ (.int .i64 (tJoin a b).n)).setCell ⟨W.heap.size + 1 + 1 + 1, 1, none⟩ (.int .u64 (tJoin a b).a)).setCell ⟨W.heap.size + 1 + 1 + 1, 2, none⟩ (.int .u64 (tJoin a b).b) = W2 at *
  refine leaves_cons (f := 96) (args := #[.pointer (some ⟨W.heap.size, 0, none⟩), .pointer (some ⟨W.heap.size + 1 + 1 + 1, 0, none⟩)]) (by simp) (by simp [go_sem]) ?_
  refine (catch_idleE _ _ _).mono ?_
  rintro e u' w'' ⟨rfl, rfl, rfl⟩
  simp [Leaves, settle, results, Tryd.results86, go_sem, r0, r1, r2]
  exact E.out

end Go.Proofs.YtlgcdcjhflihiaaDoor
