/-
  Entries, parts and frames as bytes: what is read was written so, what is written is read so.
  What == says of two sums.
  Tallies: their three cells, what == says of two, and of sums within them.
  Memory of a store's tree: a meter that counts, tallies of three cells, entries of five.
  How often the join is called.
  Plain mathematics: the way down to a key, and the way back up with a row.
  Plain mathematics: a tree's n-th row, what a node holds, folds of rows by their numbers.
  Plain mathematics: a tree's rows as a sorted list, and what Put, Get, Rank, At and Fold are of it.
  Plain mathematics: trees that Put has made.
  The words of a key and a version, plain, and what both lanes come to.
  Lists of entries by rising keys.
  Plain mathematics of stores: entries by rising keys, what is put, found, counted and summed up.
-/
import Derived.Test.YtlbkcndmljlnmaaDoorBx5
import Derived.Test.YtlbkcndmljlnmaaDoorBx1
import Derived.Laws.Tables
import Derived.Laws.Cover2
namespace Go.Proofs.YtlbkcndmljlnmaaDoor
open Go.RowKit
set_option linter.unusedVariables false
theorem str_put {l rest : List UInt8} {p : Nat} {s : ByteArray} {most : Int} (hd : l.drop p = strB s ++ rest) (hs : s.size < 9223372036854775808) (hm : (s.size : Int) ≤ most) : textSt l p 0 most = (s.data.toList, p + (strB s).length, 0) := by
  have e : strB s = Nm.enc 8 s.data.toList.length ++ s.data.toList := by unfold strB; rw [blen]
  rw [e] at hd ⊢
  exact text_put hd (by rw [blen]; exact hs) (by rw [blen]; exact hm)
theorem numSt_zero {l : List UInt8} {p p' : Nat} {e e' n most : Int} (h : numSt l p e most = (n, p', e')) (he : e' ≠ 0) : n = 0 := by
  unfold numSt at h
  split at h
  · simp only [Prod.mk.injEq] at h; exact h.1.symm
  · simp only [Prod.mk.injEq] at h
    have := (first_parts (l.drop p) most).2.2.2.2.2 (by rw [h.2.2]; exact he)
    omega
/-! Ranges. -/
/-! Tallies. -/
/-! Entries. -/
theorem ents_inv {l : List UInt8} : ∀ (n p : Nat) {p' : Nat} {acc es : List En}, p ≤ l.length → entsSt l n p 0 acc = (es, p', 0) → ∃ xs, es = acc ++ xs ∧ xs.length = n ∧ l.drop p = esB xs ++ l.drop p' ∧ p' ≤ l.length ∧ ∀ e ∈ xs, e.chk = 0
  | 0, p, p', acc, es, hp, h => by
    simp only [entsSt, Prod.mk.injEq] at h
    obtain ⟨rfl, rfl, -⟩ := h
    exact ⟨[], by simp, rfl, by simp [esB], hp, fun e he => by cases he⟩
  | n + 1, p, p', acc, es, hp, h => by
    rcases hg : getSt l p 0 with ⟨x, p1, e1⟩
    by_cases he : e1 = 0
    · subst he
      rw [entsSt_step hg] at h
      obtain ⟨g1, g2, g3⟩ := get_inv_at hp hg
      obtain ⟨xs, r1, r2, r3, r4, r5⟩ := ents_inv n p1 g3 h
      refine ⟨x :: xs, by rw [r1]; simp, by simp [r2], by rw [g2, r3]; simp [esB, List.append_assoc], r4, fun e h => ?_⟩
      rcases List.mem_cons.1 h with rfl | h
      · exact g1
      · exact r5 e h
    · rw [entsSt_stop hg he] at h
      simp only [Prod.mk.injEq] at h
      exact absurd h.2.2 he
theorem ents_put {l : List UInt8} : ∀ (xs : List En) {rest : List UInt8} {p : Nat} {acc : List En}, (∀ e ∈ xs, e.chk = 0) → l.drop p = esB xs ++ rest → entsSt l xs.length p 0 acc = (acc ++ xs, p + (esB xs).length, 0)
  | [], rest, p, acc, _, hd => by simp [entsSt, esB]
  | x :: xs, rest, p, acc, hc, hd => by
    simp only [esB, List.append_assoc] at hd
    have t1 := get_put_at x (hc x (List.mem_cons_self ..)) hd
    have d1 := drop_more hd
    have := ents_put xs (acc := acc ++ [x]) (fun e he => hc e (List.mem_cons_of_mem _ he)) d1
    rw [List.length_cons, entsSt_step t1, this]
    simp [esB, List.append_assoc, Nat.add_assoc]
theorem entries_err {l : List UInt8} {p p' : Nat} {e : Int} {es : List En} (h : entriesSt l p e = (es, p', 0)) : e = 0 := by
  rcases h1 : numSt l p e 256 with ⟨n, p1, e1⟩
  have h2 : entsSt l n.toNat p1 e1 [] = (es, p', 0) := by rw [← h]; unfold entriesSt; rw [h1]
  by_cases he : e1 = 0
  · subst he; exact num_err h1
  · rw [numSt_zero h1 he] at h2
    simp only [Int.toNat_zero, entsSt, Prod.mk.injEq] at h2
    exact absurd h2.2.2 he
theorem entries_inv {l : List UInt8} {p p' : Nat} {es : List En} (hp : p ≤ l.length) (h : entriesSt l p 0 = (es, p', 0)) : l.drop p = (Nm.enc 8 es.length ++ esB es) ++ l.drop p' ∧ p' ≤ l.length ∧ es.length ≤ 256 ∧ ∀ e ∈ es, e.chk = 0 := by
  rcases h1 : numSt l p 0 256 with ⟨n, p1, e1⟩
  have h2 : entsSt l n.toNat p1 e1 [] = (es, p', 0) := by rw [← h]; unfold entriesSt; rw [h1]
  have he : e1 = 0 := by
    apply Classical.byContradiction
    intro he
    rw [numSt_zero h1 he] at h2
    simp only [Int.toNat_zero, entsSt, Prod.mk.injEq] at h2
    exact he h2.2.2
  subst he
  obtain ⟨m, rfl, a2, a3, a4⟩ := num_inv hp h1
  rw [Int.toNat_natCast] at h2
  obtain ⟨xs, rfl, r2, r3, r4, r5⟩ := ents_inv m p1 a4 h2
  rw [r2]
  exact ⟨by rw [a3, r3]; simp [List.append_assoc], r4, by omega, r5⟩
theorem entries_put {l rest : List UInt8} {p : Nat} {es : List En} (hd : l.drop p = (Nm.enc 8 es.length ++ esB es) ++ rest) (hn : es.length ≤ 256) (hc : ∀ e ∈ es, e.chk = 0) : entriesSt l p 0 = (es, p + (Nm.enc 8 es.length ++ esB es).length, 0) := by
  rw [List.append_assoc] at hd
  have t1 := num_put (most := 256) hd (by omega) (by omega)
  have d1 := drop_more hd
  have t2 := ents_put es (acc := []) hc d1
  unfold entriesSt
  rw [t1]
  dsimp only
  rw [Int.toNat_natCast, t2]
  simp [Nat.add_assoc]
/-! Parts. -/
/-! Frames. -/
end Go.Proofs.YtlbkcndmljlnmaaDoor
namespace Go.Proofs.YtlbkcndmljlnmaaDoor
open Go.RowKit
end Go.Proofs.YtlbkcndmljlnmaaDoor
namespace Go.Proofs.YtlbkcndmljlnmaaDoor
open Go.RowKit
set_option linter.unusedVariables false
/-- The three cells of a tally's block. -/
theorem tri {w : World} {i : Nat} {a b c : Value} {T : TypeId} (h : w.heap[i]? = some (.cells #[a, b, c] T (0, 0))) :
    w.cell? ⟨i, 0, none⟩ = some a ∧ w.cell? ⟨i, 1, none⟩ = some b ∧ w.cell? ⟨i, 2, none⟩ = some c ∧ w.frozen? ⟨i, 0, none⟩ = false ∧ w.frozen? ⟨i, 1, none⟩ = false ∧ w.frozen? ⟨i, 2, none⟩ = false :=
  ⟨by simp [World.cell?, h], by simp [World.cell?, h], by simp [World.cell?, h], frozen_of_row w i 0 _ _ h, frozen_of_row w i 1 _ _ h, frozen_of_row w i 2 _ _ h⟩
/-- A store into another block. -/
theorem cell_apart {X : World} {i k : Nat} {p : Addr} {u v : Value} (h : X.cell? p = some v) (hne : p.block ≠ i) : (X.setCell ⟨i, k, none⟩ u).cell? p = some v :=
  (World.cell?_setCell_other _ _ _ _ (fun e => hne (by rw [← e]))).trans h
end Go.Proofs.YtlbkcndmljlnmaaDoor
namespace Go.Proofs.YtlbkcndmljlnmaaDoor
open Go.RowKit
set_option linter.unusedVariables false
/-- How often a join was called: the meter in the block c says so. -/
def CntE (c : Option Nat) (n : Nat) (w : World) : Prop := ∀ b : Nat, c = some b → w.heap[b]? = some (.cells #[.int .i64 (IntKind.i64.wrap (n : Int))] 150 (0, 0))
theorem CntE.drew {c : Option Nat} {n : Nat} {w : World} (h : CntE c n w) : CntE c n w.drew := h
theorem CntE.alloc {c : Option Nat} {n : Nat} {w : World} (h : CntE c n w) (o : Obj) : CntE c n (w.alloc o) := fun b e => blk_on (h b e) (bnew _ _)
theorem CntE.keep {S : Nat → Prop} {c : Option Nat} {n : Nat} {w w' : World} (h : CntE c n w) (k : Keeps S w w') (hS : ∀ b, c = some b → ¬ S b) : CntE c n w' := fun b e => blk_keep (h b e) k (hS b e)
theorem CntE.below {c : Option Nat} {n : Nat} {w w' : World} (h : CntE c n w) (k : Below w.heap.size w w') : CntE c n w' := fun b e => blk_on (h b e) k
theorem CntE.apart {c : Option Nat} {n : Nat} {w : World} (h : CntE c n w) {i : Nat} {cs : Array Value} {T : TypeId} (hi : w.heap[i]? = some (.cells cs T (0, 0))) (hT : T ≠ 150) : ¬ OnC c i := fun e => by
  have := h i e
  rw [hi] at this
  injection this with this
  injection this with _ e2
  exact hT e2
theorem CntE.setCell {c : Option Nat} {n : Nat} {w : World} (h : CntE c n w) {p : Addr} (u : Value) (hp : ¬ OnC c p.block) : CntE c n (w.setCell p u) := fun b e => by
  rw [heap_setCell_other]
  · exact h b e
  · intro e2; exact hp (by show c = some p.block; rw [e, e2])
theorem CntE.lt {c : Option Nat} {n : Nat} {w : World} (h : CntE c n w) {i : Nat} (hi : w.heap.size ≤ i) : ¬ OnC c i := fun e => by
  have := lt_of_blk (h i e)
  omega
theorem Stay.onE {T : TypeId} {a b d : World} {c : Option Nat} {n : Nat} (h : Stay T a b) (hc : CntE c n b) (k : Keeps (OnC c) b d) (hT : T ≠ 150) : Stay T a d := h.keeps k (fun _ _ e => hc.apart e hT)
/-- A tally. -/
structure Tl where
  N : Int64
  A : UInt64
  B : UInt64
def Tl.n (t : Tl) : Int := t.N.toInt
def Tl.a (t : Tl) : Int := (t.A.toNat : Int)
def Tl.b (t : Tl) : Int := (t.B.toNat : Int)
def tZero : Tl := ⟨0, 0, 0⟩
def tJoin (f g : Tl) : Tl := ⟨f.N + g.N, f.A + g.A, f.B + g.B⟩
/-- What a tally takes beside its row: nothing that is counted. -/
def tSz (_ : Tl) : Nat := 0
theorem tSz_le (a b : Tl) : tSz (tJoin a b) ≤ tSz a + tSz b := Nat.le_refl _
theorem tJoin_n (f g : Tl) : IntKind.i64.wrap (f.n + g.n) = (tJoin f g).n := by
  show _ = (f.N + g.N).toInt
  rw [Int64.toInt_add, IntKind.wrap_i64, Int.bmod_def]
  unfold Tl.n
  split <;> omega
theorem tJoin_a (f g : Tl) : IntKind.u64.wrap (f.a + g.a) = (tJoin f g).a := u64_add _ _
theorem tJoin_b (f g : Tl) : IntKind.u64.wrap (f.b + g.b) = (tJoin f g).b := u64_add _ _
/-- An entry that is none. -/
def eNone : En := ⟨⟨#[]⟩, 0, 0, ⟨#[]⟩, false⟩
/-- The five cells of an entry's block. -/
theorem penta {w : World} {i : Nat} {a b c d e : Value} {T : TypeId} (h : w.heap[i]? = some (.cells #[a, b, c, d, e] T (0, 0))) :
    w.cell? ⟨i, 0, none⟩ = some a ∧ w.cell? ⟨i, 1, none⟩ = some b ∧ w.cell? ⟨i, 2, none⟩ = some c ∧ w.cell? ⟨i, 3, none⟩ = some d ∧ w.cell? ⟨i, 4, none⟩ = some e ∧ w.frozen? ⟨i, 0, none⟩ = false ∧ w.frozen? ⟨i, 1, none⟩ = false ∧ w.frozen? ⟨i, 2, none⟩ = false ∧ w.frozen? ⟨i, 3, none⟩ = false ∧ w.frozen? ⟨i, 4, none⟩ = false :=
  ⟨by simp [World.cell?, h], by simp [World.cell?, h], by simp [World.cell?, h], by simp [World.cell?, h], by simp [World.cell?, h], frozen_of_row w i 0 _ _ h, frozen_of_row w i 1 _ _ h, frozen_of_row w i 2 _ _ h, frozen_of_row w i 3 _ _ h, frozen_of_row w i 4 _ _ h⟩
/-- Three cells of a block set. -/
def set3 (W : World) (g : Nat) (y : Tl) : World := ((W.setCell ⟨g, 0, none⟩ (.int .i64 y.n)).setCell ⟨g, 1, none⟩ (.int .u64 y.a)).setCell ⟨g, 2, none⟩ (.int .u64 y.b)
theorem set3_same {W : World} {g : Nat} {x0 x1 x2 : Value} (h : W.heap[g]? = some (.cells #[x0, x1, x2] 97 (0, 0))) (y : Tl) : (set3 W g y).heap[g]? = some (.cells #[.int .i64 y.n, .int .u64 y.a, .int .u64 y.b] 97 (0, 0)) := by
  have h1 := heap_setCell_same W g 0 _ _ (.int .i64 y.n) h
  have h2 := heap_setCell_same _ g 1 _ _ (.int .u64 y.a) h1
  exact heap_setCell_same _ g 2 _ _ (.int .u64 y.b) h2
theorem set3_other (W : World) (g k : Nat) (y : Tl) (h : k ≠ g) : (set3 W g y).heap[k]? = W.heap[k]? := by
  unfold set3
  rw [heap_setCell_other _ _ _ _ h, heap_setCell_other _ _ _ _ h, heap_setCell_other _ _ _ _ h]
theorem set3_cell {W : World} {g : Nat} {p : Addr} {v : Value} (y : Tl) (h : W.cell? p = some v) (hne : p.block ≠ g) : (set3 W g y).cell? p = some v := by
  unfold set3
  rw [World.cell?_setCell_other _ _ _ _ (fun e => hne (by rw [← e])), World.cell?_setCell_other _ _ _ _ (fun e => hne (by rw [← e])), World.cell?_setCell_other _ _ _ _ (fun e => hne (by rw [← e]))]
  exact h
theorem Keeps.set3 {S : Nat → Prop} {a w : World} (h : Keeps S a w) {g : Nat} (hg : g < a.heap.size → S g) (y : Tl) : Keeps S a (set3 w g y) :=
  ((h.setCell (p := ⟨g, 0, none⟩) hg _).setCell (p := ⟨g, 1, none⟩) hg _).setCell (p := ⟨g, 2, none⟩) hg _
theorem CntE.set3 {c : Option Nat} {n : Nat} {w : World} (h : CntE c n w) {g : Nat} (hg : ¬ OnC c g) (y : Tl) : CntE c n (set3 w g y) :=
  ((h.setCell (p := ⟨g, 0, none⟩) _ hg).setCell (p := ⟨g, 1, none⟩) _ hg).setCell (p := ⟨g, 2, none⟩) _ hg
theorem Stay.set3 {T : TypeId} {a b : World} (h : Stay T a b) {g : Nat} {x0 x1 x2 : Value} (hg : b.heap[g]? = some (.cells #[x0, x1, x2] 97 (0, 0))) (hT : T ≠ 97) (y : Tl) : Stay T a (set3 b g y) := fun i cs e => by
  have e1 := h i cs e
  rw [set3_other]
  · exact e1
  · rintro rfl; rw [hg] at e1; simp at e1; exact hT e1.2.symm
end Go.Proofs.YtlbkcndmljlnmaaDoor
namespace Go.Proofs.YtlbkcndmljlnmaaDoor
open Go.RowKit
set_option linter.unusedVariables false
namespace Tr
variable {β α : Type}
def hangC (l r : Tr β α) : Nat := (if l.isNil then 0 else 1) + (if r.isNil then 0 else 1)
def turnRC (l r : Tr β α) : Nat :=
  match l with
  | nil => 0
  | node ll _ _ _ lr =>
    if lr.ht ≤ ll.ht then hangC lr r + (if ll.isNil then 1 else 2) else
      match lr with
      | nil => 0
      | node a _ _ _ b => hangC ll a + hangC b r + 2
def turnLC (l r : Tr β α) : Nat :=
  match r with
  | nil => 0
  | node rl _ _ _ rr =>
    if rl.ht ≤ rr.ht then hangC l rl + (if rr.isNil then 1 else 2) else
      match rl with
      | nil => 0
      | node a _ _ _ b => hangC l a + hangC b rr + 2
def levelC (l r : Tr β α) : Nat := if l.ht = r.ht + 2 then turnRC l r else if r.ht = l.ht + 2 then turnLC l r else hangC l r
end Tr
end Go.Proofs.YtlbkcndmljlnmaaDoor
namespace Go.Proofs.YtlbkcndmljlnmaaDoor
open Go.RowKit
set_option linter.unusedVariables false
namespace Tr
variable {β α : Type}
/-- The trees on the way down to k, without the last one. -/
def path (k : ByteArray) : Tr β α → List (Tr β α)
  | nil => []
  | node l k' v s r => if kLt k k' then node l k' v s r :: path k l else if kLt k' k then node l k' v s r :: path k r else []
/-- The tree at the end of the way. -/
def found (k : ByteArray) : Tr β α → Tr β α
  | nil => nil
  | node l k' v s r => if kLt k k' then found k l else if kLt k' k then found k r else node l k' v s r
/-- How many rows have a lower key. -/
def lower (k : ByteArray) : Tr β α → Nat
  | nil => 0
  | node l k' v s r => if kLt k k' then lower k l else if kLt k' k then l.cnt + 1 + lower k r else l.cnt
theorem path_le (k : ByteArray) : ∀ t : Tr β α, (path k t).length ≤ t.ht
  | nil => Nat.le_refl _
  | node l k' v s r => by
    have h1 := path_le k l
    have h2 := path_le k r
    simp only [path, ht]
    split
    · simp only [List.length_cons]; omega
    · split
      · simp only [List.length_cons]; omega
      · simp
/-- What the row becomes at the end of the way. -/
def base (k : ByteArray) (v : β) (s : α) (t : Tr β α) : Tr β α :=
  match t with
  | nil => node nil k v s nil
  | node l _ _ _ r => node l k v s r
/-- One step back up. -/
def step (k : ByteArray) (t made : Tr β α) : Tr β α :=
  match t with
  | nil => made
  | node l k' v' s' r => if kLt k k' then level k' v' s' made r else level k' v' s' l made
def stepC (k : ByteArray) (t made : Tr β α) : Nat :=
  match t with
  | nil => 0
  | node l k' v' s' r => if kLt k k' then levelC made r else levelC l made
/-- All the way back up, the trees as they come. -/
def ups (k : ByteArray) (made : Tr β α) (l : List (Tr β α)) : Tr β α := l.foldl (fun m t => step k t m) made
def upsC (k : ByteArray) (made : Tr β α) : List (Tr β α) → Nat
  | [] => 0
  | t :: l => stepC k t made + upsC k (step k t made) l
theorem ups_snoc (k : ByteArray) (made : Tr β α) (l : List (Tr β α)) (t : Tr β α) : ups k made (l ++ [t]) = step k t (ups k made l) := by simp [ups]
theorem upsC_snoc (k : ByteArray) : ∀ (l : List (Tr β α)) (made t : Tr β α), upsC k made (l ++ [t]) = upsC k made l + stepC k t (ups k made l)
  | [], made, t => by simp [upsC, ups]
  | x :: l, made, t => by
    have := upsC_snoc k l (step k x made) t
    simp only [List.cons_append, upsC, this, ups, List.foldl_cons]
    omega
theorem put_ups (k : ByteArray) (v : β) (s : α) : ∀ t : Tr β α, ups k (base k v s (found k t)) (path k t).reverse = put k v s t
  | nil => rfl
  | node l k' v' s' r => by
    have h1 := put_ups k v s l
    have h2 := put_ups k v s r
    simp only [path, found, put]
    split
    · rename_i h
      rw [List.reverse_cons, ups_snoc, h1]
      simp [step, h]
    · rename_i h
      split
      · rw [List.reverse_cons, ups_snoc, h2]
        simp [step, h]
      · rfl
theorem wt_step (z : α → Nat) (k : ByteArray) (t made : Tr β α) : (step k t made).wt z ≤ t.wt z + made.wt z := by
  unfold step
  split
  · omega
  · split
    · rw [wt_level]; simp only [wt]; omega
    · rw [wt_level]; simp only [wt]; omega
theorem wt_ups (z : α → Nat) (k : ByteArray) (M : Nat) : ∀ (l : List (Tr β α)) (made : Tr β α), (∀ t ∈ l, t.wt z ≤ M) → (ups k made l).wt z ≤ made.wt z + l.length * M
  | [], made, _ => by simp [ups]
  | t :: l, made, h => by
    have h1 := wt_ups z k M l (step k t made) (fun x hx => h x (List.mem_cons_of_mem _ hx))
    have h2 := wt_step z k t made
    have h3 := h t List.mem_cons_self
    simp only [ups, List.foldl_cons, List.length_cons] at h1 ⊢
    rw [Nat.succ_mul]
    omega
theorem wt_path (z : α → Nat) (k : ByteArray) : ∀ (t x : Tr β α), x ∈ path k t → x.wt z ≤ t.wt z
  | nil, x, h => by simp [path] at h
  | node l k' v s r, x, h => by
    have h1 := wt_path z k l x
    have h2 := wt_path z k r x
    simp only [path] at h
    split at h
    · rcases List.mem_cons.1 h with rfl | h
      · exact Nat.le_refl _
      · have := h1 h; simp only [wt]; omega
    · split at h
      · rcases List.mem_cons.1 h with rfl | h
        · exact Nat.le_refl _
        · have := h2 h; simp only [wt]; omega
      · cases h
theorem wt_found (z : α → Nat) (k : ByteArray) : ∀ t : Tr β α, (found k t).wt z ≤ t.wt z
  | nil => Nat.le_refl _
  | node l k' v s r => by
    have h1 := wt_found z k l
    have h2 := wt_found z k r
    simp only [found]
    split
    · simp only [wt]; omega
    · split
      · simp only [wt]; omega
      · exact Nat.le_refl _
theorem path_node (k : ByteArray) : ∀ (t x : Tr β α), x ∈ path k t → x.isNil = false
  | nil, x, h => by simp [path] at h
  | node l k' v s r, x, h => by
    have h1 := path_node k l x
    have h2 := path_node k r x
    simp only [path] at h
    split at h
    · rcases List.mem_cons.1 h with rfl | h
      · rfl
      · exact h1 h
    · split at h
      · rcases List.mem_cons.1 h with rfl | h
        · rfl
        · exact h2 h
      · cases h
/-- How often a Put joins. -/
def putC (k : ByteArray) (v : β) (s : α) (t : Tr β α) : Nat :=
  (match found k t with
    | nil => 0
    | node l _ _ _ r => hangC l r) + upsC k (base k v s (found k t)) (path k t).reverse
end Tr
end Go.Proofs.YtlbkcndmljlnmaaDoor
namespace Go.Proofs.YtlbkcndmljlnmaaDoor
open Go.RowKit
set_option linter.unusedVariables false
namespace Tr
variable {β α : Type}
def val (z : β) : Tr β α → β
  | nil => z
  | node _ _ v _ _ => v
def key : Tr β α → ByteArray
  | nil => ⟨#[]⟩
  | node _ k _ _ _ => k
end Tr
end Go.Proofs.YtlbkcndmljlnmaaDoor
namespace Go.Proofs.YtlbkcndmljlnmaaDoor
open Go.RowKit
set_option linter.unusedVariables false
variable {β α : Type}
/-- Keys rise. -/
def Rises (l : List (Rw β α)) : Prop := l.Pairwise (fun a b => kLt a.k b.k = true)
/-- A row put into a sorted list. -/
def ins (k : ByteArray) (v : β) (s : α) : List (Rw β α) → List (Rw β α)
  | [] => [⟨k, v, s⟩]
  | y :: l => if kLt k y.k then ⟨k, v, s⟩ :: y :: l else if kLt y.k k then y :: ins k v s l else ⟨k, v, s⟩ :: l
theorem ins_left {k : ByteArray} {v : β} {s : α} {y : Rw β α} (B : List (Rw β α)) (h : kLt k y.k = true) : ∀ A : List (Rw β α), ins k v s (A ++ y :: B) = ins k v s A ++ y :: B
  | [] => by simp [ins, h]
  | a :: A => by
    simp only [List.cons_append, ins, ins_left B h A]
    split
    · rfl
    · split <;> rfl
theorem ins_right {k : ByteArray} {v : β} {s : α} : ∀ (A B : List (Rw β α)), (∀ a ∈ A, kLt a.k k = true) → ins k v s (A ++ B) = A ++ ins k v s B
  | [], B, _ => rfl
  | a :: A, B, h => by
    have h1 := h a List.mem_cons_self
    simp only [List.cons_append, ins, kLt_asymm h1, h1, if_true, if_false, Bool.false_eq_true, ins_right A B (fun x hx => h x (List.mem_cons_of_mem _ hx))]
theorem ins_same {k : ByteArray} {v : β} {s : α} {y : Rw β α} (A B : List (Rw β α)) (hA : ∀ a ∈ A, kLt a.k k = true) (h1 : kLt k y.k = false) (h2 : kLt y.k k = false) : ins k v s (A ++ y :: B) = A ++ ⟨k, v, s⟩ :: B := by
  rw [ins_right A _ hA]; simp [ins, h1, h2]
theorem rises_parts {A B : List (Rw β α)} {y : Rw β α} (h : Rises (A ++ y :: B)) : Rises A ∧ Rises B ∧ (∀ a ∈ A, kLt a.k y.k = true) ∧ (∀ b ∈ B, kLt y.k b.k = true) ∧ (∀ a ∈ A, ∀ b ∈ B, kLt a.k b.k = true) := by
  unfold Rises at *
  rw [List.pairwise_append, List.pairwise_cons] at h
  exact ⟨h.1, h.2.1.2, fun a ha => h.2.2 a ha y List.mem_cons_self, h.2.1.1, fun a ha b hb => h.2.2 a ha b (List.mem_cons_of_mem _ hb)⟩
theorem rows_put (k : ByteArray) (v : β) (s : α) : ∀ t : Tr β α, Rises t.rows → (Tr.put k v s t).rows = ins k v s t.rows
  | .nil, _ => rfl
  | .node l k' v' s' r, h => by
    obtain ⟨h1, h2, h3, h4, _⟩ := rises_parts h
    simp only [Tr.put, Tr.rows]
    cases q1 : kLt k k'
    · cases q2 : kLt k' k
      · simp only [Bool.false_eq_true, if_false, Tr.rows]
        rw [ins_same l.rows r.rows (fun a ha => kLt_trans_le (h3 a ha) q1) q1 q2]
      · simp only [Bool.false_eq_true, if_false, if_true]
        rw [Tr.rows_level, rows_put k v s r h2, ins_right l.rows _ (fun a ha => kLt_trans (h3 a ha) q2)]
        simp [ins, q1, q2]
    · simp only [if_true]
      rw [Tr.rows_level, rows_put k v s l h1, ins_left r.rows q1]
theorem ins_mem {k : ByteArray} {v : β} {s : α} : ∀ (l : List (Rw β α)) (x : Rw β α), x ∈ ins k v s l → x = ⟨k, v, s⟩ ∨ x ∈ l
  | [], x, h => by simp [ins] at h; exact .inl h
  | y :: l, x, h => by
    simp only [ins] at h
    split at h
    · rcases List.mem_cons.1 h with h | h
      · exact .inl h
      · exact .inr h
    · split at h
      · rcases List.mem_cons.1 h with h | h
        · exact .inr (h ▸ List.mem_cons_self)
        · rcases ins_mem l x h with h | h
          · exact .inl h
          · exact .inr (List.mem_cons_of_mem _ h)
      · rcases List.mem_cons.1 h with h | h
        · exact .inl h
        · exact .inr (List.mem_cons_of_mem _ h)
theorem rises_ins {k : ByteArray} {v : β} {s : α} : ∀ l : List (Rw β α), Rises l → Rises (ins k v s l)
  | [], _ => by simp [ins, Rises]
  | y :: l, h => by
    have h' := h
    unfold Rises at h'
    rw [List.pairwise_cons] at h'
    obtain ⟨h1, h2⟩ := h'
    simp only [ins]
    split
    · rename_i q
      unfold Rises
      rw [List.pairwise_cons]
      refine ⟨fun b hb => ?_, h⟩
      rcases List.mem_cons.1 hb with rfl | hb
      · exact q
      · exact kLt_trans q (h1 b hb)
    · rename_i q
      split
      · rename_i q2
        unfold Rises
        rw [List.pairwise_cons]
        refine ⟨fun b hb => ?_, rises_ins l h2⟩
        rcases ins_mem l b hb with rfl | hb
        · exact q2
        · exact h1 b hb
      · rename_i q2
        unfold Rises
        rw [List.pairwise_cons]
        refine ⟨fun b hb => ?_, h2⟩
        have e : k = y.k := kLt_total (by simpa using q) (by simpa using q2)
        show kLt k b.k = true
        rw [e]; exact h1 b hb
/-- The row of a key. -/
def look (k : ByteArray) (l : List (Rw β α)) : Option (Rw β α) := l.find? (fun y => !kLt k y.k && !kLt y.k k)
/-- How many rows have a lower key. -/
def rankL (k : ByteArray) (l : List (Rw β α)) : Nat := (l.filter (fun y => kLt y.k k)).length
theorem look_none {k : ByteArray} {l : List (Rw β α)} (h : ∀ y ∈ l, kLt k y.k = true ∨ kLt y.k k = true) : look k l = none := by
  unfold look
  rw [List.find?_eq_none]
  intro y hy
  rcases h y hy with h | h <;> simp [h]
theorem look_found (k : ByteArray) : ∀ t : Tr β α, Rises t.rows → look k t.rows = match Tr.found k t with | .nil => none | .node _ k' v s _ => some ⟨k', v, s⟩
  | .nil, _ => rfl
  | .node l k' v' s' r, h => by
    obtain ⟨h1, h2, h3, h4, _⟩ := rises_parts h
    have il := look_found k l h1
    have ir := look_found k r h2
    simp only [Tr.found, Tr.rows]
    unfold look at il ir ⊢
    rw [List.find?_append]
    cases q1 : kLt k k'
    · cases q2 : kLt k' k
      · have e : k = k' := kLt_total q1 q2
        have : l.rows.find? (fun y => !kLt k y.k && !kLt y.k k) = none := look_none (fun y hy => .inr (by rw [e]; exact h3 y hy))
        rw [this]
        simp [q1, q2]
      · have : l.rows.find? (fun y => !kLt k y.k && !kLt y.k k) = none := look_none (fun y hy => .inr (kLt_trans (h3 y hy) q2))
        rw [this]
        simp only [Option.none_or, List.find?_cons, q1, q2, Bool.not_true, Bool.not_false, Bool.and_false, Bool.false_eq_true, if_false, if_true]
        exact ir
    · have : r.rows.find? (fun y => !kLt k y.k && !kLt y.k k) = none := look_none (fun y hy => .inl (kLt_trans q1 (h4 y hy)))
      simp only [List.find?_cons, q1, Bool.not_true, Bool.false_and, this, if_true, Option.or_none]
      exact il
theorem rank_all {k : ByteArray} : ∀ {l : List (Rw β α)}, (∀ y ∈ l, kLt y.k k = true) → rankL k l = l.length
  | [], _ => rfl
  | y :: l, h => by
    have := rank_all (l := l) (fun x hx => h x (List.mem_cons_of_mem _ hx))
    unfold rankL at *
    rw [List.filter_cons_of_pos (by simpa using h y List.mem_cons_self)]
    simp [this]
theorem rank_none {k : ByteArray} {l : List (Rw β α)} (h : ∀ y ∈ l, kLt y.k k = false) : rankL k l = 0 := by
  unfold rankL
  rw [List.filter_eq_nil_iff.2 (fun y hy => by simp [h y hy])]
  rfl
theorem rank_append (k : ByteArray) (A B : List (Rw β α)) : rankL k (A ++ B) = rankL k A + rankL k B := by
  unfold rankL; rw [List.filter_append, List.length_append]
theorem rank_cons (k : ByteArray) (y : Rw β α) (B : List (Rw β α)) : rankL k (y :: B) = (if kLt y.k k then 1 else 0) + rankL k B := by
  unfold rankL; rw [List.filter_cons]; split <;> simp <;> omega
theorem lower_rank (k : ByteArray) : ∀ t : Tr β α, Rises t.rows → Tr.lower k t = rankL k t.rows
  | .nil, _ => rfl
  | .node l k' v' s' r, h => by
    obtain ⟨h1, h2, h3, h4, _⟩ := rises_parts h
    have il := lower_rank k l h1
    have ir := lower_rank k r h2
    simp only [Tr.lower, Tr.rows]
    rw [rank_append, rank_cons]
    cases q1 : kLt k k'
    · cases q2 : kLt k' k
      · have e : k = k' := kLt_total q1 q2
        rw [rank_all (fun y hy => by rw [e]; exact h3 y hy), rank_none (fun y hy => by rw [e]; exact kLt_asymm (h4 y hy)), Tr.rows_length]
        simp
      · rw [rank_all (fun y hy => kLt_trans (h3 y hy) q2), Tr.rows_length, ir]
        simp
        omega
    · rw [rank_none (l := r.rows) (fun y hy => kLt_asymm (kLt_trans q1 (h4 y hy))), kLt_asymm q1, il]
      simp
/-- The rows from i on below j. -/
def seg (l : List (Rw β α)) (i j : Nat) : List (Rw β α) := (l.take j).drop i
end Go.Proofs.YtlbkcndmljlnmaaDoor
namespace Go.Proofs.YtlbkcndmljlnmaaDoor
open Go.RowKit
set_option linter.unusedVariables false
variable {β α : Type}
theorem wt_put (z : α → Nat) (k : ByteArray) (v : β) (s : α) : ∀ t : Tr β α, (Tr.put k v s t).wt z ≤ t.wt z + 1 + z s
  | .nil => by simp [Tr.put, Tr.wt]
  | .node l k' v' s' r => by
    have h1 := wt_put z k v s l
    have h2 := wt_put z k v s r
    simp only [Tr.put]
    split
    · rw [Tr.wt_level]; simp only [Tr.wt]; omega
    · split
      · rw [Tr.wt_level]; simp only [Tr.wt]; omega
      · simp only [Tr.wt]; omega
/-- Balanced, rising, and holding no more than m. -/
structure Gd (z : α → Nat) (t : Tr β α) (m : Nat) : Prop where
  bal : t.bal
  rises : Rises t.rows
  wt : t.wt z ≤ m
theorem Gd.put {z : α → Nat} {t : Tr β α} {m : Nat} (h : Gd z t m) (k : ByteArray) (v : β) (s : α) : Gd z (Tr.put k v s t) (m + 1 + z s) :=
  ⟨(Tr.bal_put k v s t h.bal).1, by rw [rows_put k v s t h.rises]; exact rises_ins _ h.rises, by have := wt_put z k v s t; have := h.wt; omega⟩
theorem Gd.cnt {z : α → Nat} {t : Tr β α} {m : Nat} (h : Gd z t m) : t.cnt ≤ m := Nat.le_trans (Tr.cnt_le_wt z t) h.wt
theorem Gd.ht {z : α → Nat} {t : Tr β α} {m : Nat} (h : Gd z t m) (hm : m ≤ 281474976710655) : t.ht ≤ 97 := Tr.bal_ht h.bal (n := 48) (by have := h.cnt; omega)
theorem Gd.room {z : α → Nat} {t : Tr β α} {m x : Nat} (h : Gd z t m) (hm : m + 1 + x ≤ 281474976710655) : (t.ht + 2) * (t.wt z + 1 + x) ≤ 4611686018427387904 := by
  have h1 := h.ht (by omega)
  have h2 := h.wt
  have : (t.ht + 2) * (t.wt z + 1 + x) ≤ 99 * 281474976710655 := Nat.mul_le_mul (by omega) (by omega)
  omega
end Go.Proofs.YtlbkcndmljlnmaaDoor
namespace Go.Proofs.YtlbkcndmljlnmaaDoor
set_option linter.unusedVariables false
/-- Bytes as a number, the first byte the lowest one. -/
def leB : List UInt8 → Nat
  | [] => 0
  | b :: r => b.toNat + 256 * leB r
theorem leB_lt : ∀ l : List UInt8, leB l < 256 ^ l.length
  | [] => by simp [leB]
  | b :: r => by
    have h := leB_lt r
    have hb := b.toNat_lt
    simp only [leB, List.length_cons, Nat.pow_succ]
    omega
/-- The word that begins at byte m. -/
def wordN (k : List UInt8) (m : Nat) : Nat := leB ((k.drop m).take 8)
/-- The first j words of a key. -/
def keyW (k : List UInt8) (j : Nat) : List Int := (List.range j).map fun m => (wordN k (8 * m) : Int)
theorem keyW_succ (k : List UInt8) (j : Nat) : keyW k (j + 1) = keyW k j ++ [(wordN k (8 * j) : Int)] := by simp [keyW, List.range_succ]
/-- How many words a key has. -/
def keyN (n : Nat) : Nat := (n + 7) / 8
/-- All words of a key and a version. -/
def wordsI (k : ByteArray) (c n : Int) : List Int := (k.size : Int) :: keyW k.data.toList (keyN k.size) ++ [IntKind.u64.wrap c, IntKind.u64.wrap n]
def lane0 (ws : List Int) : Int := ws.foldl (mixI 11400714819323198485 29) 2611923443488327891
def lane1 (ws : List Int) : Int := ws.foldl (mixI 14029467366897019727 32) 1376283091369227076
theorem lane0_snoc (ws : List Int) (u : Int) : lane0 (ws ++ [u]) = mixI 11400714819323198485 29 (lane0 ws) u := by simp [lane0]
theorem lane1_snoc (ws : List Int) (u : Int) : lane1 (ws ++ [u]) = mixI 14029467366897019727 32 (lane1 ws) u := by simp [lane1]
/-- What an entry comes to, lane by lane. -/
def of0 (k : ByteArray) (c n : Int) : Int := lane0 (wordsI k c n)
def of1 (k : ByteArray) (c n : Int) : Int := lane1 (wordsI k c n)
def ofV (k : ByteArray) (c n : Int) : Value := .agg #[.int .u64 (of0 k c n), .int .u64 (of1 k c n)]
theorem wordsI_snoc (k : ByteArray) (c n : Int) : wordsI k c n = (((k.size : Int) :: keyW k.data.toList (keyN k.size)) ++ [IntKind.u64.wrap c]) ++ [IntKind.u64.wrap n] := by simp [wordsI]
end Go.Proofs.YtlbkcndmljlnmaaDoor
namespace Go.Proofs.YtlbkcndmljlnmaaDoor
open Go.RowKit
set_option linter.unusedVariables false
/-- Keys rise. -/
def RisesE (l : List En) : Prop := l.Pairwise (fun a b => kLt a.k b.k = true)
end Go.Proofs.YtlbkcndmljlnmaaDoor
namespace Go.Proofs.YtlbkcndmljlnmaaDoor
open Go.RowKit
set_option linter.unusedVariables false
theorem mixI_range (f : Int) (s : Nat) (x u : Int) : 0 ≤ mixI f s x u ∧ mixI f s x u < 18446744073709551616 := by
  have h : ∀ z : Int, 0 ≤ IntKind.u64.wrap z ∧ IntKind.u64.wrap z < 18446744073709551616 := fun z => by rw [IntKind.wrap_u64]; omega
  exact h _
theorem of0_range (k : ByteArray) (c n : Int) : 0 ≤ of0 k c n ∧ of0 k c n < 18446744073709551616 := by
  unfold of0; rw [wordsI_snoc, lane0_snoc]; exact mixI_range _ _ _ _
theorem of1_range (k : ByteArray) (c n : Int) : 0 ≤ of1 k c n ∧ of1 k c n < 18446744073709551616 := by
  unfold of1; rw [wordsI_snoc, lane1_snoc]; exact mixI_range _ _ _ _
/-- What an entry comes to. -/
def tof (e : En) : Tl := ⟨1, UInt64.ofNat (of0 e.k e.c e.n).toNat, UInt64.ofNat (of1 e.k e.c e.n).toNat⟩
theorem tof_n (e : En) : (tof e).n = 1 := rfl
theorem tof_a (e : En) : (tof e).a = of0 e.k e.c e.n := by
  have := of0_range e.k e.c e.n
  show ((UInt64.ofNat (of0 e.k e.c e.n).toNat).toNat : Int) = _
  rw [UInt64.toNat_ofNat']
  omega
theorem tof_b (e : En) : (tof e).b = of1 e.k e.c e.n := by
  have := of1_range e.k e.c e.n
  show ((UInt64.ofNat (of1 e.k e.c e.n).toNat).toNat : Int) = _
  rw [UInt64.toNat_ofNat']
  omega
/-- The row of an entry. -/
def rwE (e : En) : Rw En Tl := ⟨e.k, e, tof e⟩
/-- An entry put among sorted ones. -/
def insE (e : En) : List En → List En
  | [] => [e]
  | y :: l => if kLt e.k y.k then e :: y :: l else if kLt y.k e.k then y :: insE e l else e :: l
/-- The entry under a key. -/
def lookE (k : ByteArray) (l : List En) : Option En := l.find? (fun y => !kLt k y.k && !kLt y.k k)
/-- How many keys are below one. -/
def belE (k : ByteArray) (l : List En) : Nat := (l.filter (fun y => kLt y.k k)).length
theorem rises_map {l : List En} (h : RisesE l) : Rises (l.map rwE) := by
  unfold Rises RisesE at *
  rw [List.pairwise_map]
  exact h
theorem ins_map (e : En) : ∀ l : List En, ins e.k e (tof e) (l.map rwE) = (insE e l).map rwE
  | [] => rfl
  | y :: l => by
    simp only [List.map_cons, ins, insE, ins_map e l]
    show (if kLt e.k y.k then _ else if kLt y.k e.k then _ else _) = _
    split
    · rfl
    · split <;> rfl
theorem rises_of_map {l : List En} (h : Rises (l.map rwE)) : RisesE l := by
  unfold Rises RisesE at *
  rw [List.pairwise_map] at h
  exact h
theorem look_map (k : ByteArray) (l : List En) : look k (l.map rwE) = (lookE k l).map rwE := by
  unfold look lookE
  rw [List.find?_map]
  rfl
theorem rank_map (k : ByteArray) (l : List En) : rankL k (l.map rwE) = belE k l := by
  unfold rankL belE
  rw [List.filter_map, List.length_map]
  rfl
theorem seg_map (l : List En) (i j : Nat) : seg (l.map rwE) i j = ((l.take j).drop i).map rwE := by
  unfold seg
  rw [← List.map_take, ← List.map_drop]
/-- The tree T holds the entries L. -/
structure Hol (T : Tr En Tl) (L : List En) : Prop where
  bal : T.bal
  rows : T.rows = L.map rwE
  rises : RisesE L
theorem wt_cnt : ∀ T : Tr En Tl, T.wt tSz = T.cnt
  | .nil => rfl
  | .node l k v s r => by simp only [Tr.wt, Tr.cnt, wt_cnt l, wt_cnt r, tSz]
theorem Hol.nil : Hol .nil [] := ⟨trivial, rfl, List.Pairwise.nil⟩
theorem Hol.cnt {T : Tr En Tl} {L : List En} (h : Hol T L) : T.cnt = L.length := by rw [← Tr.rows_length, h.rows, List.length_map]
theorem Hol.gd {T : Tr En Tl} {L : List En} (h : Hol T L) : Gd tSz T L.length :=
  ⟨h.bal, by rw [h.rows]; exact rises_map h.rises, by rw [wt_cnt, h.cnt]; exact Nat.le_refl _⟩
theorem Hol.put {T : Tr En Tl} {L : List En} (h : Hol T L) (e : En) : Hol (Tr.put e.k e (tof e) T) (insE e L) := by
  have hr : (Tr.put e.k e (tof e) T).rows = (insE e L).map rwE := by rw [rows_put _ _ _ _ h.gd.rises, h.rows, ins_map]
  exact ⟨(Tr.bal_put _ _ _ T h.bal).1, hr, rises_of_map (by rw [← hr]; exact (h.gd.put e.k e (tof e)).rises)⟩
theorem Hol.found {T : Tr En Tl} {L : List En} (h : Hol T L) (k : ByteArray) : (Tr.found k T).val eNone = (lookE k L).getD eNone ∧ (!(Tr.found k T).isNil) = (lookE k L).isSome := by
  have h1 := look_found k T h.gd.rises
  rw [h.rows, look_map] at h1
  cases hF : Tr.found k T with
  | nil =>
    rw [hF] at h1
    cases hL : lookE k L with
    | none => exact ⟨rfl, rfl⟩
    | some x => rw [hL] at h1; cases h1
  | node l k' v s r =>
    rw [hF] at h1
    cases hL : lookE k L with
    | none => rw [hL] at h1; cases h1
    | some x =>
      rw [hL] at h1
      injection h1 with h1
      have : x = v := congrArg Rw.v h1
      subst this
      exact ⟨rfl, rfl⟩
theorem Hol.lower {T : Tr En Tl} {L : List En} (h : Hol T L) (k : ByteArray) : Tr.lower k T = belE k L := by
  rw [lower_rank k T h.gd.rises, h.rows, rank_map]
theorem belE_le (k : ByteArray) (L : List En) : belE k L ≤ L.length := List.length_filter_le _ _
/-- The keys below one are the first. -/
theorem filter_low {k : ByteArray} : ∀ {L : List En}, RisesE L → L.filter (fun y => kLt y.k k) = L.take (belE k L)
  | [], _ => rfl
  | y :: L, h => by
    unfold RisesE at h
    rw [List.pairwise_cons] at h
    cases hq : kLt y.k k
    · have hn : (y :: L).filter (fun y => kLt y.k k) = [] := by
        rw [List.filter_eq_nil_iff]
        intro x hx
        rcases List.mem_cons.1 hx with rfl | hx
        · simp [hq]
        · cases hq2 : kLt x.k k
          · simp
          · have := kLt_trans (h.1 x hx) hq2
            rw [hq] at this; cases this
      unfold belE
      rw [hn]
      rfl
    · have ih := filter_low (k := k) (L := L) h.2
      have e : belE k (y :: L) = belE k L + 1 := by unfold belE; rw [List.filter_cons_of_pos (by simpa using hq)]; rfl
      rw [e, List.filter_cons_of_pos (by simpa using hq), List.take_succ_cons, ih]
theorem filter_high {k : ByteArray} : ∀ {L : List En}, RisesE L → L.filter (fun y => !kLt y.k k) = L.drop (belE k L)
  | [], _ => rfl
  | y :: L, h => by
    unfold RisesE at h
    rw [List.pairwise_cons] at h
    cases hq : kLt y.k k
    · have hn : ∀ x ∈ y :: L, kLt x.k k = false := fun x hx => by
        rcases List.mem_cons.1 hx with rfl | hx
        · exact hq
        · cases hq2 : kLt x.k k
          · rfl
          · have := kLt_trans (h.1 x hx) hq2
            rw [hq] at this; cases this
      have h1 : belE k (y :: L) = 0 := by
        unfold belE
        rw [List.filter_eq_nil_iff.2 (fun x hx => by simp [hn x hx])]
        rfl
      rw [h1, List.drop_zero, List.filter_eq_self]
      intro x hx
      simp [hn x hx]
    · have ih := filter_high (k := k) (L := L) h.2
      have e : belE k (y :: L) = belE k L + 1 := by unfold belE; rw [List.filter_cons_of_pos (by simpa using hq)]; rfl
      rw [e, List.filter_cons_of_neg (by simp [hq]), List.drop_succ_cons, ih]
/-- Whether a key is in a range that may be. -/
def inR (lo hi : ByteArray) (op : Bool) (e : En) : Bool := !kLt e.k lo && (op || kLt e.k hi)
/-- Where the rows of a range end. -/
def endE (hi : ByteArray) (op : Bool) (L : List En) : Nat := if op then L.length else belE hi L
theorem endE_le (hi : ByteArray) (op : Bool) (L : List En) : endE hi op L ≤ L.length := by
  unfold endE; split
  · exact Nat.le_refl _
  · exact belE_le _ _
theorem rank_take {lo hi : ByteArray} {L : List En} (hs : RisesE L) (h : kLt hi lo = false) : belE lo (L.take (belE hi L)) = belE lo L := by
  rw [← filter_low hs]
  unfold belE
  rw [List.filter_filter]
  congr 1
  apply List.filter_congr
  intro x _
  cases h1 : kLt x.k lo
  · simp
  · simp [kLt_trans_le h1 h]
/-- The rows of a range. -/
theorem seg_range {lo hi : ByteArray} {op : Bool} {L : List En} (hs : RisesE L) (h : op = true ∨ kLt hi lo = false) : (L.take (endE hi op L)).drop (belE lo L) = L.filter (inR lo hi op) := by
  cases op with
  | true =>
    have : inR lo hi true = fun y => !kLt y.k lo := by funext y; simp [inR]
    rw [this, filter_high hs]
    simp [endE]
  | false =>
    have h' : kLt hi lo = false := by rcases h with h | h; cases h; exact h
    have hs2 : RisesE (L.take (belE hi L)) := List.Pairwise.sublist (List.take_sublist _ _) hs
    show (L.take (belE hi L)).drop (belE lo L) = _
    rw [← rank_take hs h', ← filter_high hs2, ← filter_low hs, List.filter_filter]
    apply List.filter_congr
    intro x _
    simp [inR]
end Go.Proofs.YtlbkcndmljlnmaaDoor
