/-
  Lists of numbers: that came in, and that are ours (grown, changed about).
  Entries and versions compared.
  The examples at the head of the statements on stores: they hold.
-/
import Derived.Test.YtlgcdcjhflihiaaDoorBstorefills33
import Derived.Test.YtlgcdcjhflihiaaDoorBstorefills36
import Derived.Maps.AppendAt
import Derived.Laws.OwnMore
import Derived.Test.YtlgcdcjhflihiaaDoorBstorefills25
import Derived.Laws.StructEq
namespace Go.Proofs.YtlgcdcjhflihiaaDoor
open Go.ChangeShapes Go.WideShapes Go.ChangeAt Go.RowKit
set_option linter.unusedVariables false

/-- A list of whole numbers that came in. -/
def IntsIn (w : World) (a : Option Addr) (len cap : Nat) (z : Nat → Int) : Prop :=
  len ≤ cap ∧ cap ≤ maxLen ∧ (len = 0 ∨ ∃ b off, a = some ⟨b, off, none⟩ ∧ b < w.heap.size ∧ ∀ i, i < len → w.cell? ⟨b, off + i, none⟩ = some (.int .i64 (z i)))

theorem IntsIn.keep {w w' : World} {a : Option Addr} {len cap : Nat} {T : Nat → Int} (h : IntsIn w a len cap T) (k : Below w.heap.size w w') : IntsIn w' a len cap T := by
  obtain ⟨h1, h2, h4⟩ := h
  refine ⟨h1, h2, ?_⟩
  rcases h4 with h4 | ⟨bb, off, rfl, hb, hc⟩
  · exact .inl h4
  · exact .inr ⟨bb, off, rfl, by have := k.size; omega, fun i hi => cell_in (hc i hi) k⟩

variable {H : Type} {enc : TypeId × Value → H} {W : World}

set_option maxHeartbeats 1000000 in
theorem ints_open {fuel : Nat} {a : Option Addr} {len cap : Nat} {d : DataW H} {ps : List MemPlace}
    (hf : DataW.trod enc Tryd.prog W 0 (fun _ => true) true fuel 59 [.slice a len cap] = some (d, ps)) :
    ∃ T, IntsIn W a len cap T := by
  rcases Deep.open_slice Tryd.underlying59 hf with ⟨hcs, _⟩ | ⟨x, l, c, m, n, D, Pl, hcs, hb, hl, hm, hmm, hx, hel⟩
  · simp only [List.cons.injEq, Value.slice.injEq, and_true] at hcs
    obtain ⟨rfl, rfl, rfl⟩ := hcs
    exact ⟨fun _ => 0, Nat.le_refl _, Nat.zero_le _, .inl rfl⟩
  · simp only [List.cons.injEq, Value.slice.injEq, and_true] at hcs
    obtain ⟨rfl, rfl, rfl⟩ := hcs
    simp only [if_true] at hmm
    subst hmm
    rw [cellsInt] at hel
    have each : ∀ i, i < len → ∃ t : Int, W.cell? (x.add i) = some (.int .i64 t) := by
      intro i hi
      obtain ⟨cs', h1, h2⟩ := hel i (by omega)
      obtain ⟨_, hlen, hcell⟩ := World.cells?_some h1
      match cs', hlen with
      | [v0], _ =>
        obtain ⟨t, e0, _, _⟩ := DataW.trod_int Tryd.underlying3 h2
        simp only [List.cons.injEq, and_true] at e0
        subst e0
        have c0 := hcell 0 (by omega)
        rw [Deep.add_add] at c0
        exact ⟨t, by simpa using c0⟩
    by_cases h0 : len = 0
    · exact ⟨fun _ => 0, hl, hm, .inl h0⟩
    · obtain ⟨T, hT⟩ := Deep.choose_lt each
      have hc0 := hT 0 (by omega)
      obtain ⟨blk, off, spot⟩ := x
      have hspot : spot = none := by
        have := World.cell?_spot hc0
        simpa [Addr.add] using this
      subst hspot
      have hblk : blk < W.heap.size := by
        have := World.block_lt_of_cell? W _ hc0
        simpa [Addr.add] using this
      have hadd : ∀ j, (⟨blk, off, none⟩ : Addr).add j = ⟨blk, off + j, none⟩ := by intro j; unfold Addr.add; split <;> simp_all
      refine ⟨T, hl, hm, .inr ⟨blk, off, rfl, hblk, fun i hi => ?_⟩⟩
      have h5 := hT i hi
      simpa only [hadd] using h5

set_option maxHeartbeats 1600000 in
theorem among8 (p : Int) (m : Nat) (w : World) (hm : 0 < m) (hx : (m : Int) ≤ 9223372036854775807) :
    Calls Tryd.prog 13 #[.int .i64 p, .int .i64 (m : Int)] w fun e w' => ∃ k : Nat, e = .returned (.int .i64 (k : Int)) ∧ k < m ∧ w' = w := by
  have h1 : ¬ (m : Int) < 1 := by omega
  have hne : (m : Int) ≠ 0 := by omega
  have hlo : -(m : Int) < p.tmod m := by
    have := Int.lt_tmod_of_pos p (show (0 : Int) < m by omega)
    omega
  have hhi : p.tmod m < (m : Int) := Int.tmod_lt_of_pos p (by omega)
  have hnm : ¬ (m : Int) = -1 := by omega
  generalize hr : p.tmod m = r at *
  by_cases hneg : r < 0
  · have hw : IntKind.i64.wrap (r + (m : Int)) = r + (m : Int) := by rw [IntKind.wrap_i64]; omega
    go_enter Tryd.func13, Tryd.ntmps13
    go_wp2
    go_ret
    exact ⟨(r + m).toNat, by rw [show (((r + m).toNat : Nat) : Int) = r + m from by omega]; rfl, by omega, rfl⟩
  · go_enter Tryd.func13, Tryd.ntmps13
    go_wp2
    go_ret
    exact ⟨r.toNat, by rw [show ((r.toNat : Nat) : Int) = r from by omega]; rfl, by omega, rfl⟩

/-- An owned row's slice, in letters. -/
theorem own_slc {w : World} {B : Nat} {e : TypeId} {s : Nat} {v : Value} {n : Nat} {xs : List Value} (h : w.ownsRow B e s v n xs) : ∃ a c, v = .slice a n c ∧ n ≤ c ∧ c ≤ maxLen ∧ ((a = none ∧ n = 0 ∧ c = 0) ∨ ∃ g, a = some ⟨g, 0, none⟩ ∧ B ≤ g) := by
  rcases h.2 with ⟨rfl, rfl⟩ | ⟨g, cap, cur, rfl, hb, _, hn, hm, _⟩
  · exact ⟨none, 0, rfl, Nat.le_refl _, Nat.zero_le _, .inl ⟨rfl, rfl, rfl⟩⟩
  · exact ⟨_, cap, rfl, hn, hm, .inr ⟨g, rfl, hb⟩⟩

/-- Numbers as cells. -/
def numCells (l : List Nat) : List Value := l.map fun (i : Nat) => Value.int .i64 (i : Int)

theorem numCells_len (l : List Nat) : (numCells l).length = l.length := by simp [numCells]
theorem numCells_app (l m : List Nat) : numCells (l ++ m) = numCells l ++ numCells m := by simp [numCells]
theorem numCells_one (l : List Nat) : ∀ u ∈ numCells l, u.oneCell' = true := by
  intro u hu
  unfold numCells at hu
  obtain ⟨i, _, rfl⟩ := List.mem_map.1 hu
  rfl
theorem numCells_set (l : List Nat) (j i : Nat) : numCells (l.set j i) = (numCells l).set j (.int .i64 (i : Int)) := by simp [numCells, List.map_set]

theorem infoInt : (Tryd.prog.info? 3).map (fun i => (i.zero, i.size, i.bytes)) = some (some (.int .i64 0), 1, 8) := by kernel_rfl

def nthN (l : List Nat) (i : Nat) : Nat := l.getD i 0
theorem nthN_get {l : List Nat} {i : Nat} (h : i < l.length) : l[i]? = some (nthN l i) := by
  unfold nthN
  rw [List.getD_eq_getElem?_getD, List.getElem?_eq_getElem h]
  rfl

theorem num_at {w : World} {B g cap n : Nat} {l : List Nat} (h : w.ownsRow B 3 1 (.slice (some ⟨g, 0, none⟩) n cap) n (numCells l)) {i : Nat} (hi : i < l.length) : w.cell? ⟨g, i, none⟩ = some (.int .i64 (nthN l i : Int)) := by
  obtain ⟨hl, h1⟩ := h
  rcases h1 with ⟨h1, -⟩ | ⟨g', cap', cur, h1, h2, h3, h4, h5, h6, h7⟩
  · cases h1
  · cases h1
    have hn : l.length = n := by rw [numCells_len] at hl; omega
    have hcell : w.cell? ⟨g, i, none⟩ = cur[i]? := by simp [World.cell?, h3]
    rw [hcell]
    have e : (cur.toList.take (n * 1))[i]? = cur[i]? := by rw [List.getElem?_take, if_pos (by omega)]; simp
    rw [← e, h7]
    unfold numCells
    rw [List.getElem?_map, nthN_get hi]
    rfl

theorem num_put {w : World} {B g n cap j i : Nat} {l : List Nat} (h : w.ownsRow B 3 1 (.slice (some ⟨g, 0, none⟩) n cap) n (numCells l)) :
    (w.setCell ⟨g, j, none⟩ (.int .i64 (i : Int))).ownsRow B 3 1 (.slice (some ⟨g, 0, none⟩) n cap) n (numCells (l.set j i)) := by
  rw [numCells_set]
  exact (h.stored j _).1

/-- Two places of a list changed about. -/
def swapN (l : List Nat) (i k : Nat) : List Nat := (l.set i (nthN l k)).set k (nthN l i)
theorem swapN_length (l : List Nat) (i k : Nat) : (swapN l i k).length = l.length := by simp [swapN]
theorem mem_swapN {l : List Nat} {i k : Nat} (hi : i < l.length) (hk : k < l.length) (x : Nat) : x ∈ swapN l i k ↔ x ∈ l := by
  have e : ∀ {l : List Nat} {x : Nat}, x ∈ l ↔ ∃ j, j < l.length ∧ nthN l j = x := by
    intro l x
    rw [List.mem_iff_getElem]
    constructor
    · rintro ⟨j, hj, rfl⟩
      exact ⟨j, hj, by unfold nthN; rw [List.getD_eq_getElem?_getD, List.getElem?_eq_getElem hj]; rfl⟩
    · rintro ⟨j, hj, rfl⟩
      exact ⟨j, hj, by unfold nthN; rw [List.getD_eq_getElem?_getD, List.getElem?_eq_getElem hj]; rfl⟩
  have n : ∀ j, j < l.length → nthN (swapN l i k) j = if j = k then nthN l i else if j = i then nthN l k else nthN l j := by
    intro j hj
    have : (swapN l i k)[j]? = some (if j = k then nthN l i else if j = i then nthN l k else nthN l j) := by
      unfold swapN
      simp only [List.getElem?_set, List.length_set]
      by_cases h1 : k = j
      · subst h1
        rw [if_pos rfl, if_pos hk, if_pos rfl]
      · have h1' : ¬ j = k := fun h => h1 h.symm
        simp only [h1, h1', if_false]
        by_cases h2 : i = j
        · subst h2
          rw [if_pos rfl, if_pos hi, if_pos rfl]
        · have h2' : ¬ j = i := fun h => h2 h.symm
          simp only [h2, h2', if_false]
          exact nthN_get hj
    unfold nthN at this ⊢
    rw [List.getD_eq_getElem?_getD, this]
    rfl
  rw [e, e, swapN_length]
  constructor
  · rintro ⟨j, hj, rfl⟩
    rw [n j hj]
    split
    · exact ⟨i, hi, rfl⟩
    · split
      · exact ⟨k, hk, rfl⟩
      · exact ⟨j, hj, rfl⟩
  · rintro ⟨j, hj, rfl⟩
    by_cases h1 : j = i
    · subst h1; exact ⟨k, hk, by rw [n k hk, if_pos rfl]⟩
    · by_cases h2 : j = k
      · subst h2
        exact ⟨i, hi, by rw [n i hi, if_neg (fun h => h1 h.symm), if_pos rfl]⟩
      · exact ⟨j, hj, by rw [n j hj, if_neg h2, if_neg h1]⟩

/-- One number appended to an owned row, as one operation. -/
theorem op_append_num {w : World} {o : Oper} {act : Act} {K : Act → World → Prop} {Q : Exit → Act → World → Prop} (s x : Operand)
    (ho : o.op = .call { callee := .builtin .append, args := #[s, x], argTypes := #[59, 59] })
    (B n : Nat) (v : Value) (l : List Nat) (hs : act.eval s = v) (hown : w.ownsRow B 3 1 v n (numCells l)) (b c : Nat) (e : Nat) (hx : act.eval x = .slice (some ⟨b, 0, none⟩) 1 c)
    (hb : w.heap[b]? = some (.cells #[.int .i64 (e : Int)] 3 (0, 0))) (hlen : n * 56 ≤ 140737488351232) (hB : B ≤ w.heap.size)
    (h : ∀ g cap w', w'.ownsRow B 3 1 (.slice (some ⟨g, 0, none⟩) (n + 1) cap) (n + 1) (numCells (l ++ [e])) → w.grownBy w' v.ownBlock → K (act.put o.dst (.slice (some ⟨g, 0, none⟩) (n + 1) cap)) w') : o.wp Tryd.prog act w K Q := by
  obtain ⟨i0, hi, hz0, hz1, hz2⟩ := info_parts infoInt
  refine wp_append_own w s x _ ho B 3 i0 _ 1 8 Tryd.underlying59 hi hz0 hz1 hz2 rfl (by decide) _ _ _ hs hown ⟨b, 0, none⟩ 1 c [.int .i64 (e : Int)] hx rfl ?_ (fun u hu => numCells_one [e] u (by simpa [numCells] using hu)) (by unfold maxLen; omega) (by omega) hB ?_
  · exact World.news_of_block (cs := #[.int .i64 (e : Int)]) (t := 3) (fr := (0, 0)) hb
  · intro v' w' ho' hg _
    have e1 : numCells l ++ [.int .i64 (e : Int)] = numCells (l ++ [e]) := by rw [numCells_app]; simp [numCells]
    rw [e1] at ho'
    rcases ho'.2 with ⟨h1, h2⟩ | ⟨g, cap', cur, rfl, _⟩
    · omega
    · exact h g cap' w' ho' hg

/-- A row that is ours stays while blocks of other types are turned. -/
theorem own_kept {w w' : World} {S : Nat → Prop} {B : Nat} {e : TypeId} {s : Nat} {v : Value} {n : Nat} {xs : List Value} (h : w.ownsRow B e s v n xs) (k : Keeps S w w') (hS : ∀ g cs, w.heap[g]? = some (.cells cs e (0, 0)) → ¬ S g) : w'.ownsRow B e s v n xs := by
  refine ⟨h.1, ?_⟩
  rcases h.2 with h0 | ⟨g, cap, cur, h1, h2, h3, h4⟩
  · exact .inl h0
  · exact .inr ⟨g, cap, cur, h1, h2, blk_keep h3 k (hS g cur h3), h4⟩

end Go.Proofs.YtlgcdcjhflihiaaDoor
namespace Go.Proofs.YtlgcdcjhflihiaaDoor
open Go.RowKit
set_option linter.unusedVariables false

/-- Are two entries the same? -/
def enEqB (a b : En) : Bool := (a.k.toList == b.k.toList) && ((a.c == b.c && a.n == b.n) && ((a.v.toList == b.v.toList) && (a.d == b.d)))

theorem enEqB_iff (a b : En) : enEqB a b = true ↔ a = b := by
  obtain ⟨k, c, n, v, d⟩ := a
  obtain ⟨k', c', n', v', d'⟩ := b
  simp only [enEqB, Bool.and_eq_true, beq_iff_eq, En.mk.injEq]
  constructor
  · rintro ⟨h1, ⟨h2, h3⟩, h4, h5⟩
    exact ⟨toList_inj h1, h2, h3, toList_inj h4, h5⟩
  · rintro ⟨rfl, rfl, rfl, rfl, rfl⟩
    exact ⟨rfl, ⟨rfl, rfl⟩, rfl, rfl⟩
theorem enEqB_same (a : En) : enEqB a a = true := (enEqB_iff a a).2 rfl
theorem enEqB_ne {a b : En} (h : a ≠ b) : enEqB a b = false := by
  cases h2 : enEqB a b
  · rfl
  · exact absurd ((enEqB_iff a b).1 h2) h

theorem verq_run (a n b m : Int) (w : World) : (binOp .eql 37 (.agg #[.int .i64 a, .int .i64 n]) (.agg #[.int .i64 b, .int .i64 m])).run Tryd.prog w = .ok (.bool (a == b && n == m)) w := by
  by_cases h1 : a = b <;> by_cases h2 : n = m
  all_goals
    go_simp
    try simp [h1, h2]
theorem verne_run (a n b m : Int) (w : World) : (binOp .neq 37 (.agg #[.int .i64 a, .int .i64 n]) (.agg #[.int .i64 b, .int .i64 m])).run Tryd.prog w = .ok (.bool (!(a == b && n == m))) w := by
  by_cases h1 : a = b <;> by_cases h2 : n = m
  all_goals
    go_simp
    try simp [h1, h2]

theorem ent_in (a b : En) (w : World) : (Op.equalIn 10000 39 (.agg #[.string a.k, .int .i64 a.c, .int .i64 a.n, .string a.v, .bool a.d]) (.agg #[.string b.k, .int .i64 b.c, .int .i64 b.n, .string b.v, .bool b.d])).run Tryd.prog w = .ok (enEqB a b) w := by
  unfold enEqB
  rw [show (10000 : Nat) = 9999 + 1 from rfl]
  cases h1 : (a.k.toList == b.k.toList) <;> by_cases h2 : a.c = b.c <;> by_cases h5 : a.n = b.n <;> cases h3 : (a.v.toList == b.v.toList) <;> cases h4 : (a.d == b.d)
  all_goals
    go_simp
    try simp [h2, h5]
theorem ent_eq (a b : En) (w : World) : (binOp .eql 39 (.agg #[.string a.k, .int .i64 a.c, .int .i64 a.n, .string a.v, .bool a.d]) (.agg #[.string b.k, .int .i64 b.c, .int .i64 b.n, .string b.v, .bool b.d])).run Tryd.prog w = .ok (.bool (enEqB a b)) w := by
  rw [run_eql_struct, ent_in]; rfl
theorem ent_ne (a b : En) (w : World) : (binOp .neq 39 (.agg #[.string a.k, .int .i64 a.c, .int .i64 a.n, .string a.v, .bool a.d]) (.agg #[.string b.k, .int .i64 b.c, .int .i64 b.n, .string b.v, .bool b.d])).run Tryd.prog w = .ok (.bool (!enEqB a b)) w := by
  rw [run_neq_struct, ent_in]; rfl

end Go.Proofs.YtlgcdcjhflihiaaDoor
namespace Go.Proofs.YtlgcdcjhflihiaaDoor
open Go.RowKit
set_option linter.unusedVariables false

theorem oput (k v : ByteArray) {w : World} {sb g tb : Nat} {nd ck c : Int} {Ls Ls' : List En} (h : Sto w sb g tb nd ck Ls) (L : Lanes w) (hl : Ls.length ≤ 1000000) (he : wrErr k v nd ck Ls = 0) (hc : ck + 1 = c) (hi : insE (wrEn k v false nd ck) Ls = Ls') :
    Calls Tryd.prog 15 #[.pointer (some ⟨sb, 0, none⟩), .string k, .string v] w fun r w' => r = .returned (.tuple #[.agg #[.int .i64 c, .int .i64 nd], .int .i64 0]) ∧ Sto w' sb g tb nd c Ls' ∧ Lanes w' ∧ Keeps (Of sb g tb) w w' := by
  refine (qput k v h L hl).mono ?_
  rintro r w' ⟨c', m, er, rfl, e2, k, l, h1 | h1⟩
  · exact absurd (e2.trans he) h1.1
  · obtain ⟨rfl, rfl, rfl, h4⟩ := h1
    rw [hc, hi] at h4
    rw [hc]
    exact ⟨rfl, h4, l, k⟩

theorem odel (k : ByteArray) {w : World} {sb g tb : Nat} {nd ck c : Int} {Ls Ls' : List En} (h : Sto w sb g tb nd ck Ls) (L : Lanes w) (hl : Ls.length ≤ 1000000) (he : wrErr k ⟨#[]⟩ nd ck Ls = 0) (hc : ck + 1 = c) (hi : insE (wrEn k ⟨#[]⟩ true nd ck) Ls = Ls') :
    Calls Tryd.prog 16 #[.pointer (some ⟨sb, 0, none⟩), .string k] w fun r w' => r = .returned (.tuple #[.agg #[.int .i64 c, .int .i64 nd], .int .i64 0]) ∧ Sto w' sb g tb nd c Ls' ∧ Lanes w' ∧ Keeps (Of sb g tb) w w' := by
  refine (qdel k h L hl).mono ?_
  rintro r w' ⟨c', m, er, rfl, e2, k, l, h1 | h1⟩
  · exact absurd (e2.trans he) h1.1
  · obtain ⟨rfl, rfl, rfl, h4⟩ := h1
    rw [hc, hi] at h4
    rw [hc]
    exact ⟨rfl, h4, l, k⟩

theorem otake (e : En) {w : World} {sb g tb : Nat} {nd ck c : Int} {Ls Ls' : List En} (h : Sto w sb g tb nd ck Ls) (L : Lanes w) (hl : Ls.length ≤ 1000000) (he : tkSay e Ls = (0, true)) (hc : ckm ck e.c = c) (hi : insE e Ls = Ls') :
    Calls Tryd.prog 17 #[.pointer (some ⟨sb, 0, none⟩), .agg #[.string e.k, .int .i64 e.c, .int .i64 e.n, .string e.v, .bool e.d]] w fun r w' => r = .returned (.tuple #[.bool true, .int .i64 0]) ∧ Sto w' sb g tb nd c Ls' ∧ Lanes w' ∧ Keeps (Of sb g tb) w w' := by
  refine (qtake e h L hl).mono ?_
  rintro r w' ⟨rfl, k, l, h1 | h1⟩
  · rw [he] at h1; cases h1.1
  · rw [hc, hi] at h1
    rw [he]
    exact ⟨rfl, h1.2, l, k⟩

theorem sh1 : wrErr ⟨#[97]⟩ ⟨#[120]⟩ 3 0 [] = 0 ∧ insE (wrEn ⟨#[97]⟩ ⟨#[120]⟩ false 3 0) [] = [(⟨⟨#[97]⟩, 1, 3, ⟨#[120]⟩, false⟩ : En)] := by constructor <;> kernel_rfl
theorem sh2 : wrErr ⟨#[98]⟩ ⟨#[]⟩ 3 1 [(⟨⟨#[97]⟩, 1, 3, ⟨#[120]⟩, false⟩ : En)] = 0 ∧ insE (wrEn ⟨#[98]⟩ ⟨#[]⟩ false 3 1) [(⟨⟨#[97]⟩, 1, 3, ⟨#[120]⟩, false⟩ : En)] = [(⟨⟨#[97]⟩, 1, 3, ⟨#[120]⟩, false⟩ : En), (⟨⟨#[98]⟩, 2, 3, ⟨#[]⟩, false⟩ : En)] := by constructor <;> kernel_rfl
theorem sh3 : wrErr ⟨#[97]⟩ ⟨#[]⟩ 3 2 [(⟨⟨#[97]⟩, 1, 3, ⟨#[120]⟩, false⟩ : En), (⟨⟨#[98]⟩, 2, 3, ⟨#[]⟩, false⟩ : En)] = 0 ∧ insE (wrEn ⟨#[97]⟩ ⟨#[]⟩ true 3 2) [(⟨⟨#[97]⟩, 1, 3, ⟨#[120]⟩, false⟩ : En), (⟨⟨#[98]⟩, 2, 3, ⟨#[]⟩, false⟩ : En)] = [(⟨⟨#[97]⟩, 3, 3, ⟨#[]⟩, true⟩ : En), (⟨⟨#[98]⟩, 2, 3, ⟨#[]⟩, false⟩ : En)] := by constructor <;> kernel_rfl
theorem sh4 : tkSay (⟨⟨#[99]⟩, 9, 0, ⟨#[]⟩, false⟩ : En) [(⟨⟨#[97]⟩, 3, 3, ⟨#[]⟩, true⟩ : En), (⟨⟨#[98]⟩, 2, 3, ⟨#[]⟩, false⟩ : En)] = (0, true) ∧ insE (⟨⟨#[99]⟩, 9, 0, ⟨#[]⟩, false⟩ : En) [(⟨⟨#[97]⟩, 3, 3, ⟨#[]⟩, true⟩ : En), (⟨⟨#[98]⟩, 2, 3, ⟨#[]⟩, false⟩ : En)] = [(⟨⟨#[97]⟩, 3, 3, ⟨#[]⟩, true⟩ : En), (⟨⟨#[98]⟩, 2, 3, ⟨#[]⟩, false⟩ : En), (⟨⟨#[99]⟩, 9, 0, ⟨#[]⟩, false⟩ : En)] := by constructor <;> kernel_rfl
theorem sh5 : wrErr ⟨#[97]⟩ ⟨#[121]⟩ 3 9 [(⟨⟨#[97]⟩, 3, 3, ⟨#[]⟩, true⟩ : En), (⟨⟨#[98]⟩, 2, 3, ⟨#[]⟩, false⟩ : En), (⟨⟨#[99]⟩, 9, 0, ⟨#[]⟩, false⟩ : En)] = 0 ∧ insE (wrEn ⟨#[97]⟩ ⟨#[121]⟩ false 3 9) [(⟨⟨#[97]⟩, 3, 3, ⟨#[]⟩, true⟩ : En), (⟨⟨#[98]⟩, 2, 3, ⟨#[]⟩, false⟩ : En), (⟨⟨#[99]⟩, 9, 0, ⟨#[]⟩, false⟩ : En)] = [(⟨⟨#[97]⟩, 10, 3, ⟨#[121]⟩, false⟩ : En), (⟨⟨#[98]⟩, 2, 3, ⟨#[]⟩, false⟩ : En), (⟨⟨#[99]⟩, 9, 0, ⟨#[]⟩, false⟩ : En)] := by constructor <;> kernel_rfl
theorem sh6 : (lookE ⟨#[97]⟩ [(⟨⟨#[97]⟩, 10, 3, ⟨#[121]⟩, false⟩ : En), (⟨⟨#[98]⟩, 2, 3, ⟨#[]⟩, false⟩ : En), (⟨⟨#[99]⟩, 9, 0, ⟨#[]⟩, false⟩ : En)]).getD eNone = (⟨⟨#[97]⟩, 10, 3, ⟨#[121]⟩, false⟩ : En) ∧ (lookE ⟨#[97]⟩ [(⟨⟨#[97]⟩, 10, 3, ⟨#[121]⟩, false⟩ : En), (⟨⟨#[98]⟩, 2, 3, ⟨#[]⟩, false⟩ : En), (⟨⟨#[99]⟩, 9, 0, ⟨#[]⟩, false⟩ : En)]).isSome = true := by constructor <;> kernel_rfl
theorem sh7 : Rg.chk ⟨⟨#[120]⟩, ⟨#[97]⟩, false⟩ = 21 ∧ foldV ⟨#[120]⟩ ⟨#[97]⟩ false [(⟨⟨#[97]⟩, 10, 3, ⟨#[121]⟩, false⟩ : En), (⟨⟨#[98]⟩, 2, 3, ⟨#[]⟩, false⟩ : En), (⟨⟨#[99]⟩, 9, 0, ⟨#[]⟩, false⟩ : En)] = tZero := by constructor <;> kernel_rfl
theorem sh8 : Rg.chk ⟨⟨#[98]⟩, ⟨#[99]⟩, false⟩ = 0 ∧ (foldV ⟨#[98]⟩ ⟨#[99]⟩ false [(⟨⟨#[97]⟩, 10, 3, ⟨#[121]⟩, false⟩ : En), (⟨⟨#[98]⟩, 2, 3, ⟨#[]⟩, false⟩ : En), (⟨⟨#[99]⟩, 9, 0, ⟨#[]⟩, false⟩ : En)]).n = 1 := by constructor <;> kernel_rfl

set_option maxHeartbeats 6400000 in
set_option maxRecDepth 100000 in
theorem shown_any (w : World) (L : Lanes w) : Calls Tryd.prog 8 #[] w fun e w' => e = .returned (.bool true) ∧ Below w.heap.size w w' := by
  have LL := aside L
  have C1 := aside (fun (W : World) => qnew 3 W)
  have hv1 : ∀ w : World, (binOp .eql 37 (.agg #[.int .i64 3, .int .i64 3]) (.agg #[.int .i64 3, .int .i64 3])).run Tryd.prog w = .ok (.bool true) w := fun w => verq_run 3 3 3 3 w
  have hv2 : ∀ w : World, (binOp .eql 37 (.agg #[.int .i64 10, .int .i64 3]) (.agg #[.int .i64 10, .int .i64 3])).run Tryd.prog w = .ok (.bool true) w := fun w => verq_run 10 3 10 3 w
  have hee : ∀ w : World, (binOp .eql 39 (.agg #[.string ⟨#[97]⟩, .int .i64 10, .int .i64 3, .string ⟨#[121]⟩, .bool false]) (.agg #[.string ⟨#[97]⟩, .int .i64 10, .int .i64 3, .string ⟨#[121]⟩, .bool false])).run Tryd.prog w = .ok (.bool true) w := fun w => by
    have h := ent_eq (⟨⟨#[97]⟩, 10, 3, ⟨#[121]⟩, false⟩ : En) (⟨⟨#[97]⟩, 10, 3, ⟨#[121]⟩, false⟩ : En) w
    rw [enEqB_same] at h
    exact h
  clear L
  go_enter Tryd.func8, Tryd.ntmps8
  go_wp2_with fail
  refine (C1.out _).mono ?_
  rintro e w1 ⟨b1, ⟨hn, rfl⟩ | ⟨-, sb, g, tb, rfl, hs, l1, l2, l3⟩⟩
  · exact absurd hn (by decide)
  have H1 := aside hs
  have L1 := aside (LL.out.keep b1)
  have K1 := aside (Keeps.of_below b1 (Of sb g tb))
  have HL := aside (show w.heap.size ≤ sb ∧ w.heap.size ≤ g ∧ w.heap.size ≤ tb from ⟨l1, l2, l3⟩)
  clear b1 hs l1 l2 l3 C1 LL
  go_wp2_with fail
  refine (oput ⟨#[97]⟩ ⟨#[120]⟩ H1.out L1.out (by decide) sh1.1 (show (0 : Int) + 1 = 1 from rfl) sh1.2).mono ?_
  rintro e w2 ⟨rfl, hs, hl, hk⟩
  have H2 := aside hs
  have L2 := aside hl
  have K2 := aside (K1.out.trans hk)
  clear hs hl hk H1 L1 K1
  go_wp2_with fail
  refine (oput ⟨#[98]⟩ ⟨#[]⟩ H2.out L2.out (by decide) sh2.1 (show (1 : Int) + 1 = 2 from rfl) sh2.2).mono ?_
  rintro e w3 ⟨rfl, hs, hl, hk⟩
  have H3 := aside hs
  have L3 := aside hl
  have K3 := aside (K2.out.trans hk)
  clear hs hl hk H2 L2 K2
  go_wp2_with fail
  refine (odel ⟨#[97]⟩ H3.out L3.out (by decide) sh3.1 (show (2 : Int) + 1 = 3 from rfl) sh3.2).mono ?_
  rintro e w4 ⟨rfl, hs, hl, hk⟩
  have b4 := bnew w4 (.cells #[.int .i64 3, .int .i64 3] 37)
  have H4 := aside (hs.below b4)
  have L4 := aside (hl.keep b4)
  have K4 := aside ((K3.out.trans hk).trans (Keeps.of_below b4 _))
  have V4 := aside (heap_alloc_new w4 (.cells #[.int .i64 3, .int .i64 3] 37))
  clear hs hl hk H3 L3 K3 b4
  go_wp2_with fail
  refine (otake (⟨⟨#[99]⟩, 9, 0, ⟨#[]⟩, false⟩ : En) H4.out L4.out (by decide) sh4.1 (show ckm 3 9 = 9 from rfl) sh4.2).mono ?_
  rintro e w5 ⟨rfl, hs, hl, hk⟩
  have H5 := aside hs
  have L5 := aside hl
  have K5 := aside (K4.out.trans hk)
  have V5 := aside (blk_keep V4.out hk (H4.out.not V4.out (by decide) (by decide) (by decide)))
  clear hs hl hk H4 L4 K4 V4
  generalize w4.heap.size = i4 at *
  go_wp2_with fail
  refine (oput ⟨#[97]⟩ ⟨#[121]⟩ H5.out L5.out (by decide) sh5.1 (show (9 : Int) + 1 = 10 from rfl) sh5.2).mono ?_
  rintro e w6 ⟨rfl, hs, hl, hk⟩
  have b6 := bnew w6 (.cells #[.int .i64 10, .int .i64 3] 37)
  have H6 := aside (hs.below b6)
  have L6 := aside (hl.keep b6)
  have K6 := aside ((K5.out.trans hk).trans (Keeps.of_below b6 _))
  have V6 := aside (blk_on (blk_keep V5.out hk (H5.out.not V5.out (by decide) (by decide) (by decide))) b6)
  have U6 := aside (heap_alloc_new w6 (.cells #[.int .i64 10, .int .i64 3] 37))
  clear hs hl hk H5 L5 K5 V5 b6
  go_wp2_with fail
  have CG := aside (qget ⟨#[97]⟩ H6.out (by decide))
  rw [if_neg (by decide), sh6.1, sh6.2] at CG
  refine CG.out.mono ?_
  rintro e w7 ⟨rfl, b7⟩
  have b7' := bnew w7 (.cells #[.string (⟨⟨#[97]⟩, 10, 3, ⟨#[121]⟩, false⟩ : En).k, .int .i64 (⟨⟨#[97]⟩, 10, 3, ⟨#[121]⟩, false⟩ : En).c, .int .i64 (⟨⟨#[97]⟩, 10, 3, ⟨#[121]⟩, false⟩ : En).n, .string (⟨⟨#[97]⟩, 10, 3, ⟨#[121]⟩, false⟩ : En).v, .bool (⟨⟨#[97]⟩, 10, 3, ⟨#[121]⟩, false⟩ : En).d] 39)
  have H7 := aside ((H6.out.below b7).below b7')
  have L7 := aside ((L6.out.keep b7).keep b7')
  have K7 := aside (K6.out.trans (Keeps.of_below (bthen b7 b7') _))
  have V7 := aside (blk_on (blk_on V6.out b7) b7')
  have U7 := aside (blk_on (blk_on U6.out b7) b7')
  have E7 := aside (heap_alloc_new w7 (.cells #[.string (⟨⟨#[97]⟩, 10, 3, ⟨#[121]⟩, false⟩ : En).k, .int .i64 (⟨⟨#[97]⟩, 10, 3, ⟨#[121]⟩, false⟩ : En).c, .int .i64 (⟨⟨#[97]⟩, 10, 3, ⟨#[121]⟩, false⟩ : En).n, .string (⟨⟨#[97]⟩, 10, 3, ⟨#[121]⟩, false⟩ : En).v, .bool (⟨⟨#[97]⟩, 10, 3, ⟨#[121]⟩, false⟩ : En).d] 39))
  clear b7 b7' CG H6 L6 K6 V6 U6
  generalize w6.heap.size = i6 at *
  dsimp only at H7 L7 K7 V7 U7 E7
  go_wp2_with fail
  have CF := aside (qfold ⟨#[120]⟩ ⟨#[97]⟩ false H7.out L7.out (by decide))
  rw [sh7.1, sh7.2, tZero_n, tZero_a, tZero_b] at CF
  refine CF.out.mono ?_
  rintro e w8 ⟨rfl, hs, hk, hl⟩
  have b8 := bnew w8 (.cells #[.int .i64 0, .int .u64 0, .int .u64 0] 64)
  have H8 := aside (hs.below b8)
  have L8 := aside (hl.keep b8)
  have K8 := aside ((K7.out.trans hk).trans (Keeps.of_below b8 _))
  have V8 := aside (blk_on (blk_keep V7.out hk (H7.out.not V7.out (by decide) (by decide) (by decide))) b8)
  have U8 := aside (blk_on (blk_keep U7.out hk (H7.out.not U7.out (by decide) (by decide) (by decide))) b8)
  have E8 := aside (blk_on (blk_keep E7.out hk (H7.out.not E7.out (by decide) (by decide) (by decide))) b8)
  clear hs hl hk H7 L7 K7 V7 U7 E7 b8 CF
  generalize w7.heap.size = i7 at *
  go_wp2_with fail
  have CF := aside (qfold ⟨#[98]⟩ ⟨#[99]⟩ false H8.out L8.out (by decide))
  obtain ⟨tn, htn⟩ : ∃ x, (foldV ⟨#[98]⟩ ⟨#[99]⟩ false [(⟨⟨#[97]⟩, 10, 3, ⟨#[121]⟩, false⟩ : En), (⟨⟨#[98]⟩, 2, 3, ⟨#[]⟩, false⟩ : En), (⟨⟨#[99]⟩, 9, 0, ⟨#[]⟩, false⟩ : En)]).n = x := ⟨_, rfl⟩
  obtain ⟨ta, hta⟩ : ∃ x, (foldV ⟨#[98]⟩ ⟨#[99]⟩ false [(⟨⟨#[97]⟩, 10, 3, ⟨#[121]⟩, false⟩ : En), (⟨⟨#[98]⟩, 2, 3, ⟨#[]⟩, false⟩ : En), (⟨⟨#[99]⟩, 9, 0, ⟨#[]⟩, false⟩ : En)]).a = x := ⟨_, rfl⟩
  obtain ⟨tc, htc⟩ : ∃ x, (foldV ⟨#[98]⟩ ⟨#[99]⟩ false [(⟨⟨#[97]⟩, 10, 3, ⟨#[121]⟩, false⟩ : En), (⟨⟨#[98]⟩, 2, 3, ⟨#[]⟩, false⟩ : En), (⟨⟨#[99]⟩, 9, 0, ⟨#[]⟩, false⟩ : En)]).b = x := ⟨_, rfl⟩
  rw [sh8.1, htn, hta, htc] at CF
  rw [sh8.2] at htn
  subst htn
  clear hta htc
  refine CF.out.mono ?_
  rintro e w9 ⟨rfl, hs, hk, hl⟩
  have b9 := bnew w9 (.cells #[.int .i64 1, .int .u64 ta, .int .u64 tc] 64)
  have H9 := aside (hs.below b9)
  have K9 := aside ((K8.out.trans hk).trans (Keeps.of_below b9 _))
  obtain ⟨v0, v1, -, -⟩ := pair (blk_on (blk_keep V8.out hk (H8.out.not V8.out (by decide) (by decide) (by decide))) b9)
  obtain ⟨u0, u1, -, -⟩ := pair (blk_on (blk_keep U8.out hk (H8.out.not U8.out (by decide) (by decide) (by decide))) b9)
  obtain ⟨e0, e1, e2, e3, e4, -⟩ := penta (blk_on (blk_keep E8.out hk (H8.out.not E8.out (by decide) (by decide) (by decide))) b9)
  have CLn := aside (qlen H9.out)
  have CCk := aside (qclock H9.out)
  rw [show (([(⟨⟨#[97]⟩, 10, 3, ⟨#[121]⟩, false⟩ : En), (⟨⟨#[98]⟩, 2, 3, ⟨#[]⟩, false⟩ : En), (⟨⟨#[99]⟩, 9, 0, ⟨#[]⟩, false⟩ : En)].length : Nat) : Int) = 3 from rfl] at CLn
  clear hs hl hk H8 L8 K8 V8 U8 E8 b9 CF
  generalize w8.heap.size = i8 at *
  go_wp2_with fail
  refine CLn.out.mono ?_
  rintro e w10 ⟨rfl, rfl⟩
  go_wp2_with fail
  refine CCk.out.mono ?_
  rintro e w10 ⟨rfl, rfl⟩
  go_wp2
  go_ret
  exact ⟨rfl, K9.out.below (Nat.le_refl _) (fun k hk e => by have := HL.out; rcases e with e | e | e <;> omega)⟩

end Go.Proofs.YtlgcdcjhflihiaaDoor
