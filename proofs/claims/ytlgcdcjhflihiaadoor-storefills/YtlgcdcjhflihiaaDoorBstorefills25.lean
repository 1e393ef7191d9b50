/-
  Plain mathematics of stores: entries by rising keys, what is put, found, counted and summed up.
  A store in memory: its own block, its meter, its tree.
  Versions: which may be, how they compare, which is the next; the code's calls and the document's own, each as a plain function.
  Entries: which may be, which is newer, the better of two; the next version; the code's calls and the document's own.
  The law ItemOrder, walked: it returns true at any three versions.
  long, Newer and Best, the code's and the document's own, by contracts; and the plain laws of the better of two.
-/
import Derived.Test.YtlgcdcjhflihiaaDoorBstorefills3
import Derived.Test.YtlgcdcjhflihiaaDoorBstorefills22
import Derived.Test.YtlgcdcjhflihiaaDoorBstorefills24
import Derived.Test.YtlgcdcjhflihiaaDoorBstorefills2
import Derived.Test.YtlgcdcjhflihiaaDoorBstorefills1
import Derived.Below
import Derived.Laws.StructEq
namespace Go.Proofs.YtlgcdcjhflihiaaDoor
open Go.RowKit
set_option linter.unusedVariables false

theorem mixI_range (f : Int) (s : Nat) (x u : Int) : 0 ≤ mixI f s x u ∧ mixI f s x u < 18446744073709551616 := by
  have h : ∀ z : Int, 0 ≤ IntKind.u64.wrap z ∧ IntKind.u64.wrap z < 18446744073709551616 := fun z => by rw [IntKind.wrap_u64]; omega
  exact h _

theorem of0_range (k : ByteArray) (c n : Int) : 0 ≤ of0 k c n ∧ of0 k c n < 18446744073709551616 := by
  unfold of0; rw [wordsI_snoc, lane0_snoc]; exact mixI_range _ _ _ _
theorem of1_range (k : ByteArray) (c n : Int) : 0 ≤ of1 k c n ∧ of1 k c n < 18446744073709551616 := by
  unfold of1; rw [wordsI_snoc, lane1_snoc]; exact mixI_range _ _ _ _

/-- What an entry comes to. -/
def tof (e : En) : Tl := ⟨1, UInt64.ofNat (of0 e.k e.c e.n).toNat, UInt64.ofNat (of1 e.k e.c e.n).toNat⟩
theorem tof_n (e : En) : (tof e).n = 1 := rfl
theorem tof_a (e : En) : (tof e).a = of0 e.k e.c e.n := by
  have := of0_range e.k e.c e.n
  show ((UInt64.ofNat (of0 e.k e.c e.n).toNat).toNat : Int) = _
  rw [UInt64.toNat_ofNat']
  omega
theorem tof_b (e : En) : (tof e).b = of1 e.k e.c e.n := by
  have := of1_range e.k e.c e.n
  show ((UInt64.ofNat (of1 e.k e.c e.n).toNat).toNat : Int) = _
  rw [UInt64.toNat_ofNat']
  omega

theorem mon_tl : Mon tJoin tZero :=
  ⟨tJoin_assoc, fun a => by simp [tJoin, tZero], fun a => by simp [tJoin, tZero]⟩

/-- The row of an entry. -/
def rwE (e : En) : Rw En Tl := ⟨e.k, e, tof e⟩

/-- Keys rise. -/
def RisesE (l : List En) : Prop := l.Pairwise (fun a b => kLt a.k b.k = true)

/-- An entry put among sorted ones. -/
def insE (e : En) : List En → List En
  | [] => [e]
  | y :: l => if kLt e.k y.k then e :: y :: l else if kLt y.k e.k then y :: insE e l else e :: l

/-- The entry under a key. -/
def lookE (k : ByteArray) (l : List En) : Option En := l.find? (fun y => !kLt k y.k && !kLt y.k k)

/-- How many keys are below one. -/
def belE (k : ByteArray) (l : List En) : Nat := (l.filter (fun y => kLt y.k k)).length

/-- What entries come to. -/
def talL (l : List En) : Tl := l.foldl (fun a e => tJoin a (tof e)) tZero

theorem rises_map {l : List En} (h : RisesE l) : Rises (l.map rwE) := by
  unfold Rises RisesE at *
  rw [List.pairwise_map]
  exact h
theorem ins_map (e : En) : ∀ l : List En, ins e.k e (tof e) (l.map rwE) = (insE e l).map rwE
  | [] => rfl
  | y :: l => by
    simp only [List.map_cons, ins, insE, ins_map e l]
    show (if kLt e.k y.k then _ else if kLt y.k e.k then _ else _) = _
    split
    · rfl
    · split <;> rfl
theorem rises_of_map {l : List En} (h : Rises (l.map rwE)) : RisesE l := by
  unfold Rises RisesE at *
  rw [List.pairwise_map] at h
  exact h
theorem look_map (k : ByteArray) (l : List En) : look k (l.map rwE) = (lookE k l).map rwE := by
  unfold look lookE
  rw [List.find?_map]
  rfl
theorem rank_map (k : ByteArray) (l : List En) : rankL k (l.map rwE) = belE k l := by
  unfold rankL belE
  rw [List.filter_map, List.length_map]
  rfl
theorem foldL_map (l : List En) : foldL tJoin tZero (l.map rwE) = talL l := by
  unfold foldL talL
  rw [List.foldl_map]
  rfl
theorem seg_map (l : List En) (i j : Nat) : seg (l.map rwE) i j = ((l.take j).drop i).map rwE := by
  unfold seg
  rw [← List.map_take, ← List.map_drop]
theorem talL_append (a b : List En) : talL (a ++ b) = tJoin (talL a) (talL b) := by
  rw [← foldL_map, ← foldL_map, ← foldL_map, List.map_append, foldL_append mon_tl]
theorem talL_nil : talL [] = tZero := rfl
theorem talL_one (e : En) : talL [e] = tof e := by simp [talL, mon_tl.left]

/-- The tree T holds the entries L. -/
structure Hol (T : Tr En Tl) (L : List En) : Prop where
  bal : T.bal
  rows : T.rows = L.map rwE
  rises : RisesE L

theorem wt_cnt : ∀ T : Tr En Tl, T.wt tSz = T.cnt
  | .nil => rfl
  | .node l k v s r => by simp only [Tr.wt, Tr.cnt, wt_cnt l, wt_cnt r, tSz]

theorem Hol.nil : Hol .nil [] := ⟨trivial, rfl, List.Pairwise.nil⟩
theorem Hol.cnt {T : Tr En Tl} {L : List En} (h : Hol T L) : T.cnt = L.length := by rw [← Tr.rows_length, h.rows, List.length_map]
theorem Hol.gd {T : Tr En Tl} {L : List En} (h : Hol T L) : Gd tSz T L.length :=
  ⟨h.bal, by rw [h.rows]; exact rises_map h.rises, by rw [wt_cnt, h.cnt]; exact Nat.le_refl _⟩
theorem Hol.put {T : Tr En Tl} {L : List En} (h : Hol T L) (e : En) : Hol (Tr.put e.k e (tof e) T) (insE e L) := by
  have hr : (Tr.put e.k e (tof e) T).rows = (insE e L).map rwE := by rw [rows_put _ _ _ _ h.gd.rises, h.rows, ins_map]
  exact ⟨(Tr.bal_put _ _ _ T h.bal).1, hr, rises_of_map (by rw [← hr]; exact (h.gd.put e.k e (tof e)).rises)⟩
theorem Hol.found {T : Tr En Tl} {L : List En} (h : Hol T L) (k : ByteArray) : (Tr.found k T).val eNone = (lookE k L).getD eNone ∧ (!(Tr.found k T).isNil) = (lookE k L).isSome := by
  have h1 := look_found k T h.gd.rises
  rw [h.rows, look_map] at h1
  cases hF : Tr.found k T with
  | nil =>
    rw [hF] at h1
    cases hL : lookE k L with
    | none => exact ⟨rfl, rfl⟩
    | some x => rw [hL] at h1; cases h1
  | node l k' v s r =>
    rw [hF] at h1
    cases hL : lookE k L with
    | none => rw [hL] at h1; cases h1
    | some x =>
      rw [hL] at h1
      injection h1 with h1
      have : x = v := congrArg Rw.v h1
      subst this
      exact ⟨rfl, rfl⟩
theorem Hol.lower {T : Tr En Tl} {L : List En} (h : Hol T L) (k : ByteArray) : Tr.lower k T = belE k L := by
  rw [lower_rank k T h.gd.rises, h.rows, rank_map]
theorem Hol.fold {T : Tr En Tl} {L : List En} (h : Hol T L) (i j : Nat) (hj : j ≤ L.length) : Tr.fol tJoin tZero T (i : Int) (j : Int) = talL ((L.take j).drop i) := by
  rw [fol_nat mon_tl T i j (by rw [h.cnt]; exact hj), h.rows, seg_map, foldL_map]

theorem belE_le (k : ByteArray) (L : List En) : belE k L ≤ L.length := List.length_filter_le _ _

/-- The keys below one are the first. -/
theorem filter_low {k : ByteArray} : ∀ {L : List En}, RisesE L → L.filter (fun y => kLt y.k k) = L.take (belE k L)
  | [], _ => rfl
  | y :: L, h => by
    unfold RisesE at h
    rw [List.pairwise_cons] at h
    cases hq : kLt y.k k
    · have hn : (y :: L).filter (fun y => kLt y.k k) = [] := by
        rw [List.filter_eq_nil_iff]
        intro x hx
        rcases List.mem_cons.1 hx with rfl | hx
        · simp [hq]
        · cases hq2 : kLt x.k k
          · simp
          · have := kLt_trans (h.1 x hx) hq2
            rw [hq] at this; cases this
      unfold belE
      rw [hn]
      rfl
    · have ih := filter_low (k := k) (L := L) h.2
      have e : belE k (y :: L) = belE k L + 1 := by unfold belE; rw [List.filter_cons_of_pos (by simpa using hq)]; rfl
      rw [e, List.filter_cons_of_pos (by simpa using hq), List.take_succ_cons, ih]
theorem filter_high {k : ByteArray} : ∀ {L : List En}, RisesE L → L.filter (fun y => !kLt y.k k) = L.drop (belE k L)
  | [], _ => rfl
  | y :: L, h => by
    unfold RisesE at h
    rw [List.pairwise_cons] at h
    cases hq : kLt y.k k
    · have hn : ∀ x ∈ y :: L, kLt x.k k = false := fun x hx => by
        rcases List.mem_cons.1 hx with rfl | hx
        · exact hq
        · cases hq2 : kLt x.k k
          · rfl
          · have := kLt_trans (h.1 x hx) hq2
            rw [hq] at this; cases this
      have h1 : belE k (y :: L) = 0 := by
        unfold belE
        rw [List.filter_eq_nil_iff.2 (fun x hx => by simp [hn x hx])]
        rfl
      rw [h1, List.drop_zero, List.filter_eq_self]
      intro x hx
      simp [hn x hx]
    · have ih := filter_high (k := k) (L := L) h.2
      have e : belE k (y :: L) = belE k L + 1 := by unfold belE; rw [List.filter_cons_of_pos (by simpa using hq)]; rfl
      rw [e, List.filter_cons_of_neg (by simp [hq]), List.drop_succ_cons, ih]

/-- Whether a key is in a range that may be. -/
def inR (lo hi : ByteArray) (op : Bool) (e : En) : Bool := !kLt e.k lo && (op || kLt e.k hi)

/-- Where the rows of a range end. -/
def endE (hi : ByteArray) (op : Bool) (L : List En) : Nat := if op then L.length else belE hi L

theorem endE_le (hi : ByteArray) (op : Bool) (L : List En) : endE hi op L ≤ L.length := by
  unfold endE; split
  · exact Nat.le_refl _
  · exact belE_le _ _

theorem rank_take {lo hi : ByteArray} {L : List En} (hs : RisesE L) (h : kLt hi lo = false) : belE lo (L.take (belE hi L)) = belE lo L := by
  rw [← filter_low hs]
  unfold belE
  rw [List.filter_filter]
  congr 1
  apply List.filter_congr
  intro x _
  cases h1 : kLt x.k lo
  · simp
  · simp [kLt_trans_le h1 h]

/-- The rows of a range. -/
theorem seg_range {lo hi : ByteArray} {op : Bool} {L : List En} (hs : RisesE L) (h : op = true ∨ kLt hi lo = false) : (L.take (endE hi op L)).drop (belE lo L) = L.filter (inR lo hi op) := by
  cases op with
  | true =>
    have : inR lo hi true = fun y => !kLt y.k lo := by funext y; simp [inR]
    rw [this, filter_high hs]
    simp [endE]
  | false =>
    have h' : kLt hi lo = false := by rcases h with h | h; cases h; exact h
    have hs2 : RisesE (L.take (belE hi L)) := List.Pairwise.sublist (List.take_sublist _ _) hs
    show (L.take (belE hi L)).drop (belE lo L) = _
    rw [← rank_take hs h', ← filter_high hs2, ← filter_low hs, List.filter_filter]
    apply List.filter_congr
    intro x _
    simp [inR]

end Go.Proofs.YtlgcdcjhflihiaaDoor
namespace Go.Proofs.YtlgcdcjhflihiaaDoor
open Go.RowKit
set_option linter.unusedVariables false

/-- The join of the meter in the block g. -/
def jvE (g : Nat) : Value := .func (.func 66) #[.pointer (some ⟨g, 0, none⟩)] #[]

theorem bothJv (g : Nat) : BothOkE (jvE g) (some g) := bothE g

/-- The store in the block sb: its node, its clock, its tree T (in the block tb, with the meter in g that says n joins). -/
structure IsSt (w : World) (sb g tb : Nat) (nd ck : Int) (T : Tr En Tl) (n : Nat) : Prop where
  blk : w.heap[sb]? = some (.cells #[.int .i64 nd, .int .i64 ck, .pointer (some ⟨g, 0, none⟩), .pointer (some ⟨tb, 0, none⟩)] 82 (0, 0))
  cnt : CntE (some g) n w
  tree : TreeE w tb (jvE g) T

/-- Which blocks a store's call may turn. -/
def Of (sb g tb : Nat) : Nat → Prop := fun x => x = sb ∨ x = tb ∨ x = g

theorem quad {w : World} {i : Nat} {a b c d : Value} {T : TypeId} (h : w.heap[i]? = some (.cells #[a, b, c, d] T (0, 0))) :
    w.cell? ⟨i, 0, none⟩ = some a ∧ w.cell? ⟨i, 1, none⟩ = some b ∧ w.cell? ⟨i, 2, none⟩ = some c ∧ w.cell? ⟨i, 3, none⟩ = some d ∧ w.frozen? ⟨i, 1, none⟩ = false :=
  ⟨by simp [World.cell?, h], by simp [World.cell?, h], by simp [World.cell?, h], by simp [World.cell?, h], frozen_of_row w i 1 _ _ h⟩

theorem IsSt.below {w w' : World} {sb g tb : Nat} {nd ck : Int} {T : Tr En Tl} {n : Nat} (h : IsSt w sb g tb nd ck T n) (b : Below w.heap.size w w') : IsSt w' sb g tb nd ck T n :=
  ⟨blk_on h.blk b, h.cnt.below b, h.tree.below b⟩
theorem IsSt.drew {w : World} {sb g tb : Nat} {nd ck : Int} {T : Tr En Tl} {n : Nat} (h : IsSt w sb g tb nd ck T n) : IsSt w.drew sb g tb nd ck T n := h.below ((Below.refl _ _).drew)
theorem IsSt.alloc {w : World} {sb g tb : Nat} {nd ck : Int} {T : Tr En Tl} {n : Nat} (h : IsSt w sb g tb nd ck T n) (o : Obj) : IsSt (w.alloc o) sb g tb nd ck T n := h.below (bnew _ _)
theorem IsSt.lt {w : World} {sb g tb : Nat} {nd ck : Int} {T : Tr En Tl} {n : Nat} (h : IsSt w sb g tb nd ck T n) : sb < w.heap.size ∧ g < w.heap.size ∧ tb < w.heap.size :=
  ⟨lt_of_blk h.blk, lt_of_blk (h.cnt g rfl), h.tree.lt⟩
theorem IsSt.apart {w : World} {sb g tb : Nat} {nd ck : Int} {T : Tr En Tl} {n : Nat} (h : IsSt w sb g tb nd ck T n) : sb ≠ g ∧ sb ≠ tb ∧ tb ≠ g := by
  obtain ⟨p, ht, _⟩ := h.tree
  unfold TObjE at ht
  have h1 := h.blk
  have h2 := h.cnt g rfl
  refine ⟨?_, ?_, ?_⟩ <;> rintro rfl
  · rw [h1] at h2; simp at h2
  · rw [h1] at ht; simp at ht
  · rw [ht] at h2; simp at h2
/-- A block of another type is none of the store's. -/
theorem IsSt.not {w : World} {sb g tb : Nat} {nd ck : Int} {T : Tr En Tl} {n : Nat} (h : IsSt w sb g tb nd ck T n) {i : Nat} {cs : Array Value} {U : TypeId} (hi : w.heap[i]? = some (.cells cs U (0, 0))) (h1 : U ≠ 82) (h2 : U ≠ 111) (h3 : U ≠ 149) : ¬ Of sb g tb i := by
  obtain ⟨p, ht, _⟩ := h.tree
  unfold TObjE at ht
  rintro (rfl | rfl | rfl)
  · rw [h.blk] at hi; simp at hi; exact h1 hi.2.symm
  · rw [ht] at hi; simp at hi; exact h2 hi.2.symm
  · rw [h.cnt _ rfl] at hi; simp at hi; exact h3 hi.2.symm
theorem IsSt.stay {w w' : World} {sb g tb : Nat} {nd ck : Int} {T : Tr En Tl} {n : Nat} (h : IsSt w sb g tb nd ck T n) {U : TypeId} (k : Keeps (Of sb g tb) w w') (h1 : U ≠ 82) (h2 : U ≠ 111) (h3 : U ≠ 149) : Stay U w w' :=
  (Stay.refl _ w).keeps k (fun i cs hi => h.not hi h1 h2 h3)
/-- A store stays as it is while another one, apart from it, is turned. -/
theorem IsSt.keep {w w' : World} {sb g tb sb' g' tb' : Nat} {nd ck nd' ck' : Int} {T T' : Tr En Tl} {n n' : Nat} (h : IsSt w sb g tb nd ck T n) (h' : IsSt w sb' g' tb' nd' ck' T' n') (k : Keeps (Of sb' g' tb') w w') (a1 : sb ≠ sb') (a2 : g ≠ g') (a3 : tb ≠ tb') : IsSt w' sb g tb nd ck T n := by
  obtain ⟨p, ht, hT⟩ := h.tree
  obtain ⟨p', ht', _⟩ := h'.tree
  have hst := h'.stay (U := 120) k (by decide) (by decide) (by decide)
  unfold TObjE at ht ht'
  refine ⟨blk_keep h.blk k ?_, fun b e => ?_, ⟨p, blk_keep ht k ?_, hT.on hst⟩⟩
  · rintro (e | e | e)
    · exact a1 e
    · have := h.blk; rw [e, ht'] at this; simp at this
    · have := h.blk; rw [e, h'.cnt _ rfl] at this; simp at this
  · cases e
    refine blk_keep (h.cnt g rfl) k ?_
    rintro (e | e | e)
    · have := h.cnt g rfl; rw [e, h'.blk] at this; simp at this
    · have := h.cnt g rfl; rw [e, ht'] at this; simp at this
    · exact a2 e
  · rintro (e | e | e)
    · rw [e, h'.blk] at ht; simp at ht
    · exact a3 e
    · rw [e, h'.cnt _ rfl] at ht; simp at ht

theorem Lanes.apart {w : World} (L : Lanes w) {sb g tb : Nat} {nd ck : Int} {T : Tr En Tl} {n : Nat} (h : IsSt w sb g tb nd ck T n) : ¬ Of sb g tb 0 := by
  obtain ⟨p, ht, _⟩ := h.tree
  unfold TObjE at ht
  have h1 := L.c0
  rintro (e | e | e)
  · have := h.blk; rw [← e] at this; simp [World.cell?, this] at h1
  · rw [← e] at ht; simp [World.cell?, ht] at h1
  · have := h.cnt g rfl; rw [← e] at this; simp [World.cell?, this] at h1
theorem Lanes.keeps {w w' : World} (L : Lanes w) {S : Nat → Prop} (k : Keeps S w w') (hS : ¬ S 0) : Lanes w' := by
  have h0 := L.pos
  have c : ∀ {i : Nat} {v : Value}, w.cell? ⟨0, i, none⟩ = some v → w'.cell? ⟨0, i, none⟩ = some v := fun {i v} e => (k.cell (p := ⟨0, i, none⟩) h0 hS).trans e
  exact ⟨c L.c0, c L.c1, c L.c2, c L.c3, c L.c4, c L.c5⟩
theorem Lanes.drew {w : World} (L : Lanes w) : Lanes w.drew := L.keep ((Below.refl _ _).drew)

end Go.Proofs.YtlgcdcjhflihiaaDoor
namespace Go.Proofs.YtlgcdcjhflihiaaDoor
open Go.RowKit
theorem ret_i64 {a b : Int} (h : a = b) : Ending.returned (.int .i64 a) = .returned (.int .i64 b) := by rw [h]

/-- Two numbers. -/
def Vs.c2 (x y : Int) : Int := if y < x then 1 else if x < y then -1 else 0

/-- Two versions. -/
def Vs.cmp (a n b m : Int) : Int := if b < a then 1 else if a < b then -1 else Vs.c2 n m

/-- Whether a version may be. -/
def Vs.chk (c n : Int) : Int := if c < 1 ∨ 1099511627776 < c ∨ n < 0 ∨ 8 ≤ n then 30 else 0

/-- The next version: its numbers, and the error. -/
def Vs.nx (clock node : Int) : Int × Int × Int :=
  if node < 0 ∨ 8 ≤ node ∨ clock < 0 ∨ 1099511627776 < clock then (0, 0, 30) else if clock = 1099511627776 then (0, 0, 33) else (clock + 1, node, 0)

def Vs.nxV (r : Int × Int × Int) : Value := .tuple #[.agg #[.int .i64 r.1, .int .i64 r.2.1], .int .i64 r.2.2]

set_option maxHeartbeats 400000 in
theorem isNaN_any (x : Int) (w : World) : Calls Tryd.prog 91 #[.int .i64 x] w fun e w' => e = .returned (.bool false) ∧ w' = w := by
  go_enter Tryd.func91, Tryd.ntmps91
  go_wp2
  go_ret
  exact ⟨by simp, rfl⟩

theorem c2_lt {x y : Int} (h : x < y) : Vs.c2 x y = -1 := by unfold Vs.c2; rw [if_neg (by omega), if_pos h]

theorem c2_gt {x y : Int} (h : y < x) : Vs.c2 x y = 1 := by unfold Vs.c2; rw [if_pos h]

theorem c2_eq (x : Int) : Vs.c2 x x = 0 := by unfold Vs.c2; rw [if_neg (by omega), if_neg (by omega)]

set_option maxHeartbeats 400000 in
theorem cmpI_any (x y : Int) (w : World) : Calls Tryd.prog 76 #[.int .i64 x, .int .i64 y] w fun e w' => e = .returned (.int .i64 (Vs.c2 x y)) ∧ w' = w := by
  rcases Int.lt_trichotomy x y with h | h | h
  · go_enter Tryd.func76, Tryd.ntmps76
    go_wp2_with (go_at_call 91; refine (isNaN_any _ _).mono ?_; rintro e w1 ⟨rfl, rfl⟩)
    go_ret
    exact ⟨ret_i64 (c2_lt h).symm, rfl⟩
  · subst h
    go_enter Tryd.func76, Tryd.ntmps76
    go_wp2_with (go_at_call 91; refine (isNaN_any _ _).mono ?_; rintro e w1 ⟨rfl, rfl⟩)
    go_ret
    exact ⟨ret_i64 (c2_eq x).symm, rfl⟩
  · have h' : ¬ x < y := by omega
    go_enter Tryd.func76, Tryd.ntmps76
    go_wp2_with (go_at_call 91; refine (isNaN_any _ _).mono ?_; rintro e w1 ⟨rfl, rfl⟩)
    go_ret
    exact ⟨ret_i64 (c2_gt h).symm, rfl⟩

theorem cmpI_at {x y q : Int} (h : Vs.c2 x y = q) (w : World) : Calls Tryd.prog 76 #[.int .i64 x, .int .i64 y] w fun e w' => e = .returned (.int .i64 q) ∧ w' = w := by
  subst h; exact cmpI_any x y w

theorem cmp_lt {a b : Int} (h : a < b) (n m : Int) : Vs.cmp a n b m = -1 := by unfold Vs.cmp; rw [if_neg (by omega), if_pos h]

theorem cmp_gt {a b : Int} (h : b < a) (n m : Int) : Vs.cmp a n b m = 1 := by unfold Vs.cmp; rw [if_pos h]

theorem cmp_eq (a n m : Int) : Vs.cmp a n a m = Vs.c2 n m := by unfold Vs.cmp; rw [if_neg (by omega), if_neg (by omega)]

set_option maxHeartbeats 400000 in
theorem compare_any (a n b m : Int) (w : World) : Calls Tryd.prog 55 #[.agg #[.int .i64 a, .int .i64 n], .agg #[.int .i64 b, .int .i64 m]] w fun e w' => e = .returned (.int .i64 (Vs.cmp a n b m)) ∧ Below w.heap.size w w' := by
  rcases Int.lt_trichotomy a b with h | h | h
  · go_enter Tryd.func55, Tryd.ntmps55
    go_wp2_with (go_at_call 76; refine (cmpI_at (c2_lt h) _).mono ?_; rintro e w1 ⟨rfl, rfl⟩)
    go_ret
    exact ⟨ret_i64 (cmp_lt h n m).symm, bthen (bnew w _) (bnew _ _)⟩
  · subst h
    go_enter Tryd.func55, Tryd.ntmps55
    go_wp2_with fail
    refine (cmpI_at (c2_eq a) _).mono ?_
    rintro e w1 ⟨rfl, rfl⟩
    go_wp2_with fail
    refine (cmpI_any n m _).mono ?_
    rintro e w1 ⟨rfl, rfl⟩
    go_wp2
    go_ret
    exact ⟨ret_i64 (cmp_eq a n m).symm, bthen (bnew w _) (bnew _ _)⟩
  · go_enter Tryd.func55, Tryd.ntmps55
    go_wp2_with (go_at_call 76; refine (cmpI_at (c2_gt h) _).mono ?_; rintro e w1 ⟨rfl, rfl⟩)
    go_ret
    exact ⟨ret_i64 (cmp_gt h n m).symm, bthen (bnew w _) (bnew _ _)⟩


theorem chk_bad1 {c : Int} (n : Int) (h : c < 1) : Vs.chk c n = 30 := by unfold Vs.chk; rw [if_pos (.inl h)]

theorem chk_bad2 {c : Int} (n : Int) (h : 1099511627776 < c) : Vs.chk c n = 30 := by unfold Vs.chk; rw [if_pos (.inr (.inl h))]

theorem chk_bad3 (c : Int) {n : Int} (h : n < 0) : Vs.chk c n = 30 := by unfold Vs.chk; rw [if_pos (.inr (.inr (.inl h)))]

theorem chk_bad4 (c : Int) {n : Int} (h : 8 ≤ n) : Vs.chk c n = 30 := by unfold Vs.chk; rw [if_pos (.inr (.inr (.inr h)))]

theorem chk_ok {c n : Int} (h1 : ¬ c < 1) (h2 : ¬ 1099511627776 < c) (h3 : ¬ n < 0) (h4 : ¬ 8 ≤ n) : Vs.chk c n = 0 := by unfold Vs.chk; rw [if_neg (by omega)]

/-- Whether a number is a node's. -/
def nodeB (n : Int) : Bool := decide (0 ≤ n) && decide (n < 8)

theorem node_no1 {n : Int} (h : n < 0) : nodeB n = false := by simp [nodeB]; omega

theorem node_no2 {n : Int} (h : 8 ≤ n) : nodeB n = false := by simp [nodeB]; omega

theorem node_yes {n : Int} (h1 : ¬ n < 0) (h2 : ¬ 8 ≤ n) : nodeB n = true := by simp [nodeB]; omega

set_option maxHeartbeats 400000 in
theorem isNode_any (n : Int) (w : World) : Calls Tryd.prog 74 #[.int .i64 n] w fun e w' => e = .returned (.bool (nodeB n)) ∧ w' = w := by
  by_cases h1 : n < 0
  · have h1' : ¬ 0 ≤ n := by omega
    go_enter Tryd.func74, Tryd.ntmps74
    go_wp2
    go_ret
    exact ⟨ret_bool (by simp [nodeB]; omega), rfl⟩
  · have h1' : 0 ≤ n := by omega
    go_enter Tryd.func74, Tryd.ntmps74
    go_wp2
    go_ret
    exact ⟨ret_bool (by simp [nodeB]; omega), rfl⟩

theorem isNode_at {n : Int} {q : Bool} (h : nodeB n = q) (w : World) : Calls Tryd.prog 74 #[.int .i64 n] w fun e w' => e = .returned (.bool q) ∧ w' = w := by
  subst h; exact isNode_any n w

set_option maxHeartbeats 800000 in
theorem checkVersion_any (c n : Int) (w : World) : Calls Tryd.prog 53 #[.agg #[.int .i64 c, .int .i64 n]] w fun e w' => e = .returned (.int .i64 (Vs.chk c n)) ∧ Below w.heap.size w w' := by
  by_cases h1 : c < 1
  · go_enter Tryd.func53, Tryd.ntmps53
    go_wp2
    go_ret
    exact ⟨ret_i64 (chk_bad1 n h1).symm, bnew w _⟩
  by_cases h2 : 1099511627776 < c
  · go_enter Tryd.func53, Tryd.ntmps53
    go_wp2
    go_ret
    exact ⟨ret_i64 (chk_bad2 n h2).symm, bnew w _⟩
  by_cases h3 : n < 0
  · go_enter Tryd.func53, Tryd.ntmps53
    go_wp2_with (go_at_call 74; refine (isNode_at (node_no1 h3) _).mono ?_; rintro e w1 ⟨rfl, rfl⟩)
    go_ret
    exact ⟨ret_i64 (chk_bad3 c h3).symm, bnew w _⟩
  by_cases h4 : 8 ≤ n
  · go_enter Tryd.func53, Tryd.ntmps53
    go_wp2_with (go_at_call 74; refine (isNode_at (node_no2 h4) _).mono ?_; rintro e w1 ⟨rfl, rfl⟩)
    go_ret
    exact ⟨ret_i64 (chk_bad4 c h4).symm, bnew w _⟩
  · go_enter Tryd.func53, Tryd.ntmps53
    go_wp2_with (go_at_call 74; refine (isNode_at (node_yes h3 h4) _).mono ?_; rintro e w1 ⟨rfl, rfl⟩)
    go_ret
    exact ⟨ret_i64 (chk_ok (by omega) (by omega) (by omega) (by omega)).symm, bnew w _⟩


theorem checkVersion_at {c n q : Int} (h : Vs.chk c n = q) (w : World) : Calls Tryd.prog 53 #[.agg #[.int .i64 c, .int .i64 n]] w fun e w' => e = .returned (.int .i64 q) ∧ Below w.heap.size w w' := by
  subst h; exact checkVersion_any c n w


end Go.Proofs.YtlgcdcjhflihiaaDoor
namespace Go.Proofs.YtlgcdcjhflihiaaDoor
open Go.RowKit
/-- Whether it may be. -/
def En.chk (e : En) : Int :=
  if (16 : Int) < e.k.size then 20 else if Vs.chk e.c e.n ≠ 0 then 30 else if (32 : Int) < e.v.size then 31 else bif (e.d && !e.v.toList.isEmpty) then 32 else 0

theorem En.chk_key {k : ByteArray} (c n : Int) (v : ByteArray) (d : Bool) (h : (16 : Int) < k.size) : En.chk ⟨k, c, n, v, d⟩ = 20 := by simp only [En.chk]; rw [if_pos h]

theorem En.chk_ver {k : ByteArray} {c n : Int} (v : ByteArray) (d : Bool) (h : ¬ (16 : Int) < k.size) (h2 : Vs.chk c n = 30) : En.chk ⟨k, c, n, v, d⟩ = 30 := by simp only [En.chk]; rw [if_neg h, if_pos (by rw [h2]; decide)]

theorem En.chk_val {k : ByteArray} {c n : Int} {v : ByteArray} (d : Bool) (h : ¬ (16 : Int) < k.size) (h2 : Vs.chk c n = 0) (h3 : (32 : Int) < v.size) : En.chk ⟨k, c, n, v, d⟩ = 31 := by
  simp only [En.chk]; rw [if_neg h, if_neg (by rw [h2]; decide), if_pos h3]

theorem En.chk_rest {k : ByteArray} {c n : Int} {v : ByteArray} (d : Bool) (h : ¬ (16 : Int) < k.size) (h2 : Vs.chk c n = 0) (h3 : ¬ (32 : Int) < v.size) : En.chk ⟨k, c, n, v, d⟩ = bif (d && !v.toList.isEmpty) then 32 else 0 := by
  simp only [En.chk]; rw [if_neg h, if_neg (by rw [h2]; decide), if_neg h3]

theorem Vs.chk_two (c n : Int) : Vs.chk c n = 30 ∨ Vs.chk c n = 0 := by
  unfold Vs.chk; split
  · exact .inl rfl
  · exact .inr rfl

set_option maxHeartbeats 1600000 in
theorem ichk_any (k : ByteArray) (c n : Int) (v : ByteArray) (d : Bool) (w : World) :
    Calls Tryd.prog 34 #[.agg #[.string k, .int .i64 c, .int .i64 n, .string v, .bool d]] w fun e w' => e = .returned (.int .i64 (En.chk ⟨k, c, n, v, d⟩)) ∧ Below w.heap.size w w' := by
  by_cases h1 : (16 : Int) < k.size
  · go_enter Tryd.func34, Tryd.ntmps34
    go_wp2
    go_ret
    exact ⟨ret_i64 (En.chk_key c n v d h1).symm, bnew w _⟩
  rcases Vs.chk_two c n with h2 | h2
  · have H2 := aside h2
    go_enter Tryd.func34, Tryd.ntmps34
    go_wp2_with (go_at_call 53; refine (checkVersion_at H2.out _).mono ?_; rintro e w1 ⟨rfl, b1⟩)
    go_ret
    exact ⟨ret_i64 (En.chk_ver v d (by omega) H2.out).symm, bthen (bnew w _) b1⟩
  have H2 := aside h2
  clear h2
  have X := fun o => (heap_alloc_new w o)
  have HX := aside X
  clear X
  by_cases h3 : (32 : Int) < v.size
  · go_enter Tryd.func34, Tryd.ntmps34
    go_wp2_with fail
    refine (checkVersion_at H2.out _).mono ?_
    rintro e w1 ⟨rfl, b1⟩
    have c3 : w1.cell? ⟨w.heap.size, 3, none⟩ = some (.string v) := (b1.cell (by simp)).trans (by rw [cell_of_row _ w.heap.size 3 _ _ _ (HX.out _)]; rfl)
    go_wp2
    go_ret
    exact ⟨ret_i64 (En.chk_val d (by omega) H2.out (by omega)).symm, bthen (bnew w _) b1⟩
  · cases d <;> cases h5 : v.toList.isEmpty
    all_goals
      go_enter Tryd.func34, Tryd.ntmps34
      go_wp2_with fail
      refine (checkVersion_at H2.out _).mono ?_
      rintro e w1 ⟨rfl, b1⟩
      have c3 : w1.cell? ⟨w.heap.size, 3, none⟩ = some (.string v) := (b1.cell (by simp)).trans (by rw [cell_of_row _ w.heap.size 3 _ _ _ (HX.out _)]; rfl)
      first
        | have c4 : w1.cell? ⟨w.heap.size, 4, none⟩ = some (.bool true) := (b1.cell (by simp)).trans (by rw [cell_of_row _ w.heap.size 4 _ _ _ (HX.out _)]; rfl)
        | have c4 : w1.cell? ⟨w.heap.size, 4, none⟩ = some (.bool false) := (b1.cell (by simp)).trans (by rw [cell_of_row _ w.heap.size 4 _ _ _ (HX.out _)]; rfl)
      go_wp2
      go_ret
      exact ⟨ret_i64 (by rw [En.chk_rest _ (by omega) H2.out (by omega), h5]; rfl), bthen (bnew w _) b1⟩


end Go.Proofs.YtlgcdcjhflihiaaDoor
namespace Go.Proofs.YtlgcdcjhflihiaaDoor
open Go.RowKit
theorem compare_at {a n b m q : Int} (h : Vs.cmp a n b m = q) (w : World) : Calls Tryd.prog 55 #[.agg #[.int .i64 a, .int .i64 n], .agg #[.int .i64 b, .int .i64 m]] w fun e w' => e = .returned (.int .i64 q) ∧ Below w.heap.size w w' := by
  subst h; exact compare_any a n b m w


theorem cmp_three (a n b m : Int) : Vs.cmp a n b m = 1 ∧ (b < a ∨ (a = b ∧ m < n)) ∨ Vs.cmp a n b m = 0 ∧ a = b ∧ n = m ∨ Vs.cmp a n b m = -1 ∧ (a < b ∨ (a = b ∧ n < m)) := by
  unfold Vs.cmp Vs.c2
  by_cases h1 : b < a
  · rw [if_pos h1]; omega
  · by_cases h2 : a < b
    · rw [if_neg h1, if_pos h2]; omega
    · by_cases h3 : m < n
      · rw [if_neg h1, if_neg h2, if_pos h3]; omega
      · by_cases h4 : n < m
        · rw [if_neg h1, if_neg h2, if_neg h3, if_pos h4]; omega
        · rw [if_neg h1, if_neg h2, if_neg h3, if_neg h4]; omega

end Go.Proofs.YtlgcdcjhflihiaaDoor
namespace Go.Proofs.YtlgcdcjhflihiaaDoor
open Go.RowKit
/-- Whether a is newer than b. -/
def En.newer (a b : En) : Bool := decide (0 < Vs.cmp a.c a.n b.c b.n)

set_option maxHeartbeats 800000 in
theorem newer_any (ak : ByteArray) (ac an : Int) (av : ByteArray) (ad : Bool) (bk : ByteArray) (bc bn : Int) (bv : ByteArray) (bd : Bool) (q : Bool) (w : World) (h : En.newer ⟨ak, ac, an, av, ad⟩ ⟨bk, bc, bn, bv, bd⟩ = q) :
    Calls Tryd.prog 37 #[.agg #[.string ak, .int .i64 ac, .int .i64 an, .string av, .bool ad], .agg #[.string bk, .int .i64 bc, .int .i64 bn, .string bv, .bool bd]] w fun e w' => e = .returned (.bool q) ∧ Below w.heap.size w w' := by
  obtain ⟨x, hx⟩ : ∃ x, Vs.cmp ac an bc bn = x := ⟨_, rfl⟩
  have H := aside h
  have C := aside (fun w => compare_at hx w)
  have HX := aside hx
  clear h hx
  go_enter Tryd.func37, Tryd.ntmps37
  go_wp2_with fail
  refine (C.out _).mono ?_
  rintro e w1 ⟨rfl, b1⟩
  have b0 := bthen (bthen (bnew w _) (bnew _ _)) b1
  clear b1
  go_wp2
  go_ret
  refine ⟨ret_bool ?_, b0⟩
  rw [← H.out, ← HX.out]; rfl


theorem newer_iff (a b : En) : En.newer a b = true ↔ b.c < a.c ∨ (a.c = b.c ∧ b.n < a.n) := by
  unfold En.newer
  rw [decide_eq_true_iff]
  rcases cmp_three a.c a.n b.c b.n with h | h | h <;> omega

theorem newer_not (a b : En) : En.newer a b = false ↔ ¬ (b.c < a.c ∨ (a.c = b.c ∧ b.n < a.n)) := by
  rw [← newer_iff]; simp

end Go.Proofs.YtlgcdcjhflihiaaDoor
