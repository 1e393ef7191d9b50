/-
  The words of a key and a version, plain, and what both lanes come to.
  Plain mathematics of stores: entries by rising keys, what is put, found, counted and summed up.
  Trees in memory (E): nodes and what they hold, rows and levels.
  Add and Less of the code and of the document: lane by lane, modulo 2^64.
  Join of the code and of the document: counts added, wrapping round; sums added lane by lane.
  Meters: a new one, its Join, how often it did.
  both (E): it joins by the meter; what it defers does nothing where the join returns.
  hang (E): a node of a row and two trees.
  hang (E), a case.
  hang (E), a case.
  hang (E), a case.
-/
import Derived.Test.YtlgcdcjhflihiabDoorBtopfolds1
import Derived.Deep.RegionHeld
import Derived.OrdersHeld
import Derived.Defers
import Derived.Recover
import Derived.Deep.RegionWith
import Derived.Deep.RegionHeld3
namespace Go.Proofs.YtlgcdcjhflihiabDoor
set_option linter.unusedVariables false
/-- Bytes as a number, the first byte the lowest one. -/
def leB : List UInt8 → Nat
  | [] => 0
  | b :: r => b.toNat + 256 * leB r

theorem leB_lt : ∀ l : List UInt8, leB l < 256 ^ l.length
  | [] => by simp [leB]
  | b :: r => by
    have h := leB_lt r
    have hb := b.toNat_lt
    simp only [leB, List.length_cons, Nat.pow_succ]
    omega

theorem leB_snoc (b : UInt8) : ∀ l : List UInt8, leB (l ++ [b]) = leB l + 256 ^ l.length * b.toNat
  | [] => by simp [leB]
  | a :: r => by
    simp only [List.cons_append, leB, leB_snoc b r, List.length_cons, Nat.pow_succ]
    rw [Nat.mul_add, Nat.add_assoc, ← Nat.mul_assoc, Nat.mul_comm 256 (256 ^ r.length)]

/-- The word that begins at byte m. -/
def wordN (k : List UInt8) (m : Nat) : Nat := leB ((k.drop m).take 8)

theorem wordN_lt (k : List UInt8) (m : Nat) : wordN k m < 18446744073709551616 := by
  have h := leB_lt ((k.drop m).take 8)
  have hl : ((k.drop m).take 8).length ≤ 8 := by simp; omega
  have : 256 ^ ((k.drop m).take 8).length ≤ 256 ^ 8 := Nat.pow_le_pow_right (by decide) hl
  unfold wordN
  omega

/-- The first j words of a key. -/
def keyW (k : List UInt8) (j : Nat) : List Int := (List.range j).map fun m => (wordN k (8 * m) : Int)

theorem keyW_succ (k : List UInt8) (j : Nat) : keyW k (j + 1) = keyW k j ++ [(wordN k (8 * j) : Int)] := by simp [keyW, List.range_succ]

theorem keyW_length (k : List UInt8) (j : Nat) : (keyW k j).length = j := by simp [keyW]

/-- How many words a key has. -/
def keyN (n : Nat) : Nat := (n + 7) / 8

/-- All words of a key and a version. -/
def wordsI (k : ByteArray) (c n : Int) : List Int := (k.size : Int) :: keyW k.data.toList (keyN k.size) ++ [IntKind.u64.wrap c, IntKind.u64.wrap n]

def lane0 (ws : List Int) : Int := ws.foldl (mixI 11400714819323198485 29) 2611923443488327891

def lane1 (ws : List Int) : Int := ws.foldl (mixI 14029467366897019727 32) 1376283091369227076

theorem lane0_snoc (ws : List Int) (u : Int) : lane0 (ws ++ [u]) = mixI 11400714819323198485 29 (lane0 ws) u := by simp [lane0]

theorem lane1_snoc (ws : List Int) (u : Int) : lane1 (ws ++ [u]) = mixI 14029467366897019727 32 (lane1 ws) u := by simp [lane1]

/-- What an entry comes to, lane by lane. -/
def of0 (k : ByteArray) (c n : Int) : Int := lane0 (wordsI k c n)

def of1 (k : ByteArray) (c n : Int) : Int := lane1 (wordsI k c n)

def ofV (k : ByteArray) (c n : Int) : Value := .agg #[.int .u64 (of0 k c n), .int .u64 (of1 k c n)]

theorem wordsI_snoc (k : ByteArray) (c n : Int) : wordsI k c n = (((k.size : Int) :: keyW k.data.toList (keyN k.size)) ++ [IntKind.u64.wrap c]) ++ [IntKind.u64.wrap n] := by simp [wordsI]

/-- The list that the document's loop has made of the first i bytes. -/
def doneW (k : List UInt8) (i : Nat) : List Int := keyW k (i / 8) ++ (if i % 8 = 0 then [] else [(leB ((k.drop (8 * (i / 8))).take (i % 8)) : Int)])

theorem doneW_zero (k : List UInt8) : doneW k 0 = [] := by simp [doneW, keyW]

theorem doneW_all (k : List UInt8) : doneW k k.length = keyW k (keyN k.length) := by
  unfold doneW keyN
  by_cases h : k.length % 8 = 0
  · rw [if_pos h, List.append_nil, show (k.length + 7) / 8 = k.length / 8 from by omega]
  · rw [if_neg h, show (k.length + 7) / 8 = k.length / 8 + 1 from by omega, keyW_succ]
    congr 3
    unfold wordN
    rw [List.take_of_length_le (by simp; omega), List.take_of_length_le (by simp; omega)]

/-- The part word at byte i, ahead of it and behind it. -/
def partN (k : List UInt8) (i : Nat) : Nat := leB ((k.drop (8 * (i / 8))).take (i % 8))

theorem partN_lt (k : List UInt8) (i : Nat) : partN k i < 256 ^ (i % 8) := by
  have h := leB_lt ((k.drop (8 * (i / 8))).take (i % 8))
  have hl : ((k.drop (8 * (i / 8))).take (i % 8)).length ≤ i % 8 := by simp; omega
  have : 256 ^ ((k.drop (8 * (i / 8))).take (i % 8)).length ≤ 256 ^ (i % 8) := Nat.pow_le_pow_right (by decide) hl
  unfold partN
  omega

theorem doneW_next (k : List UInt8) (i : Nat) (h : i < k.length) : doneW k (i + 1) = keyW k (i / 8) ++ [((partN k i + k[i].toNat * 256 ^ (i % 8) : Nat) : Int)] := by
  have hd : (k.drop (8 * (i / 8))).take (i % 8 + 1) = (k.drop (8 * (i / 8))).take (i % 8) ++ [k[i]] := by
    rw [List.take_add_one]
    congr 1
    rw [List.getElem?_drop, show 8 * (i / 8) + i % 8 = i from by omega, List.getElem?_eq_getElem h]
    rfl
  have hv : leB ((k.drop (8 * (i / 8))).take (i % 8 + 1)) = partN k i + k[i].toNat * 256 ^ (i % 8) := by
    rw [hd, leB_snoc, show ((k.drop (8 * (i / 8))).take (i % 8)).length = i % 8 from by rw [List.length_take, List.length_drop]; omega]
    unfold partN
    rw [Nat.mul_comm k[i].toNat]
  unfold doneW
  by_cases h7 : i % 8 = 7
  · rw [if_pos (by omega), List.append_nil, show (i + 1) / 8 = i / 8 + 1 from by omega, keyW_succ, ← hv, h7]
    rfl
  · rw [if_neg (by omega), show (i + 1) / 8 = i / 8 from by omega, show (i + 1) % 8 = i % 8 + 1 from by omega, hv]

theorem doneW_here (k : List UInt8) (i : Nat) (h : i % 8 ≠ 0) : doneW k i = keyW k (i / 8) ++ [(partN k i : Int)] := by
  unfold doneW
  rw [if_neg h]
  rfl

theorem doneW_edge (k : List UInt8) (i : Nat) (h : i % 8 = 0) : doneW k i = keyW k (i / 8) ∧ partN k i = 0 := by
  unfold doneW partN
  rw [if_pos h, h]
  simp [leB]

theorem sum_lt (k : List UInt8) (i : Nat) (c : UInt8) : partN k i + c.toNat * 256 ^ (i % 8) < 18446744073709551616 := by
  have h := partN_lt k i
  have hc := c.toNat_lt
  have h8 : i % 8 < 8 := by omega
  generalize i % 8 = r at *
  generalize partN k i = p at *
  generalize c.toNat = q at *
  match r, h8 with
  | 0, _ | 1, _ | 2, _ | 3, _ | 4, _ | 5, _ | 6, _ | 7, _ => simp at h ⊢; omega

end Go.Proofs.YtlgcdcjhflihiabDoor
namespace Go.Proofs.YtlgcdcjhflihiabDoor
open Go.RowKit
set_option linter.unusedVariables false

theorem mixI_range (f : Int) (s : Nat) (x u : Int) : 0 ≤ mixI f s x u ∧ mixI f s x u < 18446744073709551616 := by
  have h : ∀ z : Int, 0 ≤ IntKind.u64.wrap z ∧ IntKind.u64.wrap z < 18446744073709551616 := fun z => by rw [IntKind.wrap_u64]; omega
  exact h _

theorem of0_range (k : ByteArray) (c n : Int) : 0 ≤ of0 k c n ∧ of0 k c n < 18446744073709551616 := by
  unfold of0; rw [wordsI_snoc, lane0_snoc]; exact mixI_range _ _ _ _
theorem of1_range (k : ByteArray) (c n : Int) : 0 ≤ of1 k c n ∧ of1 k c n < 18446744073709551616 := by
  unfold of1; rw [wordsI_snoc, lane1_snoc]; exact mixI_range _ _ _ _

/-- What an entry comes to. -/
def tof (e : En) : Tl := ⟨1, UInt64.ofNat (of0 e.k e.c e.n).toNat, UInt64.ofNat (of1 e.k e.c e.n).toNat⟩
theorem tof_n (e : En) : (tof e).n = 1 := rfl
theorem tof_a (e : En) : (tof e).a = of0 e.k e.c e.n := by
  have := of0_range e.k e.c e.n
  show ((UInt64.ofNat (of0 e.k e.c e.n).toNat).toNat : Int) = _
  rw [UInt64.toNat_ofNat']
  omega
theorem tof_b (e : En) : (tof e).b = of1 e.k e.c e.n := by
  have := of1_range e.k e.c e.n
  show ((UInt64.ofNat (of1 e.k e.c e.n).toNat).toNat : Int) = _
  rw [UInt64.toNat_ofNat']
  omega

theorem mon_tl : Mon tJoin tZero :=
  ⟨tJoin_assoc, fun a => by simp [tJoin, tZero], fun a => by simp [tJoin, tZero]⟩

/-- The row of an entry. -/
def rwE (e : En) : Rw En Tl := ⟨e.k, e, tof e⟩

/-- Keys rise. -/
def RisesE (l : List En) : Prop := l.Pairwise (fun a b => kLt a.k b.k = true)

/-- An entry put among sorted ones. -/
def insE (e : En) : List En → List En
  | [] => [e]
  | y :: l => if kLt e.k y.k then e :: y :: l else if kLt y.k e.k then y :: insE e l else e :: l

/-- The entry under a key. -/
def lookE (k : ByteArray) (l : List En) : Option En := l.find? (fun y => !kLt k y.k && !kLt y.k k)

/-- How many keys are below one. -/
def belE (k : ByteArray) (l : List En) : Nat := (l.filter (fun y => kLt y.k k)).length

/-- What entries come to. -/
def talL (l : List En) : Tl := l.foldl (fun a e => tJoin a (tof e)) tZero

theorem rises_map {l : List En} (h : RisesE l) : Rises (l.map rwE) := by
  unfold Rises RisesE at *
  rw [List.pairwise_map]
  exact h
theorem ins_map (e : En) : ∀ l : List En, ins e.k e (tof e) (l.map rwE) = (insE e l).map rwE
  | [] => rfl
  | y :: l => by
    simp only [List.map_cons, ins, insE, ins_map e l]
    show (if kLt e.k y.k then _ else if kLt y.k e.k then _ else _) = _
    split
    · rfl
    · split <;> rfl
theorem rises_of_map {l : List En} (h : Rises (l.map rwE)) : RisesE l := by
  unfold Rises RisesE at *
  rw [List.pairwise_map] at h
  exact h
theorem look_map (k : ByteArray) (l : List En) : look k (l.map rwE) = (lookE k l).map rwE := by
  unfold look lookE
  rw [List.find?_map]
  rfl
theorem rank_map (k : ByteArray) (l : List En) : rankL k (l.map rwE) = belE k l := by
  unfold rankL belE
  rw [List.filter_map, List.length_map]
  rfl
theorem foldL_map (l : List En) : foldL tJoin tZero (l.map rwE) = talL l := by
  unfold foldL talL
  rw [List.foldl_map]
  rfl
theorem seg_map (l : List En) (i j : Nat) : seg (l.map rwE) i j = ((l.take j).drop i).map rwE := by
  unfold seg
  rw [← List.map_take, ← List.map_drop]
theorem talL_append (a b : List En) : talL (a ++ b) = tJoin (talL a) (talL b) := by
  rw [← foldL_map, ← foldL_map, ← foldL_map, List.map_append, foldL_append mon_tl]
theorem talL_nil : talL [] = tZero := rfl
theorem talL_one (e : En) : talL [e] = tof e := by simp [talL, mon_tl.left]

/-- The tree T holds the entries L. -/
structure Hol (T : Tr En Tl) (L : List En) : Prop where
  bal : T.bal
  rows : T.rows = L.map rwE
  rises : RisesE L

theorem wt_cnt : ∀ T : Tr En Tl, T.wt tSz = T.cnt
  | .nil => rfl
  | .node l k v s r => by simp only [Tr.wt, Tr.cnt, wt_cnt l, wt_cnt r, tSz]

theorem Hol.nil : Hol .nil [] := ⟨trivial, rfl, List.Pairwise.nil⟩
theorem Hol.cnt {T : Tr En Tl} {L : List En} (h : Hol T L) : T.cnt = L.length := by rw [← Tr.rows_length, h.rows, List.length_map]
theorem Hol.gd {T : Tr En Tl} {L : List En} (h : Hol T L) : Gd tSz T L.length :=
  ⟨h.bal, by rw [h.rows]; exact rises_map h.rises, by rw [wt_cnt, h.cnt]; exact Nat.le_refl _⟩
theorem Hol.put {T : Tr En Tl} {L : List En} (h : Hol T L) (e : En) : Hol (Tr.put e.k e (tof e) T) (insE e L) := by
  have hr : (Tr.put e.k e (tof e) T).rows = (insE e L).map rwE := by rw [rows_put _ _ _ _ h.gd.rises, h.rows, ins_map]
  exact ⟨(Tr.bal_put _ _ _ T h.bal).1, hr, rises_of_map (by rw [← hr]; exact (h.gd.put e.k e (tof e)).rises)⟩
theorem Hol.found {T : Tr En Tl} {L : List En} (h : Hol T L) (k : ByteArray) : (Tr.found k T).val eNone = (lookE k L).getD eNone ∧ (!(Tr.found k T).isNil) = (lookE k L).isSome := by
  have h1 := look_found k T h.gd.rises
  rw [h.rows, look_map] at h1
  cases hF : Tr.found k T with
  | nil =>
    rw [hF] at h1
    cases hL : lookE k L with
    | none => exact ⟨rfl, rfl⟩
    | some x => rw [hL] at h1; cases h1
  | node l k' v s r =>
    rw [hF] at h1
    cases hL : lookE k L with
    | none => rw [hL] at h1; cases h1
    | some x =>
      rw [hL] at h1
      injection h1 with h1
      have : x = v := congrArg Rw.v h1
      subst this
      exact ⟨rfl, rfl⟩
theorem Hol.lower {T : Tr En Tl} {L : List En} (h : Hol T L) (k : ByteArray) : Tr.lower k T = belE k L := by
  rw [lower_rank k T h.gd.rises, h.rows, rank_map]
theorem Hol.fold {T : Tr En Tl} {L : List En} (h : Hol T L) (i j : Nat) (hj : j ≤ L.length) : Tr.fol tJoin tZero T (i : Int) (j : Int) = talL ((L.take j).drop i) := by
  rw [fol_nat mon_tl T i j (by rw [h.cnt]; exact hj), h.rows, seg_map, foldL_map]

theorem belE_le (k : ByteArray) (L : List En) : belE k L ≤ L.length := List.length_filter_le _ _

/-- The keys below one are the first. -/
theorem filter_low {k : ByteArray} : ∀ {L : List En}, RisesE L → L.filter (fun y => kLt y.k k) = L.take (belE k L)
  | [], _ => rfl
  | y :: L, h => by
    unfold RisesE at h
    rw [List.pairwise_cons] at h
    cases hq : kLt y.k k
    · have hn : (y :: L).filter (fun y => kLt y.k k) = [] := by
        rw [List.filter_eq_nil_iff]
        intro x hx
        rcases List.mem_cons.1 hx with rfl | hx
        · simp [hq]
        · cases hq2 : kLt x.k k
          · simp
          · have := kLt_trans (h.1 x hx) hq2
            rw [hq] at this; cases this
      unfold belE
      rw [hn]
      rfl
    · have ih := filter_low (k := k) (L := L) h.2
      have e : belE k (y :: L) = belE k L + 1 := by unfold belE; rw [List.filter_cons_of_pos (by simpa using hq)]; rfl
      rw [e, List.filter_cons_of_pos (by simpa using hq), List.take_succ_cons, ih]
theorem filter_high {k : ByteArray} : ∀ {L : List En}, RisesE L → L.filter (fun y => !kLt y.k k) = L.drop (belE k L)
  | [], _ => rfl
  | y :: L, h => by
    unfold RisesE at h
    rw [List.pairwise_cons] at h
    cases hq : kLt y.k k
    · have hn : ∀ x ∈ y :: L, kLt x.k k = false := fun x hx => by
        rcases List.mem_cons.1 hx with rfl | hx
        · exact hq
        · cases hq2 : kLt x.k k
          · rfl
          · have := kLt_trans (h.1 x hx) hq2
            rw [hq] at this; cases this
      have h1 : belE k (y :: L) = 0 := by
        unfold belE
        rw [List.filter_eq_nil_iff.2 (fun x hx => by simp [hn x hx])]
        rfl
      rw [h1, List.drop_zero, List.filter_eq_self]
      intro x hx
      simp [hn x hx]
    · have ih := filter_high (k := k) (L := L) h.2
      have e : belE k (y :: L) = belE k L + 1 := by unfold belE; rw [List.filter_cons_of_pos (by simpa using hq)]; rfl
      rw [e, List.filter_cons_of_neg (by simp [hq]), List.drop_succ_cons, ih]

/-- Whether a key is in a range that may be. -/
def inR (lo hi : ByteArray) (op : Bool) (e : En) : Bool := !kLt e.k lo && (op || kLt e.k hi)

/-- Where the rows of a range end. -/
def endE (hi : ByteArray) (op : Bool) (L : List En) : Nat := if op then L.length else belE hi L

theorem endE_le (hi : ByteArray) (op : Bool) (L : List En) : endE hi op L ≤ L.length := by
  unfold endE; split
  · exact Nat.le_refl _
  · exact belE_le _ _

theorem rank_take {lo hi : ByteArray} {L : List En} (hs : RisesE L) (h : kLt hi lo = false) : belE lo (L.take (belE hi L)) = belE lo L := by
  rw [← filter_low hs]
  unfold belE
  rw [List.filter_filter]
  congr 1
  apply List.filter_congr
  intro x _
  cases h1 : kLt x.k lo
  · simp
  · simp [kLt_trans_le h1 h]

/-- The rows of a range. -/
theorem seg_range {lo hi : ByteArray} {op : Bool} {L : List En} (hs : RisesE L) (h : op = true ∨ kLt hi lo = false) : (L.take (endE hi op L)).drop (belE lo L) = L.filter (inR lo hi op) := by
  cases op with
  | true =>
    have : inR lo hi true = fun y => !kLt y.k lo := by funext y; simp [inR]
    rw [this, filter_high hs]
    simp [endE]
  | false =>
    have h' : kLt hi lo = false := by rcases h with h | h; cases h; exact h
    have hs2 : RisesE (L.take (belE hi L)) := List.Pairwise.sublist (List.take_sublist _ _) hs
    show (L.take (belE hi L)).drop (belE lo L) = _
    rw [← rank_take hs h', ← filter_high hs2, ← filter_low hs, List.filter_filter]
    apply List.filter_congr
    intro x _
    simp [inR]

end Go.Proofs.YtlgcdcjhflihiabDoor
namespace Go.Proofs.YtlgcdcjhflihiabDoor
open Go.RowKit
set_option linter.unusedVariables false

/-- p points to the tree t. -/
def IsTE (w : World) : Option Addr → Tr En Tl → Prop
  | p, .nil => p = none
  | p, .node l k v s r => ∃ b lp rp, p = some ⟨b, 0, none⟩ ∧ w.heap[b]? = some (.cells #[.string k, .string v.k, .int .i64 v.c, .int .i64 v.n, .string v.v, .bool v.d, .int .i64 s.n, .int .u64 s.a, .int .u64 s.b, .pointer lp, .pointer rp, .int .i64 ((Tr.node l k v s r).cnt : Int), .int .i64 ((Tr.node l k v s r).ht : Int), .int .i64 ((Tr.node l k v s r).sum tJoin tZero).n, .int .u64 ((Tr.node l k v s r).sum tJoin tZero).a, .int .u64 ((Tr.node l k v s r).sum tJoin tZero).b] 91 (0, 0)) ∧ IsTE w lp l ∧ IsTE w rp r

theorem IsTE.stay {w w' : World} (h : Stay 91 w w') : ∀ (t : Tr En Tl) (p : Option Addr), IsTE w p t → IsTE w' p t
  | .nil, _, e => e
  | .node l k v s r, _, ⟨b, lp, rp, e, hb, hl, hr⟩ => ⟨b, lp, rp, e, h _ _ hb, IsTE.stay h l lp hl, IsTE.stay h r rp hr⟩

theorem IsTE.on {w w' : World} {p : Option Addr} {t : Tr En Tl} (i : IsTE w p t) (h : Stay 91 w w') : IsTE w' p t := IsTE.stay h t p i

theorem IsTE.isNil {w : World} {t : Tr En Tl} {p : Option Addr} (h : IsTE w p t) : t.isNil = p.isNone := by
  cases t with
  | nil => rw [show p = none from h]; rfl
  | node l k v s r => obtain ⟨b, lp, rp, rfl, _⟩ := h; rfl

theorem nodeE {w : World} {b : Nat} {k : ByteArray} {v : En} {s : Tl} {lp rp : Option Addr} {c h : Int} {q : Tl} (hb : w.heap[b]? = some (.cells #[.string k, .string v.k, .int .i64 v.c, .int .i64 v.n, .string v.v, .bool v.d, .int .i64 s.n, .int .u64 s.a, .int .u64 s.b, .pointer lp, .pointer rp, .int .i64 c, .int .i64 h, .int .i64 q.n, .int .u64 q.a, .int .u64 q.b] 91 (0, 0))) :
    w.cell? ⟨b, 0, none⟩ = some (.string k) ∧ w.cell? ⟨b, 1, none⟩ = some (.string v.k) ∧ w.cell? ⟨b, 2, none⟩ = some (.int .i64 v.c) ∧ w.cell? ⟨b, 3, none⟩ = some (.int .i64 v.n) ∧ w.cell? ⟨b, 4, none⟩ = some (.string v.v) ∧ w.cell? ⟨b, 5, none⟩ = some (.bool v.d) ∧ w.cell? ⟨b, 6, none⟩ = some (.int .i64 s.n) ∧ w.cell? ⟨b, 7, none⟩ = some (.int .u64 s.a) ∧ w.cell? ⟨b, 8, none⟩ = some (.int .u64 s.b) ∧ w.cell? ⟨b, 9, none⟩ = some (.pointer lp) ∧ w.cell? ⟨b, 10, none⟩ = some (.pointer rp) ∧ w.cell? ⟨b, 11, none⟩ = some (.int .i64 c) ∧ w.cell? ⟨b, 12, none⟩ = some (.int .i64 h) ∧ w.cell? ⟨b, 13, none⟩ = some (.int .i64 q.n) ∧ w.cell? ⟨b, 14, none⟩ = some (.int .u64 q.a) ∧ w.cell? ⟨b, 15, none⟩ = some (.int .u64 q.b) := by
  simp [World.cell?, hb]

theorem IsTE.two {w : World} {t : Tr En Tl} {p : Option Addr} (h : IsTE w p t) : (p = none ∧ t = .nil) ∨ ∃ b, p = some ⟨b, 0, none⟩ ∧ t.isNil = false := by
  cases t with
  | nil => exact .inl ⟨h, rfl⟩
  | node l k v s r => obtain ⟨b, lp, rp, rfl, _⟩ := h; exact .inr ⟨b, rfl, rfl⟩

theorem sumAtE {w : World} {b : Nat} {t : Tr En Tl} (h : IsTE w (some ⟨b, 0, none⟩) t) : w.cell? ⟨b, 13, none⟩ = some (.int .i64 (t.sum tJoin tZero).n) ∧ w.cell? ⟨b, 14, none⟩ = some (.int .u64 (t.sum tJoin tZero).a) ∧ w.cell? ⟨b, 15, none⟩ = some (.int .u64 (t.sum tJoin tZero).b) := by
  cases t with
  | nil => cases (show some _ = none from h)
  | node l k v s r =>
    obtain ⟨b', lp, rp, e, hb, _⟩ := h
    injection e with e
    injection e with e _ _
    subst e
    simp [World.cell?, hb]

theorem nodePlE {w : World} {b : Nat} {k : ByteArray} {v : En} {s : Tl} {lp rp : Option Addr} {c h : Int} {q : Tl} (hb : w.heap[b]? = some (.cells #[.string k, .string v.k, .int .i64 v.c, .int .i64 v.n, .string v.v, .bool v.d, .int .i64 s.n, .int .u64 s.a, .int .u64 s.b, .pointer lp, .pointer rp, .int .i64 c, .int .i64 h, .int .i64 q.n, .int .u64 q.a, .int .u64 q.b] 91 (0, 0))) : w.cell? ⟨b, 9, none⟩ = some (.pointer lp) := by simp [World.cell?, hb]
theorem nodePrE {w : World} {b : Nat} {k : ByteArray} {v : En} {s : Tl} {lp rp : Option Addr} {c h : Int} {q : Tl} (hb : w.heap[b]? = some (.cells #[.string k, .string v.k, .int .i64 v.c, .int .i64 v.n, .string v.v, .bool v.d, .int .i64 s.n, .int .u64 s.a, .int .u64 s.b, .pointer lp, .pointer rp, .int .i64 c, .int .i64 h, .int .i64 q.n, .int .u64 q.a, .int .u64 q.b] 91 (0, 0))) : w.cell? ⟨b, 10, none⟩ = some (.pointer rp) := by simp [World.cell?, hb]

/-- A tree's own block: it holds its join jv and its root. -/
def TObjE (w : World) (tb : Nat) (jv : Value) (root : Option Addr) : Prop := w.heap[tb]? = some (.cells #[.int .i64 0, .int .u64 0, .int .u64 0, jv, .pointer root] 74 (0, 0))

theorem TObjE.onC {w w' : World} {tb n : Nat} {jv : Value} {root : Option Addr} {c : Option Nat} (h : TObjE w tb jv root) (hc : CntE c n w) (k : Keeps (OnC c) w w') : TObjE w' tb jv root := blk_keep h k (hc.apart h (by decide))

theorem tobjE {w : World} {tb : Nat} {jv : Value} {root : Option Addr} (h : TObjE w tb jv root) :
    w.cell? ⟨tb, 0, none⟩ = some (.int .i64 0) ∧ w.cell? ⟨tb, 1, none⟩ = some (.int .u64 0) ∧ w.cell? ⟨tb, 2, none⟩ = some (.int .u64 0) ∧ w.cell? ⟨tb, 3, none⟩ = some (jv) ∧ w.cell? ⟨tb, 4, none⟩ = some (.pointer root) ∧ w.frozen? ⟨tb, 4, none⟩ = false := by
  unfold TObjE at h
  simp [World.cell?, World.frozen?, h]

set_option maxHeartbeats 1600000 in
theorem rowsE {w : World} {p : Option Addr} {t : Tr En Tl} (h : IsTE w p t) :
    Calls Tryd.prog 28 #[.pointer p] w fun e w' => e = .returned (.int .i64 (t.cnt : Int)) ∧ w' = w := by
  cases t with
  | nil =>
    obtain rfl : p = none := h
    go_enter Tryd.func28, Tryd.ntmps28
    go_wp2
    go_ret
    exact ⟨rfl, rfl⟩
  | node l k v s r =>
    obtain ⟨b, lp, rp, rfl, hb, _, _⟩ := h
    have hn := nodeE hb
    obtain ⟨-, -, -, -, -, -, -, -, -, -, -, h, -, -, -, -⟩ := hn
    clear hb
    generalize ((Tr.node l k v s r).cnt : Int) = c at *
    go_enter Tryd.func28, Tryd.ntmps28
    go_wp2
    go_ret
    exact ⟨rfl, rfl⟩

set_option maxHeartbeats 1600000 in
theorem levelsE {w : World} {p : Option Addr} {t : Tr En Tl} (h : IsTE w p t) :
    Calls Tryd.prog 47 #[.pointer p] w fun e w' => e = .returned (.int .i64 (t.ht : Int)) ∧ w' = w := by
  cases t with
  | nil =>
    obtain rfl : p = none := h
    go_enter Tryd.func47, Tryd.ntmps47
    go_wp2
    go_ret
    exact ⟨rfl, rfl⟩
  | node l k v s r =>
    obtain ⟨b, lp, rp, rfl, hb, _, _⟩ := h
    have hn := nodeE hb
    obtain ⟨-, -, -, -, -, -, -, -, -, -, -, -, h, -, -, -⟩ := hn
    clear hb
    generalize ((Tr.node l k v s r).ht : Int) = c at *
    go_enter Tryd.func47, Tryd.ntmps47
    go_wp2
    go_ret
    exact ⟨rfl, rfl⟩

end Go.Proofs.YtlgcdcjhflihiabDoor
namespace Go.Proofs.YtlgcdcjhflihiabDoor
open Go.RowKit
set_option linter.unusedVariables false
/-- The memory in Add's and Less's loop: the first sum, the second, the result. -/
def add3 (w : World) (x0 x1 b0 b1 r0 r1 : Int) : World :=
  ((w.alloc (.cells #[.int .u64 x0, .int .u64 x1] 42)).alloc (.cells #[.int .u64 b0, .int .u64 b1] 42)).alloc (.cells #[.int .u64 r0, .int .u64 r1] 42)

theorem add3_below (w : World) (x0 x1 b0 b1 r0 r1 : Int) : Below w.heap.size w (add3 w x0 x1 b0 b1 r0 r1) := ((bnew w _).alloc (by simp) _).alloc (by simp; omega) _

def AddRel (w : World) (a0 a1 b0 b1 s0 s1 : Int) (i : Value) (wr : World) : Prop :=
  (i = .int .i64 0 ∧ wr = add3 w a0 a1 b0 b1 0 0) ∨ (i = .int .i64 1 ∧ wr = (add3 w s0 a1 b0 b1 0 0).drew) ∨ (i = .int .i64 2 ∧ wr = (add3 w s0 s1 b0 b1 0 0).drew.drew)

set_option maxHeartbeats 1600000 in
set_option maxRecDepth 100000 in
theorem add_any (a0 a1 b0 b1 : Int) (w : World) :
    Calls Tryd.prog 21 #[.agg #[.int .u64 a0, .int .u64 a1], .agg #[.int .u64 b0, .int .u64 b1]] w fun e w' => e = .returned (.agg #[.int .u64 (IntKind.u64.wrap (a0 + b0)), .int .u64 (IntKind.u64.wrap (a1 + b1))]) ∧ Below w.heap.size w w' := by
  go_enter Tryd.func21, Tryd.ntmps21
  go_wp2
  go_loopw [6] (fun i wr => AddRel w a0 a1 b0 b1 (IntKind.u64.wrap (a0 + b0)) (IntKind.u64.wrap (a1 + b1)) i wr) (fun i _ => 2 - (intOf i).toNat)
  case atStart => exact .inl ⟨rfl, rfl⟩
  case round =>
    obtain ⟨rfl, rfl⟩ | ⟨rfl, rfl⟩ | ⟨rfl, rfl⟩ := hrel
    · unfold add3
      go_wp2
      go_region
      go_wp2
      go_roundw
      case rel => exact .inr (.inl ⟨rfl, rfl⟩)
      case measure => simp [intOf]
    · unfold add3
      go_wp2
      go_region
      go_wp2
      go_roundw
      case rel => exact .inr (.inr ⟨rfl, rfl⟩)
      case measure => simp [intOf]
    · unfold add3
      go_wp2
      exact bodyPost_ret (v := .agg #[.int .u64 (IntKind.u64.wrap (a0 + b0)), .int .u64 (IntKind.u64.wrap (a1 + b1))]) (by simp [results, Tryd.results21, go_sem]) rfl ⟨rfl, (add3_below w (IntKind.u64.wrap (a0 + b0)) (IntKind.u64.wrap (a1 + b1)) b0 b1 (IntKind.u64.wrap (a0 + b0)) (IntKind.u64.wrap (a1 + b1))).drew.drew⟩




end Go.Proofs.YtlgcdcjhflihiabDoor
namespace Go.Proofs.YtlgcdcjhflihiabDoor
open Go.RowKit
set_option linter.unusedVariables false
/-- Two tallies and the result's place, in memory. -/
structure J3 (w V : World) (n a b m c d : Int) : Prop where
  below : Below w.heap.size w V
  b0 : V.heap[w.heap.size]? = some (.cells #[.int .i64 n, .int .u64 a, .int .u64 b] 44)
  b1 : V.heap[w.heap.size + 1]? = some (.cells #[.int .i64 m, .int .u64 c, .int .u64 d] 44)
  b2 : V.heap[w.heap.size + 1 + 1]? = some (.cells #[.int .i64 0, .int .u64 0, .int .u64 0] 44)

theorem j3_st (w : World) (n a b m c d : Int) : J3 w (((w.alloc (.cells #[.int .i64 n, .int .u64 a, .int .u64 b] 44)).alloc (.cells #[.int .i64 m, .int .u64 c, .int .u64 d] 44)).alloc (.cells #[.int .i64 0, .int .u64 0, .int .u64 0] 44)) n a b m c d := by
  refine ⟨((bnew w _).alloc (by simp) _).alloc (by simp; omega) _, blk_on (blk_on (heap_alloc_new w _) (bnew _ _)) (bnew _ _), ?_, ?_⟩
  · refine blk_on ?_ (bnew _ _)
    rw [show w.heap.size + 1 = (w.alloc (.cells #[.int .i64 n, .int .u64 a, .int .u64 b] 44)).heap.size from by simp]
    exact heap_alloc_new _ _
  · rw [show w.heap.size + 1 + 1 = ((w.alloc (.cells #[.int .i64 n, .int .u64 a, .int .u64 b] 44)).alloc (.cells #[.int .i64 m, .int .u64 c, .int .u64 d] 44)).heap.size from by simp]
    exact heap_alloc_new _ _

theorem J3.drew {w V : World} {n a b m c d : Int} (h : J3 w V n a b m c d) : J3 w V.drew n a b m c d := ⟨h.below.drew, h.b0, h.b1, h.b2⟩

theorem J3.keep {w V W : World} {n a b m c d : Int} (h : J3 w V n a b m c d) (b' : Below V.heap.size V W) : J3 w W n a b m c d := ⟨bthen h.below b', blk_on h.b0 b', blk_on h.b1 b', blk_on h.b2 b'⟩

theorem J3.held {w X : World} {n a b m c d : Int} (h : J3 w X n a b m c d) : Below w.heap.size w X ∧ X.cell? ⟨w.heap.size, 0, none⟩ = some (.int .i64 n) ∧ X.cell? ⟨w.heap.size, 1, none⟩ = some (.int .u64 a) ∧ X.cell? ⟨w.heap.size, 2, none⟩ = some (.int .u64 b) ∧ X.cell? ⟨w.heap.size + 1, 0, none⟩ = some (.int .i64 m) ∧ X.cell? ⟨w.heap.size + 1, 1, none⟩ = some (.int .u64 c) ∧ X.cell? ⟨w.heap.size + 1, 2, none⟩ = some (.int .u64 d) :=
  ⟨h.below, (tri h.b0).1, (tri h.b0).2.1, (tri h.b0).2.2.1, (tri h.b1).1, (tri h.b1).2.1, (tri h.b1).2.2.1⟩

theorem j3_set {w X : World} {n a b m c d : Int} (h : Below w.heap.size w X ∧ X.cell? ⟨w.heap.size, 0, none⟩ = some (.int .i64 n) ∧ X.cell? ⟨w.heap.size, 1, none⟩ = some (.int .u64 a) ∧ X.cell? ⟨w.heap.size, 2, none⟩ = some (.int .u64 b) ∧ X.cell? ⟨w.heap.size + 1, 0, none⟩ = some (.int .i64 m) ∧ X.cell? ⟨w.heap.size + 1, 1, none⟩ = some (.int .u64 c) ∧ X.cell? ⟨w.heap.size + 1, 2, none⟩ = some (.int .u64 d)) (k : Nat) (u : Value) : Below w.heap.size w (X.setCell ⟨w.heap.size + 1 + 1, k, none⟩ u) ∧ (X.setCell ⟨w.heap.size + 1 + 1, k, none⟩ u).cell? ⟨w.heap.size, 0, none⟩ = some (.int .i64 n) ∧ (X.setCell ⟨w.heap.size + 1 + 1, k, none⟩ u).cell? ⟨w.heap.size, 1, none⟩ = some (.int .u64 a) ∧ (X.setCell ⟨w.heap.size + 1 + 1, k, none⟩ u).cell? ⟨w.heap.size, 2, none⟩ = some (.int .u64 b) ∧ (X.setCell ⟨w.heap.size + 1 + 1, k, none⟩ u).cell? ⟨w.heap.size + 1, 0, none⟩ = some (.int .i64 m) ∧ (X.setCell ⟨w.heap.size + 1 + 1, k, none⟩ u).cell? ⟨w.heap.size + 1, 1, none⟩ = some (.int .u64 c) ∧ (X.setCell ⟨w.heap.size + 1 + 1, k, none⟩ u).cell? ⟨w.heap.size + 1, 2, none⟩ = some (.int .u64 d) := by
  obtain ⟨h, h0, h1, h2, h3, h4, h5⟩ := h
  exact ⟨h.setCell (by simp; omega) _, cell_apart h0 (by dsimp only; omega), cell_apart h1 (by dsimp only; omega), cell_apart h2 (by dsimp only; omega), cell_apart h3 (by dsimp only; omega), cell_apart h4 (by dsimp only; omega), cell_apart h5 (by dsimp only; omega)⟩

set_option maxHeartbeats 1600000 in
set_option maxRecDepth 100000 in
theorem join_any (n a b m c d : Int) (w : World) :
    Calls Tryd.prog 12 #[.agg #[.int .i64 n, .int .u64 a, .int .u64 b], .agg #[.int .i64 m, .int .u64 c, .int .u64 d]] w fun e w' => e = .returned (.agg #[.int .i64 (IntKind.i64.wrap (n + m)), .int .u64 (IntKind.u64.wrap (a + c)), .int .u64 (IntKind.u64.wrap (b + d))]) ∧ Below w.heap.size w w' := by
  have J := aside (j3_st w n a b m c d)
  go_enter Tryd.func12, Tryd.ntmps12
  go_wp2_with fail
  generalize ((w.alloc (.cells #[.int .i64 n, .int .u64 a, .int .u64 b] 44)).alloc (.cells #[.int .i64 m, .int .u64 c, .int .u64 d] 44)).alloc (.cells #[.int .i64 0, .int .u64 0, .int .u64 0] 44) = V at *
  refine wp_region_held_drew (S := fun X => Below w.heap.size w X ∧ X.cell? ⟨w.heap.size, 0, none⟩ = some (.int .i64 n) ∧ X.cell? ⟨w.heap.size, 1, none⟩ = some (.int .u64 a) ∧ X.cell? ⟨w.heap.size, 2, none⟩ = some (.int .u64 b) ∧ X.cell? ⟨w.heap.size + 1, 0, none⟩ = some (.int .i64 m) ∧ X.cell? ⟨w.heap.size + 1, 1, none⟩ = some (.int .u64 c) ∧ X.cell? ⟨w.heap.size + 1, 2, none⟩ = some (.int .u64 d)) (by kernel_rfl) J.out.drew.held (fun hHeld => ?_)
  refine wpAnyH_take (i := 0) (v := ?_) rfl (by kernel_rfl) (by kernel_rfl) (by kernel_rfl) (fun _ _ _ h => h) (Or.inl ⟨by rfl, ?_⟩) (by assumption) ?_
  rotate_left
  · intro w hSw
    go_simp
    try with_reducible rfl
  simp only [Act.put, List.getElem_toArray, List.getElem_cons_zero, List.setIfInBounds_toArray, List.set_cons_zero, List.set_cons_succ]
  refine wpAnyH_take (i := 1) (v := ?_) rfl (by kernel_rfl) (by kernel_rfl) (by kernel_rfl) (fun _ _ _ h => h) (Or.inl ⟨by rfl, ?_⟩) (by assumption) ?_
  rotate_left
  · intro w hSw
    go_simp
    try with_reducible rfl
  simp only [Act.put, List.getElem_toArray, List.getElem_cons_zero, List.getElem_cons_succ, List.setIfInBounds_toArray, List.set_cons_zero, List.set_cons_succ]
  refine wpAnyH_take (i := 2) (v := ?_) rfl (by kernel_rfl) (by kernel_rfl) (by kernel_rfl) (fun _ _ _ h => h) (Or.inl ⟨by rfl, ?_⟩) (by assumption) ?_
  rotate_left
  · intro w hSw
    go_simp
    try with_reducible rfl
  simp only [Act.put, List.getElem_toArray, List.getElem_cons_zero, List.getElem_cons_succ, List.setIfInBounds_toArray, List.set_cons_zero, List.set_cons_succ]
  refine wpAnyH_take (i := 3) (v := ?_) rfl (by kernel_rfl) (by kernel_rfl) (by kernel_rfl) (fun _ _ _ h => h) (Or.inl ⟨by rfl, ?_⟩) (by assumption) ?_
  rotate_left
  · intro w hSw
    go_simp
    try with_reducible rfl
  simp only [Act.put, List.getElem_toArray, List.getElem_cons_zero, List.getElem_cons_succ, List.setIfInBounds_toArray, List.set_cons_zero, List.set_cons_succ]
  refine wpAnyH_take (i := 4) (v := ?_) rfl (by kernel_rfl) (by kernel_rfl) (by kernel_rfl) (fun _ _ _ h => h) (Or.inl ⟨by rfl, ?_⟩) (by assumption) ?_
  rotate_left
  · intro w hSw
    go_simp
    try with_reducible rfl
  simp only [Act.put, List.getElem_toArray, List.getElem_cons_zero, List.getElem_cons_succ, List.setIfInBounds_toArray, List.set_cons_zero, List.set_cons_succ]
  refine wpAnyH_take (i := 5) (v := ?_) rfl (by kernel_rfl) (by kernel_rfl) (by kernel_rfl) (fun _ _ _ h => h) (Or.inl ⟨by rfl, ?_⟩) (by assumption) ?_
  rotate_left
  · intro w hSw
    go_simp
    try with_reducible rfl
  simp only [Act.put, List.getElem_toArray, List.getElem_cons_zero, List.getElem_cons_succ, List.setIfInBounds_toArray, List.set_cons_zero, List.set_cons_succ]
  refine wpAnyH_take (i := 6) (v := ?_) rfl (by kernel_rfl) (by kernel_rfl) (by kernel_rfl) (fun _ _ _ h => h) (Or.inl ⟨by rfl, ?_⟩) (by assumption) ?_
  rotate_left
  · intro w hSw
    go_simp
    try with_reducible rfl
  simp only [Act.put, List.getElem_toArray, List.getElem_cons_zero, List.getElem_cons_succ, List.setIfInBounds_toArray, List.set_cons_zero, List.set_cons_succ]
  refine wpAnyH_take (i := 7) (v := ?_) rfl (by kernel_rfl) (by kernel_rfl) (by kernel_rfl) (fun _ _ _ h => h) (Or.inl ⟨by rfl, ?_⟩) (by assumption) ?_
  rotate_left
  · intro w hSw
    go_simp
    try with_reducible rfl
  simp only [Act.put, List.getElem_toArray, List.getElem_cons_zero, List.getElem_cons_succ, List.setIfInBounds_toArray, List.set_cons_zero, List.set_cons_succ]
  refine wpAnyH_take (i := 8) (v := ?_) rfl (by kernel_rfl) (by kernel_rfl) (by kernel_rfl) (fun _ _ _ h => h) (Or.inl ⟨by rfl, ?_⟩) (by assumption) ?_
  rotate_left
  · intro w hSw
    go_simp
    try with_reducible rfl
  simp only [Act.put, List.getElem_toArray, List.getElem_cons_zero, List.getElem_cons_succ, List.setIfInBounds_toArray, List.set_cons_zero, List.set_cons_succ]
  refine wpAnyH_ready (rs := [9]) (by kernel_rfl) (by simp) ?_
  refine AllReadyH.cons rfl (fun K hK => ?_) AllReadyH.nil
  go_simp
  refine (add_any _ _ _ _ _).mono ?_
  rintro e w9 ⟨rfl, bb⟩
  refine hK.out _ _ ((J.out.drew.keep bb).held) (fun hHeld => ?_)
  clear hK K 
  have J1 := aside (J.out.drew.keep bb)
  obtain ⟨s0, s1, s2, z0, z1, z2⟩ := tri J1.out.b2
  clear bb
  refine wpAnyH_take (i := 10) (v := ?_) rfl (by kernel_rfl) (by kernel_rfl) (by kernel_rfl) (fun _ _ _ h => h) (Or.inl ⟨by rfl, ?_⟩) (by assumption) ?_
  rotate_left
  · intro w hSw
    go_simp
    try with_reducible rfl
  simp only [Act.put, List.getElem_toArray, List.getElem_cons_zero, List.getElem_cons_succ, List.setIfInBounds_toArray, List.set_cons_zero, List.set_cons_succ]
  refine wpAnyH_ready (rs := [11]) (by kernel_rfl) (by simp) ?_
  refine AllReadyH.cons rfl (fun K hK => ?_) AllReadyH.nil
  go_simp
  refine hK.out _ _ (j3_set (j3_set (j3_set J1.out.held 0 _) 1 _) 2 _) (fun hHeld => ?_)
  clear hK K 
  refine wpAnyH_done (by kernel_rfl) ?_ _
  go_wp2
  exact bodyPost_ret (v := .agg #[.int .i64 (IntKind.i64.wrap (n + m)), .int .u64 (IntKind.u64.wrap (a + c)), .int .u64 (IntKind.u64.wrap (b + d))]) (by simp [results, Tryd.results12, go_sem, s0, s1, s2]) rfl ⟨rfl, ((J1.out.below.setCell (by simp; omega) _).setCell (by simp; omega) _).setCell (by simp; omega) _⟩

theorem join_at {n a b m c d r x y : Int} (h : IntKind.i64.wrap (n + m) = r) (h0 : IntKind.u64.wrap (a + c) = x) (h1 : IntKind.u64.wrap (b + d) = y) (w : World) :
    Calls Tryd.prog 12 #[.agg #[.int .i64 n, .int .u64 a, .int .u64 b], .agg #[.int .i64 m, .int .u64 c, .int .u64 d]] w fun e w' => e = .returned (.agg #[.int .i64 r, .int .u64 x, .int .u64 y]) ∧ Below w.heap.size w w' := by
  subst h h0 h1; exact join_any n a b m c d w



end Go.Proofs.YtlgcdcjhflihiabDoor
namespace Go.Proofs.YtlgcdcjhflihiabDoor
open Go.RowKit
set_option linter.unusedVariables false
set_option maxHeartbeats 1600000 in
theorem newMeter_any (w : World) :
    Calls Tryd.prog 31 #[] w fun e w' => e = .returned (.pointer (some ⟨w.heap.size, 0, none⟩)) ∧ w' = w.alloc (.cells #[.int .i64 0] 68) := by
  go_enter Tryd.func31, Tryd.ntmps31
  go_wp2
  go_ret
  exact ⟨rfl, rfl⟩

set_option maxHeartbeats 1600000 in
theorem joins_any {w : World} {b : Nat} {j : Int} (h : w.heap[b]? = some (.cells #[.int .i64 j] 68 (0, 0))) :
    Calls Tryd.prog 14 #[.pointer (some ⟨b, 0, none⟩)] w fun e w' => e = .returned (.int .i64 j) ∧ w' = w := by
  have c := cell_one h
  clear h
  go_enter Tryd.func14, Tryd.ntmps14
  go_wp2
  go_ret
  exact ⟨rfl, rfl⟩

set_option maxHeartbeats 1600000 in
set_option maxRecDepth 100000 in
theorem mjoin_at {w : World} {g : Nat} {j r n a b m c d s x y : Int} (hr : IntKind.i64.wrap (j + 1) = r) (hs : IntKind.i64.wrap (n + m) = s) (hx : IntKind.u64.wrap (a + c) = x) (hy : IntKind.u64.wrap (b + d) = y) (h : w.heap[g]? = some (.cells #[.int .i64 j] 68 (0, 0))) :
    Calls Tryd.prog 33 #[.pointer (some ⟨g, 0, none⟩), .agg #[.int .i64 n, .int .u64 a, .int .u64 b], .agg #[.int .i64 m, .int .u64 c, .int .u64 d]] w fun e w' => e = .returned (.agg #[.int .i64 s, .int .u64 x, .int .u64 y]) ∧ w'.heap[g]? = some (.cells #[.int .i64 r] 68 (0, 0)) ∧ Keeps (fun k => k = g) w w' := by
  have J := aside (j3_st w n a b m c d)
  have hlt := (Array.getElem?_eq_some_iff.1 h).1
  have H := aside (blk_on h (j3_st w n a b m c d).below)
  have c0 := cell_one H.out
  have z0 := frozen_one H.out
  have CJ := aside (fun W => join_at hs hx hy W)
  clear h hs hx hy
  go_enter Tryd.func33, Tryd.ntmps33
  go_wp2_with fail
  have G := aside (heap_setCell_same _ g 0 _ _ (.int .i64 r) H.out)
  have G2 := aside ((heap_setCell_other _ ⟨g, 0, none⟩ (w.heap.size + 1 + 1) (.int .i64 r) (by dsimp only; omega)).trans J.out.b2)
  have KK := aside (Keeps.setCell (S := fun k => k = g) (Keeps.of_below J.out.below _) (p := ⟨g, 0, none⟩) (fun _ => rfl) (.int .i64 r))
  generalize World.setCell (((w.alloc (.cells #[.int .i64 n, .int .u64 a, .int .u64 b] 44)).alloc (.cells #[.int .i64 m, .int .u64 c, .int .u64 d] 44)).alloc (.cells #[.int .i64 0, .int .u64 0, .int .u64 0] 44)) ⟨g, 0, none⟩ (.int .i64 r) = V at *
  clear J H c0 z0
  refine (CJ.out _).mono ?_
  rintro e w1 ⟨rfl, b1⟩
  have G' := aside (blk_on G.out b1)
  have G2' := aside (blk_on G2.out b1)
  have K1 := aside (KK.out.trans (Keeps.of_below b1 _))
  clear b1 G G2 KK
  obtain ⟨s0, s1, s2, z0, z1, z2⟩ := tri G2'.out
  go_wp2
  refine bodyPost_ret (v := .agg #[.int .i64 s, .int .u64 x, .int .u64 y]) (by simp [results, Tryd.results33, go_sem, s0, s1, s2]) rfl ⟨rfl, ?_, ?_⟩
  · rw [heap_setCell_other _ _ _ _ (by dsimp only; omega), heap_setCell_other _ _ _ _ (by dsimp only; omega), heap_setCell_other _ _ _ _ (by dsimp only; omega)]
    exact G'.out
  · exact ((K1.out.setCell (by intro h; simp at h; omega) _).setCell (by intro h; simp at h; omega) _).setCell (by intro h; simp at h; omega) _

end Go.Proofs.YtlgcdcjhflihiabDoor
namespace Go.Proofs.YtlgcdcjhflihiabDoor
open Go.RowKit
set_option linter.unusedVariables false

/-- both joins, and counts where the join counts. -/
def BothOkE (jv : Value) (c : Option Nat) : Prop :=
  ∀ (W : World) (tb n : Nat) (root : Option Addr) (a b : Tl), TObjE W tb jv root → CntE c n W → tSz a + tSz b ≤ 4611686018427387904 →
    Calls Tryd.prog 42 #[.pointer (some ⟨tb, 0, none⟩), .agg #[.int .i64 a.n, .int .u64 a.a, .int .u64 a.b], .agg #[.int .i64 b.n, .int .u64 b.a, .int .u64 b.b]] W fun e w' => e = .returned (.agg #[.int .i64 (tJoin a b).n, .int .u64 (tJoin a b).a, .int .u64 (tJoin a b).b]) ∧ CntE c (n + 1) w' ∧ Keeps (OnC c) W w'

theorem catch_idleE (p q : Addr) (w : World) :
    CallsD Tryd.prog 48 #[.pointer (some p), .pointer (some q)] .returning w fun e u' w' => e = .returned (.tuple #[]) ∧ u' = .returning ∧ w' = w := by
  refine callsD_of_wpS Tryd.func48 rfl fun c₀ cs hu => ?_
  apply wpS_seq
  apply wpS_region
  simp [wpOpsS, go_sem, recoverD, hu, Tryd.ntmps48, Exit.thenS]
  refine wpS_cond (t := false) (by simp [Act.eval, Array.replicate]) ?_
  simp only [Bool.false_eq_true, if_false]
  refine wpS_of_wp (wp_skip ?_)
  cases c₀
  simp_all [bodyPostS, results, Tryd.results48]

/-- What both has laid. -/
structure BStE (W V : World) (tb n : Nat) (jv : Value) (root : Option Addr) (c : Option Nat) (a b : Tl) : Prop where
  keeps : Keeps (OnC c) W V
  cnt : CntE c n V
  tobj : TObjE V tb jv root
  b0 : V.heap[W.heap.size]? = some (.cells #[.pointer (some ⟨tb, 0, none⟩)] 52 (0, 0))
  b1 : V.heap[W.heap.size + 1]? = some (.cells #[.int .i64 a.n, .int .u64 a.a, .int .u64 a.b] 44 (0, 0))
  b2 : V.heap[W.heap.size + 1 + 1]? = some (.cells #[.int .i64 b.n, .int .u64 b.a, .int .u64 b.b] 44 (0, 0))
  b3 : V.heap[W.heap.size + 1 + 1 + 1]? = some (.cells #[.int .i64 0, .int .u64 0, .int .u64 0] 44 (0, 0))

theorem BStE.drew {W V : World} {tb n : Nat} {jv : Value} {root : Option Addr} {c : Option Nat} {a b : Tl} (h : BStE W V tb n jv root c a b) : BStE W V.drew tb n jv root c a b := ⟨h.keeps.drew, h.cnt.drew, h.tobj, h.b0, h.b1, h.b2, h.b3⟩

theorem BStE.on {W V V' : World} {tb n m : Nat} {jv : Value} {root : Option Addr} {c : Option Nat} {a b : Tl} (h : BStE W V tb n jv root c a b) (hc : CntE c n W) (k : Keeps (OnC c) V V') (hm : CntE c m V') : BStE W V' tb m jv root c a b :=
  ⟨h.keeps.trans k, hm, h.tobj.onC h.cnt k, blk_keep h.b0 k (hc.lt (by omega)), blk_keep h.b1 k (hc.lt (by omega)), blk_keep h.b2 k (hc.lt (by omega)), blk_keep h.b3 k (hc.lt (by omega))⟩

theorem bstE {W : World} {tb n : Nat} {jv : Value} {root : Option Addr} {c : Option Nat} (a b : Tl) (hc : CntE c n W) (ht : TObjE W tb jv root) : BStE W ((((W.alloc (.cells #[.pointer (some ⟨tb, 0, none⟩)] 52)).alloc (.cells #[.int .i64 a.n, .int .u64 a.a, .int .u64 a.b] 44)).alloc (.cells #[.int .i64 b.n, .int .u64 b.a, .int .u64 b.b] 44)).alloc (.cells #[.int .i64 0, .int .u64 0, .int .u64 0] 44)) tb n jv root c a b := by
  refine ⟨?_, ?_, ?_, ?_, ?_, ?_, ?_⟩
  · exact ((((Keeps.refl _ W).alloc _).alloc _).alloc _).alloc _
  · exact (((hc.alloc _).alloc _).alloc _).alloc _
  · unfold TObjE at ht ⊢; exact blk_on (blk_on (blk_on (blk_on ht (bnew _ _)) (bnew _ _)) (bnew _ _)) (bnew _ _)
  · have h0 := heap_alloc_new W (.cells #[.pointer (some ⟨tb, 0, none⟩)] 52)
    try simp only [World.size_alloc] at h0
    exact blk_on (blk_on (blk_on (h0) (bnew _ _)) (bnew _ _)) (bnew _ _)
  · have h0 := heap_alloc_new (W.alloc (.cells #[.pointer (some ⟨tb, 0, none⟩)] 52)) (.cells #[.int .i64 a.n, .int .u64 a.a, .int .u64 a.b] 44)
    try simp only [World.size_alloc] at h0
    exact blk_on (blk_on (h0) (bnew _ _)) (bnew _ _)
  · have h0 := heap_alloc_new ((W.alloc (.cells #[.pointer (some ⟨tb, 0, none⟩)] 52)).alloc (.cells #[.int .i64 a.n, .int .u64 a.a, .int .u64 a.b] 44)) (.cells #[.int .i64 b.n, .int .u64 b.a, .int .u64 b.b] 44)
    try simp only [World.size_alloc] at h0
    exact blk_on (h0) (bnew _ _)
  · have h0 := heap_alloc_new (((W.alloc (.cells #[.pointer (some ⟨tb, 0, none⟩)] 52)).alloc (.cells #[.int .i64 a.n, .int .u64 a.a, .int .u64 a.b] 44)).alloc (.cells #[.int .i64 b.n, .int .u64 b.a, .int .u64 b.b] 44)) (.cells #[.int .i64 0, .int .u64 0, .int .u64 0] 44)
    try simp only [World.size_alloc] at h0
    exact h0

theorem BStE.held {W X : World} {tb n : Nat} {jv : Value} {root : Option Addr} {c : Option Nat} {a b : Tl} (h : BStE W X tb n jv root c a b) : X.cell? ⟨W.heap.size, 0, none⟩ = some (.pointer (some ⟨tb, 0, none⟩)) ∧ X.cell? ⟨W.heap.size + 1, 0, none⟩ = some (.int .i64 a.n) ∧ X.cell? ⟨W.heap.size + 1, 1, none⟩ = some (.int .u64 a.a) ∧ X.cell? ⟨W.heap.size + 1, 2, none⟩ = some (.int .u64 a.b) ∧ X.cell? ⟨W.heap.size + 1 + 1, 0, none⟩ = some (.int .i64 b.n) ∧ X.cell? ⟨W.heap.size + 1 + 1, 1, none⟩ = some (.int .u64 b.a) ∧ X.cell? ⟨W.heap.size + 1 + 1, 2, none⟩ = some (.int .u64 b.b) ∧ X.cell? ⟨tb, 3, none⟩ = some (jv) := ⟨(cell_one h.b0), (tri h.b1).1, (tri h.b1).2.1, (tri h.b1).2.2.1, (tri h.b2).1, (tri h.b2).2.1, (tri h.b2).2.2.1, (tobjE h.tobj).2.2.2.1⟩

theorem bst_set {W X : World} {tb n : Nat} {jv : Value} {root : Option Addr} {c : Option Nat} {a b : Tl} (h : X.cell? ⟨W.heap.size, 0, none⟩ = some (.pointer (some ⟨tb, 0, none⟩)) ∧ X.cell? ⟨W.heap.size + 1, 0, none⟩ = some (.int .i64 a.n) ∧ X.cell? ⟨W.heap.size + 1, 1, none⟩ = some (.int .u64 a.a) ∧ X.cell? ⟨W.heap.size + 1, 2, none⟩ = some (.int .u64 a.b) ∧ X.cell? ⟨W.heap.size + 1 + 1, 0, none⟩ = some (.int .i64 b.n) ∧ X.cell? ⟨W.heap.size + 1 + 1, 1, none⟩ = some (.int .u64 b.a) ∧ X.cell? ⟨W.heap.size + 1 + 1, 2, none⟩ = some (.int .u64 b.b) ∧ X.cell? ⟨tb, 3, none⟩ = some (jv)) (B : BStE W X tb n jv root c a b) (y : Tl) : (set3 X (W.heap.size + 1 + 1 + 1) y).cell? ⟨W.heap.size, 0, none⟩ = some (.pointer (some ⟨tb, 0, none⟩)) ∧ (set3 X (W.heap.size + 1 + 1 + 1) y).cell? ⟨W.heap.size + 1, 0, none⟩ = some (.int .i64 a.n) ∧ (set3 X (W.heap.size + 1 + 1 + 1) y).cell? ⟨W.heap.size + 1, 1, none⟩ = some (.int .u64 a.a) ∧ (set3 X (W.heap.size + 1 + 1 + 1) y).cell? ⟨W.heap.size + 1, 2, none⟩ = some (.int .u64 a.b) ∧ (set3 X (W.heap.size + 1 + 1 + 1) y).cell? ⟨W.heap.size + 1 + 1, 0, none⟩ = some (.int .i64 b.n) ∧ (set3 X (W.heap.size + 1 + 1 + 1) y).cell? ⟨W.heap.size + 1 + 1, 1, none⟩ = some (.int .u64 b.a) ∧ (set3 X (W.heap.size + 1 + 1 + 1) y).cell? ⟨W.heap.size + 1 + 1, 2, none⟩ = some (.int .u64 b.b) ∧ (set3 X (W.heap.size + 1 + 1 + 1) y).cell? ⟨tb, 3, none⟩ = some (jv) := by
  obtain ⟨h0, h1, h2, h3, h4, h5, h6, h7⟩ := h
  refine ⟨set3_cell y h0 (by dsimp only; omega), set3_cell y h1 (by dsimp only; omega), set3_cell y h2 (by dsimp only; omega), set3_cell y h3 (by dsimp only; omega), set3_cell y h4 (by dsimp only; omega), set3_cell y h5 (by dsimp only; omega), set3_cell y h6 (by dsimp only; omega), set3_cell y h7 ?_⟩
  intro e
  have h8 := B.tobj
  have h9 := B.b3
  unfold TObjE at h8
  dsimp only at e
  rw [e, h9] at h8
  simp at h8

theorem bst_end {W X : World} {tb n m : Nat} {jv : Value} {root : Option Addr} {c : Option Nat} {a b : Tl} (hc : CntE c m W) (B : BStE W X tb n jv root c a b) (y : Tl) :
    CntE c n (set3 X (W.heap.size + 1 + 1 + 1) y) ∧ Keeps (OnC c) W (set3 X (W.heap.size + 1 + 1 + 1) y) :=
  ⟨B.cnt.set3 (hc.lt (by omega)) y, B.keeps.set3 (fun e => by omega) y⟩

theorem meterE (f h : Tl) (g n : Nat) (w : World) (hc : CntE (some g) n w) :
    Calls Tryd.prog 33 #[.pointer (some ⟨g, 0, none⟩), .agg #[.int .i64 f.n, .int .u64 f.a, .int .u64 f.b], .agg #[.int .i64 h.n, .int .u64 h.a, .int .u64 h.b]] w fun e w' => e = .returned (.agg #[.int .i64 (tJoin f h).n, .int .u64 (tJoin f h).a, .int .u64 (tJoin f h).b]) ∧ CntE (some g) (n + 1) w' ∧ Keeps (OnC (some g)) w w' := by
  refine (mjoin_at (r := IntKind.i64.wrap ((n + 1 : Nat) : Int)) (by simp only [IntKind.wrap_i64]; omega) (tJoin_n f h) (tJoin_a f h) (tJoin_b f h) (hc g rfl)).mono fun e w' h => ⟨h.1, fun b e => ?_, h.2.2.mono (fun k _ e => by subst e; rfl)⟩
  cases e
  exact h.2.1

set_option maxHeartbeats 1600000 in
set_option maxRecDepth 100000 in
theorem bothE (g : Nat) : BothOkE (.func (.func 33) #[.pointer (some ⟨g, 0, none⟩)] #[]) (some g) := by
  intro W tb n root a b hT hC hS
  have hmf : ∀ (fn : Fn) (first cap : Array Value) (w : World), (Instr.makeFunc fn first cap).run Tryd.prog w = .ok (.func fn first cap) w := fun _ _ _ _ => rfl
  have CJ := aside (fun (w : World) (h : CntE (some g) n w) => meterE a b g n w h)
  have B := aside (bstE a b hC hT)
  have HC := aside hC
  clear hT hC hS
  go_enter_defers Tryd.func42, Tryd.ntmps42
  go_wp2_with fail
  generalize (((W.alloc (.cells #[.pointer (some ⟨tb, 0, none⟩)] 52)).alloc (.cells #[.int .i64 a.n, .int .u64 a.a, .int .u64 a.b] 44)).alloc (.cells #[.int .i64 b.n, .int .u64 b.a, .int .u64 b.b] 44)).alloc (.cells #[.int .i64 0, .int .u64 0, .int .u64 0] 44) = V at *
  refine wp_region_noPanic ?_
  refine wp_region_held_drew (S := fun X => X.cell? ⟨W.heap.size, 0, none⟩ = some (.pointer (some ⟨tb, 0, none⟩)) ∧ X.cell? ⟨W.heap.size + 1, 0, none⟩ = some (.int .i64 a.n) ∧ X.cell? ⟨W.heap.size + 1, 1, none⟩ = some (.int .u64 a.a) ∧ X.cell? ⟨W.heap.size + 1, 2, none⟩ = some (.int .u64 a.b) ∧ X.cell? ⟨W.heap.size + 1 + 1, 0, none⟩ = some (.int .i64 b.n) ∧ X.cell? ⟨W.heap.size + 1 + 1, 1, none⟩ = some (.int .u64 b.a) ∧ X.cell? ⟨W.heap.size + 1 + 1, 2, none⟩ = some (.int .u64 b.b) ∧ X.cell? ⟨tb, 3, none⟩ = some (.func (.func 33) #[.pointer (some ⟨g, 0, none⟩)] #[])) (by kernel_rfl) B.out.drew.held (fun hHeld => ?_)
  refine wpAnyH_take (i := 0) (v := ?_) rfl (by kernel_rfl) (by kernel_rfl) (by kernel_rfl) (fun _ _ _ h => h) (Or.inl ⟨by rfl, ?_⟩) (by assumption) ?_
  rotate_left
  · intro w hSw
    go_simp
    try with_reducible rfl
  simp only [Act.put, List.getElem_toArray, List.getElem_cons_zero, List.setIfInBounds_toArray, List.set_cons_zero, List.set_cons_succ]
  refine wpAnyH_take (i := 1) (v := ?_) rfl (by kernel_rfl) (by kernel_rfl) (by kernel_rfl) (fun _ _ _ h => h) (Or.inl ⟨by rfl, ?_⟩) (by assumption) ?_
  rotate_left
  · intro w hSw
    go_simp
    try with_reducible rfl
  simp only [Act.put, List.getElem_toArray, List.getElem_cons_zero, List.getElem_cons_succ, List.setIfInBounds_toArray, List.set_cons_zero, List.set_cons_succ]
  refine wpAnyH_take (i := 2) (v := ?_) rfl (by kernel_rfl) (by kernel_rfl) (by kernel_rfl) (fun _ _ _ h => h) (Or.inl ⟨by rfl, ?_⟩) (by assumption) ?_
  rotate_left
  · intro w hSw
    go_simp
    try with_reducible rfl
  simp only [Act.put, List.getElem_toArray, List.getElem_cons_zero, List.getElem_cons_succ, List.setIfInBounds_toArray, List.set_cons_zero, List.set_cons_succ]
  refine wpAnyH_take (i := 3) (v := ?_) rfl (by kernel_rfl) (by kernel_rfl) (by kernel_rfl) (fun _ _ _ h => h) (Or.inl ⟨by rfl, ?_⟩) (by assumption) ?_
  rotate_left
  · intro w hSw
    go_simp
    try with_reducible rfl
  simp only [Act.put, List.getElem_toArray, List.getElem_cons_zero, List.getElem_cons_succ, List.setIfInBounds_toArray, List.set_cons_zero, List.set_cons_succ]
  refine wpAnyH_take (i := 4) (v := ?_) rfl (by kernel_rfl) (by kernel_rfl) (by kernel_rfl) (fun _ _ _ h => h) (Or.inl ⟨by rfl, ?_⟩) (by assumption) ?_
  rotate_left
  · intro w hSw
    go_simp
    try with_reducible rfl
  simp only [Act.put, List.getElem_toArray, List.getElem_cons_zero, List.getElem_cons_succ, List.setIfInBounds_toArray, List.set_cons_zero, List.set_cons_succ]
  refine wpAnyH_take (i := 5) (v := ?_) rfl (by kernel_rfl) (by kernel_rfl) (by kernel_rfl) (fun _ _ _ h => h) (Or.inl ⟨by rfl, ?_⟩) (by assumption) ?_
  rotate_left
  · intro w hSw
    go_simp
    try with_reducible rfl
  simp only [Act.put, List.getElem_toArray, List.getElem_cons_zero, List.getElem_cons_succ, List.setIfInBounds_toArray, List.set_cons_zero, List.set_cons_succ]
  refine wpAnyH_ready (rs := [6]) (by kernel_rfl) (by simp) ?_
  refine AllReadyH.cons rfl (fun K hK => ?_) AllReadyH.nil
  go_simp
  refine (CJ.out _ B.out.drew.cnt).mono ?_
  rintro e w9 ⟨rfl, bc, kk⟩
  refine hK.out _ _ ((B.out.drew.on HC.out kk bc).held) (fun hHeld => ?_)
  clear hK K 
  have B1 := aside (B.out.drew.on HC.out kk bc)
  obtain ⟨s0, s1, s2, z0, z1, z2⟩ := tri B1.out.b3
  clear bc kk B
  refine wpAnyH_ready (rs := [7]) (by kernel_rfl) (by simp) ?_
  refine AllReadyH.cons rfl (fun K hK => ?_) AllReadyH.nil
  go_simp
  refine hK.out _ _ (bst_set hHeld B1.out (tJoin a b)) (fun hHeld => ?_)
  clear hK K 
  refine wpAnyH_done (by kernel_rfl) (NoPanic.normal ?_) _
  go_wp2
  have E := aside (bst_end HC.out B1.out (tJoin a b))
  obtain ⟨r0, r1, r2, -, -, -⟩ := tri (set3_same B1.out.b3 (tJoin a b))
  unfold set3 at E r0 r1 r2
  clear hHeld s0 s1 s2 z0 z1 z2 B1 CJ
  generalize ((w9.setCell ⟨W.heap.size + 1 + 1 + 1, 0, none⟩ (.int .i64 (tJoin a b).n)).setCell ⟨W.heap.size + 1 + 1 + 1, 1, none⟩ (.int .u64 (tJoin a b).a)).setCell ⟨W.heap.size + 1 + 1 + 1, 2, none⟩ (.int .u64 (tJoin a b).b) = W2 at *
  refine leaves_cons (f := 48) (args := #[.pointer (some ⟨W.heap.size, 0, none⟩), .pointer (some ⟨W.heap.size + 1 + 1 + 1, 0, none⟩)]) (by simp) (by simp [go_sem]) ?_
  refine (catch_idleE _ _ _).mono ?_
  rintro e u' w'' ⟨rfl, rfl, rfl⟩
  simp [Leaves, settle, results, Tryd.results42, go_sem, r0, r1, r2]
  exact E.out

end Go.Proofs.YtlgcdcjhflihiabDoor
namespace Go.Proofs.YtlgcdcjhflihiabDoor
open Go.RowKit
set_option linter.unusedVariables false

/-- What hang has laid; x is the sum so far. -/
structure HStE (w V : World) (tb n : Nat) (jv : Value) (root : Option Addr) (c : Option Nat) (k : ByteArray) (v : En) (s x : Tl) (l r : Tr En Tl) (lp rp : Option Addr) : Prop where
  keeps : Keeps (OnC c) w V
  cnt : CntE c n V
  tobj : TObjE V tb jv root
  row : V.heap[w.heap.size]? = some (.cells #[.string k, .string v.k, .int .i64 v.c, .int .i64 v.n, .string v.v, .bool v.d, .int .i64 s.n, .int .u64 s.a, .int .u64 s.b] 89 (0, 0))
  sm : V.heap[w.heap.size + 1]? = some (.cells #[.int .i64 x.n, .int .u64 x.a, .int .u64 x.b] 44 (0, 0))
  l : IsTE V lp l
  r : IsTE V rp r

theorem HStE.drew {w V : World} {tb n : Nat} {jv : Value} {root : Option Addr} {c : Option Nat} {k : ByteArray} {v : En} {s x : Tl} {l r : Tr En Tl} {lp rp : Option Addr} (h : HStE w V tb n jv root c k v s x l r lp rp) : HStE w V.drew tb n jv root c k v s x l r lp rp := ⟨h.keeps.drew, h.cnt.drew, h.tobj, h.row, h.sm, h.l.on (Stay.refl _ _).drew, h.r.on (Stay.refl _ _).drew⟩

theorem HStE.on {w V : World} {tb n : Nat} {jv : Value} {root : Option Addr} {c : Option Nat} {k : ByteArray} {v : En} {s x : Tl} {l r : Tr En Tl} {lp rp : Option Addr} {V' : World} {m n0 : Nat} (h : HStE w V tb n jv root c k v s x l r lp rp) (h0 : CntE c n0 w) (kk : Keeps (OnC c) V V') (hm : CntE c m V') : HStE w V' tb m jv root c k v s x l r lp rp :=
  ⟨h.keeps.trans kk, hm, h.tobj.onC h.cnt kk, blk_keep h.row kk (h0.lt (by omega)), blk_keep h.sm kk (h0.lt (by omega)), h.l.on ((Stay.refl _ _).onE h.cnt kk (by decide)), h.r.on ((Stay.refl _ _).onE h.cnt kk (by decide))⟩

theorem HStE.set {w V : World} {tb n : Nat} {jv : Value} {root : Option Addr} {c : Option Nat} {k : ByteArray} {v : En} {s x : Tl} {l r : Tr En Tl} {lp rp : Option Addr} {n0 : Nat} (h : HStE w V tb n jv root c k v s x l r lp rp) (h0 : CntE c n0 w) (y : Tl) : HStE w (set3 V (w.heap.size + 1) y) tb n jv root c k v s y l r lp rp := by
  have st : Stay 91 V (set3 V (w.heap.size + 1) y) := (Stay.refl _ V).set3 h.sm (by decide) y
  refine ⟨h.keeps.set3 (fun e => by omega) y, h.cnt.set3 (h0.lt (by omega)) y, ?_, ?_, set3_same h.sm y, h.l.on st, h.r.on st⟩
  · have ht := h.tobj
    unfold TObjE at ht ⊢
    have hne : tb ≠ w.heap.size + 1 := fun e => by rw [e, h.sm] at ht; simp at ht
    rw [set3_other _ _ _ _ hne]
    exact ht
  · rw [set3_other _ _ _ _ (by omega)]
    exact h.row

theorem hstE {w : World} {tb n : Nat} {jv : Value} {root : Option Addr} {c : Option Nat} {l r : Tr En Tl} {lp rp : Option Addr} (k : ByteArray) (v : En) (s : Tl) (ht : TObjE w tb jv root) (hc : CntE c n w) (hl : IsTE w lp l) (hr : IsTE w rp r) :
    HStE w ((w.alloc (.cells #[.string k, .string v.k, .int .i64 v.c, .int .i64 v.n, .string v.v, .bool v.d, .int .i64 s.n, .int .u64 s.a, .int .u64 s.b] 89)).alloc (.cells #[.int .i64 s.n, .int .u64 s.a, .int .u64 s.b] 44)) tb n jv root c k v s s l r lp rp := by
  have st : Stay 91 w ((w.alloc (.cells #[.string k, .string v.k, .int .i64 v.c, .int .i64 v.n, .string v.v, .bool v.d, .int .i64 s.n, .int .u64 s.a, .int .u64 s.b] 89)).alloc (.cells #[.int .i64 s.n, .int .u64 s.a, .int .u64 s.b] 44)) := ((Stay.refl _ w).alloc _).alloc _
  have h1 := heap_alloc_new (w.alloc (.cells #[.string k, .string v.k, .int .i64 v.c, .int .i64 v.n, .string v.v, .bool v.d, .int .i64 s.n, .int .u64 s.a, .int .u64 s.b] 89)) (.cells #[.int .i64 s.n, .int .u64 s.a, .int .u64 s.b] 44)
  simp only [World.size_alloc] at h1
  refine ⟨((Keeps.refl _ w).alloc _).alloc _, (hc.alloc _).alloc _, ?_, blk_on (heap_alloc_new w _) (bnew _ _), h1, hl.on st, hr.on st⟩
  unfold TObjE at ht ⊢
  exact blk_on (blk_on ht (bnew _ _)) (bnew _ _)

theorem HStE.alloc {w V : World} {tb n : Nat} {jv : Value} {root : Option Addr} {c : Option Nat} {k : ByteArray} {v : En} {s x : Tl} {l r : Tr En Tl} {lp rp : Option Addr} (h : HStE w V tb n jv root c k v s x l r lp rp) (o : Obj) : HStE w (V.alloc o) tb n jv root c k v s x l r lp rp := by
  refine ⟨h.keeps.alloc _, h.cnt.alloc _, ?_, blk_on h.row (bnew _ _), blk_on h.sm (bnew _ _), h.l.on ((Stay.refl _ _).alloc _), h.r.on ((Stay.refl _ _).alloc _)⟩
  have ht := h.tobj
  unfold TObjE at ht ⊢
  exact blk_on ht (bnew _ _)

theorem hangDoneE {w V : World} {tb n : Nat} {jv : Value} {root : Option Addr} {c : Option Nat} {k : ByteArray} {v : En} {s x : Tl} {l r : Tr En Tl} {lp rp : Option Addr} {n0 : Nat} {mh : Int} (hm : (if l.ht < r.ht then (r.ht : Int) else (l.ht : Int)) = mh) (h : HStE w V tb n jv root c k v s x l r lp rp) (hx : x = (Tr.node l k v s r).sum tJoin tZero) (hn : n = n0 + Tr.hangC l r) (hw : (Tr.node l k v s r).wt tSz ≤ 4611686018427387904) :
    (fun V' : World => ∃ p, Ending.returned (.pointer (some ⟨V.heap.size, 0, none⟩)) = .returned (.pointer p) ∧ IsTE V' p (Tr.node l k v s r) ∧ CntE c (n0 + Tr.hangC l r) V' ∧ Keeps (OnC c) w V') (World.drew (V.alloc (.cells #[.string k, .string v.k, .int .i64 v.c, .int .i64 v.n, .string v.v, .bool v.d, .int .i64 s.n, .int .u64 s.a, .int .u64 s.b, .pointer lp, .pointer rp, .int .i64 (IntKind.i64.wrap (IntKind.i64.wrap ((l.cnt : Int) + 1) + (r.cnt : Int))), .int .i64 (IntKind.i64.wrap (mh + 1)), .int .i64 x.n, .int .u64 x.a, .int .u64 x.b] 91))) := by
  subst hm
  have h1 := Tr.cnt_le_wt tSz (Tr.node l k v s r)
  have h2 := Tr.ht_le_cnt (Tr.node l k v s r)
  have e1 : IntKind.i64.wrap (IntKind.i64.wrap ((l.cnt : Int) + 1) + (r.cnt : Int)) = ((Tr.node l k v s r).cnt : Int) := by
    simp only [Tr.cnt] at h1 ⊢
    simp only [IntKind.wrap_i64]
    omega
  have e2 : IntKind.i64.wrap ((if l.ht < r.ht then (r.ht : Int) else (l.ht : Int)) + 1) = ((Tr.node l k v s r).ht : Int) := by
    simp only [Tr.ht, Tr.cnt] at h1 h2 ⊢
    split <;> simp only [IntKind.wrap_i64] <;> omega
  rw [e1, e2]
  subst hx hn
  exact ⟨_, rfl, ⟨_, _, _, rfl, heap_alloc_new V _, h.l.on ((Stay.refl _ _).alloc _).drew, h.r.on ((Stay.refl _ _).alloc _).drew⟩, (h.cnt.alloc _).drew, (h.keeps.alloc _).drew⟩

theorem HStE.held {w X : World} {tb n : Nat} {jv : Value} {root : Option Addr} {c : Option Nat} {k : ByteArray} {v : En} {s x : Tl} {l r : Tr En Tl} {lp rp : Option Addr} (h : HStE w X tb n jv root c k v s x l r lp rp) : X.cell? ⟨w.heap.size, 0, none⟩ = some (.string k) ∧ X.cell? ⟨w.heap.size, 1, none⟩ = some (.string v.k) ∧ X.cell? ⟨w.heap.size, 2, none⟩ = some (.int .i64 v.c) ∧ X.cell? ⟨w.heap.size, 3, none⟩ = some (.int .i64 v.n) ∧ X.cell? ⟨w.heap.size, 4, none⟩ = some (.string v.v) ∧ X.cell? ⟨w.heap.size, 5, none⟩ = some (.bool v.d) ∧ X.cell? ⟨w.heap.size, 6, none⟩ = some (.int .i64 s.n) ∧ X.cell? ⟨w.heap.size, 7, none⟩ = some (.int .u64 s.a) ∧ X.cell? ⟨w.heap.size, 8, none⟩ = some (.int .u64 s.b) ∧ X.cell? ⟨w.heap.size + 1, 0, none⟩ = some (.int .i64 x.n) ∧ X.cell? ⟨w.heap.size + 1, 1, none⟩ = some (.int .u64 x.a) ∧ X.cell? ⟨w.heap.size + 1, 2, none⟩ = some (.int .u64 x.b) ∧ Hid (HStE w X tb n jv root c k v s x l r lp rp) := by
  have h1 := h.row
  have h2 := h.sm
  simp only [World.cell?, h1, h2]
  exact ⟨rfl, rfl, rfl, rfl, rfl, rfl, rfl, rfl, rfl, rfl, rfl, rfl, h⟩

end Go.Proofs.YtlgcdcjhflihiabDoor
namespace Go.Proofs.YtlgcdcjhflihiabDoor
open Go.RowKit
set_option linter.unusedVariables false

set_option maxHeartbeats 3200000 in
set_option maxRecDepth 100000 in
theorem hangE00 {jv : Value} {c : Option Nat} (HB : BothOkE jv c) {w : World} {tb n : Nat} {root : Option Addr} {l r : Tr En Tl} (k : ByteArray) (v : En) (s : Tl)
    (ht : TObjE w tb jv root) (hc : CntE c n w) (hl : IsTE w none l) (hr : IsTE w none r) (hw : (Tr.node l k v s r).wt tSz ≤ 4611686018427387904) (hnl : l.isNil = true) (hnr : r.isNil = true) :
    Calls Tryd.prog 43 #[.pointer (some ⟨tb, 0, none⟩), .agg #[.string k, .string v.k, .int .i64 v.c, .int .i64 v.n, .string v.v, .bool v.d, .int .i64 s.n, .int .u64 s.a, .int .u64 s.b], .pointer none, .pointer none] w fun e w' => ∃ p, e = .returned (.pointer p) ∧ IsTE w' p (Tr.node l k v s r) ∧ CntE c (n + Tr.hangC l r) w' ∧ Keeps (OnC c) w w' := by
  have H0 := aside (hstE k v s ht hc hl hr)
  have HC := aside hc
  have HW := aside hw
  simp only [Tr.wt] at hw
  clear ht hc hl hr hw
  go_enter Tryd.func43, Tryd.ntmps43
  go_wp2_with fail
  generalize (w.alloc (.cells #[.string k, .string v.k, .int .i64 v.c, .int .i64 v.n, .string v.v, .bool v.d, .int .i64 s.n, .int .u64 s.a, .int .u64 s.b] 89)).alloc (.cells #[.int .i64 s.n, .int .u64 s.a, .int .u64 s.b] 44) = V at *
  refine wp_region_held_drew (S := fun X => X.cell? ⟨w.heap.size, 0, none⟩ = some (.string k) ∧ X.cell? ⟨w.heap.size, 1, none⟩ = some (.string v.k) ∧ X.cell? ⟨w.heap.size, 2, none⟩ = some (.int .i64 v.c) ∧ X.cell? ⟨w.heap.size, 3, none⟩ = some (.int .i64 v.n) ∧ X.cell? ⟨w.heap.size, 4, none⟩ = some (.string v.v) ∧ X.cell? ⟨w.heap.size, 5, none⟩ = some (.bool v.d) ∧ X.cell? ⟨w.heap.size, 6, none⟩ = some (.int .i64 s.n) ∧ X.cell? ⟨w.heap.size, 7, none⟩ = some (.int .u64 s.a) ∧ X.cell? ⟨w.heap.size, 8, none⟩ = some (.int .u64 s.b) ∧ X.cell? ⟨w.heap.size + 1, 0, none⟩ = some (.int .i64 s.n) ∧ X.cell? ⟨w.heap.size + 1, 1, none⟩ = some (.int .u64 s.a) ∧ X.cell? ⟨w.heap.size + 1, 2, none⟩ = some (.int .u64 s.b) ∧ Hid (HStE w X tb n jv root c k v s s l r none none)) (by kernel_rfl) H0.out.drew.held (fun hHeld => ?_)
  refine wpAnyH_take (i := 0) (v := ?_) rfl (by kernel_rfl) (by kernel_rfl) (by kernel_rfl) (fun _ _ _ h => h) (Or.inl ⟨by rfl, ?_⟩) (by assumption) ?_
  rotate_left
  · intro w hSw
    go_simp
    try with_reducible rfl
  simp only [Act.put, List.getElem_toArray, List.getElem_cons_zero, List.setIfInBounds_toArray, List.set_cons_zero, List.set_cons_succ]
  refine wpAnyH_take (i := 1) (v := ?_) rfl (by kernel_rfl) (by kernel_rfl) (by kernel_rfl) (fun _ _ _ h => h) (Or.inl ⟨by rfl, ?_⟩) (by assumption) ?_
  rotate_left
  · intro w hSw
    go_simp
    try with_reducible rfl
  simp only [Act.put, List.getElem_toArray, List.getElem_cons_zero, List.getElem_cons_succ, List.setIfInBounds_toArray, List.set_cons_zero, List.set_cons_succ]
  refine wpAnyH_take (i := 2) (v := ?_) rfl (by kernel_rfl) (by kernel_rfl) (by kernel_rfl) (fun _ _ _ h => h) (Or.inl ⟨by rfl, ?_⟩) (by assumption) ?_
  rotate_left
  · intro w hSw
    go_simp
    try with_reducible rfl
  simp only [Act.put, List.getElem_toArray, List.getElem_cons_zero, List.getElem_cons_succ, List.setIfInBounds_toArray, List.set_cons_zero, List.set_cons_succ]
  refine wpAnyH_take (i := 3) (v := ?_) rfl (by kernel_rfl) (by kernel_rfl) (by kernel_rfl) (fun _ _ _ h => h) (Or.inl ⟨by rfl, ?_⟩) (by assumption) ?_
  rotate_left
  · intro w hSw
    go_simp
    try with_reducible rfl
  simp only [Act.put, List.getElem_toArray, List.getElem_cons_zero, List.getElem_cons_succ, List.setIfInBounds_toArray, List.set_cons_zero, List.set_cons_succ]
  refine wpAnyH_take (i := 6) (v := ?_) rfl (by kernel_rfl) (by kernel_rfl) (by kernel_rfl) (fun _ _ _ h => h) (Or.inl ⟨by rfl, ?_⟩) (by assumption) ?_
  rotate_left
  · intro w hSw
    go_simp
    try with_reducible rfl
  simp only [Act.put, List.getElem_toArray, List.getElem_cons_zero, List.getElem_cons_succ, List.setIfInBounds_toArray, List.set_cons_zero, List.set_cons_succ]
  refine wpAnyH_take (i := 9) (v := ?_) rfl (by kernel_rfl) (by kernel_rfl) (by kernel_rfl) (fun _ _ _ h => h) (Or.inl ⟨by rfl, ?_⟩) (by assumption) ?_
  rotate_left
  · intro w hSw
    go_simp
    try with_reducible rfl
  simp only [Act.put, List.getElem_toArray, List.getElem_cons_zero, List.getElem_cons_succ, List.setIfInBounds_toArray, List.set_cons_zero, List.set_cons_succ]
  refine wpAnyH_take (i := 11) (v := ?_) rfl (by kernel_rfl) (by kernel_rfl) (by kernel_rfl) (fun _ _ _ h => h) (Or.inl ⟨by rfl, ?_⟩) (by assumption) ?_
  rotate_left
  · intro w hSw
    go_simp
    try with_reducible rfl
  simp only [Act.put, List.getElem_toArray, List.getElem_cons_zero, List.getElem_cons_succ, List.setIfInBounds_toArray, List.set_cons_zero, List.set_cons_succ]
  refine wpAnyH_take (i := 15) (v := ?_) rfl (by kernel_rfl) (by kernel_rfl) (by kernel_rfl) (fun _ _ _ h => h) (Or.inl ⟨by rfl, ?_⟩) (by assumption) ?_
  rotate_left
  · intro w hSw
    go_simp
    try with_reducible rfl
  simp only [Act.put, List.getElem_toArray, List.getElem_cons_zero, List.getElem_cons_succ, List.setIfInBounds_toArray, List.set_cons_zero, List.set_cons_succ]
  refine wpAnyH_ready (rs := [4]) (by kernel_rfl) (by simp) ?_
  refine AllReadyH.cons rfl (fun K hK => ?_) AllReadyH.nil
  go_simp
  refine (rowsE hHeld.2.2.2.2.2.2.2.2.2.2.2.2.out.l).mono ?_
  rintro e w9 ⟨rfl, rfl⟩
  refine hK.out _ _ (hHeld) (fun hHeld => ?_)
  clear hK K 
  refine wpAnyH_take (i := 5) (v := ?_) rfl (by kernel_rfl) (by kernel_rfl) (by kernel_rfl) (fun _ _ _ h => h) (Or.inl ⟨by rfl, ?_⟩) (by assumption) ?_
  rotate_left
  · intro w hSw
    go_simp
    try with_reducible rfl
  simp only [Act.put, List.getElem_toArray, List.getElem_cons_zero, List.getElem_cons_succ, List.setIfInBounds_toArray, List.set_cons_zero, List.set_cons_succ]
  refine wpAnyH_ready (rs := [7]) (by kernel_rfl) (by simp) ?_
  refine AllReadyH.cons rfl (fun K hK => ?_) AllReadyH.nil
  go_simp
  refine (rowsE hHeld.2.2.2.2.2.2.2.2.2.2.2.2.out.r).mono ?_
  rintro e w9 ⟨rfl, rfl⟩
  refine hK.out _ _ (hHeld) (fun hHeld => ?_)
  clear hK K 
  refine wpAnyH_take (i := 8) (v := ?_) rfl (by kernel_rfl) (by kernel_rfl) (by kernel_rfl) (fun _ _ _ h => h) (Or.inl ⟨by rfl, ?_⟩) (by assumption) ?_
  rotate_left
  · intro w hSw
    go_simp
    try with_reducible rfl
  simp only [Act.put, List.getElem_toArray, List.getElem_cons_zero, List.getElem_cons_succ, List.setIfInBounds_toArray, List.set_cons_zero, List.set_cons_succ]
  refine wpAnyH_ready (rs := [10]) (by kernel_rfl) (by simp) ?_
  refine AllReadyH.cons rfl (fun K hK => ?_) AllReadyH.nil
  go_simp
  refine (levelsE hHeld.2.2.2.2.2.2.2.2.2.2.2.2.out.l).mono ?_
  rintro e w9 ⟨rfl, rfl⟩
  refine hK.out _ _ (hHeld) (fun hHeld => ?_)
  clear hK K 
  refine wpAnyH_ready (rs := [12]) (by kernel_rfl) (by simp) ?_
  refine AllReadyH.cons rfl (fun K hK => ?_) AllReadyH.nil
  go_simp
  refine (levelsE hHeld.2.2.2.2.2.2.2.2.2.2.2.2.out.r).mono ?_
  rintro e w9 ⟨rfl, rfl⟩
  refine hK.out _ _ (hHeld) (fun hHeld => ?_)
  clear hK K 
  refine wpAnyH_take (i := 13) (v := ?_) rfl (by kernel_rfl) (by kernel_rfl) (by kernel_rfl) (fun _ _ _ h => h) (Or.inl ⟨by rfl, ?_⟩) (by assumption) ?_
  rotate_left
  · intro w hSw
    go_simp
    try with_reducible rfl
  simp only [Act.put, List.getElem_toArray, List.getElem_cons_zero, List.getElem_cons_succ, List.setIfInBounds_toArray, List.set_cons_zero, List.set_cons_succ]
  generalize hm : (if l.ht < r.ht then (r.ht : Int) else (l.ht : Int)) = mh
  have HM := aside hm
  clear hm
  refine wpAnyH_take (i := 14) (v := ?_) rfl (by kernel_rfl) (by kernel_rfl) (by kernel_rfl) (fun _ _ _ h => h) (Or.inl ⟨by rfl, ?_⟩) (by assumption) ?_
  rotate_left
  · intro w hSw
    go_simp
    try with_reducible rfl
  simp only [Act.put, List.getElem_toArray, List.getElem_cons_zero, List.getElem_cons_succ, List.setIfInBounds_toArray, List.set_cons_zero, List.set_cons_succ]
  refine wpAnyH_take (i := 16) (v := ?_) rfl (by kernel_rfl) (by kernel_rfl) (by kernel_rfl) (fun _ _ _ h => h) (Or.inl ⟨by rfl, ?_⟩) (by assumption) ?_
  rotate_left
  · intro w hSw
    go_simp
    try with_reducible rfl
  simp only [Act.put, List.getElem_toArray, List.getElem_cons_zero, List.getElem_cons_succ, List.setIfInBounds_toArray, List.set_cons_zero, List.set_cons_succ]
  refine wpAnyH_ready (rs := [17]) (by kernel_rfl) (by simp) ?_
  refine AllReadyH.cons rfl (fun K hK => ?_) AllReadyH.nil
  go_simp
  refine hK.out _ _ ((hHeld.2.2.2.2.2.2.2.2.2.2.2.2.out.alloc _).held) (fun hHeld => ?_)
  clear hK K 
  refine wpAnyH_take (i := 18) (v := ?_) rfl (by kernel_rfl) (by kernel_rfl) (by kernel_rfl) (fun _ _ _ h => h) (Or.inl ⟨by rfl, ?_⟩) (by assumption) ?_
  rotate_left
  · intro w hSw
    go_simp
    try with_reducible rfl
  simp only [Act.put, List.getElem_toArray, List.getElem_cons_zero, List.getElem_cons_succ, List.setIfInBounds_toArray, List.set_cons_zero, List.set_cons_succ]
  refine wpAnyH_done (by kernel_rfl) ?_ _
  go_wp2
  refine bodyPost_ret (v := .pointer (some ⟨V.heap.size, 0, none⟩)) (by simp [results, Tryd.results43, go_sem]) rfl ?_
  exact hangDoneE (n0 := n) HM.out H0.out (by simp [Tr.sum, hnl, hnr]) (by simp [Tr.hangC, hnl, hnr]) HW.out

end Go.Proofs.YtlgcdcjhflihiabDoor
namespace Go.Proofs.YtlgcdcjhflihiabDoor
open Go.RowKit
set_option linter.unusedVariables false

set_option maxHeartbeats 3200000 in
set_option maxRecDepth 100000 in
theorem hangE01 {jv : Value} {c : Option Nat} (HB : BothOkE jv c) {w : World} {tb n : Nat} {root : Option Addr} {l r : Tr En Tl} {br : Nat} (k : ByteArray) (v : En) (s : Tl)
    (ht : TObjE w tb jv root) (hc : CntE c n w) (hl : IsTE w none l) (hr : IsTE w (some ⟨br, 0, none⟩) r) (hw : (Tr.node l k v s r).wt tSz ≤ 4611686018427387904) (hnl : l.isNil = true) (hnr : r.isNil = false) :
    Calls Tryd.prog 43 #[.pointer (some ⟨tb, 0, none⟩), .agg #[.string k, .string v.k, .int .i64 v.c, .int .i64 v.n, .string v.v, .bool v.d, .int .i64 s.n, .int .u64 s.a, .int .u64 s.b], .pointer none, .pointer (some ⟨br, 0, none⟩)] w fun e w' => ∃ p, e = .returned (.pointer p) ∧ IsTE w' p (Tr.node l k v s r) ∧ CntE c (n + Tr.hangC l r) w' ∧ Keeps (OnC c) w w' := by
  have H0 := aside (hstE k v s ht hc hl hr)
  have HC := aside hc
  have HW := aside hw
  simp only [Tr.wt] at hw
  have hsr := Tr.sum_le tSz_le tZero r hnr
  have hler : tSz s + tSz (r.sum tJoin tZero) ≤ 4611686018427387904 := by omega
  clear ht hc hl hr hw hsr
  go_enter Tryd.func43, Tryd.ntmps43
  go_wp2_with fail
  generalize (w.alloc (.cells #[.string k, .string v.k, .int .i64 v.c, .int .i64 v.n, .string v.v, .bool v.d, .int .i64 s.n, .int .u64 s.a, .int .u64 s.b] 89)).alloc (.cells #[.int .i64 s.n, .int .u64 s.a, .int .u64 s.b] 44) = V at *
  refine wp_region_held_drew (S := fun X => X.cell? ⟨br, 13, none⟩ = some (.int .i64 (r.sum tJoin tZero).n) ∧ X.cell? ⟨br, 14, none⟩ = some (.int .u64 (r.sum tJoin tZero).a) ∧ X.cell? ⟨br, 15, none⟩ = some (.int .u64 (r.sum tJoin tZero).b)) (by kernel_rfl) (sumAtE H0.out.drew.r) (fun hHeld => ?_)
  refine wpAnyH_take (i := 0) (v := ?_) rfl (by kernel_rfl) (by kernel_rfl) (by kernel_rfl) (fun _ _ _ h => h) (Or.inl ⟨by rfl, ?_⟩) (by assumption) ?_
  rotate_left
  · intro w hSw
    go_simp
    try with_reducible rfl
  simp only [Act.put, List.getElem_toArray, List.getElem_cons_zero, List.setIfInBounds_toArray, List.set_cons_zero, List.set_cons_succ]
  refine wpAnyH_take (i := 2) (v := ?_) rfl (by kernel_rfl) (by kernel_rfl) (by kernel_rfl) (fun _ _ _ h => h) (Or.inl ⟨by rfl, ?_⟩) (by assumption) ?_
  rotate_left
  · intro w hSw
    go_simp
    try with_reducible rfl
  simp only [Act.put, List.getElem_toArray, List.getElem_cons_zero, List.getElem_cons_succ, List.setIfInBounds_toArray, List.set_cons_zero, List.set_cons_succ]
  refine wpAnyH_take (i := 3) (v := ?_) rfl (by kernel_rfl) (by kernel_rfl) (by kernel_rfl) (fun _ _ _ h => h) (Or.inl ⟨by rfl, ?_⟩) (by assumption) ?_
  rotate_left
  · intro w hSw
    go_simp
    try with_reducible rfl
  simp only [Act.put, List.getElem_toArray, List.getElem_cons_zero, List.getElem_cons_succ, List.setIfInBounds_toArray, List.set_cons_zero, List.set_cons_succ]
  refine wpAnyH_take (i := 4) (v := ?_) rfl (by kernel_rfl) (by kernel_rfl) (by kernel_rfl) (fun _ _ _ h => h) (Or.inl ⟨by rfl, ?_⟩) (by assumption) ?_
  rotate_left
  · intro w hSw
    go_simp
    try with_reducible rfl
  simp only [Act.put, List.getElem_toArray, List.getElem_cons_zero, List.getElem_cons_succ, List.setIfInBounds_toArray, List.set_cons_zero, List.set_cons_succ]
  refine wpAnyH_take (i := 5) (v := ?_) rfl (by kernel_rfl) (by kernel_rfl) (by kernel_rfl) (fun _ _ _ h => h) (Or.inl ⟨by rfl, ?_⟩) (by assumption) ?_
  rotate_left
  · intro w hSw
    go_simp
    try with_reducible rfl
  simp only [Act.put, List.getElem_toArray, List.getElem_cons_zero, List.getElem_cons_succ, List.setIfInBounds_toArray, List.set_cons_zero, List.set_cons_succ]
  obtain ⟨s0, s1, s2, z0, z1, z2⟩ := tri H0.out.drew.sm
  refine wpAnyH_ready (rs := [1]) (by kernel_rfl) (by simp) ?_
  refine AllReadyH.cons rfl (fun K hK => ?_) AllReadyH.nil
  go_simp
  refine hK.out _ _ (hHeld) (fun hHeld => ?_)
  clear hK K 
  clear s0 s1 s2 z0 z1 z2
  refine wpAnyH_ready (rs := [6]) (by kernel_rfl) (by simp) ?_
  refine AllReadyH.cons rfl (fun K hK => ?_) AllReadyH.nil
  go_simp
  refine (HB _ tb n root s (r.sum tJoin tZero) H0.out.drew.tobj H0.out.drew.cnt hler).mono ?_
  rintro e w9 ⟨rfl, bc, kk⟩
  refine hK.out _ _ (sumAtE (H0.out.drew.on HC.out kk bc).r) (fun hHeld => ?_)
  clear hK K 
  have H0ra := aside (H0.out.drew.on HC.out kk bc)
  obtain ⟨s0, s1, s2, z0, z1, z2⟩ := tri H0ra.out.sm
  clear bc kk H0
  refine wpAnyH_ready (rs := [7]) (by kernel_rfl) (by simp) ?_
  refine AllReadyH.cons rfl (fun K hK => ?_) AllReadyH.nil
  go_simp
  refine hK.out _ _ (sumAtE (H0ra.out.set HC.out (tJoin s (r.sum tJoin tZero))).r) (fun hHeld => ?_)
  clear hK K 
  have H0r := aside (H0ra.out.set HC.out (tJoin s (r.sum tJoin tZero)))
  clear hHeld s0 s1 s2 z0 z1 z2 H0ra
  refine wpAnyH_done (by kernel_rfl) ?_ _
  unfold set3 at H0r
  generalize ((w9.setCell ⟨w.heap.size + 1, 0, none⟩ (.int .i64 (tJoin s (r.sum tJoin tZero)).n)).setCell ⟨w.heap.size + 1, 1, none⟩ (.int .u64 (tJoin s (r.sum tJoin tZero)).a)).setCell ⟨w.heap.size + 1, 2, none⟩ (.int .u64 (tJoin s (r.sum tJoin tZero)).b) = Vr at *
  go_wp2_with fail
  refine wp_region_held_drew (S := fun X => X.cell? ⟨w.heap.size, 0, none⟩ = some (.string k) ∧ X.cell? ⟨w.heap.size, 1, none⟩ = some (.string v.k) ∧ X.cell? ⟨w.heap.size, 2, none⟩ = some (.int .i64 v.c) ∧ X.cell? ⟨w.heap.size, 3, none⟩ = some (.int .i64 v.n) ∧ X.cell? ⟨w.heap.size, 4, none⟩ = some (.string v.v) ∧ X.cell? ⟨w.heap.size, 5, none⟩ = some (.bool v.d) ∧ X.cell? ⟨w.heap.size, 6, none⟩ = some (.int .i64 s.n) ∧ X.cell? ⟨w.heap.size, 7, none⟩ = some (.int .u64 s.a) ∧ X.cell? ⟨w.heap.size, 8, none⟩ = some (.int .u64 s.b) ∧ X.cell? ⟨w.heap.size + 1, 0, none⟩ = some (.int .i64 (tJoin s (r.sum tJoin tZero)).n) ∧ X.cell? ⟨w.heap.size + 1, 1, none⟩ = some (.int .u64 (tJoin s (r.sum tJoin tZero)).a) ∧ X.cell? ⟨w.heap.size + 1, 2, none⟩ = some (.int .u64 (tJoin s (r.sum tJoin tZero)).b) ∧ Hid (HStE w X tb (n + 1) jv root c k v s (tJoin s (r.sum tJoin tZero)) l r none (some ⟨br, 0, none⟩))) (by kernel_rfl) H0r.out.drew.held (fun hHeld => ?_)
  refine wpAnyH_take (i := 0) (v := ?_) rfl (by kernel_rfl) (by kernel_rfl) (by kernel_rfl) (fun _ _ _ h => h) (Or.inl ⟨by rfl, ?_⟩) (by assumption) ?_
  rotate_left
  · intro w hSw
    go_simp
    try with_reducible rfl
  simp only [Act.put, List.getElem_toArray, List.getElem_cons_zero, List.setIfInBounds_toArray, List.set_cons_zero, List.set_cons_succ]
  refine wpAnyH_take (i := 1) (v := ?_) rfl (by kernel_rfl) (by kernel_rfl) (by kernel_rfl) (fun _ _ _ h => h) (Or.inl ⟨by rfl, ?_⟩) (by assumption) ?_
  rotate_left
  · intro w hSw
    go_simp
    try with_reducible rfl
  simp only [Act.put, List.getElem_toArray, List.getElem_cons_zero, List.getElem_cons_succ, List.setIfInBounds_toArray, List.set_cons_zero, List.set_cons_succ]
  refine wpAnyH_take (i := 2) (v := ?_) rfl (by kernel_rfl) (by kernel_rfl) (by kernel_rfl) (fun _ _ _ h => h) (Or.inl ⟨by rfl, ?_⟩) (by assumption) ?_
  rotate_left
  · intro w hSw
    go_simp
    try with_reducible rfl
  simp only [Act.put, List.getElem_toArray, List.getElem_cons_zero, List.getElem_cons_succ, List.setIfInBounds_toArray, List.set_cons_zero, List.set_cons_succ]
  refine wpAnyH_take (i := 3) (v := ?_) rfl (by kernel_rfl) (by kernel_rfl) (by kernel_rfl) (fun _ _ _ h => h) (Or.inl ⟨by rfl, ?_⟩) (by assumption) ?_
  rotate_left
  · intro w hSw
    go_simp
    try with_reducible rfl
  simp only [Act.put, List.getElem_toArray, List.getElem_cons_zero, List.getElem_cons_succ, List.setIfInBounds_toArray, List.set_cons_zero, List.set_cons_succ]
  refine wpAnyH_take (i := 6) (v := ?_) rfl (by kernel_rfl) (by kernel_rfl) (by kernel_rfl) (fun _ _ _ h => h) (Or.inl ⟨by rfl, ?_⟩) (by assumption) ?_
  rotate_left
  · intro w hSw
    go_simp
    try with_reducible rfl
  simp only [Act.put, List.getElem_toArray, List.getElem_cons_zero, List.getElem_cons_succ, List.setIfInBounds_toArray, List.set_cons_zero, List.set_cons_succ]
  refine wpAnyH_take (i := 9) (v := ?_) rfl (by kernel_rfl) (by kernel_rfl) (by kernel_rfl) (fun _ _ _ h => h) (Or.inl ⟨by rfl, ?_⟩) (by assumption) ?_
  rotate_left
  · intro w hSw
    go_simp
    try with_reducible rfl
  simp only [Act.put, List.getElem_toArray, List.getElem_cons_zero, List.getElem_cons_succ, List.setIfInBounds_toArray, List.set_cons_zero, List.set_cons_succ]
  refine wpAnyH_take (i := 11) (v := ?_) rfl (by kernel_rfl) (by kernel_rfl) (by kernel_rfl) (fun _ _ _ h => h) (Or.inl ⟨by rfl, ?_⟩) (by assumption) ?_
  rotate_left
  · intro w hSw
    go_simp
    try with_reducible rfl
  simp only [Act.put, List.getElem_toArray, List.getElem_cons_zero, List.getElem_cons_succ, List.setIfInBounds_toArray, List.set_cons_zero, List.set_cons_succ]
  refine wpAnyH_take (i := 15) (v := ?_) rfl (by kernel_rfl) (by kernel_rfl) (by kernel_rfl) (fun _ _ _ h => h) (Or.inl ⟨by rfl, ?_⟩) (by assumption) ?_
  rotate_left
  · intro w hSw
    go_simp
    try with_reducible rfl
  simp only [Act.put, List.getElem_toArray, List.getElem_cons_zero, List.getElem_cons_succ, List.setIfInBounds_toArray, List.set_cons_zero, List.set_cons_succ]
  refine wpAnyH_ready (rs := [4]) (by kernel_rfl) (by simp) ?_
  refine AllReadyH.cons rfl (fun K hK => ?_) AllReadyH.nil
  go_simp
  refine (rowsE hHeld.2.2.2.2.2.2.2.2.2.2.2.2.out.l).mono ?_
  rintro e w9 ⟨rfl, rfl⟩
  refine hK.out _ _ (hHeld) (fun hHeld => ?_)
  clear hK K 
  refine wpAnyH_take (i := 5) (v := ?_) rfl (by kernel_rfl) (by kernel_rfl) (by kernel_rfl) (fun _ _ _ h => h) (Or.inl ⟨by rfl, ?_⟩) (by assumption) ?_
  rotate_left
  · intro w hSw
    go_simp
    try with_reducible rfl
  simp only [Act.put, List.getElem_toArray, List.getElem_cons_zero, List.getElem_cons_succ, List.setIfInBounds_toArray, List.set_cons_zero, List.set_cons_succ]
  refine wpAnyH_ready (rs := [7]) (by kernel_rfl) (by simp) ?_
  refine AllReadyH.cons rfl (fun K hK => ?_) AllReadyH.nil
  go_simp
  refine (rowsE hHeld.2.2.2.2.2.2.2.2.2.2.2.2.out.r).mono ?_
  rintro e w9 ⟨rfl, rfl⟩
  refine hK.out _ _ (hHeld) (fun hHeld => ?_)
  clear hK K 
  refine wpAnyH_take (i := 8) (v := ?_) rfl (by kernel_rfl) (by kernel_rfl) (by kernel_rfl) (fun _ _ _ h => h) (Or.inl ⟨by rfl, ?_⟩) (by assumption) ?_
  rotate_left
  · intro w hSw
    go_simp
    try with_reducible rfl
  simp only [Act.put, List.getElem_toArray, List.getElem_cons_zero, List.getElem_cons_succ, List.setIfInBounds_toArray, List.set_cons_zero, List.set_cons_succ]
  refine wpAnyH_ready (rs := [10]) (by kernel_rfl) (by simp) ?_
  refine AllReadyH.cons rfl (fun K hK => ?_) AllReadyH.nil
  go_simp
  refine (levelsE hHeld.2.2.2.2.2.2.2.2.2.2.2.2.out.l).mono ?_
  rintro e w9 ⟨rfl, rfl⟩
  refine hK.out _ _ (hHeld) (fun hHeld => ?_)
  clear hK K 
  refine wpAnyH_ready (rs := [12]) (by kernel_rfl) (by simp) ?_
  refine AllReadyH.cons rfl (fun K hK => ?_) AllReadyH.nil
  go_simp
  refine (levelsE hHeld.2.2.2.2.2.2.2.2.2.2.2.2.out.r).mono ?_
  rintro e w9 ⟨rfl, rfl⟩
  refine hK.out _ _ (hHeld) (fun hHeld => ?_)
  clear hK K 
  refine wpAnyH_take (i := 13) (v := ?_) rfl (by kernel_rfl) (by kernel_rfl) (by kernel_rfl) (fun _ _ _ h => h) (Or.inl ⟨by rfl, ?_⟩) (by assumption) ?_
  rotate_left
  · intro w hSw
    go_simp
    try with_reducible rfl
  simp only [Act.put, List.getElem_toArray, List.getElem_cons_zero, List.getElem_cons_succ, List.setIfInBounds_toArray, List.set_cons_zero, List.set_cons_succ]
  generalize hm : (if l.ht < r.ht then (r.ht : Int) else (l.ht : Int)) = mh
  have HM := aside hm
  clear hm
  refine wpAnyH_take (i := 14) (v := ?_) rfl (by kernel_rfl) (by kernel_rfl) (by kernel_rfl) (fun _ _ _ h => h) (Or.inl ⟨by rfl, ?_⟩) (by assumption) ?_
  rotate_left
  · intro w hSw
    go_simp
    try with_reducible rfl
  simp only [Act.put, List.getElem_toArray, List.getElem_cons_zero, List.getElem_cons_succ, List.setIfInBounds_toArray, List.set_cons_zero, List.set_cons_succ]
  refine wpAnyH_take (i := 16) (v := ?_) rfl (by kernel_rfl) (by kernel_rfl) (by kernel_rfl) (fun _ _ _ h => h) (Or.inl ⟨by rfl, ?_⟩) (by assumption) ?_
  rotate_left
  · intro w hSw
    go_simp
    try with_reducible rfl
  simp only [Act.put, List.getElem_toArray, List.getElem_cons_zero, List.getElem_cons_succ, List.setIfInBounds_toArray, List.set_cons_zero, List.set_cons_succ]
  refine wpAnyH_ready (rs := [17]) (by kernel_rfl) (by simp) ?_
  refine AllReadyH.cons rfl (fun K hK => ?_) AllReadyH.nil
  go_simp
  refine hK.out _ _ ((hHeld.2.2.2.2.2.2.2.2.2.2.2.2.out.alloc _).held) (fun hHeld => ?_)
  clear hK K 
  refine wpAnyH_take (i := 18) (v := ?_) rfl (by kernel_rfl) (by kernel_rfl) (by kernel_rfl) (fun _ _ _ h => h) (Or.inl ⟨by rfl, ?_⟩) (by assumption) ?_
  rotate_left
  · intro w hSw
    go_simp
    try with_reducible rfl
  simp only [Act.put, List.getElem_toArray, List.getElem_cons_zero, List.getElem_cons_succ, List.setIfInBounds_toArray, List.set_cons_zero, List.set_cons_succ]
  refine wpAnyH_done (by kernel_rfl) ?_ _
  go_wp2
  refine bodyPost_ret (v := .pointer (some ⟨Vr.heap.size, 0, none⟩)) (by simp [results, Tryd.results43, go_sem]) rfl ?_
  exact hangDoneE (n0 := n) HM.out H0r.out (by simp [Tr.sum, hnl, hnr]) (by simp [Tr.hangC, hnl, hnr]) HW.out

end Go.Proofs.YtlgcdcjhflihiabDoor
namespace Go.Proofs.YtlgcdcjhflihiabDoor
open Go.RowKit
set_option linter.unusedVariables false

set_option maxHeartbeats 3200000 in
set_option maxRecDepth 100000 in
theorem hangE10 {jv : Value} {c : Option Nat} (HB : BothOkE jv c) {w : World} {tb n : Nat} {root : Option Addr} {l r : Tr En Tl} {bl : Nat} (k : ByteArray) (v : En) (s : Tl)
    (ht : TObjE w tb jv root) (hc : CntE c n w) (hl : IsTE w (some ⟨bl, 0, none⟩) l) (hr : IsTE w none r) (hw : (Tr.node l k v s r).wt tSz ≤ 4611686018427387904) (hnl : l.isNil = false) (hnr : r.isNil = true) :
    Calls Tryd.prog 43 #[.pointer (some ⟨tb, 0, none⟩), .agg #[.string k, .string v.k, .int .i64 v.c, .int .i64 v.n, .string v.v, .bool v.d, .int .i64 s.n, .int .u64 s.a, .int .u64 s.b], .pointer (some ⟨bl, 0, none⟩), .pointer none] w fun e w' => ∃ p, e = .returned (.pointer p) ∧ IsTE w' p (Tr.node l k v s r) ∧ CntE c (n + Tr.hangC l r) w' ∧ Keeps (OnC c) w w' := by
  have H0 := aside (hstE k v s ht hc hl hr)
  have HC := aside hc
  have HW := aside hw
  simp only [Tr.wt] at hw
  have hsl := Tr.sum_le tSz_le tZero l hnl
  have hlel : tSz (l.sum tJoin tZero) + tSz s ≤ 4611686018427387904 := by omega
  clear ht hc hl hr hw hsl
  go_enter Tryd.func43, Tryd.ntmps43
  go_wp2_with fail
  generalize (w.alloc (.cells #[.string k, .string v.k, .int .i64 v.c, .int .i64 v.n, .string v.v, .bool v.d, .int .i64 s.n, .int .u64 s.a, .int .u64 s.b] 89)).alloc (.cells #[.int .i64 s.n, .int .u64 s.a, .int .u64 s.b] 44) = V at *
  refine wp_region_held_drew (S := fun X => X.cell? ⟨bl, 13, none⟩ = some (.int .i64 (l.sum tJoin tZero).n) ∧ X.cell? ⟨bl, 14, none⟩ = some (.int .u64 (l.sum tJoin tZero).a) ∧ X.cell? ⟨bl, 15, none⟩ = some (.int .u64 (l.sum tJoin tZero).b)) (by kernel_rfl) (sumAtE H0.out.drew.l) (fun hHeld => ?_)
  refine wpAnyH_take (i := 0) (v := ?_) rfl (by kernel_rfl) (by kernel_rfl) (by kernel_rfl) (fun _ _ _ h => h) (Or.inl ⟨by rfl, ?_⟩) (by assumption) ?_
  rotate_left
  · intro w hSw
    go_simp
    try with_reducible rfl
  simp only [Act.put, List.getElem_toArray, List.getElem_cons_zero, List.setIfInBounds_toArray, List.set_cons_zero, List.set_cons_succ]
  refine wpAnyH_take (i := 1) (v := ?_) rfl (by kernel_rfl) (by kernel_rfl) (by kernel_rfl) (fun _ _ _ h => h) (Or.inl ⟨by rfl, ?_⟩) (by assumption) ?_
  rotate_left
  · intro w hSw
    go_simp
    try with_reducible rfl
  simp only [Act.put, List.getElem_toArray, List.getElem_cons_zero, List.getElem_cons_succ, List.setIfInBounds_toArray, List.set_cons_zero, List.set_cons_succ]
  refine wpAnyH_take (i := 2) (v := ?_) rfl (by kernel_rfl) (by kernel_rfl) (by kernel_rfl) (fun _ _ _ h => h) (Or.inl ⟨by rfl, ?_⟩) (by assumption) ?_
  rotate_left
  · intro w hSw
    go_simp
    try with_reducible rfl
  simp only [Act.put, List.getElem_toArray, List.getElem_cons_zero, List.getElem_cons_succ, List.setIfInBounds_toArray, List.set_cons_zero, List.set_cons_succ]
  refine wpAnyH_take (i := 3) (v := ?_) rfl (by kernel_rfl) (by kernel_rfl) (by kernel_rfl) (fun _ _ _ h => h) (Or.inl ⟨by rfl, ?_⟩) (by assumption) ?_
  rotate_left
  · intro w hSw
    go_simp
    try with_reducible rfl
  simp only [Act.put, List.getElem_toArray, List.getElem_cons_zero, List.getElem_cons_succ, List.setIfInBounds_toArray, List.set_cons_zero, List.set_cons_succ]
  refine wpAnyH_take (i := 4) (v := ?_) rfl (by kernel_rfl) (by kernel_rfl) (by kernel_rfl) (fun _ _ _ h => h) (Or.inl ⟨by rfl, ?_⟩) (by assumption) ?_
  rotate_left
  · intro w hSw
    go_simp
    try with_reducible rfl
  simp only [Act.put, List.getElem_toArray, List.getElem_cons_zero, List.getElem_cons_succ, List.setIfInBounds_toArray, List.set_cons_zero, List.set_cons_succ]
  obtain ⟨s0, s1, s2, z0, z1, z2⟩ := tri H0.out.drew.sm
  refine wpAnyH_ready (rs := [5]) (by kernel_rfl) (by simp) ?_
  refine AllReadyH.cons rfl (fun K hK => ?_) AllReadyH.nil
  go_simp
  refine hK.out _ _ (hHeld) (fun hHeld => ?_)
  clear hK K 
  clear s0 s1 s2 z0 z1 z2
  refine wpAnyH_ready (rs := [6]) (by kernel_rfl) (by simp) ?_
  refine AllReadyH.cons rfl (fun K hK => ?_) AllReadyH.nil
  go_simp
  refine (HB _ tb n root (l.sum tJoin tZero) s H0.out.drew.tobj H0.out.drew.cnt hlel).mono ?_
  rintro e w9 ⟨rfl, bc, kk⟩
  refine hK.out _ _ (sumAtE (H0.out.drew.on HC.out kk bc).l) (fun hHeld => ?_)
  clear hK K 
  have H0la := aside (H0.out.drew.on HC.out kk bc)
  obtain ⟨s0, s1, s2, z0, z1, z2⟩ := tri H0la.out.sm
  clear bc kk H0
  refine wpAnyH_ready (rs := [7]) (by kernel_rfl) (by simp) ?_
  refine AllReadyH.cons rfl (fun K hK => ?_) AllReadyH.nil
  go_simp
  refine hK.out _ _ (sumAtE (H0la.out.set HC.out (tJoin (l.sum tJoin tZero) s)).l) (fun hHeld => ?_)
  clear hK K 
  have H0l := aside (H0la.out.set HC.out (tJoin (l.sum tJoin tZero) s))
  clear hHeld s0 s1 s2 z0 z1 z2 H0la
  refine wpAnyH_done (by kernel_rfl) ?_ _
  unfold set3 at H0l
  generalize ((w9.setCell ⟨w.heap.size + 1, 0, none⟩ (.int .i64 (tJoin (l.sum tJoin tZero) s).n)).setCell ⟨w.heap.size + 1, 1, none⟩ (.int .u64 (tJoin (l.sum tJoin tZero) s).a)).setCell ⟨w.heap.size + 1, 2, none⟩ (.int .u64 (tJoin (l.sum tJoin tZero) s).b) = Vl at *
  go_wp2_with fail
  refine wp_region_held_drew (S := fun X => X.cell? ⟨w.heap.size, 0, none⟩ = some (.string k) ∧ X.cell? ⟨w.heap.size, 1, none⟩ = some (.string v.k) ∧ X.cell? ⟨w.heap.size, 2, none⟩ = some (.int .i64 v.c) ∧ X.cell? ⟨w.heap.size, 3, none⟩ = some (.int .i64 v.n) ∧ X.cell? ⟨w.heap.size, 4, none⟩ = some (.string v.v) ∧ X.cell? ⟨w.heap.size, 5, none⟩ = some (.bool v.d) ∧ X.cell? ⟨w.heap.size, 6, none⟩ = some (.int .i64 s.n) ∧ X.cell? ⟨w.heap.size, 7, none⟩ = some (.int .u64 s.a) ∧ X.cell? ⟨w.heap.size, 8, none⟩ = some (.int .u64 s.b) ∧ X.cell? ⟨w.heap.size + 1, 0, none⟩ = some (.int .i64 (tJoin (l.sum tJoin tZero) s).n) ∧ X.cell? ⟨w.heap.size + 1, 1, none⟩ = some (.int .u64 (tJoin (l.sum tJoin tZero) s).a) ∧ X.cell? ⟨w.heap.size + 1, 2, none⟩ = some (.int .u64 (tJoin (l.sum tJoin tZero) s).b) ∧ Hid (HStE w X tb (n + 1) jv root c k v s (tJoin (l.sum tJoin tZero) s) l r (some ⟨bl, 0, none⟩) none)) (by kernel_rfl) H0l.out.drew.held (fun hHeld => ?_)
  refine wpAnyH_take (i := 0) (v := ?_) rfl (by kernel_rfl) (by kernel_rfl) (by kernel_rfl) (fun _ _ _ h => h) (Or.inl ⟨by rfl, ?_⟩) (by assumption) ?_
  rotate_left
  · intro w hSw
    go_simp
    try with_reducible rfl
  simp only [Act.put, List.getElem_toArray, List.getElem_cons_zero, List.setIfInBounds_toArray, List.set_cons_zero, List.set_cons_succ]
  refine wpAnyH_take (i := 1) (v := ?_) rfl (by kernel_rfl) (by kernel_rfl) (by kernel_rfl) (fun _ _ _ h => h) (Or.inl ⟨by rfl, ?_⟩) (by assumption) ?_
  rotate_left
  · intro w hSw
    go_simp
    try with_reducible rfl
  simp only [Act.put, List.getElem_toArray, List.getElem_cons_zero, List.getElem_cons_succ, List.setIfInBounds_toArray, List.set_cons_zero, List.set_cons_succ]
  refine wpAnyH_take (i := 2) (v := ?_) rfl (by kernel_rfl) (by kernel_rfl) (by kernel_rfl) (fun _ _ _ h => h) (Or.inl ⟨by rfl, ?_⟩) (by assumption) ?_
  rotate_left
  · intro w hSw
    go_simp
    try with_reducible rfl
  simp only [Act.put, List.getElem_toArray, List.getElem_cons_zero, List.getElem_cons_succ, List.setIfInBounds_toArray, List.set_cons_zero, List.set_cons_succ]
  refine wpAnyH_take (i := 3) (v := ?_) rfl (by kernel_rfl) (by kernel_rfl) (by kernel_rfl) (fun _ _ _ h => h) (Or.inl ⟨by rfl, ?_⟩) (by assumption) ?_
  rotate_left
  · intro w hSw
    go_simp
    try with_reducible rfl
  simp only [Act.put, List.getElem_toArray, List.getElem_cons_zero, List.getElem_cons_succ, List.setIfInBounds_toArray, List.set_cons_zero, List.set_cons_succ]
  refine wpAnyH_take (i := 6) (v := ?_) rfl (by kernel_rfl) (by kernel_rfl) (by kernel_rfl) (fun _ _ _ h => h) (Or.inl ⟨by rfl, ?_⟩) (by assumption) ?_
  rotate_left
  · intro w hSw
    go_simp
    try with_reducible rfl
  simp only [Act.put, List.getElem_toArray, List.getElem_cons_zero, List.getElem_cons_succ, List.setIfInBounds_toArray, List.set_cons_zero, List.set_cons_succ]
  refine wpAnyH_take (i := 9) (v := ?_) rfl (by kernel_rfl) (by kernel_rfl) (by kernel_rfl) (fun _ _ _ h => h) (Or.inl ⟨by rfl, ?_⟩) (by assumption) ?_
  rotate_left
  · intro w hSw
    go_simp
    try with_reducible rfl
  simp only [Act.put, List.getElem_toArray, List.getElem_cons_zero, List.getElem_cons_succ, List.setIfInBounds_toArray, List.set_cons_zero, List.set_cons_succ]
  refine wpAnyH_take (i := 11) (v := ?_) rfl (by kernel_rfl) (by kernel_rfl) (by kernel_rfl) (fun _ _ _ h => h) (Or.inl ⟨by rfl, ?_⟩) (by assumption) ?_
  rotate_left
  · intro w hSw
    go_simp
    try with_reducible rfl
  simp only [Act.put, List.getElem_toArray, List.getElem_cons_zero, List.getElem_cons_succ, List.setIfInBounds_toArray, List.set_cons_zero, List.set_cons_succ]
  refine wpAnyH_take (i := 15) (v := ?_) rfl (by kernel_rfl) (by kernel_rfl) (by kernel_rfl) (fun _ _ _ h => h) (Or.inl ⟨by rfl, ?_⟩) (by assumption) ?_
  rotate_left
  · intro w hSw
    go_simp
    try with_reducible rfl
  simp only [Act.put, List.getElem_toArray, List.getElem_cons_zero, List.getElem_cons_succ, List.setIfInBounds_toArray, List.set_cons_zero, List.set_cons_succ]
  refine wpAnyH_ready (rs := [4]) (by kernel_rfl) (by simp) ?_
  refine AllReadyH.cons rfl (fun K hK => ?_) AllReadyH.nil
  go_simp
  refine (rowsE hHeld.2.2.2.2.2.2.2.2.2.2.2.2.out.l).mono ?_
  rintro e w9 ⟨rfl, rfl⟩
  refine hK.out _ _ (hHeld) (fun hHeld => ?_)
  clear hK K 
  refine wpAnyH_take (i := 5) (v := ?_) rfl (by kernel_rfl) (by kernel_rfl) (by kernel_rfl) (fun _ _ _ h => h) (Or.inl ⟨by rfl, ?_⟩) (by assumption) ?_
  rotate_left
  · intro w hSw
    go_simp
    try with_reducible rfl
  simp only [Act.put, List.getElem_toArray, List.getElem_cons_zero, List.getElem_cons_succ, List.setIfInBounds_toArray, List.set_cons_zero, List.set_cons_succ]
  refine wpAnyH_ready (rs := [7]) (by kernel_rfl) (by simp) ?_
  refine AllReadyH.cons rfl (fun K hK => ?_) AllReadyH.nil
  go_simp
  refine (rowsE hHeld.2.2.2.2.2.2.2.2.2.2.2.2.out.r).mono ?_
  rintro e w9 ⟨rfl, rfl⟩
  refine hK.out _ _ (hHeld) (fun hHeld => ?_)
  clear hK K 
  refine wpAnyH_take (i := 8) (v := ?_) rfl (by kernel_rfl) (by kernel_rfl) (by kernel_rfl) (fun _ _ _ h => h) (Or.inl ⟨by rfl, ?_⟩) (by assumption) ?_
  rotate_left
  · intro w hSw
    go_simp
    try with_reducible rfl
  simp only [Act.put, List.getElem_toArray, List.getElem_cons_zero, List.getElem_cons_succ, List.setIfInBounds_toArray, List.set_cons_zero, List.set_cons_succ]
  refine wpAnyH_ready (rs := [10]) (by kernel_rfl) (by simp) ?_
  refine AllReadyH.cons rfl (fun K hK => ?_) AllReadyH.nil
  go_simp
  refine (levelsE hHeld.2.2.2.2.2.2.2.2.2.2.2.2.out.l).mono ?_
  rintro e w9 ⟨rfl, rfl⟩
  refine hK.out _ _ (hHeld) (fun hHeld => ?_)
  clear hK K 
  refine wpAnyH_ready (rs := [12]) (by kernel_rfl) (by simp) ?_
  refine AllReadyH.cons rfl (fun K hK => ?_) AllReadyH.nil
  go_simp
  refine (levelsE hHeld.2.2.2.2.2.2.2.2.2.2.2.2.out.r).mono ?_
  rintro e w9 ⟨rfl, rfl⟩
  refine hK.out _ _ (hHeld) (fun hHeld => ?_)
  clear hK K 
  refine wpAnyH_take (i := 13) (v := ?_) rfl (by kernel_rfl) (by kernel_rfl) (by kernel_rfl) (fun _ _ _ h => h) (Or.inl ⟨by rfl, ?_⟩) (by assumption) ?_
  rotate_left
  · intro w hSw
    go_simp
    try with_reducible rfl
  simp only [Act.put, List.getElem_toArray, List.getElem_cons_zero, List.getElem_cons_succ, List.setIfInBounds_toArray, List.set_cons_zero, List.set_cons_succ]
  generalize hm : (if l.ht < r.ht then (r.ht : Int) else (l.ht : Int)) = mh
  have HM := aside hm
  clear hm
  refine wpAnyH_take (i := 14) (v := ?_) rfl (by kernel_rfl) (by kernel_rfl) (by kernel_rfl) (fun _ _ _ h => h) (Or.inl ⟨by rfl, ?_⟩) (by assumption) ?_
  rotate_left
  · intro w hSw
    go_simp
    try with_reducible rfl
  simp only [Act.put, List.getElem_toArray, List.getElem_cons_zero, List.getElem_cons_succ, List.setIfInBounds_toArray, List.set_cons_zero, List.set_cons_succ]
  refine wpAnyH_take (i := 16) (v := ?_) rfl (by kernel_rfl) (by kernel_rfl) (by kernel_rfl) (fun _ _ _ h => h) (Or.inl ⟨by rfl, ?_⟩) (by assumption) ?_
  rotate_left
  · intro w hSw
    go_simp
    try with_reducible rfl
  simp only [Act.put, List.getElem_toArray, List.getElem_cons_zero, List.getElem_cons_succ, List.setIfInBounds_toArray, List.set_cons_zero, List.set_cons_succ]
  refine wpAnyH_ready (rs := [17]) (by kernel_rfl) (by simp) ?_
  refine AllReadyH.cons rfl (fun K hK => ?_) AllReadyH.nil
  go_simp
  refine hK.out _ _ ((hHeld.2.2.2.2.2.2.2.2.2.2.2.2.out.alloc _).held) (fun hHeld => ?_)
  clear hK K 
  refine wpAnyH_take (i := 18) (v := ?_) rfl (by kernel_rfl) (by kernel_rfl) (by kernel_rfl) (fun _ _ _ h => h) (Or.inl ⟨by rfl, ?_⟩) (by assumption) ?_
  rotate_left
  · intro w hSw
    go_simp
    try with_reducible rfl
  simp only [Act.put, List.getElem_toArray, List.getElem_cons_zero, List.getElem_cons_succ, List.setIfInBounds_toArray, List.set_cons_zero, List.set_cons_succ]
  refine wpAnyH_done (by kernel_rfl) ?_ _
  go_wp2
  refine bodyPost_ret (v := .pointer (some ⟨Vl.heap.size, 0, none⟩)) (by simp [results, Tryd.results43, go_sem]) rfl ?_
  exact hangDoneE (n0 := n) HM.out H0l.out (by simp [Tr.sum, hnl, hnr]) (by simp [Tr.hangC, hnl, hnr]) HW.out

end Go.Proofs.YtlgcdcjhflihiabDoor
