/-
  A tree in memory, as a law meets it (E).
  A store in memory: its own block, its meter, its tree.
  The law ItemOrder, walked: it returns true at any three versions.
  long, Newer and Best, the code's and the document's own, by contracts; and the plain laws of the better of two.
  Plain mathematics of ranges of keys: which may be, which are empty, which keys they hold.
  Check, the code's and the document's own: each returns the number that the plain function gives, and writes nothing that was there.
  Empty and Holds, the code's and the document's own: each returns what the plain function gives, and writes nothing that was there.
  The code's Of: the words of a key, and all words mixed.
  The document's words, lane and Of.
  Of and All of tallies, of the code and of the document.
  The store's small calls: Len, Clock, Node, Joins, a new one.
-/
import Derived.Test.YtlbkcndmljlnmaaDoorBx15
import Derived.Test.YtlbkcndmljlnmaaDoorBx6
import Derived.Test.YtlbkcndmljlnmaaDoorBx1
import Derived.Laws.StructEq
import Derived.Test.YtlbkcndmljlnmaaDoorProg
import Derived.WalkKit
import Derived.Laws.Cover1
import Derived.WalkSpells
import Derived.WalkLawsBesides
import Derived.KernelRfl
import Derived.Below
import Derived.Laws.IdiomStrings
import Derived.Deep.RegionWith
import Derived.Test.YtlbkcndmljlnmaaDoorBx7
namespace Go.Proofs.YtlbkcndmljlnmaaDoor
open Go.RowKit
set_option linter.unusedVariables false
/-- The tree in the block tb holds T. -/
def TreeE (W : World) (tb : Nat) (jv : Value) (T : Tr En Tl) : Prop := ∃ p, TObjE W tb jv p ∧ IsTE W p T
theorem TreeE.keep {S : Nat → Prop} {W W' : World} {tb : Nat} {jv : Value} {T : Tr En Tl} (h : TreeE W tb jv T) (kk : Keeps S W W') (ht : ¬ S tb) (hS : ∀ i cs, W.heap[i]? = some (.cells cs 145 (0, 0)) → ¬ S i) : TreeE W' tb jv T := by
  obtain ⟨p, h1, h2⟩ := h
  exact ⟨p, blk_keep h1 kk ht, h2.on ((Stay.refl _ _).keeps kk hS)⟩
theorem TreeE.below {W W' : World} {tb : Nat} {jv : Value} {T : Tr En Tl} (h : TreeE W tb jv T) (b : Below W.heap.size W W') : TreeE W' tb jv T := by
  obtain ⟨p, h1, h2⟩ := h
  exact ⟨p, blk_on h1 b, h2.on (fun _ _ e => blk_on e b)⟩
theorem ynewE (fn : Fn) (first cap : Array Value) (w : World) :
    Calls Tryd.prog 57 #[.agg #[.int .i64 0, .int .u64 0, .int .u64 0], .func fn first cap] w fun e w' => ∃ tb, e = .returned (.pointer (some ⟨tb, 0, none⟩)) ∧ TreeE w' tb (.func fn first cap) .nil ∧ Below w.heap.size w w' ∧ w.heap.size ≤ tb :=
  (newE fn first cap w).mono fun e w' ⟨tb, h1, h2, h3, h4⟩ => ⟨tb, h1, ⟨none, h2, rfl⟩, h3, h4⟩
theorem yputE (k : ByteArray) (v : En) (s : Tl) {jv : Value} {c : Option Nat} {W : World} {tb n m : Nat} {T : Tr En Tl} (h : TreeE W tb jv T) (HB : BothOkE jv c) (hc : CntE c n W) (g : Gd tSz T m) (hm : m + 1 + tSz s ≤ 281474976710655) :
    Calls Tryd.prog 60 #[.pointer (some ⟨tb, 0, none⟩), .string k, .agg #[.string v.k, .int .i64 v.c, .int .i64 v.n, .string v.v, .bool v.d], .agg #[.int .i64 s.n, .int .u64 s.a, .int .u64 s.b]] W fun e w' => e = .returned (.tuple #[.agg #[.string ((Tr.found k T).val eNone).k, .int .i64 ((Tr.found k T).val eNone).c, .int .i64 ((Tr.found k T).val eNone).n, .string ((Tr.found k T).val eNone).v, .bool ((Tr.found k T).val eNone).d], .bool (!(Tr.found k T).isNil)]) ∧ TreeE w' tb jv (Tr.put k v s T) ∧ CntE c (n + Tr.putC k v s T) w' ∧ Keeps (fun x => x = tb ∨ OnC c x) W w' := by
  obtain ⟨p, h1, h2⟩ := h
  exact putE HB k v s h1 hc h2 (by have := g.ht (by omega); omega) (by have := g.cnt; omega) (g.room hm)
theorem ylenE {jv : Value} {W : World} {tb : Nat} {T : Tr En Tl} (h : TreeE W tb jv T) :
    Calls Tryd.prog 55 #[.pointer (some ⟨tb, 0, none⟩)] W fun e w' => e = .returned (.int .i64 (T.cnt : Int)) ∧ w' = W := by
  obtain ⟨p, h1, h2⟩ := h
  exact lenE h1 h2
theorem ygetE (k : ByteArray) {jv : Value} {W : World} {tb m : Nat} {T : Tr En Tl} (h : TreeE W tb jv T) (g : Gd tSz T m) (hm : m ≤ 281474976710655) :
    Calls Tryd.prog 53 #[.pointer (some ⟨tb, 0, none⟩), .string k] W fun e w' => e = .returned (.tuple #[.agg #[.string ((Tr.found k T).val eNone).k, .int .i64 ((Tr.found k T).val eNone).c, .int .i64 ((Tr.found k T).val eNone).n, .string ((Tr.found k T).val eNone).v, .bool ((Tr.found k T).val eNone).d], .bool (!(Tr.found k T).isNil)]) ∧ Below W.heap.size W w' := by
  obtain ⟨p, h1, h2⟩ := h
  exact getE k h1 h2 (by have := g.ht hm; omega) (by have := g.cnt; omega)
theorem yrankE (k : ByteArray) {jv : Value} {W : World} {tb m : Nat} {T : Tr En Tl} (h : TreeE W tb jv T) (g : Gd tSz T m) (hm : m ≤ 281474976710655) :
    Calls Tryd.prog 98 #[.pointer (some ⟨tb, 0, none⟩), .string k] W fun e w' => e = .returned (.int .i64 (Tr.lower k T : Int)) ∧ Below W.heap.size W w' := by
  obtain ⟨p, h1, h2⟩ := h
  exact rankE k h1 h2 (by have := g.ht hm; omega) (by have := g.cnt; omega)
end Go.Proofs.YtlbkcndmljlnmaaDoor
namespace Go.Proofs.YtlbkcndmljlnmaaDoor
open Go.RowKit
set_option linter.unusedVariables false
/-- The join of the meter in the block g. -/
def jvE (g : Nat) : Value := .func (.func 58) #[.pointer (some ⟨g, 0, none⟩)] #[]
theorem bothJv (g : Nat) : BothOkE (jvE g) (some g) := bothE g
/-- The store in the block sb: its node, its clock, its tree T (in the block tb, with the meter in g that says n joins). -/
structure IsSt (w : World) (sb g tb : Nat) (nd ck : Int) (T : Tr En Tl) (n : Nat) : Prop where
  blk : w.heap[sb]? = some (.cells #[.int .i64 nd, .int .i64 ck, .pointer (some ⟨g, 0, none⟩), .pointer (some ⟨tb, 0, none⟩)] 105 (0, 0))
  cnt : CntE (some g) n w
  tree : TreeE w tb (jvE g) T
/-- Which blocks a store's call may turn. -/
def Of (sb g tb : Nat) : Nat → Prop := fun x => x = sb ∨ x = tb ∨ x = g
theorem quad {w : World} {i : Nat} {a b c d : Value} {T : TypeId} (h : w.heap[i]? = some (.cells #[a, b, c, d] T (0, 0))) :
    w.cell? ⟨i, 0, none⟩ = some a ∧ w.cell? ⟨i, 1, none⟩ = some b ∧ w.cell? ⟨i, 2, none⟩ = some c ∧ w.cell? ⟨i, 3, none⟩ = some d ∧ w.frozen? ⟨i, 1, none⟩ = false :=
  ⟨by simp [World.cell?, h], by simp [World.cell?, h], by simp [World.cell?, h], by simp [World.cell?, h], frozen_of_row w i 1 _ _ h⟩
theorem IsSt.below {w w' : World} {sb g tb : Nat} {nd ck : Int} {T : Tr En Tl} {n : Nat} (h : IsSt w sb g tb nd ck T n) (b : Below w.heap.size w w') : IsSt w' sb g tb nd ck T n :=
  ⟨blk_on h.blk b, h.cnt.below b, h.tree.below b⟩
theorem IsSt.drew {w : World} {sb g tb : Nat} {nd ck : Int} {T : Tr En Tl} {n : Nat} (h : IsSt w sb g tb nd ck T n) : IsSt w.drew sb g tb nd ck T n := h.below ((Below.refl _ _).drew)
theorem IsSt.alloc {w : World} {sb g tb : Nat} {nd ck : Int} {T : Tr En Tl} {n : Nat} (h : IsSt w sb g tb nd ck T n) (o : Obj) : IsSt (w.alloc o) sb g tb nd ck T n := h.below (bnew _ _)
theorem IsSt.apart {w : World} {sb g tb : Nat} {nd ck : Int} {T : Tr En Tl} {n : Nat} (h : IsSt w sb g tb nd ck T n) : sb ≠ g ∧ sb ≠ tb ∧ tb ≠ g := by
  obtain ⟨p, ht, _⟩ := h.tree
  unfold TObjE at ht
  have h1 := h.blk
  have h2 := h.cnt g rfl
  refine ⟨?_, ?_, ?_⟩ <;> rintro rfl
  · rw [h1] at h2; simp at h2
  · rw [h1] at ht; simp at ht
  · rw [ht] at h2; simp at h2
/-- A block of another type is none of the store's. -/
theorem IsSt.not {w : World} {sb g tb : Nat} {nd ck : Int} {T : Tr En Tl} {n : Nat} (h : IsSt w sb g tb nd ck T n) {i : Nat} {cs : Array Value} {U : TypeId} (hi : w.heap[i]? = some (.cells cs U (0, 0))) (h1 : U ≠ 105) (h2 : U ≠ 148) (h3 : U ≠ 150) : ¬ Of sb g tb i := by
  obtain ⟨p, ht, _⟩ := h.tree
  unfold TObjE at ht
  rintro (rfl | rfl | rfl)
  · rw [h.blk] at hi; simp at hi; exact h1 hi.2.symm
  · rw [ht] at hi; simp at hi; exact h2 hi.2.symm
  · rw [h.cnt _ rfl] at hi; simp at hi; exact h3 hi.2.symm
theorem Lanes.apart {w : World} (L : Lanes w) {sb g tb : Nat} {nd ck : Int} {T : Tr En Tl} {n : Nat} (h : IsSt w sb g tb nd ck T n) : ¬ Of sb g tb 0 := by
  obtain ⟨p, ht, _⟩ := h.tree
  unfold TObjE at ht
  have h1 := L.c0
  rintro (e | e | e)
  · have := h.blk; rw [← e] at this; simp [World.cell?, this] at h1
  · rw [← e] at ht; simp [World.cell?, ht] at h1
  · have := h.cnt g rfl; rw [← e] at this; simp [World.cell?, this] at h1
theorem Lanes.keeps {w w' : World} (L : Lanes w) {S : Nat → Prop} (k : Keeps S w w') (hS : ¬ S 0) : Lanes w' := by
  have h0 := L.pos
  have c : ∀ {i : Nat} {v : Value}, w.cell? ⟨0, i, none⟩ = some v → w'.cell? ⟨0, i, none⟩ = some v := fun {i v} e => (k.cell (p := ⟨0, i, none⟩) h0 hS).trans e
  exact ⟨c L.c0, c L.c1, c L.c2, c L.c3, c L.c4, c L.c5⟩
theorem Lanes.drew {w : World} (L : Lanes w) : Lanes w.drew := L.keep ((Below.refl _ _).drew)
end Go.Proofs.YtlbkcndmljlnmaaDoor
namespace Go.Proofs.YtlbkcndmljlnmaaDoor
open Go.RowKit
end Go.Proofs.YtlbkcndmljlnmaaDoor
namespace Go.Proofs.YtlbkcndmljlnmaaDoor
open Go.RowKit
end Go.Proofs.YtlbkcndmljlnmaaDoor
namespace Go.Proofs.YtlbkcndmljlnmaaDoor
open Go.RowKit
/-- A range: its bounds, and whether it is open. -/
structure Rg where
  lo : ByteArray
  hi : ByteArray
  op : Bool
namespace Rg
/-- As a value of the program. -/
def val (r : Rg) : Value := .agg #[.string r.lo, .string r.hi, .bool r.op]
/-- The number that Check gives. -/
def chk (r : Rg) : Int :=
  if 16 < (r.lo.size : Int) ∨ 16 < (r.hi.size : Int) then 20
  else if (r.op && !r.hi.toList.isEmpty) || (!r.op && (!Op.bytesLess r.lo.toList r.hi.toList && !(r.lo.toList == r.hi.toList))) then 21 else 0
/-- May it be? -/
def may (r : Rg) : Bool := chk r == 0
/-- Is it empty, or may it not be? -/
def emp (r : Rg) : Bool := !r.may || (!r.op && (r.lo.toList == r.hi.toList))
/-- Does it hold a key? -/
def has (r : Rg) (k : ByteArray) : Bool := r.may && decide ((k.size : Int) ≤ 16) && !Op.bytesLess k.toList r.lo.toList && (r.op || Op.bytesLess k.toList r.hi.toList)
/-- The higher one of two texts. -/
def mx (a b : ByteArray) : ByteArray := bif Op.bytesLess a.toList b.toList then b else a
/-- What two ranges meet in, if they were to meet. -/
def both (a b : Rg) : Rg := ⟨mx a.lo b.lo, bif a.op || (!b.op && Op.bytesLess b.hi.toList a.hi.toList) then b.hi else a.hi, bif a.op || (!b.op && Op.bytesLess b.hi.toList a.hi.toList) then b.op else a.op⟩
/-- What two ranges meet in. -/
def meet (a b : Rg) : Option Rg := if a.emp || b.emp || (both a b).emp then none else some (both a b)
end Rg
end Go.Proofs.YtlbkcndmljlnmaaDoor
namespace Go.Proofs.YtlbkcndmljlnmaaDoor
open Go.RowKit
theorem chk_shut {lo hi : ByteArray} (h1 : (lo.size : Int) ≤ 16) (h2 : (hi.size : Int) ≤ 16) :
    Rg.chk ⟨lo, hi, false⟩ = bif (!Op.bytesLess lo.toList hi.toList && !(lo.toList == hi.toList)) then 21 else 0 := by
  unfold Rg.chk; rw [if_neg (not_or.2 ⟨Int.not_lt.2 h1, Int.not_lt.2 h2⟩)]
  cases Op.bytesLess lo.toList hi.toList <;> cases (lo.toList == hi.toList) <;> rfl
theorem chk_open {lo hi : ByteArray} (h1 : (lo.size : Int) ≤ 16) (h2 : (hi.size : Int) ≤ 16) :
    Rg.chk ⟨lo, hi, true⟩ = bif hi.toList.isEmpty then 0 else 21 := by
  unfold Rg.chk; rw [if_neg (not_or.2 ⟨Int.not_lt.2 h1, Int.not_lt.2 h2⟩)]
  cases hi.toList.isEmpty <;> rfl
set_option maxHeartbeats 1600000 in
theorem check_any (lo hi : ByteArray) (op : Bool) (w : World) :
    Calls Tryd.prog 79 #[.agg #[.string lo, .string hi, .bool op]] w fun e w' => e = .returned (.int .i64 (Rg.chk ⟨lo, hi, op⟩)) ∧ Below w.heap.size w w' := by
  by_cases h1 : (16 : Int) < lo.size
  · go_enter Tryd.func79, Tryd.ntmps79
    go_wp2
    go_ret
    exact ⟨ret_i64 (by simp [Rg.chk, h1]), (Below.refl _ w).alloc (Nat.le_refl _) _⟩
  · by_cases h2 : (16 : Int) < hi.size
    · go_enter Tryd.func79, Tryd.ntmps79
      go_wp2
      go_ret
      exact ⟨ret_i64 (by simp [Rg.chk, h2]), (Below.refl _ w).alloc (Nat.le_refl _) _⟩
    · cases op
      · cases h4 : Op.bytesLess lo.toList hi.toList <;> cases h5 : (lo.toList == hi.toList)
        all_goals
          go_enter Tryd.func79, Tryd.ntmps79
          go_wp2
          go_ret
          exact ⟨ret_i64 (by rw [chk_shut h1 h2, h4, h5]; rfl), (Below.refl _ w).alloc (Nat.le_refl _) _⟩
      · cases h3 : hi.toList.isEmpty
        all_goals
          go_enter Tryd.func79, Tryd.ntmps79
          go_wp2
          go_ret
          exact ⟨ret_i64 (by rw [chk_open h1 h2, h3]; rfl), (Below.refl _ w).alloc (Nat.le_refl _) _⟩
end Go.Proofs.YtlbkcndmljlnmaaDoor
namespace Go.Proofs.YtlbkcndmljlnmaaDoor
open Go.RowKit
end Go.Proofs.YtlbkcndmljlnmaaDoor
namespace Go.Proofs.YtlbkcndmljlnmaaDoor
open Go.RowKit
set_option linter.unusedVariables false
/-- What the loop over a word's bytes has come to, from byte m on. -/
def restN (k : List UInt8) (h m : Nat) : Nat := leB ((k.drop m).take (h - m))
theorem restN_end (k : List UInt8) (h : Nat) : restN k h h = 0 := by simp [restN, leB]
theorem restN_step (k : List UInt8) (h m : Nat) (hm : m < h) (hk : m < k.length) : restN k h m = restN k h (m + 1) * 256 + k[m].toNat := by
  unfold restN
  rw [List.drop_eq_getElem_cons hk, show h - m = (h - (m + 1)) + 1 from by omega, List.take_succ_cons]
  simp only [leB]
  omega
theorem restN_lt (k : List UInt8) (h m : Nat) (hm : h ≤ m + 8) : restN k h m < 18446744073709551616 := by
  have hl := leB_lt ((k.drop m).take (h - m))
  have hb : ((k.drop m).take (h - m)).length ≤ 8 := by simp; omega
  have : 256 ^ ((k.drop m).take (h - m)).length ≤ 256 ^ 8 := Nat.pow_le_pow_right (by decide) hb
  unfold restN
  omega
theorem restN_word (k : List UInt8) (s h : Nat) (hh : h = min (s + 8) k.length) (hs : s ≤ k.length) : restN k h s = wordN k s := by
  unfold restN wordN
  by_cases h8 : s + 8 ≤ k.length
  · rw [show h - s = 8 from by omega]
  · rw [List.take_of_length_le (by simp; omega), List.take_of_length_le (by simp; omega)]
def WordAtRel (k : ByteArray) (s h : Nat) (w : World) (v i : Value) (wr : World) : Prop :=
  ∃ m : Nat, v = .int .u64 (restN k.data.toList h m : Int) ∧ i = .int .i64 ((m : Int) - 1) ∧ s ≤ m ∧ m ≤ h ∧ wr = w
set_option maxHeartbeats 1600000 in
set_option maxRecDepth 100000 in
theorem wordAt_any (k : ByteArray) (s : Nat) (w : World) (hk : k.size ≤ 140737488355328) (hs : s < k.size) :
    Calls Tryd.prog 108 #[.string k, .int .i64 (s : Int)] w fun e w' => e = .returned (.int .u64 (wordN k.data.toList s : Int)) ∧ w' = w := by
  have hlen : k.data.toList.length = k.size := by show k.data.toList.length = k.data.size; simp
  have hw8 : IntKind.i64.wrap ((s : Int) + 8) = (s : Int) + 8 := by rw [IntKind.wrap_i64]; omega
  obtain ⟨top, hh⟩ : ∃ h, h = min (s + 8) k.size := ⟨_, rfl⟩
  have HH := aside hh
  clear hh
  go_enter Tryd.func108, Tryd.ntmps108
  go_wp2
  all_goals
    rename_i hc
    go_loopw [5, 6] (fun v i wr => WordAtRel k s top w v i wr) (fun _ i _ => (intOf i + 1).toNat)
    case atStart =>
      refine ⟨top, by rw [restN_end]; rfl, ?_, by have := HH.out; omega, Nat.le_refl _, rfl⟩
      congr 1
      have := HH.out
      omega
    case round =>
      obtain ⟨m, rfl, rfl, hsm, hmh, rfl⟩ := hrel
      by_cases hge : (s : Int) ≤ (m : Int) - 1
      · obtain ⟨p, rfl⟩ : ∃ p, m = p + 1 := ⟨m - 1, by omega⟩
        have hp : ((p + 1 : Nat) : Int) - 1 = (p : Int) := by omega
        rw [hp]
        have hpk : p < k.size := by have := HH.out; omega
        have hps : (s : Int) ≤ (p : Int) := by omega
        have hix := idx_str' k p hpk (p : Int) rfl wr
        have hst := restN_step k.data.toList top p (by omega) (by omega)
        have hlt := restN_lt k.data.toList top (p + 1) (by have := HH.out; omega)
        have hlt' := restN_lt k.data.toList top p (by have := HH.out; omega)
        generalize restN k.data.toList top (p + 1) = a at *
        obtain ⟨b, hb⟩ : ∃ b, b = restN k.data.toList top p := ⟨_, rfl⟩
        rw [← hb] at hst hlt'
        have hgt : k.data.toList[p]'(by omega) = k[p] := rfl
        rw [hgt] at hst
        have hc2 := k[p].toNat_lt
        generalize k[p].toNat = c at *
        have hs3 : IntKind.u64.wrap (c : Int) = (c : Int) := by rw [IntKind.wrap_u64]; omega
        have hs1 : IntKind.u64.wrap ((a : Int) * 256) = (a : Int) * 256 := by rw [IntKind.wrap_u64]; omega
        have hs2 : IntKind.u64.wrap ((a : Int) * 256 + (c : Int)) = (b : Int) := by rw [IntKind.wrap_u64]; omega
        have HB := aside hb
        clear hb hst hlt hlt' hgt hc hc2
        go_wp2
        go_roundw
        case rel => exact ⟨p, by rw [← HB.out], by go_num, by omega, by omega, rfl⟩
        case measure => simp [intOf]
      · have hms : m = s := by omega
        have hng : ¬ (s : Int) ≤ (m : Int) - 1 := hge
        subst hms
        go_wp2
        go_ret
        exact ⟨by rw [restN_word k.data.toList m top (by rw [hlen]; exact HH.out) (by omega)]; rfl, rfl⟩
/-- The memory of Of: the version, the result, the sum. -/
def of3 (w : World) (c n r0 r1 x0 x1 : Int) : World :=
  ((w.alloc (.cells #[.int .i64 c, .int .i64 n] 42)).alloc (.cells #[.int .u64 r0, .int .u64 r1] 95)).alloc (.cells #[.int .u64 x0, .int .u64 x1] 95)
/-- What is kept of the memory while words are mixed. -/
structure OfSt (w wr : World) (c n x0 x1 : Int) : Prop where
  below : Below w.heap.size w wr
  sz : w.heap.size + 3 ≤ wr.heap.size
  v : wr.heap[w.heap.size]? = some (.cells #[.int .i64 c, .int .i64 n] 42 (0, 0))
  r : wr.heap[w.heap.size + 1]? = some (.cells #[.int .u64 0, .int .u64 0] 95 (0, 0))
  s : wr.heap[w.heap.size + 2]? = some (.cells #[.int .u64 x0, .int .u64 x1] 95 (0, 0))
theorem OfSt.keep {w wr w2 : World} {c n x0 x1 : Int} (h : OfSt w wr c n x0 x1) (b : Below wr.heap.size wr w2) : OfSt w w2 c n x0 x1 :=
  ⟨h.below.trans (b.mono h.below.size), by have := b.size; have := h.sz; omega, blk_on h.v b, blk_on h.r b, blk_on h.s b⟩
theorem OfSt.drew {w wr : World} {c n x0 x1 : Int} (h : OfSt w wr c n x0 x1) : OfSt w wr.drew c n x0 x1 := ⟨h.below.drew, h.sz, h.v, h.r, h.s⟩
theorem OfSt.set {w wr : World} {c n x0 x1 : Int} (h : OfSt w wr c n x0 x1) (y0 y1 : Int) : OfSt w ((wr.setCell ⟨w.heap.size + 2, 0, none⟩ (.int .u64 y0)).setCell ⟨w.heap.size + 2, 1, none⟩ (.int .u64 y1)) c n y0 y1 := by
  have s1 := heap_setCell_same wr (w.heap.size + 2) 0 _ _ (.int .u64 y0) h.s
  have s2 := heap_setCell_same _ (w.heap.size + 2) 1 _ _ (.int .u64 y1) s1
  refine ⟨(h.below.setCell (by simp) _).setCell (by simp) _, by simpa using h.sz, ?_, ?_, s2⟩
  · rw [heap_setCell_other _ _ _ _ (by simp), heap_setCell_other _ _ _ _ (by simp)]; exact h.v
  · rw [heap_setCell_other _ _ _ _ (by simp), heap_setCell_other _ _ _ _ (by simp)]; exact h.r
theorem of3_st (w : World) (c n x0 x1 : Int) : OfSt w (of3 w c n 0 0 x0 x1) c n x0 x1 := by
  refine ⟨((bnew w _).alloc (by simp) _).alloc (by simp; omega) _, by simp [of3], ?_, ?_, ?_⟩
  · exact blk_on (blk_on (heap_alloc_new w _) (bnew _ _)) (bnew _ _)
  · exact blk_on (by have := heap_alloc_new (w.alloc (.cells #[.int .i64 c, .int .i64 n] 42)) (.cells #[.int .u64 0, .int .u64 0] 95); simpa using this) (bnew _ _)
  · have := heap_alloc_new ((w.alloc (.cells #[.int .i64 c, .int .i64 n] 42)).alloc (.cells #[.int .u64 0, .int .u64 0] 95)) (.cells #[.int .u64 x0, .int .u64 x1] 95)
    simpa [of3] using this
def headW (k : ByteArray) (j : Nat) : List Int := (k.size : Int) :: keyW k.data.toList j
theorem head0 (k : ByteArray) (j : Nat) : lane0 (headW k (j + 1)) = mixI 11400714819323198485 29 (lane0 (headW k j)) (wordN k.data.toList (8 * j) : Int) := by
  rw [headW, keyW_succ, ← List.cons_append, lane0_snoc]; rfl
theorem head1 (k : ByteArray) (j : Nat) : lane1 (headW k (j + 1)) = mixI 14029467366897019727 32 (lane1 (headW k j)) (wordN k.data.toList (8 * j) : Int) := by
  rw [headW, keyW_succ, ← List.cons_append, lane1_snoc]; rfl
theorem of0_end (k : ByteArray) (c n : Int) {j : Nat} (h : j = keyN k.size) : of0 k c n = mixI 11400714819323198485 29 (mixI 11400714819323198485 29 (lane0 (headW k j)) (IntKind.u64.wrap c)) (IntKind.u64.wrap n) := by
  subst h; rw [of0, wordsI_snoc, lane0_snoc, lane0_snoc]; rfl
theorem of1_end (k : ByteArray) (c n : Int) {j : Nat} (h : j = keyN k.size) : of1 k c n = mixI 14029467366897019727 32 (mixI 14029467366897019727 32 (lane1 (headW k j)) (IntKind.u64.wrap c)) (IntKind.u64.wrap n) := by
  subst h; rw [of1, wordsI_snoc, lane1_snoc, lane1_snoc]; rfl
def OfRel (w : World) (k : ByteArray) (c n : Int) (i : Value) (wr : World) : Prop :=
  ∃ j : Nat, i = .int .i64 ((8 * j : Nat) : Int) ∧ j ≤ keyN k.size ∧ OfSt w wr c n (lane0 (headW k j)) (lane1 (headW k j))
def OfRel0 (w : World) (c n : Int) (i : Value) (wr : World) : Prop :=
  (i = .int .i64 0 ∧ wr = of3 w c n 0 0 0 0) ∨ (i = .int .i64 1 ∧ wr = of3 w c n 0 0 2611923443488327891 0) ∨ (i = .int .i64 2 ∧ wr = of3 w c n 0 0 2611923443488327891 1376283091369227076)
set_option maxHeartbeats 1600000 in
set_option maxRecDepth 100000 in
theorem of_any (k : ByteArray) (c n : Int) (w : World) (L : Lanes w) (hk : k.size ≤ 140737488355328) :
    Calls Tryd.prog 90 #[.string k, .agg #[.int .i64 c, .int .i64 n]] w fun e w' => e = .returned (ofV k c n) ∧ Below w.heap.size w w' := by
  have h0 := L.pos
  have LL := aside L
  obtain ⟨c0, c1, c2, c3, c4, c5⟩ := L
  go_enter Tryd.func90, Tryd.ntmps90
  go_wp2
  go_loopw [8] (fun i wr => OfRel0 w c n i wr) (fun i _ => 2 - (intOf i).toNat)
  case atStart => exact .inl ⟨rfl, rfl⟩
  case round =>
    obtain ⟨rfl, rfl⟩ | ⟨rfl, rfl⟩ | ⟨rfl, rfl⟩ := hrel
    · unfold of3
      go_wp2
      go_roundw
      case rel => exact .inr (.inl ⟨rfl, rfl⟩)
      case measure => simp [intOf]
    · unfold of3
      go_wp2
      go_roundw
      case rel => exact .inr (.inr ⟨rfl, rfl⟩)
      case measure => simp [intOf]
    · unfold of3
      go_wp2_with fail
      refine (mixed_any _ _ _ _ (LL.out.keep (of3_st w c n _ _).below)).mono ?_
      rintro e w1 ⟨rfl, b1⟩
      have S1 := (of3_st w c n _ _).keep b1
      have H1 := aside S1
      obtain ⟨-, z1, -, -, s1⟩ := S1
      obtain ⟨p0, p1, p2, p3⟩ := pair s1
      clear b1 s1 c0 c1 c2 c3 c4 c5
      go_wp2_with fail
      have H2 := H1.out.set (lane0 (headW k 0)) (lane1 (headW k 0))
      have HH2 := aside H2
      clear H1 H2
      go_loopw [7] (fun i wr => OfRel w k c n i wr) (fun i _ => (k.size + 8 - (intOf i).toNat))
      case atStart => exact ⟨0, rfl, Nat.zero_le _, HH2.out⟩
      case round =>
        obtain ⟨j, rfl, hj, S⟩ := hrel
        clear HH2 p0 p1 p2 p3
        have L2 := aside (LL.out.keep S.drew.below)
        have HS := aside S
        obtain ⟨-, z1, s2, s3, s1⟩ := S
        obtain ⟨p0, p1, p2, p3⟩ := pair s1
        by_cases hlt : ((8 * j : Nat) : Int) < (k.size : Int)
        · clear s1 s2 s3
          have wa : ∀ W, Hid _ := fun W => aside (wordAt_any k (8 * j) W hk (by omega))
          have hw8 : IntKind.i64.wrap (8 * (j : Int) + 8) = 8 * (j : Int) + 8 := by rw [IntKind.wrap_i64]; omega
          go_wp2
          go_region_with (first | (go_at_call 108; refine (wa _).out.mono ?_; rintro e w' ⟨rfl, rfl⟩) | (go_at_call 107; refine (mixed_any _ _ _ _ L2.out).mono ?_; rintro e w2 ⟨rfl, b2⟩; have S2 := HS.out.drew.keep b2; have HS2 := aside S2; obtain ⟨-, -, -, -, s1⟩ := S2; obtain ⟨q0, q1, q2, q3⟩ := pair s1; clear s1))
          all_goals
            go_wp2
            go_roundw
            case rel =>
              refine ⟨j + 1, by congr 1, by unfold keyN; omega, ?_⟩
              rw [head0, head1]
              exact HS2.out.set _ _
            case measure => simp [intOf]; omega
        · obtain ⟨q0, q1, q2, q3⟩ := pair s2
          clear s1 s2 s3
          have hjn : j = keyN k.size := by unfold keyN at hj ⊢; omega
          have HJ := aside hjn
          clear hjn hj
          go_wp2_with fail
          refine (mixed_any _ _ _ _ (LL.out.keep HS.out.below)).mono ?_
          rintro e w2 ⟨rfl, b2⟩
          have S2 := HS.out.keep b2
          have HS2 := aside (S2.set (mixI 11400714819323198485 29 (lane0 (headW k j)) (IntKind.u64.wrap c)) (mixI 14029467366897019727 32 (lane1 (headW k j)) (IntKind.u64.wrap c)))
          clear HS L2 p0 p1 p2 p3 q0 q1 q2 q3 b2 z1
          obtain ⟨-, z1, s2, s3, s1⟩ := S2
          obtain ⟨p0, p1, p2, p3⟩ := pair s1
          obtain ⟨q0, q1, q2, q3⟩ := pair s2
          clear s1 s2 s3
          go_wp2_with fail
          refine (mixed_any _ _ _ _ (LL.out.keep HS2.out.below)).mono ?_
          rintro e w3 ⟨rfl, b3⟩
          have S3 := HS2.out.keep b3
          have HS3 := aside S3
          clear HS2 p0 p1 p2 p3 q0 q1 q2 q3 b3 z1
          obtain ⟨-, z1, s2, s3, s1⟩ := S3
          obtain ⟨p0, p1, p2, p3⟩ := pair s3
          clear s1 s2 s3
          go_wp2_with fail
          have e0 := of0_end k c n HJ.out
          have e1 := of1_end k c n HJ.out
          generalize mixI 11400714819323198485 29 (mixI 11400714819323198485 29 (lane0 (headW k j)) (IntKind.u64.wrap c)) (IntKind.u64.wrap n) = x0 at *
          generalize mixI 14029467366897019727 32 (mixI 14029467366897019727 32 (lane1 (headW k j)) (IntKind.u64.wrap c)) (IntKind.u64.wrap n) = x1 at *
          refine bodyPost_ret (v := .agg #[.int .u64 x0, .int .u64 x1]) (by simp [results, Tryd.results90, go_sem, p0, p1]) rfl ⟨by rw [ofV, e0, e1], ?_⟩
          exact (HS3.out.below.setCell (by simp) _).setCell (by simp) _
end Go.Proofs.YtlbkcndmljlnmaaDoor
namespace Go.Proofs.YtlbkcndmljlnmaaDoor
open Go.RowKit
set_option linter.unusedVariables false
end Go.Proofs.YtlbkcndmljlnmaaDoor
namespace Go.Proofs.YtlbkcndmljlnmaaDoor
open Go.RowKit
set_option linter.unusedVariables false
set_option maxHeartbeats 1600000 in
set_option maxRecDepth 100000 in
theorem tof_any (k : ByteArray) (c n : Int) (v : ByteArray) (d : Bool) (w : World) (L : Lanes w) (hk : k.size ≤ 140737488351232) :
    Calls Tryd.prog 61 #[.agg #[.string k, .int .i64 c, .int .i64 n, .string v, .bool d]] w fun e w' => e = .returned (.agg #[.int .i64 1, .int .u64 (of0 k c n), .int .u64 (of1 k c n)]) ∧ Below w.heap.size w w' := by
  have LL := aside L
  clear L
  have B0 := aside (bthen (bnew w (.cells #[.string k, .int .i64 c, .int .i64 n, .string v, .bool d] 44)) (bnew _ (.cells #[.int .i64 0, .int .u64 0, .int .u64 0] 97)))
  have G := aside (heap_alloc_new (w.alloc (.cells #[.string k, .int .i64 c, .int .i64 n, .string v, .bool d] 44)) (.cells #[.int .i64 0, .int .u64 0, .int .u64 0] 97))
  have hz : (w.alloc (.cells #[.string k, .int .i64 c, .int .i64 n, .string v, .bool d] 44)).heap.size = w.heap.size + 1 := by simp
  rw [hz] at G
  obtain ⟨x, hx⟩ : ∃ x, of0 k c n = x := ⟨_, rfl⟩
  obtain ⟨y, hy⟩ : ∃ y, of1 k c n = y := ⟨_, rfl⟩
  have CO : Hid (∀ W, Below w.heap.size w W → Calls Tryd.prog 90 #[.string k, .agg #[.int .i64 c, .int .i64 n]] W fun e w' => e = .returned (.agg #[.int .u64 x, .int .u64 y]) ∧ Below W.heap.size W w') := fun W bw => by
    rw [← hx, ← hy]
    exact of_any k c n W (LL.out.keep bw) (by omega)
  rw [hx, hy]
  clear hz hx hy
  go_enter Tryd.func61, Tryd.ntmps61
  go_wp2_with fail
  generalize (w.alloc (.cells #[.string k, .int .i64 c, .int .i64 n, .string v, .bool d] 44)).alloc (.cells #[.int .i64 0, .int .u64 0, .int .u64 0] 97) = V at *
  refine (CO.out _ B0.out).mono ?_
  rintro e w1 ⟨rfl, b1⟩
  have B1 := aside (bthen B0.out b1)
  obtain ⟨s0, s1, s2, z0, z1, z2⟩ := tri (blk_on G.out b1)
  clear b1 G B0
  go_wp2
  exact bodyPost_ret (v := .agg #[.int .i64 1, .int .u64 x, .int .u64 y]) (by simp [results, Tryd.results61, go_sem, s0, s1, s2]) rfl ⟨rfl, ((B1.out.setCell (by simp) _).setCell (by simp) _).setCell (by simp) _⟩
end Go.Proofs.YtlbkcndmljlnmaaDoor
namespace Go.Proofs.YtlbkcndmljlnmaaDoor
open Go.RowKit
set_option linter.unusedVariables false
set_option maxHeartbeats 3200000 in
set_option maxRecDepth 100000 in
theorem slen {w : World} {sb g tb : Nat} {nd ck : Int} {T : Tr En Tl} {n : Nat} (h : IsSt w sb g tb nd ck T n) : Calls Tryd.prog 22 #[.pointer (some ⟨sb, 0, none⟩)] w fun e w' => e = .returned (.int .i64 (T.cnt : Int)) ∧ w' = w := by
  obtain ⟨-, -, -, c3, -⟩ := quad h.blk
  have C := aside (ylenE h.tree)
  generalize (T.cnt : Int) = m at *
  clear h
  go_enter Tryd.func22, Tryd.ntmps22
  go_wp2_with fail
  refine C.out.mono ?_
  rintro e w1 ⟨rfl, rfl⟩
  go_wp2
  go_ret
  exact ⟨rfl, rfl⟩
set_option maxHeartbeats 3200000 in
set_option maxRecDepth 100000 in
theorem sclock {w : World} {sb g tb : Nat} {nd ck : Int} {T : Tr En Tl} {n : Nat} (h : IsSt w sb g tb nd ck T n) : Calls Tryd.prog 37 #[.pointer (some ⟨sb, 0, none⟩)] w fun e w' => e = .returned (.int .i64 ck) ∧ w' = w := by
  obtain ⟨-, c1, -, -, -⟩ := quad h.blk
  clear h
  go_enter Tryd.func37, Tryd.ntmps37
  go_wp2
  go_ret
  exact ⟨rfl, rfl⟩
set_option maxHeartbeats 3200000 in
set_option maxRecDepth 100000 in
theorem snode {w : World} {sb g tb : Nat} {nd ck : Int} {T : Tr En Tl} {n : Nat} (h : IsSt w sb g tb nd ck T n) : Calls Tryd.prog 36 #[.pointer (some ⟨sb, 0, none⟩)] w fun e w' => e = .returned (.int .i64 nd) ∧ w' = w := by
  obtain ⟨c0, -, -, -, -⟩ := quad h.blk
  clear h
  go_enter Tryd.func36, Tryd.ntmps36
  go_wp2
  go_ret
  exact ⟨rfl, rfl⟩
set_option maxHeartbeats 3200000 in
set_option maxRecDepth 100000 in
theorem sempty (nd ck : Int) (w : World) : Calls Tryd.prog 23 #[.int .i64 nd, .int .i64 ck] w fun e w' => ∃ sb g tb, e = .returned (.pointer (some ⟨sb, 0, none⟩)) ∧ IsSt w' sb g tb nd ck .nil 0 ∧ Below w.heap.size w w' ∧ w.heap.size ≤ sb ∧ w.heap.size ≤ g ∧ w.heap.size ≤ tb := by
  have hmf : ∀ (fn : Fn) (first cap : Array Value) (w : World), (Instr.makeFunc fn first cap).run Tryd.prog w = .ok (.func fn first cap) w := fun _ _ _ _ => rfl
  have C1 := aside (newMeter_any w)
  have C2 := aside (fun (W : World) => ynewE (.func 58) #[.pointer (some ⟨w.heap.size, 0, none⟩)] #[] W)
  have M := aside (heap_alloc_new w (.cells #[.int .i64 0] 150))
  have B0 := aside (bnew w (.cells #[.int .i64 0] 150))
  go_enter Tryd.func23, Tryd.ntmps23
  go_wp2_with fail
  refine C1.out.mono ?_
  rintro e w1 ⟨rfl, rfl⟩
  go_wp2_with fail
  refine (C2.out _).mono ?_
  rintro e w2 ⟨tb, rfl, ht, hb, hlt⟩
  have HT := aside ht
  have HB := aside hb
  have HL := aside hlt
  clear ht hb hlt C1 C2
  go_wp2
  go_ret
  have hs := HL.out
  simp at hs
  refine ⟨w2.heap.size, w.heap.size, tb, rfl, ⟨heap_alloc_new w2 _, fun b e => ?_, HT.out.below (bnew _ _)⟩, bthen (bthen B0.out HB.out) (bnew _ _), (by have := HB.out.size; simp at this; omega), Nat.le_refl _, by omega⟩
  cases e
  exact blk_on (blk_on M.out HB.out) (bnew _ _)
end Go.Proofs.YtlbkcndmljlnmaaDoor
