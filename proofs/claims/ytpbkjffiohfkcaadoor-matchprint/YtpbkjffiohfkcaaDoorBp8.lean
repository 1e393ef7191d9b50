/-
  Plain mathematics of ranges of keys: which may be, which are empty, which keys they hold.
  Check, the code's and the document's own: each returns the number that the plain function gives, and writes nothing that was there.
  Empty and Holds, the code's and the document's own: each returns what the plain function gives, and writes nothing that was there.
  The code's Of: the words of a key, and all words mixed.
  The document's words, lane and Of.
  Of and All of tallies, of the code and of the document.
  The store's small calls: Len, Clock, Node, Joins, a new one.
  hold: an entry is put, the clock is met.
  roomFor, Get, rows and Fold.
  rows and Fold.
  Next, the code's and the document's own, as one plain function; and what it promises.
  write, Put and Delete.
  Put, Delete and Take.
  New: a store that holds nothing.
  A store, as a law meets it: by the entries that it holds.
-/
import Derived.Test.YtpbkjffiohfkcaaDoorProg
import Derived.WalkKit
import Derived.Laws.Cover1
import Derived.Test.YtpbkjffiohfkcaaDoorBp1
import Derived.WalkSpells
import Derived.WalkLawsBesides
import Derived.KernelRfl
import Derived.Below
import Derived.Laws.IdiomStrings
import Derived.Test.YtpbkjffiohfkcaaDoorBp7
import Derived.Deep.RegionWith
import Derived.Test.YtpbkjffiohfkcaaDoorBp2
import Derived.Deep.RegionHeld
import Derived.OrdersHeld
import Derived.Deep.RegionHeld3
namespace Go.Proofs.YtpbkjffiohfkcaaDoor
open Go.RowKit
/-- A range: its bounds, and whether it is open. -/
structure Rg where
  lo : ByteArray
  hi : ByteArray
  op : Bool
namespace Rg
/-- As a value of the program. -/
def val (r : Rg) : Value := .agg #[.string r.lo, .string r.hi, .bool r.op]
/-- The number that Check gives. -/
def chk (r : Rg) : Int :=
  if 16 < (r.lo.size : Int) ∨ 16 < (r.hi.size : Int) then 20
  else if (r.op && !r.hi.toList.isEmpty) || (!r.op && (!Op.bytesLess r.lo.toList r.hi.toList && !(r.lo.toList == r.hi.toList))) then 21 else 0
/-- May it be? -/
def may (r : Rg) : Bool := chk r == 0
/-- Is it empty, or may it not be? -/
def emp (r : Rg) : Bool := !r.may || (!r.op && (r.lo.toList == r.hi.toList))
/-- Does it hold a key? -/
def has (r : Rg) (k : ByteArray) : Bool := r.may && decide ((k.size : Int) ≤ 16) && !Op.bytesLess k.toList r.lo.toList && (r.op || Op.bytesLess k.toList r.hi.toList)
/-- The higher one of two texts. -/
def mx (a b : ByteArray) : ByteArray := bif Op.bytesLess a.toList b.toList then b else a
/-- What two ranges meet in, if they were to meet. -/
def both (a b : Rg) : Rg := ⟨mx a.lo b.lo, bif a.op || (!b.op && Op.bytesLess b.hi.toList a.hi.toList) then b.hi else a.hi, bif a.op || (!b.op && Op.bytesLess b.hi.toList a.hi.toList) then b.op else a.op⟩
/-- What two ranges meet in. -/
def meet (a b : Rg) : Option Rg := if a.emp || b.emp || (both a b).emp then none else some (both a b)
end Rg
end Go.Proofs.YtpbkjffiohfkcaaDoor
namespace Go.Proofs.YtpbkjffiohfkcaaDoor
open Go.RowKit
theorem chk_shut {lo hi : ByteArray} (h1 : (lo.size : Int) ≤ 16) (h2 : (hi.size : Int) ≤ 16) :
    Rg.chk ⟨lo, hi, false⟩ = bif (!Op.bytesLess lo.toList hi.toList && !(lo.toList == hi.toList)) then 21 else 0 := by
  unfold Rg.chk; rw [if_neg (not_or.2 ⟨Int.not_lt.2 h1, Int.not_lt.2 h2⟩)]
  cases Op.bytesLess lo.toList hi.toList <;> cases (lo.toList == hi.toList) <;> rfl
theorem chk_open {lo hi : ByteArray} (h1 : (lo.size : Int) ≤ 16) (h2 : (hi.size : Int) ≤ 16) :
    Rg.chk ⟨lo, hi, true⟩ = bif hi.toList.isEmpty then 0 else 21 := by
  unfold Rg.chk; rw [if_neg (not_or.2 ⟨Int.not_lt.2 h1, Int.not_lt.2 h2⟩)]
  cases hi.toList.isEmpty <;> rfl
set_option maxHeartbeats 1600000 in
theorem check_any (lo hi : ByteArray) (op : Bool) (w : World) :
    Calls Tryd.prog 15 #[.agg #[.string lo, .string hi, .bool op]] w fun e w' => e = .returned (.int .i64 (Rg.chk ⟨lo, hi, op⟩)) ∧ Below w.heap.size w w' := by
  by_cases h1 : (16 : Int) < lo.size
  · go_enter Tryd.func15, Tryd.ntmps15
    go_wp2
    go_ret
    exact ⟨ret_i64 (by simp [Rg.chk, h1]), (Below.refl _ w).alloc (Nat.le_refl _) _⟩
  · by_cases h2 : (16 : Int) < hi.size
    · go_enter Tryd.func15, Tryd.ntmps15
      go_wp2
      go_ret
      exact ⟨ret_i64 (by simp [Rg.chk, h2]), (Below.refl _ w).alloc (Nat.le_refl _) _⟩
    · cases op
      · cases h4 : Op.bytesLess lo.toList hi.toList <;> cases h5 : (lo.toList == hi.toList)
        all_goals
          go_enter Tryd.func15, Tryd.ntmps15
          go_wp2
          go_ret
          exact ⟨ret_i64 (by rw [chk_shut h1 h2, h4, h5]; rfl), (Below.refl _ w).alloc (Nat.le_refl _) _⟩
      · cases h3 : hi.toList.isEmpty
        all_goals
          go_enter Tryd.func15, Tryd.ntmps15
          go_wp2
          go_ret
          exact ⟨ret_i64 (by rw [chk_open h1 h2, h3]; rfl), (Below.refl _ w).alloc (Nat.le_refl _) _⟩
set_option maxHeartbeats 1600000 in
theorem checkRef_any (lo hi : ByteArray) (op : Bool) (w : World) :
    Calls Tryd.prog 18 #[.agg #[.string lo, .string hi, .bool op]] w fun e w' => e = .returned (.int .i64 (Rg.chk ⟨lo, hi, op⟩)) ∧ Below w.heap.size w w' := by
  by_cases h1 : (16 : Int) < lo.size
  · go_enter Tryd.func18, Tryd.ntmps18
    go_wp2
    go_ret
    exact ⟨ret_i64 (by simp [Rg.chk, h1]), (Below.refl _ w).alloc (Nat.le_refl _) _⟩
  · by_cases h2 : (16 : Int) < hi.size
    · go_enter Tryd.func18, Tryd.ntmps18
      go_wp2
      go_ret
      exact ⟨ret_i64 (by simp [Rg.chk, h2]), (Below.refl _ w).alloc (Nat.le_refl _) _⟩
    · cases op
      · cases h4 : Op.bytesLess lo.toList hi.toList <;> cases h5 : (lo.toList == hi.toList)
        all_goals
          go_enter Tryd.func18, Tryd.ntmps18
          go_wp2
          go_ret
          exact ⟨ret_i64 (by rw [chk_shut h1 h2, h4, h5]; rfl), (Below.refl _ w).alloc (Nat.le_refl _) _⟩
      · cases h3 : hi.toList.isEmpty
        all_goals
          go_enter Tryd.func18, Tryd.ntmps18
          go_wp2
          go_ret
          exact ⟨ret_i64 (by rw [chk_open h1 h2, h3]; rfl), (Below.refl _ w).alloc (Nat.le_refl _) _⟩
set_option maxHeartbeats 1600000 in
theorem mayBe_any (lo hi : ByteArray) (op : Bool) (w : World) :
    Calls Tryd.prog 27 #[.agg #[.string lo, .string hi, .bool op]] w fun e w' => e = .returned (.bool (Rg.may ⟨lo, hi, op⟩)) ∧ Below w.heap.size w w' := by
  go_enter Tryd.func27, Tryd.ntmps27
  go_wp2_with (go_at_call 15; refine (check_any _ _ _ _).mono ?_; rintro e w1 ⟨rfl, b1⟩)
  go_ret
  exact ⟨ret_bool rfl, bthen (bnew w _) b1⟩
end Go.Proofs.YtpbkjffiohfkcaaDoor
namespace Go.Proofs.YtpbkjffiohfkcaaDoor
open Go.RowKit
/-- What lies in a box that was laid last stays there. -/
theorem box3 {w w1 : World} {a b c : Value} {t : TypeId} (h : Below (w.alloc (.cells #[a, b, c] t)).heap.size (w.alloc (.cells #[a, b, c] t)) w1) :
    w1.cell? ⟨w.heap.size, 0, none⟩ = some a ∧ w1.cell? ⟨w.heap.size, 1, none⟩ = some b ∧ w1.cell? ⟨w.heap.size, 2, none⟩ = some c := by
  have e : ∀ j, (w.alloc (.cells #[a, b, c] t)).cell? ⟨w.heap.size, j, none⟩ = #[a, b, c][j]? := fun j => World.cell?_alloc_mark w #[a, b, c] t (0, 0) j
  refine ⟨?_, ?_, ?_⟩
  · rw [h.cell (p := ⟨w.heap.size, 0, none⟩) (by simp), e]; rfl
  · rw [h.cell (p := ⟨w.heap.size, 1, none⟩) (by simp), e]; rfl
  · rw [h.cell (p := ⟨w.heap.size, 2, none⟩) (by simp), e]; rfl
theorem mayBe_at {lo hi : ByteArray} {op m : Bool} (h : Rg.may ⟨lo, hi, op⟩ = m) (w : World) :
    Calls Tryd.prog 27 #[.agg #[.string lo, .string hi, .bool op]] w fun e w' => e = .returned (.bool m) ∧ Below w.heap.size w w' := by
  subst h; exact mayBe_any lo hi op w
theorem check_at {lo hi : ByteArray} {op : Bool} {c : Int} (h : Rg.chk ⟨lo, hi, op⟩ = c) (w : World) :
    Calls Tryd.prog 15 #[.agg #[.string lo, .string hi, .bool op]] w fun e w' => e = .returned (.int .i64 c) ∧ Below w.heap.size w w' := by
  subst h; exact check_any lo hi op w
theorem checkRef_at {lo hi : ByteArray} {op : Bool} {c : Int} (h : Rg.chk ⟨lo, hi, op⟩ = c) (w : World) :
    Calls Tryd.prog 18 #[.agg #[.string lo, .string hi, .bool op]] w fun e w' => e = .returned (.int .i64 c) ∧ Below w.heap.size w w' := by
  subst h; exact checkRef_any lo hi op w
theorem may_chk {r : Rg} (h : r.may = true) : r.chk = 0 := by simpa [Rg.may] using h
theorem may_not {r : Rg} (h : r.may = false) : ∃ c, r.chk = c ∧ (c != 0) = true ∧ ¬ c = 0 := ⟨_, rfl, by simpa [Rg.may] using h, by simpa [Rg.may] using h⟩
set_option maxHeartbeats 1600000 in
theorem empty_any (lo hi : ByteArray) (op : Bool) (w : World) :
    Calls Tryd.prog 16 #[.agg #[.string lo, .string hi, .bool op]] w fun e w' => e = .returned (.bool (Rg.emp ⟨lo, hi, op⟩)) ∧ Below w.heap.size w w' := by
  cases hm : Rg.may ⟨lo, hi, op⟩
  · rw [show Rg.emp ⟨lo, hi, op⟩ = true from by simp [Rg.emp, hm]]
    have C := aside (fun w => mayBe_at hm w)
    clear hm
    go_enter Tryd.func16, Tryd.ntmps16
    go_wp2_with (go_at_call 27; refine (C.out _).mono ?_; rintro e w1 ⟨rfl, b1⟩; obtain ⟨q0, q1, q2⟩ := box3 b1)
    go_ret
    exact ⟨rfl, bthen (bnew w _) b1⟩
  · have C := aside (fun w => mayBe_at hm w)
    rw [show Rg.emp ⟨lo, hi, op⟩ = (!op && (lo.toList == hi.toList)) from by simp [Rg.emp, hm]]
    clear hm
    cases op
    · cases h5 : (lo.toList == hi.toList)
      all_goals
        go_enter Tryd.func16, Tryd.ntmps16
        go_wp2_with (go_at_call 27; refine (C.out _).mono ?_; rintro e w1 ⟨rfl, b1⟩; obtain ⟨q0, q1, q2⟩ := box3 b1)
        go_ret
        exact ⟨rfl, bthen (bnew w _) b1⟩
    · go_enter Tryd.func16, Tryd.ntmps16
      go_wp2_with (go_at_call 27; refine (C.out _).mono ?_; rintro e w1 ⟨rfl, b1⟩; obtain ⟨q0, q1, q2⟩ := box3 b1)
      go_ret
      exact ⟨rfl, bthen (bnew w _) b1⟩
set_option maxHeartbeats 1600000 in
theorem holdsRef_any (lo hi : ByteArray) (op : Bool) (k : ByteArray) (w : World) :
    Calls Tryd.prog 41 #[.agg #[.string lo, .string hi, .bool op], .string k] w fun e w' => e = .returned (.bool (Rg.has ⟨lo, hi, op⟩ k)) ∧ Below w.heap.size w w' := by
  cases hm : Rg.may ⟨lo, hi, op⟩
  · rw [show Rg.has ⟨lo, hi, op⟩ k = false from by simp [Rg.has, hm]]
    obtain ⟨c, hc, hne, hnz⟩ := may_not hm
    have C := aside (fun w => checkRef_at hc w)
    clear hm hc
    go_enter Tryd.func41, Tryd.ntmps41
    go_wp2_with (go_at_call 18; refine (C.out _).mono ?_; rintro e w1 ⟨rfl, b1⟩; obtain ⟨q0, q1, q2⟩ := box3 b1)
    go_ret
    exact ⟨rfl, bthen (bnew w _) b1⟩
  · have C := aside (fun w => checkRef_at (may_chk hm) w)
    rw [show Rg.has ⟨lo, hi, op⟩ k = (decide ((k.size : Int) ≤ 16) && !Op.bytesLess k.toList lo.toList && (op || Op.bytesLess k.toList hi.toList)) from by simp [Rg.has, hm]]
    clear hm
    by_cases h1 : (k.size : Int) ≤ 16
    · rw [decide_eq_true h1]
      cases h2 : Op.bytesLess k.toList lo.toList
      · cases op
        · cases h5 : Op.bytesLess k.toList hi.toList
          all_goals
            go_enter Tryd.func41, Tryd.ntmps41
            go_wp2_with (go_at_call 18; refine (C.out _).mono ?_; rintro e w1 ⟨rfl, b1⟩; obtain ⟨q0, q1, q2⟩ := box3 b1)
            go_ret
            exact ⟨rfl, bthen (bnew w _) b1⟩
        · go_enter Tryd.func41, Tryd.ntmps41
          go_wp2_with (go_at_call 18; refine (C.out _).mono ?_; rintro e w1 ⟨rfl, b1⟩; obtain ⟨q0, q1, q2⟩ := box3 b1)
          go_ret
          exact ⟨rfl, bthen (bnew w _) b1⟩
      · go_enter Tryd.func41, Tryd.ntmps41
        go_wp2_with (go_at_call 18; refine (C.out _).mono ?_; rintro e w1 ⟨rfl, b1⟩; obtain ⟨q0, q1, q2⟩ := box3 b1)
        go_ret
        exact ⟨rfl, bthen (bnew w _) b1⟩
    · rw [decide_eq_false h1]
      go_enter Tryd.func41, Tryd.ntmps41
      go_wp2_with (go_at_call 18; refine (C.out _).mono ?_; rintro e w1 ⟨rfl, b1⟩; obtain ⟨q0, q1, q2⟩ := box3 b1)
      go_ret
      exact ⟨rfl, bthen (bnew w _) b1⟩
end Go.Proofs.YtpbkjffiohfkcaaDoor
namespace Go.Proofs.YtpbkjffiohfkcaaDoor
open Go.RowKit
set_option linter.unusedVariables false
/-- What the loop over a word's bytes has come to, from byte m on. -/
def restN (k : List UInt8) (h m : Nat) : Nat := leB ((k.drop m).take (h - m))
theorem restN_end (k : List UInt8) (h : Nat) : restN k h h = 0 := by simp [restN, leB]
theorem restN_step (k : List UInt8) (h m : Nat) (hm : m < h) (hk : m < k.length) : restN k h m = restN k h (m + 1) * 256 + k[m].toNat := by
  unfold restN
  rw [List.drop_eq_getElem_cons hk, show h - m = (h - (m + 1)) + 1 from by omega, List.take_succ_cons]
  simp only [leB]
  omega
theorem restN_lt (k : List UInt8) (h m : Nat) (hm : h ≤ m + 8) : restN k h m < 18446744073709551616 := by
  have hl := leB_lt ((k.drop m).take (h - m))
  have hb : ((k.drop m).take (h - m)).length ≤ 8 := by simp; omega
  have : 256 ^ ((k.drop m).take (h - m)).length ≤ 256 ^ 8 := Nat.pow_le_pow_right (by decide) hb
  unfold restN
  omega
theorem restN_word (k : List UInt8) (s h : Nat) (hh : h = min (s + 8) k.length) (hs : s ≤ k.length) : restN k h s = wordN k s := by
  unfold restN wordN
  by_cases h8 : s + 8 ≤ k.length
  · rw [show h - s = 8 from by omega]
  · rw [List.take_of_length_le (by simp; omega), List.take_of_length_le (by simp; omega)]
def WordAtRel (k : ByteArray) (s h : Nat) (w : World) (v i : Value) (wr : World) : Prop :=
  ∃ m : Nat, v = .int .u64 (restN k.data.toList h m : Int) ∧ i = .int .i64 ((m : Int) - 1) ∧ s ≤ m ∧ m ≤ h ∧ wr = w
set_option maxHeartbeats 1600000 in
set_option maxRecDepth 100000 in
theorem wordAt_any (k : ByteArray) (s : Nat) (w : World) (hk : k.size ≤ 140737488355328) (hs : s < k.size) :
    Calls Tryd.prog 68 #[.string k, .int .i64 (s : Int)] w fun e w' => e = .returned (.int .u64 (wordN k.data.toList s : Int)) ∧ w' = w := by
  have hlen : k.data.toList.length = k.size := by show k.data.toList.length = k.data.size; simp
  have hw8 : IntKind.i64.wrap ((s : Int) + 8) = (s : Int) + 8 := by rw [IntKind.wrap_i64]; omega
  obtain ⟨top, hh⟩ : ∃ h, h = min (s + 8) k.size := ⟨_, rfl⟩
  have HH := aside hh
  clear hh
  go_enter Tryd.func68, Tryd.ntmps68
  go_wp2
  all_goals
    rename_i hc
    go_loopw [5, 6] (fun v i wr => WordAtRel k s top w v i wr) (fun _ i _ => (intOf i + 1).toNat)
    case atStart =>
      refine ⟨top, by rw [restN_end]; rfl, ?_, by have := HH.out; omega, Nat.le_refl _, rfl⟩
      congr 1
      have := HH.out
      omega
    case round =>
      obtain ⟨m, rfl, rfl, hsm, hmh, rfl⟩ := hrel
      by_cases hge : (s : Int) ≤ (m : Int) - 1
      · obtain ⟨p, rfl⟩ : ∃ p, m = p + 1 := ⟨m - 1, by omega⟩
        have hp : ((p + 1 : Nat) : Int) - 1 = (p : Int) := by omega
        rw [hp]
        have hpk : p < k.size := by have := HH.out; omega
        have hps : (s : Int) ≤ (p : Int) := by omega
        have hix := idx_str' k p hpk (p : Int) rfl wr
        have hst := restN_step k.data.toList top p (by omega) (by omega)
        have hlt := restN_lt k.data.toList top (p + 1) (by have := HH.out; omega)
        have hlt' := restN_lt k.data.toList top p (by have := HH.out; omega)
        generalize restN k.data.toList top (p + 1) = a at *
        obtain ⟨b, hb⟩ : ∃ b, b = restN k.data.toList top p := ⟨_, rfl⟩
        rw [← hb] at hst hlt'
        have hgt : k.data.toList[p]'(by omega) = k[p] := rfl
        rw [hgt] at hst
        have hc2 := k[p].toNat_lt
        generalize k[p].toNat = c at *
        have hs3 : IntKind.u64.wrap (c : Int) = (c : Int) := by rw [IntKind.wrap_u64]; omega
        have hs1 : IntKind.u64.wrap ((a : Int) * 256) = (a : Int) * 256 := by rw [IntKind.wrap_u64]; omega
        have hs2 : IntKind.u64.wrap ((a : Int) * 256 + (c : Int)) = (b : Int) := by rw [IntKind.wrap_u64]; omega
        have HB := aside hb
        clear hb hst hlt hlt' hgt hc hc2
        go_wp2
        go_roundw
        case rel => exact ⟨p, by rw [← HB.out], by go_num, by omega, by omega, rfl⟩
        case measure => simp [intOf]
      · have hms : m = s := by omega
        have hng : ¬ (s : Int) ≤ (m : Int) - 1 := hge
        subst hms
        go_wp2
        go_ret
        exact ⟨by rw [restN_word k.data.toList m top (by rw [hlen]; exact HH.out) (by omega)]; rfl, rfl⟩
/-- The memory of Of: the version, the result, the sum. -/
def of3 (w : World) (c n r0 r1 x0 x1 : Int) : World :=
  ((w.alloc (.cells #[.int .i64 c, .int .i64 n] 52)).alloc (.cells #[.int .u64 r0, .int .u64 r1] 30)).alloc (.cells #[.int .u64 x0, .int .u64 x1] 30)
/-- What is kept of the memory while words are mixed. -/
structure OfSt (w wr : World) (c n x0 x1 : Int) : Prop where
  below : Below w.heap.size w wr
  sz : w.heap.size + 3 ≤ wr.heap.size
  v : wr.heap[w.heap.size]? = some (.cells #[.int .i64 c, .int .i64 n] 52 (0, 0))
  r : wr.heap[w.heap.size + 1]? = some (.cells #[.int .u64 0, .int .u64 0] 30 (0, 0))
  s : wr.heap[w.heap.size + 2]? = some (.cells #[.int .u64 x0, .int .u64 x1] 30 (0, 0))
theorem OfSt.keep {w wr w2 : World} {c n x0 x1 : Int} (h : OfSt w wr c n x0 x1) (b : Below wr.heap.size wr w2) : OfSt w w2 c n x0 x1 :=
  ⟨h.below.trans (b.mono h.below.size), by have := b.size; have := h.sz; omega, blk_on h.v b, blk_on h.r b, blk_on h.s b⟩
theorem OfSt.drew {w wr : World} {c n x0 x1 : Int} (h : OfSt w wr c n x0 x1) : OfSt w wr.drew c n x0 x1 := ⟨h.below.drew, h.sz, h.v, h.r, h.s⟩
theorem OfSt.set {w wr : World} {c n x0 x1 : Int} (h : OfSt w wr c n x0 x1) (y0 y1 : Int) : OfSt w ((wr.setCell ⟨w.heap.size + 2, 0, none⟩ (.int .u64 y0)).setCell ⟨w.heap.size + 2, 1, none⟩ (.int .u64 y1)) c n y0 y1 := by
  have s1 := heap_setCell_same wr (w.heap.size + 2) 0 _ _ (.int .u64 y0) h.s
  have s2 := heap_setCell_same _ (w.heap.size + 2) 1 _ _ (.int .u64 y1) s1
  refine ⟨(h.below.setCell (by simp) _).setCell (by simp) _, by simpa using h.sz, ?_, ?_, s2⟩
  · rw [heap_setCell_other _ _ _ _ (by simp), heap_setCell_other _ _ _ _ (by simp)]; exact h.v
  · rw [heap_setCell_other _ _ _ _ (by simp), heap_setCell_other _ _ _ _ (by simp)]; exact h.r
theorem of3_st (w : World) (c n x0 x1 : Int) : OfSt w (of3 w c n 0 0 x0 x1) c n x0 x1 := by
  refine ⟨((bnew w _).alloc (by simp) _).alloc (by simp; omega) _, by simp [of3], ?_, ?_, ?_⟩
  · exact blk_on (blk_on (heap_alloc_new w _) (bnew _ _)) (bnew _ _)
  · exact blk_on (by have := heap_alloc_new (w.alloc (.cells #[.int .i64 c, .int .i64 n] 52)) (.cells #[.int .u64 0, .int .u64 0] 30); simpa using this) (bnew _ _)
  · have := heap_alloc_new ((w.alloc (.cells #[.int .i64 c, .int .i64 n] 52)).alloc (.cells #[.int .u64 0, .int .u64 0] 30)) (.cells #[.int .u64 x0, .int .u64 x1] 30)
    simpa [of3] using this
def headW (k : ByteArray) (j : Nat) : List Int := (k.size : Int) :: keyW k.data.toList j
theorem head0 (k : ByteArray) (j : Nat) : lane0 (headW k (j + 1)) = mixI 11400714819323198485 29 (lane0 (headW k j)) (wordN k.data.toList (8 * j) : Int) := by
  rw [headW, keyW_succ, ← List.cons_append, lane0_snoc]; rfl
theorem head1 (k : ByteArray) (j : Nat) : lane1 (headW k (j + 1)) = mixI 14029467366897019727 32 (lane1 (headW k j)) (wordN k.data.toList (8 * j) : Int) := by
  rw [headW, keyW_succ, ← List.cons_append, lane1_snoc]; rfl
theorem of0_end (k : ByteArray) (c n : Int) {j : Nat} (h : j = keyN k.size) : of0 k c n = mixI 11400714819323198485 29 (mixI 11400714819323198485 29 (lane0 (headW k j)) (IntKind.u64.wrap c)) (IntKind.u64.wrap n) := by
  subst h; rw [of0, wordsI_snoc, lane0_snoc, lane0_snoc]; rfl
theorem of1_end (k : ByteArray) (c n : Int) {j : Nat} (h : j = keyN k.size) : of1 k c n = mixI 14029467366897019727 32 (mixI 14029467366897019727 32 (lane1 (headW k j)) (IntKind.u64.wrap c)) (IntKind.u64.wrap n) := by
  subst h; rw [of1, wordsI_snoc, lane1_snoc, lane1_snoc]; rfl
def OfRel (w : World) (k : ByteArray) (c n : Int) (i : Value) (wr : World) : Prop :=
  ∃ j : Nat, i = .int .i64 ((8 * j : Nat) : Int) ∧ j ≤ keyN k.size ∧ OfSt w wr c n (lane0 (headW k j)) (lane1 (headW k j))
def OfRel0 (w : World) (c n : Int) (i : Value) (wr : World) : Prop :=
  (i = .int .i64 0 ∧ wr = of3 w c n 0 0 0 0) ∨ (i = .int .i64 1 ∧ wr = of3 w c n 0 0 2611923443488327891 0) ∨ (i = .int .i64 2 ∧ wr = of3 w c n 0 0 2611923443488327891 1376283091369227076)
set_option maxHeartbeats 1600000 in
set_option maxRecDepth 100000 in
theorem of_any (k : ByteArray) (c n : Int) (w : World) (L : Lanes w) (hk : k.size ≤ 140737488355328) :
    Calls Tryd.prog 51 #[.string k, .agg #[.int .i64 c, .int .i64 n]] w fun e w' => e = .returned (ofV k c n) ∧ Below w.heap.size w w' := by
  have h0 := L.pos
  have LL := aside L
  obtain ⟨c0, c1, c2, c3, c4, c5⟩ := L
  go_enter Tryd.func51, Tryd.ntmps51
  go_wp2
  go_loopw [8] (fun i wr => OfRel0 w c n i wr) (fun i _ => 2 - (intOf i).toNat)
  case atStart => exact .inl ⟨rfl, rfl⟩
  case round =>
    obtain ⟨rfl, rfl⟩ | ⟨rfl, rfl⟩ | ⟨rfl, rfl⟩ := hrel
    · unfold of3
      go_wp2
      go_roundw
      case rel => exact .inr (.inl ⟨rfl, rfl⟩)
      case measure => simp [intOf]
    · unfold of3
      go_wp2
      go_roundw
      case rel => exact .inr (.inr ⟨rfl, rfl⟩)
      case measure => simp [intOf]
    · unfold of3
      go_wp2_with fail
      refine (mixed_any _ _ _ _ (LL.out.keep (of3_st w c n _ _).below)).mono ?_
      rintro e w1 ⟨rfl, b1⟩
      have S1 := (of3_st w c n _ _).keep b1
      have H1 := aside S1
      obtain ⟨-, z1, -, -, s1⟩ := S1
      obtain ⟨p0, p1, p2, p3⟩ := pair s1
      clear b1 s1 c0 c1 c2 c3 c4 c5
      go_wp2_with fail
      have H2 := H1.out.set (lane0 (headW k 0)) (lane1 (headW k 0))
      have HH2 := aside H2
      clear H1 H2
      go_loopw [7] (fun i wr => OfRel w k c n i wr) (fun i _ => (k.size + 8 - (intOf i).toNat))
      case atStart => exact ⟨0, rfl, Nat.zero_le _, HH2.out⟩
      case round =>
        obtain ⟨j, rfl, hj, S⟩ := hrel
        clear HH2 p0 p1 p2 p3
        have L2 := aside (LL.out.keep S.drew.below)
        have HS := aside S
        obtain ⟨-, z1, s2, s3, s1⟩ := S
        obtain ⟨p0, p1, p2, p3⟩ := pair s1
        by_cases hlt : ((8 * j : Nat) : Int) < (k.size : Int)
        · clear s1 s2 s3
          have wa : ∀ W, Hid _ := fun W => aside (wordAt_any k (8 * j) W hk (by omega))
          have hw8 : IntKind.i64.wrap (8 * (j : Int) + 8) = 8 * (j : Int) + 8 := by rw [IntKind.wrap_i64]; omega
          go_wp2
          go_region_with (first | (go_at_call 68; refine (wa _).out.mono ?_; rintro e w' ⟨rfl, rfl⟩) | (go_at_call 67; refine (mixed_any _ _ _ _ L2.out).mono ?_; rintro e w2 ⟨rfl, b2⟩; have S2 := HS.out.drew.keep b2; have HS2 := aside S2; obtain ⟨-, -, -, -, s1⟩ := S2; obtain ⟨q0, q1, q2, q3⟩ := pair s1; clear s1))
          all_goals
            go_wp2
            go_roundw
            case rel =>
              refine ⟨j + 1, by congr 1, by unfold keyN; omega, ?_⟩
              rw [head0, head1]
              exact HS2.out.set _ _
            case measure => simp [intOf]; omega
        · obtain ⟨q0, q1, q2, q3⟩ := pair s2
          clear s1 s2 s3
          have hjn : j = keyN k.size := by unfold keyN at hj ⊢; omega
          have HJ := aside hjn
          clear hjn hj
          go_wp2_with fail
          refine (mixed_any _ _ _ _ (LL.out.keep HS.out.below)).mono ?_
          rintro e w2 ⟨rfl, b2⟩
          have S2 := HS.out.keep b2
          have HS2 := aside (S2.set (mixI 11400714819323198485 29 (lane0 (headW k j)) (IntKind.u64.wrap c)) (mixI 14029467366897019727 32 (lane1 (headW k j)) (IntKind.u64.wrap c)))
          clear HS L2 p0 p1 p2 p3 q0 q1 q2 q3 b2 z1
          obtain ⟨-, z1, s2, s3, s1⟩ := S2
          obtain ⟨p0, p1, p2, p3⟩ := pair s1
          obtain ⟨q0, q1, q2, q3⟩ := pair s2
          clear s1 s2 s3
          go_wp2_with fail
          refine (mixed_any _ _ _ _ (LL.out.keep HS2.out.below)).mono ?_
          rintro e w3 ⟨rfl, b3⟩
          have S3 := HS2.out.keep b3
          have HS3 := aside S3
          clear HS2 p0 p1 p2 p3 q0 q1 q2 q3 b3 z1
          obtain ⟨-, z1, s2, s3, s1⟩ := S3
          obtain ⟨p0, p1, p2, p3⟩ := pair s3
          clear s1 s2 s3
          go_wp2_with fail
          have e0 := of0_end k c n HJ.out
          have e1 := of1_end k c n HJ.out
          generalize mixI 11400714819323198485 29 (mixI 11400714819323198485 29 (lane0 (headW k j)) (IntKind.u64.wrap c)) (IntKind.u64.wrap n) = x0 at *
          generalize mixI 14029467366897019727 32 (mixI 14029467366897019727 32 (lane1 (headW k j)) (IntKind.u64.wrap c)) (IntKind.u64.wrap n) = x1 at *
          refine bodyPost_ret (v := .agg #[.int .u64 x0, .int .u64 x1]) (by simp [results, Tryd.results51, go_sem, p0, p1]) rfl ⟨by rw [ofV, e0, e1], ?_⟩
          exact (HS3.out.below.setCell (by simp) _).setCell (by simp) _
end Go.Proofs.YtpbkjffiohfkcaaDoor
namespace Go.Proofs.YtpbkjffiohfkcaaDoor
open Go.RowKit
set_option linter.unusedVariables false
theorem info64 : (Tryd.prog.info? 28).map (fun i => (i.zero, i.size, i.bytes)) = some (some (.int .u64 0), 1, 8) := by kernel_rfl
theorem own_base {w : World} {base base' : Nat} {e : TypeId} {size : Nat} {v : Value} {n : Nat} {xs : List Value} (h : w.ownsRow base e size v n xs) (hb : base' ≤ base) : w.ownsRow base' e size v n xs := by
  refine ⟨h.1, ?_⟩
  rcases h.2 with h0 | ⟨g, cap, cur, h1, h2, h3⟩
  · exact .inl h0
  · exact .inr ⟨g, cap, cur, h1, Nat.le_trans hb h2, h3⟩
def u64s (l : List Int) : List Value := l.map (Value.int .u64)
theorem doneW_length (k : List UInt8) (i : Nat) : (doneW k i).length = i / 8 + (if i % 8 = 0 then 0 else 1) := by
  unfold doneW
  rw [List.length_append, keyW_length]
  split <;> simp
structure WordsSt (w wr : World) (k : ByteArray) (c n : Int) (g cap : Nat) (l : List Int) : Prop where
  below : Below w.heap.size w wr
  sz : w.heap.size + 1 ≤ wr.heap.size
  v : wr.heap[w.heap.size]? = some (.cells #[.int .i64 c, .int .i64 n] 52 (0, 0))
  own : wr.ownsRow (w.heap.size + 1) 28 1 (.slice (some ⟨g, 0, none⟩) l.length cap) l.length (u64s l)
def WordsRel (w : World) (k : ByteArray) (c n : Int) (v i : Value) (wr : World) : Prop :=
  ∃ (j g cap : Nat), i = .int .i64 (j : Int) ∧ j ≤ k.size ∧ v = .slice (some ⟨g, 0, none⟩) ((k.size : Int) :: doneW k.data.toList j).length cap ∧ WordsSt w wr k c n g cap ((k.size : Int) :: doneW k.data.toList j)
/-- The last word, read and written anew. -/
theorem WordsSt.last {w wr : World} {k : ByteArray} {c n : Int} {g cap q : Nat} {l : List Int} {x : Int} (h : WordsSt w wr k c n g cap (l ++ [x])) (hq : l.length = q) :
    wr.cell? ⟨g, q, none⟩ = some (.int .u64 x) ∧ wr.frozen? ⟨g, q, none⟩ = false ∧ ∀ y : Int, WordsSt w (wr.drew.setCell ⟨g, q, none⟩ (.int .u64 y)) k c n g cap (l ++ [y]) := by
  have hlt := h.own.lt g rfl
  refine ⟨?_, h.own.frozenAt q, fun y => ⟨h.below.drew.setCell (by simp; omega) _, by simpa using h.sz, ?_, ?_⟩⟩
  · rw [h.own.cellAt q (by simp; omega), u64s, List.map_append, List.getElem?_append_right (by simp; omega)]
    simp [hq]
  · rw [heap_setCell_other _ _ _ _ (by show w.heap.size ≠ g; omega)]; exact h.v
  · have hs := (h.own.drew.stored q (.int .u64 y)).1
    have e1 : (u64s (l ++ [x])).set q (.int .u64 y) = u64s (l ++ [y]) := by
      rw [u64s, List.map_append, List.set_append_right _ _ (by simp; omega)]
      simp [u64s, hq]
    rw [e1] at hs
    have e2 : (l ++ [x]).length = (l ++ [y]).length := by simp
    rw [← e2]
    exact hs
/-- A word 0 appended. -/
theorem WordsSt.app {w wr w1 : World} {k : ByteArray} {c n : Int} {g cap g1 cap1 : Nat} {l : List Int} {xs : List Value} {m : Nat} {o : Obj} (h : WordsSt w wr k c n g cap l)
    (hown : w1.ownsRow (w.heap.size + 1) 28 1 (.slice (some ⟨g1, 0, none⟩) m cap1) m xs) (hgrow : (wr.alloc o).grownBy w1 (some g)) {l' : List Int} (hm : m = l'.length) (hx : xs = u64s l') : WordsSt w w1 k c n g1 cap1 l' := by
  have hlt := h.own.lt g rfl
  have b1 : Below w.heap.size w w1 := (h.below.alloc (by have := h.sz; omega) o).grown hgrow (by simp; have := h.sz; omega) (fun j hj => by simp at hj; omega)
  refine ⟨b1, by have := hgrow.size; simp at this; have := h.sz; omega, ?_, by subst hm hx; exact hown⟩
  rw [hgrow.block _ (by simp; have := h.sz; omega) (by simp; omega), heap_alloc_old _ _ (by have := h.sz; omega)]
  exact h.v
theorem words_edge {x : Int} {d e : List Int} {p b : Nat} {r : Nat} {kw : List Int} (hn : d = kw ++ [((p + b * 256 ^ r : Nat) : Int)]) (he : e = kw ∧ p = 0) (hr : r = 0) : x :: d = (x :: e) ++ [(b : Int)] := by
  subst hn hr; rw [he.1, he.2]; simp
set_option maxHeartbeats 1600000 in
set_option maxRecDepth 100000 in
theorem words_any (k : ByteArray) (c n : Int) (w : World) (hk : k.size ≤ 140737488351232) :
    Calls Tryd.prog 69 #[.string k, .agg #[.int .i64 c, .int .i64 n]] w fun e w' => ∃ g cap, e = .returned (.slice (some ⟨g, 0, none⟩) (wordsI k c n).length cap) ∧ w'.ownsRow w.heap.size 28 1 (.slice (some ⟨g, 0, none⟩) (wordsI k c n).length cap) (wordsI k c n).length (u64s (wordsI k c n)) ∧ Below w.heap.size w w' := by
  obtain ⟨i0, hi, hz0, hz1, hz2⟩ := info_parts info64
  have hlen : k.data.toList.length = k.size := by show k.data.toList.length = k.data.size; simp
  go_enter Tryd.func69, Tryd.ntmps69
  go_wp2
  go_loopw [5, 6] (fun v i wr => WordsRel w k c n v i wr) (fun _ i _ => k.size - (intOf i).toNat)
  case atStart =>
    refine ⟨0, w.heap.size + 1, 1, rfl, Nat.zero_le _, by rw [doneW_zero]; rfl, (bnew w _).alloc (by simp) _, by simp, blk_on (heap_alloc_new w _) (bnew _ _), ?_⟩
    rw [doneW_zero]
    have := World.ownsRow_lit (base := w.heap.size + 1) (e := 28) (size := 1) (w.alloc (.cells #[.int .i64 c, .int .i64 n] 52)) #[.int .u64 (k.size : Int)] 1 (by simp) (by decide) rfl
    simpa [u64s] using this
  case round =>
    obtain ⟨j, g, cap, rfl, hj, rfl, S⟩ := hrel
    have hsz := S.sz
    have hN : ((k.size : Int) :: doneW k.data.toList j).length ≤ j / 8 + 2 := by rw [List.length_cons, doneW_length]; split <;> omega
    by_cases hlt : (j : Int) < (k.size : Int)
    · have hjk : j < k.size := by omega
      have hix : ∀ W, (Instr.index 9 (.string k) (.int .i64 (j : Int))).run Tryd.prog W = .ok (.int .u8 (k[j].toNat : Int)) W := fun W => idx_str' k j hjk (j : Int) rfl W
      have hnx := doneW_next k.data.toList j (by omega)
      have hgt : k.data.toList[j]'(by omega) = k[j] := rfl
      have hslt := sum_lt k.data.toList j k[j]
      rw [hgt] at hnx
      have hc2 := k[j].toNat_lt
      generalize k[j].toNat = b at *
      have hs3 : IntKind.u64.wrap (b : Int) = (b : Int) := by rw [IntKind.wrap_u64]; omega
      by_cases h8 : j % 8 = 0
      · have hm8 : (j : Int) % 8 = 0 := by omega
        have hed := doneW_edge k.data.toList j h8
        have HO := aside S.own
        have HS := aside S
        have HN := aside hnx
        have HE := aside hed
        obtain ⟨q, hq⟩ : ∃ q, q = ((k.size : Int) :: doneW k.data.toList j).length := ⟨_, rfl⟩
        rw [← hq] at hN HO ⊢
        have HQ := aside hq
        clear S hnx hed hq hslt hc2
        go_wp2_with (at_builtin; refine wpList_append_lies _ rfl _ _ _ rfl (w.heap.size + 1) 28 i0 (.int .u64 0) 1 8 Tryd.underlying127 hi hz0 hz1 hz2 rfl (by decide) _ _ _ (by rfl) (HO.out.alloc _) ⟨wr.heap.size, 0, none⟩ 1 1 [.int .u64 0] (by rfl) (by rfl) (World.news_of_block (cs := #[.int .u64 0]) (t := 28) (fr := (0, 0)) (heap_alloc_new wr _)) (by simp [Value.oneCell']) (by omega) (by unfold maxLen; omega) (by omega) (by simp; omega) (wr.heap.size + 1) (by simp) ?_; intro g1 cap1 w1 hown1 hgrow hat hlt1; refine Hid.out ?_)
        refine aside ?_
        have S1 := HS.out.app hown1 hgrow (l' := ((k.size : Int) :: doneW k.data.toList j) ++ [0]) (by rw [HQ.out]; simp) (by simp [u64s])
        obtain ⟨c1, f1, put⟩ := S1.last HQ.out.symm
        have PUT := aside put
        clear hown1 hgrow hat hlt1 put S1
        go_wp2
        go_region
        all_goals
          go_wp2
          go_roundw
          case rel =>
            have eqn := words_edge (x := (k.size : Int)) HN.out HE.out h8
            refine ⟨j + 1, g1, cap1, by go_num, by omega, by rw [eqn, HQ.out]; simp, ?_⟩
            rw [eqn]
            exact PUT.out (b : Int)
          case measure => simp [intOf]; omega
      · obtain ⟨r, hr⟩ : ∃ r, r = j % 8 := ⟨_, rfl⟩
        have hm8 : (j : Int) % 8 = (r : Int) := by omega
        have hm8' : (j : Int).tmod 8 = (r : Int) := by rw [Int.tmod_eq_emod_of_nonneg (by omega)]; omega
        have hne : ¬ (r : Int) = 0 := by omega
        have hw8 : IntKind.i64.wrap (8 * (r : Int)) = 8 * (r : Int) := by rw [IntKind.wrap_i64]; omega
        have h64 : 8 * (r : Int) ≤ 64 := by omega
        have h64' : 0 ≤ 8 * (r : Int) := by omega
        have hhr := doneW_here k.data.toList j h8
        rw [← hr] at hnx hslt
        generalize partN k.data.toList j = p at *
        obtain ⟨sh, hsh⟩ : ∃ sh, sh = b * 256 ^ r := ⟨_, rfl⟩
        rw [← hsh] at hnx hslt
        have hs1 : IntKind.u64.wrap ((b : Int) * 2 ^ (8 * (r : Int)).toNat) = (sh : Int) := by
          rw [show (8 * (r : Int)).toNat = 8 * r from by omega, show ((b : Int) * 2 ^ (8 * r)) = (sh : Int) from by rw [hsh, Nat.pow_mul 2 8 r |> fun h => show (256 : Nat) ^ r = 2 ^ (8 * r) from h.symm]; push_cast; rfl, IntKind.wrap_u64]
          omega
        have hs2 : IntKind.u64.wrap ((p : Int) + (sh : Int)) = ((p + sh : Nat) : Int) := by rw [IntKind.wrap_u64]; omega
        have HN := aside hnx
        obtain ⟨q, hq⟩ : ∃ q, q = ((k.size : Int) :: keyW k.data.toList (j / 8)).length := ⟨_, rfl⟩
        rw [hhr, ← List.cons_append] at S
        have hle : ((k.size : Int) :: doneW k.data.toList j).length = q + 1 := by rw [hhr, hq]; simp
        rw [hle] at hN ⊢
        obtain ⟨c1, f1, put⟩ := S.last hq.symm
        have PUT := aside put
        have HQ := aside hq
        clear S hnx hq hslt hc2 hle put hhr hsh hr h8 hgt
        generalize p + sh = t at *
        go_wp2
        go_region
        all_goals
          go_wp2
          go_roundw
          case rel =>
            refine ⟨j + 1, g, cap, by go_num, by omega, by rw [HN.out, HQ.out]; simp, ?_⟩
            rw [HN.out, ← List.cons_append]
            exact PUT.out (t : Int)
          case measure => simp [intOf]; omega
    · have hjk : j = k.size := by omega
      have hall : (k.size : Int) :: doneW k.data.toList j = (k.size : Int) :: keyW k.data.toList (keyN k.size) := by
        have := doneW_all k.data.toList
        rw [hlen] at this
        rw [hjk, this]
      rw [hall] at S hN ⊢
      obtain ⟨v1, v2, -, -⟩ := pair S.v
      have HO := aside S.own
      have HS := aside S
      obtain ⟨q, hq⟩ : ∃ q, q = ((k.size : Int) :: keyW k.data.toList (keyN k.size)).length := ⟨_, rfl⟩
      rw [← hq] at hN HO ⊢
      have HQ := aside hq
      clear S hq hall
      go_wp2_with (at_builtin; refine wpList_append_lies _ rfl _ _ _ rfl (w.heap.size + 1) 28 i0 (.int .u64 0) 1 8 Tryd.underlying127 hi hz0 hz1 hz2 rfl (by decide) _ _ _ (by rfl) (HO.out.alloc _) ⟨wr.heap.size, 0, none⟩ 2 2 [.int .u64 (IntKind.u64.wrap c), .int .u64 (IntKind.u64.wrap n)] (by rfl) (by rfl) (World.news_of_block (cs := #[.int .u64 (IntKind.u64.wrap c), .int .u64 (IntKind.u64.wrap n)]) (t := 28) (fr := (0, 0)) (heap_alloc_new wr _)) (by simp [Value.oneCell']) (by omega) (by unfold maxLen; omega) (by omega) (by simp; omega) (wr.heap.size + 1) (by simp) ?_; intro g1 cap1 w1 hown1 hgrow hat hlt1; refine Hid.out ?_)
      refine aside ?_
      have S1 := HS.out.app hown1 hgrow (l' := wordsI k c n) (by rw [HQ.out]; simp [wordsI]) (by simp [u64s, wordsI])
      have hql : q + 2 = (wordsI k c n).length := by rw [HQ.out]; simp [wordsI]
      have HS1 := aside S1
      have HQL := aside hql
      clear hown1 hgrow hat hlt1 S1 hql
      go_wp2
      go_ret
      exact ⟨g1, cap1, by rw [← HQL.out]; rfl, own_base HS1.out.own (by omega), HS1.out.below⟩
set_option maxHeartbeats 1600000 in
set_option maxRecDepth 100000 in
theorem lane_any (x f : Int) (s : Nat) (l : List Int) (B g cap : Nat) (w : World) (hs : s ≤ 63) (own : w.ownsRow B 28 1 (.slice (some ⟨g, 0, none⟩) l.length cap) l.length (u64s l)) :
    Calls Tryd.prog 70 #[.int .u64 x, .int .u64 f, .int .i64 (s : Int), .slice (some ⟨g, 0, none⟩) l.length cap] w fun e w' => e = .returned (.int .u64 (l.foldl (mixI f s) x)) ∧ w' = w := by
  have hs0 : (0 : Int) ≤ (s : Int) := by omega
  have hs1 : (s : Int) ≤ 64 := by omega
  have hcell : ∀ j (h : j < l.length), w.cell? ⟨g, j, none⟩ = some (.int .u64 l[j]) := by
    intro j h
    rw [own.cellAt j (by omega), u64s, List.getElem?_map, List.getElem?_eq_getElem h]
    rfl
  have HC := aside hcell
  have hmx : l.length ≤ maxLen := by
    rcases own.2 with ⟨h, _⟩ | ⟨g', cap', cur, h1, h2, h3, h4, h5, h6⟩
    · cases h
    · injection h1 with e1 e2 e3
      omega
  have hmx' : (l.length : Int) ≤ 9223372036854775807 := by unfold maxLen at hmx; omega
  clear hmx
  obtain ⟨N, hN⟩ : ∃ N, N = l.length := ⟨_, rfl⟩
  have HN := aside hN
  rw [← hN] at hmx' ⊢
  clear own hcell hN
  go_enter Tryd.func70, Tryd.ntmps70
  go_wp2
  go_loopw [0, 13] (fun v i wr => ∃ j : Nat, i = .int .i64 (j : Int) ∧ j ≤ N ∧ v = .int .u64 ((l.take j).foldl (mixI f s) x) ∧ wr = w) (fun _ i _ => N - (intOf i).toNat)
  case atStart => exact ⟨0, rfl, Nat.zero_le _, rfl, rfl⟩
  case round =>
    obtain ⟨j, rfl, hj, rfl, rfl⟩ := hrel
    by_cases hlt : (j : Int) < (N : Int)
    · have hjl : j < l.length := by have := HN.out; omega
      have c1 := HC.out j hjl
      have hst : (l.take (j + 1)).foldl (mixI f s) x = mixI f s ((l.take j).foldl (mixI f s) x) l[j] := by
        rw [List.take_succ_eq_append_getElem hjl, List.foldl_append]; rfl
      have HST := aside hst
      have hj0 : (0 : Int) ≤ (j : Int) := by omega
      clear hst
      generalize l[j] = u at *
      generalize (l.take j).foldl (mixI f s) x = y at *
      go_wp2
      go_roundw
      case rel => exact ⟨j + 1, by go_num, by omega, by rw [HST.out]; rfl, trivial⟩
      case measure => simp [intOf]; omega
    · have hjl : j = l.length := by have := HN.out; omega
      have hall : (l.take j).foldl (mixI f s) x = l.foldl (mixI f s) x := by rw [hjl, List.take_length]
      have HA := aside hall
      clear hall hjl
      go_wp2
      go_ret
      exact ⟨by rw [← HA.out]; rfl, rfl⟩
set_option maxHeartbeats 1600000 in
set_option maxRecDepth 100000 in
theorem ofRef_any (k : ByteArray) (c n : Int) (w : World) (hk : k.size ≤ 140737488351232) :
    Calls Tryd.prog 57 #[.string k, .agg #[.int .i64 c, .int .i64 n]] w fun e w' => e = .returned (ofV k c n) ∧ Below w.heap.size w w' := by
  go_enter Tryd.func57, Tryd.ntmps57
  go_wp2_with fail
  refine (words_any k c n _ hk).mono ?_
  rintro e w1 ⟨g, cap, rfl, own, b1⟩
  have bt : Below w.heap.size w w1 := bthen ((bnew w _).alloc (by simp) _) b1
  have hr := blk_on (show ((w.alloc (.cells #[.int .i64 c, .int .i64 n] 52)).alloc (.cells #[.int .u64 0, .int .u64 0] 30)).heap[w.heap.size + 1]? = some (.cells #[.int .u64 0, .int .u64 0] 30 (0, 0)) from by have := heap_alloc_new (w.alloc (.cells #[.int .i64 c, .int .i64 n] 52)) (.cells #[.int .u64 0, .int .u64 0] 30); simpa using this) b1
  obtain ⟨p0, p1, p2, p3⟩ := pair hr
  have HO := aside own
  have BT := aside bt
  clear own b1 bt hr
  go_wp2_with fail
  refine (lane_any _ _ 29 _ _ _ _ _ (by omega) HO.out).mono ?_
  rintro e w2 ⟨rfl, rfl⟩
  go_wp2_with fail
  refine (lane_any _ _ 32 _ _ _ _ _ (by omega) HO.out).mono ?_
  rintro e w3 ⟨rfl, rfl⟩
  go_wp2
  exact bodyPost_ret (v := ofV k c n) (by simp [results, Tryd.results57, go_sem, p0, p1, ofV, of0, of1, lane0, lane1]) rfl ⟨rfl, (BT.out.setCell (by simp) _).setCell (by simp) _⟩
end Go.Proofs.YtpbkjffiohfkcaaDoor
namespace Go.Proofs.YtpbkjffiohfkcaaDoor
open Go.RowKit
set_option linter.unusedVariables false
set_option maxHeartbeats 1600000 in
set_option maxRecDepth 100000 in
theorem tof_any (k : ByteArray) (c n : Int) (v : ByteArray) (d : Bool) (w : World) (L : Lanes w) (hk : k.size ≤ 140737488351232) :
    Calls Tryd.prog 38 #[.agg #[.string k, .int .i64 c, .int .i64 n, .string v, .bool d]] w fun e w' => e = .returned (.agg #[.int .i64 1, .int .u64 (of0 k c n), .int .u64 (of1 k c n)]) ∧ Below w.heap.size w w' := by
  have LL := aside L
  clear L
  have B0 := aside (bthen (bnew w (.cells #[.string k, .int .i64 c, .int .i64 n, .string v, .bool d] 54)) (bnew _ (.cells #[.int .i64 0, .int .u64 0, .int .u64 0] 32)))
  have G := aside (heap_alloc_new (w.alloc (.cells #[.string k, .int .i64 c, .int .i64 n, .string v, .bool d] 54)) (.cells #[.int .i64 0, .int .u64 0, .int .u64 0] 32))
  have hz : (w.alloc (.cells #[.string k, .int .i64 c, .int .i64 n, .string v, .bool d] 54)).heap.size = w.heap.size + 1 := by simp
  rw [hz] at G
  obtain ⟨x, hx⟩ : ∃ x, of0 k c n = x := ⟨_, rfl⟩
  obtain ⟨y, hy⟩ : ∃ y, of1 k c n = y := ⟨_, rfl⟩
  have CO : Hid (∀ W, Below w.heap.size w W → Calls Tryd.prog 51 #[.string k, .agg #[.int .i64 c, .int .i64 n]] W fun e w' => e = .returned (.agg #[.int .u64 x, .int .u64 y]) ∧ Below W.heap.size W w') := fun W bw => by
    rw [← hx, ← hy]
    exact of_any k c n W (LL.out.keep bw) (by omega)
  rw [hx, hy]
  clear hz hx hy
  go_enter Tryd.func38, Tryd.ntmps38
  go_wp2_with fail
  generalize (w.alloc (.cells #[.string k, .int .i64 c, .int .i64 n, .string v, .bool d] 54)).alloc (.cells #[.int .i64 0, .int .u64 0, .int .u64 0] 32) = V at *
  refine (CO.out _ B0.out).mono ?_
  rintro e w1 ⟨rfl, b1⟩
  have B1 := aside (bthen B0.out b1)
  obtain ⟨s0, s1, s2, z0, z1, z2⟩ := tri (blk_on G.out b1)
  clear b1 G B0
  go_wp2
  exact bodyPost_ret (v := .agg #[.int .i64 1, .int .u64 x, .int .u64 y]) (by simp [results, Tryd.results38, go_sem, s0, s1, s2]) rfl ⟨rfl, ((B1.out.setCell (by simp) _).setCell (by simp) _).setCell (by simp) _⟩
set_option maxHeartbeats 1600000 in
set_option maxRecDepth 100000 in
theorem tofRef_any (k : ByteArray) (c n : Int) (v : ByteArray) (d : Bool) (w : World) (hk : k.size ≤ 140737488351232) :
    Calls Tryd.prog 43 #[.agg #[.string k, .int .i64 c, .int .i64 n, .string v, .bool d]] w fun e w' => e = .returned (.agg #[.int .i64 1, .int .u64 (of0 k c n), .int .u64 (of1 k c n)]) ∧ Below w.heap.size w w' := by
  have B0 := aside (bthen (bnew w (.cells #[.string k, .int .i64 c, .int .i64 n, .string v, .bool d] 54)) (bnew _ (.cells #[.int .i64 0, .int .u64 0, .int .u64 0] 32)))
  have G := aside (heap_alloc_new (w.alloc (.cells #[.string k, .int .i64 c, .int .i64 n, .string v, .bool d] 54)) (.cells #[.int .i64 0, .int .u64 0, .int .u64 0] 32))
  have hz : (w.alloc (.cells #[.string k, .int .i64 c, .int .i64 n, .string v, .bool d] 54)).heap.size = w.heap.size + 1 := by simp
  rw [hz] at G
  obtain ⟨x, hx⟩ : ∃ x, of0 k c n = x := ⟨_, rfl⟩
  obtain ⟨y, hy⟩ : ∃ y, of1 k c n = y := ⟨_, rfl⟩
  have CO : Hid (∀ W, Below w.heap.size w W → Calls Tryd.prog 57 #[.string k, .agg #[.int .i64 c, .int .i64 n]] W fun e w' => e = .returned (.agg #[.int .u64 x, .int .u64 y]) ∧ Below W.heap.size W w') := fun W bw => by
    rw [← hx, ← hy]
    exact ofRef_any k c n W hk
  rw [hx, hy]
  clear hz hx hy
  go_enter Tryd.func43, Tryd.ntmps43
  go_wp2_with fail
  generalize (w.alloc (.cells #[.string k, .int .i64 c, .int .i64 n, .string v, .bool d] 54)).alloc (.cells #[.int .i64 0, .int .u64 0, .int .u64 0] 32) = V at *
  refine (CO.out _ B0.out).mono ?_
  rintro e w1 ⟨rfl, b1⟩
  have B1 := aside (bthen B0.out b1)
  obtain ⟨s0, s1, s2, z0, z1, z2⟩ := tri (blk_on G.out b1)
  clear b1 G B0
  go_wp2
  exact bodyPost_ret (v := .agg #[.int .i64 1, .int .u64 x, .int .u64 y]) (by simp [results, Tryd.results43, go_sem, s0, s1, s2]) rfl ⟨rfl, ((B1.out.setCell (by simp) _).setCell (by simp) _).setCell (by simp) _⟩
end Go.Proofs.YtpbkjffiohfkcaaDoor
namespace Go.Proofs.YtpbkjffiohfkcaaDoor
open Go.RowKit
set_option linter.unusedVariables false
set_option maxHeartbeats 3200000 in
set_option maxRecDepth 100000 in
theorem slen {w : World} {sb g tb : Nat} {nd ck : Int} {T : Tr En Tl} {n : Nat} (h : IsSt w sb g tb nd ck T n) : Calls Tryd.prog 53 #[.pointer (some ⟨sb, 0, none⟩)] w fun e w' => e = .returned (.int .i64 (T.cnt : Int)) ∧ w' = w := by
  obtain ⟨-, -, -, c3, -⟩ := quad h.blk
  have C := aside (ylenE h.tree)
  generalize (T.cnt : Int) = m at *
  clear h
  go_enter Tryd.func53, Tryd.ntmps53
  go_wp2_with fail
  refine C.out.mono ?_
  rintro e w1 ⟨rfl, rfl⟩
  go_wp2
  go_ret
  exact ⟨rfl, rfl⟩
set_option maxHeartbeats 3200000 in
set_option maxRecDepth 100000 in
theorem sclock {w : World} {sb g tb : Nat} {nd ck : Int} {T : Tr En Tl} {n : Nat} (h : IsSt w sb g tb nd ck T n) : Calls Tryd.prog 22 #[.pointer (some ⟨sb, 0, none⟩)] w fun e w' => e = .returned (.int .i64 ck) ∧ w' = w := by
  obtain ⟨-, c1, -, -, -⟩ := quad h.blk
  clear h
  go_enter Tryd.func22, Tryd.ntmps22
  go_wp2
  go_ret
  exact ⟨rfl, rfl⟩
set_option maxHeartbeats 3200000 in
set_option maxRecDepth 100000 in
theorem sempty (nd ck : Int) (w : World) : Calls Tryd.prog 24 #[.int .i64 nd, .int .i64 ck] w fun e w' => ∃ sb g tb, e = .returned (.pointer (some ⟨sb, 0, none⟩)) ∧ IsSt w' sb g tb nd ck .nil 0 ∧ Below w.heap.size w w' ∧ w.heap.size ≤ sb ∧ w.heap.size ≤ g ∧ w.heap.size ≤ tb := by
  have hmf : ∀ (fn : Fn) (first cap : Array Value) (w : World), (Instr.makeFunc fn first cap).run Tryd.prog w = .ok (.func fn first cap) w := fun _ _ _ _ => rfl
  have C1 := aside (newMeter_any w)
  have C2 := aside (fun (W : World) => ynewE (.func 35) #[.pointer (some ⟨w.heap.size, 0, none⟩)] #[] W)
  have M := aside (heap_alloc_new w (.cells #[.int .i64 0] 96))
  have B0 := aside (bnew w (.cells #[.int .i64 0] 96))
  go_enter Tryd.func24, Tryd.ntmps24
  go_wp2_with fail
  refine C1.out.mono ?_
  rintro e w1 ⟨rfl, rfl⟩
  go_wp2_with fail
  refine (C2.out _).mono ?_
  rintro e w2 ⟨tb, rfl, ht, hb, hlt⟩
  have HT := aside ht
  have HB := aside hb
  have HL := aside hlt
  clear ht hb hlt C1 C2
  go_wp2
  go_ret
  have hs := HL.out
  simp at hs
  refine ⟨w2.heap.size, w.heap.size, tb, rfl, ⟨heap_alloc_new w2 _, fun b e => ?_, HT.out.below (bnew _ _)⟩, bthen (bthen B0.out HB.out) (bnew _ _), (by have := HB.out.size; simp at this; omega), Nat.le_refl _, by omega⟩
  cases e
  exact blk_on (blk_on M.out HB.out) (bnew _ _)
end Go.Proofs.YtpbkjffiohfkcaaDoor
namespace Go.Proofs.YtpbkjffiohfkcaaDoor
open Go.RowKit
set_option linter.unusedVariables false
/-- The clock that has met a counter. -/
def ckm (ck c : Int) : Int := if ck < c then c else ck
theorem held_hold {w X : World} {sb g tb : Nat} {nd ck : Int} {T : Tr En Tl} {n : Nat} {e : En} (h : IsSt X sb g tb nd ck T n) (hb : X.heap[w.heap.size]? = some (.cells #[.string e.k, .int .i64 e.c, .int .i64 e.n, .string e.v, .bool e.d] 54 (0, 0))) : X.cell? ⟨sb, 3, none⟩ = some (.pointer (some ⟨tb, 0, none⟩)) ∧ X.cell? ⟨w.heap.size, 0, none⟩ = some (.string e.k) ∧ X.cell? ⟨w.heap.size, 1, none⟩ = some (.int .i64 e.c) ∧ X.cell? ⟨w.heap.size, 2, none⟩ = some (.int .i64 e.n) ∧ X.cell? ⟨w.heap.size, 3, none⟩ = some (.string e.v) ∧ X.cell? ⟨w.heap.size, 4, none⟩ = some (.bool e.d) := by
  obtain ⟨c0, c1, c2, c3, -⟩ := quad h.blk
  obtain ⟨b0, b1, b2, b3, b4, -⟩ := penta hb
  exact ⟨c3, b0, b1, b2, b3, b4⟩
theorem hold_end {w X : World} {sb g tb : Nat} {nd ck : Int} {T : Tr En Tl} {n : Nat} (h : IsSt X sb g tb nd ck T n) (k : Keeps (Of sb g tb) w X) (c : Int) : IsSt (X.setCell ⟨sb, 1, none⟩ (.int .i64 c)) sb g tb nd c T n ∧ Keeps (Of sb g tb) w (X.setCell ⟨sb, 1, none⟩ (.int .i64 c)) := by
  obtain ⟨a1, a2, a3⟩ := h.apart
  obtain ⟨p, ht, hT⟩ := h.tree
  refine ⟨⟨heap_setCell_same X sb 1 _ _ (.int .i64 c) h.blk, h.cnt.setCell (p := ⟨sb, 1, none⟩) _ (fun e => a1 (by cases e; rfl)), ⟨p, (heap_setCell_other _ _ _ _ (fun e => a2 (by dsimp only at e; exact e.symm))).trans ht, hT.on ((Stay.refl _ X).setCell _ (fun cs e => by dsimp only at e; rw [h.blk] at e; simp at e))⟩⟩, k.setCell (p := ⟨sb, 1, none⟩) (fun _ => .inl rfl) _⟩
theorem hold_mid {w V W : World} {sb g tb : Nat} {nd ck : Int} {T T' : Tr En Tl} {n m : Nat} {e : En} (h : IsSt V sb g tb nd ck T n) (hg : V.heap[w.heap.size]? = some (.cells #[.string e.k, .int .i64 e.c, .int .i64 e.n, .string e.v, .bool e.d] 54 (0, 0))) (b : Below w.heap.size w V) (c : CntE (some g) m W) (k : Keeps (fun x => x = tb ∨ OnC (some g) x) V W) (t : TreeE W tb (jvE g) T') :
    (W.cell? ⟨sb, 3, none⟩ = some (.pointer (some ⟨tb, 0, none⟩)) ∧ W.cell? ⟨w.heap.size, 0, none⟩ = some (.string e.k) ∧ W.cell? ⟨w.heap.size, 1, none⟩ = some (.int .i64 e.c) ∧ W.cell? ⟨w.heap.size, 2, none⟩ = some (.int .i64 e.n) ∧ W.cell? ⟨w.heap.size, 3, none⟩ = some (.string e.v) ∧ W.cell? ⟨w.heap.size, 4, none⟩ = some (.bool e.d)) ∧ IsSt W sb g tb nd ck T' m ∧ W.heap[w.heap.size]? = some (.cells #[.string e.k, .int .i64 e.c, .int .i64 e.n, .string e.v, .bool e.d] 54 (0, 0)) ∧ Keeps (Of sb g tb) w W := by
  obtain ⟨a1, a2, a3⟩ := h.apart
  have hn := h.not hg (by decide) (by decide) (by decide)
  have G : W.heap[w.heap.size]? = some (.cells #[.string e.k, .int .i64 e.c, .int .i64 e.n, .string e.v, .bool e.d] 54 (0, 0)) := blk_keep hg k (fun x => hn (by rcases x with x | x; exact .inr (.inl x); exact .inr (.inr (Option.some.inj x).symm)))
  have H : IsSt W sb g tb nd ck T' m := ⟨blk_keep h.blk k (fun x => by rcases x with x | x; exact a2 x; exact a1 (Option.some.inj x).symm), c, t⟩
  exact ⟨held_hold H G, H, G, (Keeps.of_below b _).trans (k.mono (fun _ _ x => by rcases x with x | x; exact .inr (.inl x); exact .inr (.inr (Option.some.inj x).symm)))⟩
set_option maxHeartbeats 3200000 in
set_option maxRecDepth 100000 in
theorem shold (e : En) {Ls : List En} {w : World} {sb g tb : Nat} {nd ck : Int} {T : Tr En Tl} {n : Nat} (h : IsSt w sb g tb nd ck T n) (L : Lanes w) (hH : Hol T Ls) (hl : Ls.length ≤ 1000000) (hk : e.k.size ≤ 140737488351232) :
    Calls Tryd.prog 26 #[.pointer (some ⟨sb, 0, none⟩), .agg #[.string e.k, .int .i64 e.c, .int .i64 e.n, .string e.v, .bool e.d]] w fun r w' => r = .returned (.tuple #[]) ∧ IsSt w' sb g tb nd (ckm ck e.c) (Tr.put e.k e (tof e) T) (n + Tr.putC e.k e (tof e) T) ∧ Keeps (Of sb g tb) w w' := by
  have B0 := aside (bnew w (.cells #[.string e.k, .int .i64 e.c, .int .i64 e.n, .string e.v, .bool e.d] 54))
  have G := aside (heap_alloc_new w (.cells #[.string e.k, .int .i64 e.c, .int .i64 e.n, .string e.v, .bool e.d] 54))
  have H := aside (h.alloc (.cells #[.string e.k, .int .i64 e.c, .int .i64 e.n, .string e.v, .bool e.d] 54))
  have CO : Hid (∀ W : World, Lanes W → Calls Tryd.prog 38 #[.agg #[.string e.k, .int .i64 e.c, .int .i64 e.n, .string e.v, .bool e.d]] W fun r w' => r = .returned (.agg #[.int .i64 (tof e).n, .int .u64 (tof e).a, .int .u64 (tof e).b]) ∧ Below W.heap.size W w') := fun W hW => by
    rw [tof_n, tof_a, tof_b]
    exact tof_any e.k e.c e.n e.v e.d W hW hk
  have CP : Hid (∀ W : World, IsSt W sb g tb nd ck T n → Calls Tryd.prog 37 #[.pointer (some ⟨tb, 0, none⟩), .string e.k, .agg #[.string e.k, .int .i64 e.c, .int .i64 e.n, .string e.v, .bool e.d], .agg #[.int .i64 (tof e).n, .int .u64 (tof e).a, .int .u64 (tof e).b]] W fun r w' => r = .returned (.tuple #[.agg #[.string ((Tr.found e.k T).val eNone).k, .int .i64 ((Tr.found e.k T).val eNone).c, .int .i64 ((Tr.found e.k T).val eNone).n, .string ((Tr.found e.k T).val eNone).v, .bool ((Tr.found e.k T).val eNone).d], .bool (!(Tr.found e.k T).isNil)]) ∧ TreeE w' tb (jvE g) (Tr.put e.k e (tof e) T) ∧ CntE (some g) (n + Tr.putC e.k e (tof e) T) w' ∧ Keeps (fun x => x = tb ∨ OnC (some g) x) W w') := fun W hW =>
    yputE e.k e (tof e) hW.tree (bothJv g) hW.cnt hH.gd (by show Ls.length + 1 + 0 ≤ _; omega)
  have LL := aside (L.keep B0.out)
  generalize Tr.putC e.k e (tof e) T = pc at *
  generalize Tr.put e.k e (tof e) T = T' at *
  generalize (Tr.found e.k T).val eNone = fv at *
  generalize (!(Tr.found e.k T).isNil) = fb at *
  generalize (tof e).n = t0 at *
  generalize (tof e).a = t1 at *
  generalize (tof e).b = t2 at *
  clear h L hH hl hk
  go_enter Tryd.func26, Tryd.ntmps26
  go_wp2_with fail
  generalize w.alloc (.cells #[.string e.k, .int .i64 e.c, .int .i64 e.n, .string e.v, .bool e.d] 54) = V at *
  refine wp_region_held_drew (S := fun X => X.cell? ⟨sb, 3, none⟩ = some (.pointer (some ⟨tb, 0, none⟩)) ∧ X.cell? ⟨w.heap.size, 0, none⟩ = some (.string e.k) ∧ X.cell? ⟨w.heap.size, 1, none⟩ = some (.int .i64 e.c) ∧ X.cell? ⟨w.heap.size, 2, none⟩ = some (.int .i64 e.n) ∧ X.cell? ⟨w.heap.size, 3, none⟩ = some (.string e.v) ∧ X.cell? ⟨w.heap.size, 4, none⟩ = some (.bool e.d)) (by kernel_rfl) (held_hold H.out.drew G.out) (fun hHeld => ?_)
  refine wpAnyH_take (i := 0) (v := ?_) rfl (by kernel_rfl) (by kernel_rfl) (by kernel_rfl) (fun _ _ _ h => h) (Or.inl ⟨by rfl, ?_⟩) (by assumption) ?_
  rotate_left
  · intro w hSw
    go_simp
    try with_reducible rfl
  simp only [Act.put, List.getElem_toArray, List.getElem_cons_zero, List.setIfInBounds_toArray, List.set_cons_zero, List.set_cons_succ]
  refine wpAnyH_take (i := 1) (v := ?_) rfl (by kernel_rfl) (by kernel_rfl) (by kernel_rfl) (fun _ _ _ h => h) (Or.inl ⟨by rfl, ?_⟩) (by assumption) ?_
  rotate_left
  · intro w hSw
    go_simp
    try with_reducible rfl
  simp only [Act.put, List.getElem_toArray, List.getElem_cons_zero, List.getElem_cons_succ, List.setIfInBounds_toArray, List.set_cons_zero, List.set_cons_succ]
  refine wpAnyH_take (i := 2) (v := ?_) rfl (by kernel_rfl) (by kernel_rfl) (by kernel_rfl) (fun _ _ _ h => h) (Or.inl ⟨by rfl, ?_⟩) (by assumption) ?_
  rotate_left
  · intro w hSw
    go_simp
    try with_reducible rfl
  simp only [Act.put, List.getElem_toArray, List.getElem_cons_zero, List.getElem_cons_succ, List.setIfInBounds_toArray, List.set_cons_zero, List.set_cons_succ]
  refine wpAnyH_take (i := 3) (v := ?_) rfl (by kernel_rfl) (by kernel_rfl) (by kernel_rfl) (fun _ _ _ h => h) (Or.inl ⟨by rfl, ?_⟩) (by assumption) ?_
  rotate_left
  · intro w hSw
    go_simp
    try with_reducible rfl
  simp only [Act.put, List.getElem_toArray, List.getElem_cons_zero, List.getElem_cons_succ, List.setIfInBounds_toArray, List.set_cons_zero, List.set_cons_succ]
  refine wpAnyH_take (i := 4) (v := ?_) rfl (by kernel_rfl) (by kernel_rfl) (by kernel_rfl) (fun _ _ _ h => h) (Or.inl ⟨by rfl, ?_⟩) (by assumption) ?_
  rotate_left
  · intro w hSw
    go_simp
    try with_reducible rfl
  simp only [Act.put, List.getElem_toArray, List.getElem_cons_zero, List.getElem_cons_succ, List.setIfInBounds_toArray, List.set_cons_zero, List.set_cons_succ]
  refine wpAnyH_take (i := 5) (v := ?_) rfl (by kernel_rfl) (by kernel_rfl) (by kernel_rfl) (fun _ _ _ h => h) (Or.inl ⟨by rfl, ?_⟩) (by assumption) ?_
  rotate_left
  · intro w hSw
    go_simp
    try with_reducible rfl
  simp only [Act.put, List.getElem_toArray, List.getElem_cons_zero, List.getElem_cons_succ, List.setIfInBounds_toArray, List.set_cons_zero, List.set_cons_succ]
  refine wpAnyH_take (i := 6) (v := ?_) rfl (by kernel_rfl) (by kernel_rfl) (by kernel_rfl) (fun _ _ _ h => h) (Or.inl ⟨by rfl, ?_⟩) (by assumption) ?_
  rotate_left
  · intro w hSw
    go_simp
    try with_reducible rfl
  simp only [Act.put, List.getElem_toArray, List.getElem_cons_zero, List.getElem_cons_succ, List.setIfInBounds_toArray, List.set_cons_zero, List.set_cons_succ]
  refine wpAnyH_take (i := 7) (v := ?_) rfl (by kernel_rfl) (by kernel_rfl) (by kernel_rfl) (fun _ _ _ h => h) (Or.inl ⟨by rfl, ?_⟩) (by assumption) ?_
  rotate_left
  · intro w hSw
    go_simp
    try with_reducible rfl
  simp only [Act.put, List.getElem_toArray, List.getElem_cons_zero, List.getElem_cons_succ, List.setIfInBounds_toArray, List.set_cons_zero, List.set_cons_succ]
  refine wpAnyH_ready (rs := [8]) (by kernel_rfl) (by simp) ?_
  refine AllReadyH.cons rfl (fun K hK => ?_) AllReadyH.nil
  go_simp
  refine (CO.out _ LL.out.drew).mono ?_
  rintro e w9 ⟨rfl, bb⟩
  refine hK.out _ _ (held_hold (H.out.drew.below bb) (blk_on (show V.drew.heap[w.heap.size]? = some _ from G.out) bb)) (fun hHeld => ?_)
  clear hK K 
  have H1 := aside (H.out.drew.below bb)
  have G1 := aside (blk_on (show V.drew.heap[w.heap.size]? = some _ from G.out) bb)
  have B1 := aside (B0.out.drew.trans (bb.mono B0.out.drew.size))
  clear bb H G B0 LL CO
  refine wpAnyH_ready (rs := [9]) (by kernel_rfl) (by simp) ?_
  refine AllReadyH.cons rfl (fun K hK => ?_) AllReadyH.nil
  go_simp
  have HF := aside (fun (W : World) (c : CntE (some g) (n + pc) W) (k : Keeps (fun x => x = tb ∨ OnC (some g) x) w9 W) (t : TreeE W tb (jvE g) T') => hold_mid (e := e) H1.out G1.out B1.out c k t)
  refine (CP.out _ H1.out).mono ?_
  rintro e w8 ⟨rfl, ht, bb2, kk⟩
  refine hK.out _ _ ((HF.out _ bb2 kk ht).1) (fun hHeld => ?_)
  clear hK K 
  obtain ⟨-, H2, G2, K2⟩ := HF.out _ bb2 kk ht
  have H2' := aside H2
  have G2' := aside G2
  have K2' := aside K2
  clear H2 G2 K2 ht bb2 kk HF H1 G1 B1 CP hHeld
  refine wpAnyH_done (by kernel_rfl) ?_ _
  go_wp2_with fail
  refine wp_region_held_drew (S := fun X => X.cell? ⟨w.heap.size, 1, none⟩ = some (.int .i64 e.c)) (by kernel_rfl) (penta (show w8.drew.heap[w.heap.size]? = some _ from G2'.out)).2.1 (fun hHeld => ?_)
  refine wpAnyH_take (i := 0) (v := ?_) rfl (by kernel_rfl) (by kernel_rfl) (by kernel_rfl) (fun _ _ _ h => h) (Or.inl ⟨by rfl, ?_⟩) (by assumption) ?_
  rotate_left
  · intro w hSw
    go_simp
    try with_reducible rfl
  simp only [Act.put, List.getElem_toArray, List.getElem_cons_zero, List.setIfInBounds_toArray, List.set_cons_zero, List.set_cons_succ]
  refine wpAnyH_take (i := 1) (v := ?_) rfl (by kernel_rfl) (by kernel_rfl) (by kernel_rfl) (fun _ _ _ h => h) (Or.inl ⟨by rfl, ?_⟩) (by assumption) ?_
  rotate_left
  · intro w hSw
    go_simp
    try with_reducible rfl
  simp only [Act.put, List.getElem_toArray, List.getElem_cons_zero, List.getElem_cons_succ, List.setIfInBounds_toArray, List.set_cons_zero, List.set_cons_succ]
  refine wpAnyH_take (i := 2) (v := ?_) rfl (by kernel_rfl) (by kernel_rfl) (by kernel_rfl) (fun _ _ _ h => h) (Or.inl ⟨by rfl, ?_⟩) (by assumption) ?_
  rotate_left
  · intro w hSw
    go_simp
    try with_reducible rfl
  simp only [Act.put, List.getElem_toArray, List.getElem_cons_zero, List.getElem_cons_succ, List.setIfInBounds_toArray, List.set_cons_zero, List.set_cons_succ]
  refine wpAnyH_take (i := 3) (v := ?_) rfl (by kernel_rfl) (by kernel_rfl) (by kernel_rfl) (fun _ _ _ h => h) (Or.inl ⟨by rfl, ?_⟩) (by assumption) ?_
  rotate_left
  · intro w hSw
    go_simp
    try with_reducible rfl
  simp only [Act.put, List.getElem_toArray, List.getElem_cons_zero, List.getElem_cons_succ, List.setIfInBounds_toArray, List.set_cons_zero, List.set_cons_succ]
  refine wpAnyH_take (i := 5) (v := ?_) rfl (by kernel_rfl) (by kernel_rfl) (by kernel_rfl) (fun _ _ _ h => h) (Or.inl ⟨by rfl, ?_⟩) (by assumption) ?_
  rotate_left
  · intro w hSw
    go_simp
    try with_reducible rfl
  simp only [Act.put, List.getElem_toArray, List.getElem_cons_zero, List.getElem_cons_succ, List.setIfInBounds_toArray, List.set_cons_zero, List.set_cons_succ]
  refine wpAnyH_take (i := 6) (v := ?_) rfl (by kernel_rfl) (by kernel_rfl) (by kernel_rfl) (fun _ _ _ h => h) (Or.inl ⟨by rfl, ?_⟩) (by assumption) ?_
  rotate_left
  · intro w hSw
    go_simp
    try with_reducible rfl
  simp only [Act.put, List.getElem_toArray, List.getElem_cons_zero, List.getElem_cons_succ, List.setIfInBounds_toArray, List.set_cons_zero, List.set_cons_succ]
  refine wpAnyH_take (i := 7) (v := ?_) rfl (by kernel_rfl) (by kernel_rfl) (by kernel_rfl) (fun _ _ _ h => h) (Or.inl ⟨by rfl, ?_⟩) (by assumption) ?_
  rotate_left
  · intro w hSw
    go_simp
    try with_reducible rfl
  simp only [Act.put, List.getElem_toArray, List.getElem_cons_zero, List.getElem_cons_succ, List.setIfInBounds_toArray, List.set_cons_zero, List.set_cons_succ]
  obtain ⟨-, s1, -, -, z1⟩ := quad H2'.out.drew.blk
  refine wpAnyH_ready (rs := [4]) (by kernel_rfl) (by simp) ?_
  refine AllReadyH.cons rfl (fun K hK => ?_) AllReadyH.nil
  go_simp
  refine hK.out _ _ (hHeld) (fun hHeld => ?_)
  clear hK K 
  refine wpAnyH_take (i := 8) (v := ?_) rfl (by kernel_rfl) (by kernel_rfl) (by kernel_rfl) (fun _ _ _ h => h) (Or.inl ⟨by rfl, ?_⟩) (by assumption) ?_
  rotate_left
  · intro w hSw
    go_simp
    try with_reducible rfl
  simp only [Act.put, List.getElem_toArray, List.getElem_cons_zero, List.getElem_cons_succ, List.setIfInBounds_toArray, List.set_cons_zero, List.set_cons_succ]
  generalize hm : (if ck < e.c then e.c else ck) = mh
  have HM := aside (show ckm ck e.c = mh from hm)
  clear hm
  refine wpAnyH_take (i := 9) (v := ?_) rfl (by kernel_rfl) (by kernel_rfl) (by kernel_rfl) (fun _ _ _ h => h) (Or.inl ⟨by rfl, ?_⟩) (by assumption) ?_
  rotate_left
  · intro w hSw
    go_simp
    try with_reducible rfl
  simp only [Act.put, List.getElem_toArray, List.getElem_cons_zero, List.getElem_cons_succ, List.setIfInBounds_toArray, List.set_cons_zero, List.set_cons_succ]
  refine wpAnyH_take (i := 10) (v := ?_) rfl (by kernel_rfl) (by kernel_rfl) (by kernel_rfl) (fun _ _ _ h => h) (Or.inl ⟨by rfl, ?_⟩) (by assumption) ?_
  rotate_left
  · intro w hSw
    go_simp
    try with_reducible rfl
  simp only [Act.put, List.getElem_toArray, List.getElem_cons_zero, List.getElem_cons_succ, List.setIfInBounds_toArray, List.set_cons_zero, List.set_cons_succ]
  refine wpAnyH_ready (rs := [11]) (by kernel_rfl) (by simp) ?_
  refine AllReadyH.cons rfl (fun K hK => ?_) AllReadyH.nil
  go_simp
  refine hK.out _ _ ((penta ((heap_setCell_other _ ⟨sb, 1, none⟩ _ _ (fun e => by have h9 := H2'.out.blk; have h8 := G2'.out; dsimp only at e; rw [e, h9] at h8; simp at h8)).trans (show w8.drew.heap[w.heap.size]? = some _ from G2'.out))).2.1) (fun hHeld => ?_)
  clear hK K 
  refine wpAnyH_done (by kernel_rfl) ?_ _
  go_wp2
  go_end0
  rw [HM.out]
  obtain ⟨k1, k2⟩ := hold_end H2'.out K2'.out mh
  exact ⟨rfl, k1.drew, k2.drew⟩
end Go.Proofs.YtpbkjffiohfkcaaDoor
namespace Go.Proofs.YtpbkjffiohfkcaaDoor
open Go.RowKit
set_option linter.unusedVariables false
end Go.Proofs.YtpbkjffiohfkcaaDoor
namespace Go.Proofs.YtpbkjffiohfkcaaDoor
open Go.RowKit
set_option linter.unusedVariables false
theorem held_rows {w X : World} {sb g tb : Nat} {nd ck : Int} {T : Tr En Tl} {n : Nat} {lo hi : ByteArray} {op : Bool} (h : IsSt X sb g tb nd ck T n) (hb : X.heap[w.heap.size]? = some (.cells #[.string lo, .string hi, .bool op] 24 (0, 0))) : X.cell? ⟨sb, 3, none⟩ = some (.pointer (some ⟨tb, 0, none⟩)) ∧ X.cell? ⟨w.heap.size, 0, none⟩ = some (.string lo) ∧ X.cell? ⟨w.heap.size, 1, none⟩ = some (.string hi) ∧ X.cell? ⟨w.heap.size, 2, none⟩ = some (.bool op) := by
  obtain ⟨c0, c1, c2, c3, -⟩ := quad h.blk
  obtain ⟨b0, b1, b2, -⟩ := tri hb
  exact ⟨c3, b0, b1, b2⟩
theorem yrank_at {w : World} {tb g : Nat} {T : Tr En Tl} {Ls : List En} (k : ByteArray) {q : Int} (h : TreeE w tb (jvE g) T) (hH : Hol T Ls) (hl : Ls.length ≤ 1000000) (hq : (belE k Ls : Int) = q) :
    Calls Tryd.prog 52 #[.pointer (some ⟨tb, 0, none⟩), .string k] w fun e w' => e = .returned (.int .i64 q) ∧ Below w.heap.size w w' := by
  have h1 := yrankE k h hH.gd (by omega)
  rw [hH.lower, hq] at h1
  exact h1
set_option maxHeartbeats 3200000 in
set_option maxRecDepth 100000 in
theorem srowsO (lo hi : ByteArray) {Ls : List En} {w : World} {sb g tb : Nat} {nd ck : Int} {T : Tr En Tl} {n : Nat} (h : IsSt w sb g tb nd ck T n) (hH : Hol T Ls) (hl : Ls.length ≤ 1000000) :
    Calls Tryd.prog 39 #[.pointer (some ⟨sb, 0, none⟩), .agg #[.string lo, .string hi, .bool true]] w fun r w' => r = .returned (.tuple #[.int .i64 (belE lo Ls : Int), .int .i64 (endE hi true Ls : Int)]) ∧ Below w.heap.size w w' := by
  obtain ⟨a, ha⟩ : ∃ a : Int, (belE lo Ls : Int) = a := ⟨_, rfl⟩
  obtain ⟨b, hb⟩ : ∃ b : Int, (endE hi true Ls : Int) = b := ⟨_, rfl⟩
  have H := aside (h.alloc (.cells #[.string lo, .string hi, .bool true] 24))
  have G := aside (heap_alloc_new w (.cells #[.string lo, .string hi, .bool true] 24))
  have B0 := aside (bnew w (.cells #[.string lo, .string hi, .bool true] 24))
  have C1 := aside (fun (W : World) (h : IsSt W sb g tb nd ck T n) => yrank_at lo h.tree hH hl ha)
  have C2 := aside (fun (W : World) (h : IsSt W sb g tb nd ck T n) => slen h)
  rw [show (T.cnt : Int) = b from by rw [hH.cnt, ← hb]; rfl] at C2
  rw [ha, hb]
  clear h hH hl ha hb
  go_enter Tryd.func39, Tryd.ntmps39
  obtain ⟨-, -, q2, -⟩ := tri G.out
  go_wp2_with fail
  clear q2
  generalize w.alloc (.cells #[.string lo, .string hi, .bool true] 24) = V at *
  refine wp_region_held_drew (S := fun X => X.cell? ⟨sb, 3, none⟩ = some (.pointer (some ⟨tb, 0, none⟩)) ∧ X.cell? ⟨w.heap.size, 0, none⟩ = some (.string lo) ∧ X.cell? ⟨w.heap.size, 1, none⟩ = some (.string hi) ∧ X.cell? ⟨w.heap.size, 2, none⟩ = some (.bool true)) (by kernel_rfl) (held_rows H.out.drew G.out) (fun hHeld => ?_)
  refine wpAnyH_take (i := 0) (v := ?_) rfl (by kernel_rfl) (by kernel_rfl) (by kernel_rfl) (fun _ _ _ h => h) (Or.inl ⟨by rfl, ?_⟩) (by assumption) ?_
  rotate_left
  · intro w hSw
    go_simp
    try with_reducible rfl
  simp only [Act.put, List.getElem_toArray, List.getElem_cons_zero, List.setIfInBounds_toArray, List.set_cons_zero, List.set_cons_succ]
  refine wpAnyH_take (i := 1) (v := ?_) rfl (by kernel_rfl) (by kernel_rfl) (by kernel_rfl) (fun _ _ _ h => h) (Or.inl ⟨by rfl, ?_⟩) (by assumption) ?_
  rotate_left
  · intro w hSw
    go_simp
    try with_reducible rfl
  simp only [Act.put, List.getElem_toArray, List.getElem_cons_zero, List.getElem_cons_succ, List.setIfInBounds_toArray, List.set_cons_zero, List.set_cons_succ]
  refine wpAnyH_take (i := 2) (v := ?_) rfl (by kernel_rfl) (by kernel_rfl) (by kernel_rfl) (fun _ _ _ h => h) (Or.inl ⟨by rfl, ?_⟩) (by assumption) ?_
  rotate_left
  · intro w hSw
    go_simp
    try with_reducible rfl
  simp only [Act.put, List.getElem_toArray, List.getElem_cons_zero, List.getElem_cons_succ, List.setIfInBounds_toArray, List.set_cons_zero, List.set_cons_succ]
  refine wpAnyH_take (i := 3) (v := ?_) rfl (by kernel_rfl) (by kernel_rfl) (by kernel_rfl) (fun _ _ _ h => h) (Or.inl ⟨by rfl, ?_⟩) (by assumption) ?_
  rotate_left
  · intro w hSw
    go_simp
    try with_reducible rfl
  simp only [Act.put, List.getElem_toArray, List.getElem_cons_zero, List.getElem_cons_succ, List.setIfInBounds_toArray, List.set_cons_zero, List.set_cons_succ]
  refine wpAnyH_take (i := 4) (v := ?_) rfl (by kernel_rfl) (by kernel_rfl) (by kernel_rfl) (fun _ _ _ h => h) (Or.inl ⟨by rfl, ?_⟩) (by assumption) ?_
  rotate_left
  · intro w hSw
    go_simp
    try with_reducible rfl
  simp only [Act.put, List.getElem_toArray, List.getElem_cons_zero, List.getElem_cons_succ, List.setIfInBounds_toArray, List.set_cons_zero, List.set_cons_succ]
  refine wpAnyH_take (i := 5) (v := ?_) rfl (by kernel_rfl) (by kernel_rfl) (by kernel_rfl) (fun _ _ _ h => h) (Or.inl ⟨by rfl, ?_⟩) (by assumption) ?_
  rotate_left
  · intro w hSw
    go_simp
    try with_reducible rfl
  simp only [Act.put, List.getElem_toArray, List.getElem_cons_zero, List.getElem_cons_succ, List.setIfInBounds_toArray, List.set_cons_zero, List.set_cons_succ]
  refine wpAnyH_take (i := 7) (v := ?_) rfl (by kernel_rfl) (by kernel_rfl) (by kernel_rfl) (fun _ _ _ h => h) (Or.inl ⟨by rfl, ?_⟩) (by assumption) ?_
  rotate_left
  · intro w hSw
    go_simp
    try with_reducible rfl
  simp only [Act.put, List.getElem_toArray, List.getElem_cons_zero, List.getElem_cons_succ, List.setIfInBounds_toArray, List.set_cons_zero, List.set_cons_succ]
  refine wpAnyH_ready (rs := [6]) (by kernel_rfl) (by simp) ?_
  refine AllReadyH.cons rfl (fun K hK => ?_) AllReadyH.nil
  go_simp
  refine (C1.out _ H.out.drew).mono ?_
  rintro e w9 ⟨rfl, bb⟩
  refine hK.out _ _ (held_rows (H.out.drew.below bb) (blk_on (show V.drew.heap[w.heap.size]? = some _ from G.out) bb)) (fun hHeld => ?_)
  clear hK K 
  have H1 := aside (H.out.drew.below bb)
  have G1 := aside (blk_on (show V.drew.heap[w.heap.size]? = some _ from G.out) bb)
  have B1 := aside (bthen B0.out.drew bb)
  clear bb
  refine wpAnyH_ready (rs := [8]) (by kernel_rfl) (by simp) ?_
  refine AllReadyH.cons rfl (fun K hK => ?_) AllReadyH.nil
  go_simp
  refine (C2.out _ H1.out).mono ?_
  rintro e w9 ⟨rfl, rfl⟩
  refine hK.out _ _ (hHeld) (fun hHeld => ?_)
  clear hK K 
  refine wpAnyH_take (i := 9) (v := ?_) rfl (by kernel_rfl) (by kernel_rfl) (by kernel_rfl) (fun _ _ _ h => h) (Or.inl ⟨by rfl, ?_⟩) (by assumption) ?_
  rotate_left
  · intro w hSw
    go_simp
    try with_reducible rfl
  simp only [Act.put, List.getElem_toArray, List.getElem_cons_zero, List.getElem_cons_succ, List.setIfInBounds_toArray, List.set_cons_zero, List.set_cons_succ]
  refine wpAnyH_take (i := 10) (v := ?_) rfl (by kernel_rfl) (by kernel_rfl) (by kernel_rfl) (fun _ _ _ h => h) (Or.inl ⟨by rfl, ?_⟩) (by assumption) ?_
  rotate_left
  · intro w hSw
    go_simp
    try with_reducible rfl
  simp only [Act.put, List.getElem_toArray, List.getElem_cons_zero, List.getElem_cons_succ, List.setIfInBounds_toArray, List.set_cons_zero, List.set_cons_succ]
  refine wpAnyH_done (by kernel_rfl) ?_ _
  go_wp2
  refine bodyPost_ret (v := .tuple #[.int .i64 a, .int .i64 b]) (by simp [results, Tryd.results39, go_sem]) rfl ⟨rfl, B1.out⟩
set_option maxHeartbeats 3200000 in
set_option maxRecDepth 100000 in
theorem srowsC (lo hi : ByteArray) {Ls : List En} {w : World} {sb g tb : Nat} {nd ck : Int} {T : Tr En Tl} {n : Nat} (h : IsSt w sb g tb nd ck T n) (hH : Hol T Ls) (hl : Ls.length ≤ 1000000) :
    Calls Tryd.prog 39 #[.pointer (some ⟨sb, 0, none⟩), .agg #[.string lo, .string hi, .bool false]] w fun r w' => r = .returned (.tuple #[.int .i64 (belE lo Ls : Int), .int .i64 (endE hi false Ls : Int)]) ∧ Below w.heap.size w w' := by
  obtain ⟨a, ha⟩ : ∃ a : Int, (belE lo Ls : Int) = a := ⟨_, rfl⟩
  obtain ⟨b, hb⟩ : ∃ b : Int, (endE hi false Ls : Int) = b := ⟨_, rfl⟩
  have H := aside (h.alloc (.cells #[.string lo, .string hi, .bool false] 24))
  have G := aside (heap_alloc_new w (.cells #[.string lo, .string hi, .bool false] 24))
  have B0 := aside (bnew w (.cells #[.string lo, .string hi, .bool false] 24))
  have C1 := aside (fun (W : World) (h : IsSt W sb g tb nd ck T n) => yrank_at lo h.tree hH hl ha)
  have C2 := aside (fun (W : World) (h : IsSt W sb g tb nd ck T n) => yrank_at hi h.tree hH hl (show (belE hi Ls : Int) = b from hb))
  rw [ha, hb]
  clear h hH hl ha hb
  go_enter Tryd.func39, Tryd.ntmps39
  obtain ⟨-, -, q2, -⟩ := tri G.out
  go_wp2_with fail
  clear q2
  generalize w.alloc (.cells #[.string lo, .string hi, .bool false] 24) = V at *
  refine wp_region_held_drew (S := fun X => X.cell? ⟨sb, 3, none⟩ = some (.pointer (some ⟨tb, 0, none⟩)) ∧ X.cell? ⟨w.heap.size, 0, none⟩ = some (.string lo) ∧ X.cell? ⟨w.heap.size, 1, none⟩ = some (.string hi) ∧ X.cell? ⟨w.heap.size, 2, none⟩ = some (.bool false)) (by kernel_rfl) (held_rows H.out.drew G.out) (fun hHeld => ?_)
  refine wpAnyH_take (i := 0) (v := ?_) rfl (by kernel_rfl) (by kernel_rfl) (by kernel_rfl) (fun _ _ _ h => h) (Or.inl ⟨by rfl, ?_⟩) (by assumption) ?_
  rotate_left
  · intro w hSw
    go_simp
    try with_reducible rfl
  simp only [Act.put, List.getElem_toArray, List.getElem_cons_zero, List.setIfInBounds_toArray, List.set_cons_zero, List.set_cons_succ]
  refine wpAnyH_take (i := 1) (v := ?_) rfl (by kernel_rfl) (by kernel_rfl) (by kernel_rfl) (fun _ _ _ h => h) (Or.inl ⟨by rfl, ?_⟩) (by assumption) ?_
  rotate_left
  · intro w hSw
    go_simp
    try with_reducible rfl
  simp only [Act.put, List.getElem_toArray, List.getElem_cons_zero, List.getElem_cons_succ, List.setIfInBounds_toArray, List.set_cons_zero, List.set_cons_succ]
  refine wpAnyH_take (i := 2) (v := ?_) rfl (by kernel_rfl) (by kernel_rfl) (by kernel_rfl) (fun _ _ _ h => h) (Or.inl ⟨by rfl, ?_⟩) (by assumption) ?_
  rotate_left
  · intro w hSw
    go_simp
    try with_reducible rfl
  simp only [Act.put, List.getElem_toArray, List.getElem_cons_zero, List.getElem_cons_succ, List.setIfInBounds_toArray, List.set_cons_zero, List.set_cons_succ]
  refine wpAnyH_take (i := 3) (v := ?_) rfl (by kernel_rfl) (by kernel_rfl) (by kernel_rfl) (fun _ _ _ h => h) (Or.inl ⟨by rfl, ?_⟩) (by assumption) ?_
  rotate_left
  · intro w hSw
    go_simp
    try with_reducible rfl
  simp only [Act.put, List.getElem_toArray, List.getElem_cons_zero, List.getElem_cons_succ, List.setIfInBounds_toArray, List.set_cons_zero, List.set_cons_succ]
  refine wpAnyH_take (i := 4) (v := ?_) rfl (by kernel_rfl) (by kernel_rfl) (by kernel_rfl) (fun _ _ _ h => h) (Or.inl ⟨by rfl, ?_⟩) (by assumption) ?_
  rotate_left
  · intro w hSw
    go_simp
    try with_reducible rfl
  simp only [Act.put, List.getElem_toArray, List.getElem_cons_zero, List.getElem_cons_succ, List.setIfInBounds_toArray, List.set_cons_zero, List.set_cons_succ]
  refine wpAnyH_take (i := 5) (v := ?_) rfl (by kernel_rfl) (by kernel_rfl) (by kernel_rfl) (fun _ _ _ h => h) (Or.inl ⟨by rfl, ?_⟩) (by assumption) ?_
  rotate_left
  · intro w hSw
    go_simp
    try with_reducible rfl
  simp only [Act.put, List.getElem_toArray, List.getElem_cons_zero, List.getElem_cons_succ, List.setIfInBounds_toArray, List.set_cons_zero, List.set_cons_succ]
  refine wpAnyH_take (i := 7) (v := ?_) rfl (by kernel_rfl) (by kernel_rfl) (by kernel_rfl) (fun _ _ _ h => h) (Or.inl ⟨by rfl, ?_⟩) (by assumption) ?_
  rotate_left
  · intro w hSw
    go_simp
    try with_reducible rfl
  simp only [Act.put, List.getElem_toArray, List.getElem_cons_zero, List.getElem_cons_succ, List.setIfInBounds_toArray, List.set_cons_zero, List.set_cons_succ]
  refine wpAnyH_take (i := 8) (v := ?_) rfl (by kernel_rfl) (by kernel_rfl) (by kernel_rfl) (fun _ _ _ h => h) (Or.inl ⟨by rfl, ?_⟩) (by assumption) ?_
  rotate_left
  · intro w hSw
    go_simp
    try with_reducible rfl
  simp only [Act.put, List.getElem_toArray, List.getElem_cons_zero, List.getElem_cons_succ, List.setIfInBounds_toArray, List.set_cons_zero, List.set_cons_succ]
  refine wpAnyH_take (i := 9) (v := ?_) rfl (by kernel_rfl) (by kernel_rfl) (by kernel_rfl) (fun _ _ _ h => h) (Or.inl ⟨by rfl, ?_⟩) (by assumption) ?_
  rotate_left
  · intro w hSw
    go_simp
    try with_reducible rfl
  simp only [Act.put, List.getElem_toArray, List.getElem_cons_zero, List.getElem_cons_succ, List.setIfInBounds_toArray, List.set_cons_zero, List.set_cons_succ]
  refine wpAnyH_take (i := 10) (v := ?_) rfl (by kernel_rfl) (by kernel_rfl) (by kernel_rfl) (fun _ _ _ h => h) (Or.inl ⟨by rfl, ?_⟩) (by assumption) ?_
  rotate_left
  · intro w hSw
    go_simp
    try with_reducible rfl
  simp only [Act.put, List.getElem_toArray, List.getElem_cons_zero, List.getElem_cons_succ, List.setIfInBounds_toArray, List.set_cons_zero, List.set_cons_succ]
  refine wpAnyH_take (i := 11) (v := ?_) rfl (by kernel_rfl) (by kernel_rfl) (by kernel_rfl) (fun _ _ _ h => h) (Or.inl ⟨by rfl, ?_⟩) (by assumption) ?_
  rotate_left
  · intro w hSw
    go_simp
    try with_reducible rfl
  simp only [Act.put, List.getElem_toArray, List.getElem_cons_zero, List.getElem_cons_succ, List.setIfInBounds_toArray, List.set_cons_zero, List.set_cons_succ]
  refine wpAnyH_take (i := 12) (v := ?_) rfl (by kernel_rfl) (by kernel_rfl) (by kernel_rfl) (fun _ _ _ h => h) (Or.inl ⟨by rfl, ?_⟩) (by assumption) ?_
  rotate_left
  · intro w hSw
    go_simp
    try with_reducible rfl
  simp only [Act.put, List.getElem_toArray, List.getElem_cons_zero, List.getElem_cons_succ, List.setIfInBounds_toArray, List.set_cons_zero, List.set_cons_succ]
  refine wpAnyH_ready (rs := [6]) (by kernel_rfl) (by simp) ?_
  refine AllReadyH.cons rfl (fun K hK => ?_) AllReadyH.nil
  go_simp
  refine (C1.out _ H.out.drew).mono ?_
  rintro e w9 ⟨rfl, bb⟩
  refine hK.out _ _ (held_rows (H.out.drew.below bb) (blk_on (show V.drew.heap[w.heap.size]? = some _ from G.out) bb)) (fun hHeld => ?_)
  clear hK K 
  have H1 := aside (H.out.drew.below bb)
  have G1 := aside (blk_on (show V.drew.heap[w.heap.size]? = some _ from G.out) bb)
  have B1 := aside (bthen B0.out.drew bb)
  clear bb
  refine wpAnyH_ready (rs := [13]) (by kernel_rfl) (by simp) ?_
  refine AllReadyH.cons rfl (fun K hK => ?_) AllReadyH.nil
  go_simp
  refine (C2.out _ H1.out).mono ?_
  rintro e w8 ⟨rfl, bb⟩
  refine hK.out _ _ (held_rows (H1.out.below bb) (blk_on G1.out bb)) (fun hHeld => ?_)
  clear hK K 
  have B2 := aside (bthen B1.out bb)
  clear bb
  refine wpAnyH_take (i := 14) (v := ?_) rfl (by kernel_rfl) (by kernel_rfl) (by kernel_rfl) (fun _ _ _ h => h) (Or.inl ⟨by rfl, ?_⟩) (by assumption) ?_
  rotate_left
  · intro w hSw
    go_simp
    try with_reducible rfl
  simp only [Act.put, List.getElem_toArray, List.getElem_cons_zero, List.getElem_cons_succ, List.setIfInBounds_toArray, List.set_cons_zero, List.set_cons_succ]
  refine wpAnyH_take (i := 15) (v := ?_) rfl (by kernel_rfl) (by kernel_rfl) (by kernel_rfl) (fun _ _ _ h => h) (Or.inl ⟨by rfl, ?_⟩) (by assumption) ?_
  rotate_left
  · intro w hSw
    go_simp
    try with_reducible rfl
  simp only [Act.put, List.getElem_toArray, List.getElem_cons_zero, List.getElem_cons_succ, List.setIfInBounds_toArray, List.set_cons_zero, List.set_cons_succ]
  refine wpAnyH_done (by kernel_rfl) ?_ _
  go_wp2
  refine bodyPost_ret (v := .tuple #[.int .i64 a, .int .i64 b]) (by simp [results, Tryd.results39, go_sem]) rfl ⟨rfl, B2.out⟩
theorem srows (lo hi : ByteArray) (op : Bool) {Ls : List En} {w : World} {sb g tb : Nat} {nd ck : Int} {T : Tr En Tl} {n : Nat} (h : IsSt w sb g tb nd ck T n) (hH : Hol T Ls) (hl : Ls.length ≤ 1000000) :
    Calls Tryd.prog 39 #[.pointer (some ⟨sb, 0, none⟩), .agg #[.string lo, .string hi, .bool op]] w fun r w' => r = .returned (.tuple #[.int .i64 (belE lo Ls : Int), .int .i64 (endE hi op Ls : Int)]) ∧ Below w.heap.size w w' := by
  cases op
  · exact srowsC lo hi h hH hl
  · exact srowsO lo hi h hH hl
/-- What Fold answers. -/
def foldV (lo hi : ByteArray) (op : Bool) (Ls : List En) : Tl := if Rg.chk ⟨lo, hi, op⟩ = 0 then talL (Ls.filter (inR lo hi op)) else tZero
theorem chk_may {lo hi : ByteArray} {op : Bool} (h : Rg.chk ⟨lo, hi, op⟩ = 0) : op = true ∨ kLt hi lo = false := by
  cases op with
  | true => exact .inl rfl
  | false =>
    refine .inr ?_
    unfold Rg.chk at h
    split at h
    · cases h
    · split at h
      · cases h
      · rename_i h2
        cases h3 : Op.bytesLess lo.toList hi.toList
        · cases h4 : (lo.toList == hi.toList)
          · simp [h3, h4] at h2
          · rw [toList_inj (beq_iff_eq.1 h4)]
            exact kLt_irrefl _
        · exact kLt_asymm h3
theorem fold_end {w X : World} {sb g tb m : Nat} {nd ck : Int} {T : Tr En Tl} {n : Nat} (h : IsSt X sb g tb nd ck T n) (k : Keeps (Of sb g tb) w X) (hb : X.heap[w.heap.size + 1]? = some (.cells #[.int .i64 0, .int .u64 0, .int .u64 0] 32 (0, 0))) (y : Tl) : IsSt (set3 X (w.heap.size + 1) y) sb g tb nd ck T n ∧ Keeps (Of sb g tb) w (set3 X (w.heap.size + 1) y) := by
  have hn := h.not hb (by decide) (by decide) (by decide)
  obtain ⟨p, ht, hT⟩ := h.tree
  refine ⟨⟨(set3_other _ _ _ _ (fun e => hn (.inl e.symm))).trans h.blk, h.cnt.set3 (fun e => hn (.inr (.inr (Option.some.inj e).symm))) y, ⟨p, (set3_other _ _ _ _ (fun e => hn (.inr (.inl e.symm)))).trans ht, hT.on ((Stay.refl _ X).set3 hb (by decide) y)⟩⟩, k.set3 (fun e => by omega) y⟩
set_option maxHeartbeats 3200000 in
set_option maxRecDepth 100000 in
theorem sfold (lo hi : ByteArray) (op : Bool) {Ls : List En} {w : World} {sb g tb : Nat} {nd ck : Int} {T : Tr En Tl} {n : Nat} (h : IsSt w sb g tb nd ck T n) (hH : Hol T Ls) (hl : Ls.length ≤ 1000000) :
    Calls Tryd.prog 28 #[.pointer (some ⟨sb, 0, none⟩), .agg #[.string lo, .string hi, .bool op]] w fun r w' => r = .returned (.tuple #[.agg #[.int .i64 (foldV lo hi op Ls).n, .int .u64 (foldV lo hi op Ls).a, .int .u64 (foldV lo hi op Ls).b], .int .i64 (Rg.chk ⟨lo, hi, op⟩)]) ∧ (∃ d, d ≤ 4 * T.ht ∧ IsSt w' sb g tb nd ck T (n + d)) ∧ Keeps (Of sb g tb) w w' := by
  have b0 := bnew w (.cells #[.string lo, .string hi, .bool op] 24)
  have b1 := bnew (w.alloc (.cells #[.string lo, .string hi, .bool op] 24)) (.cells #[.int .i64 0, .int .u64 0, .int .u64 0] 32)
  have B := aside (bthen b0 b1)
  have G0 := aside (blk_on (heap_alloc_new w (.cells #[.string lo, .string hi, .bool op] 24)) b1)
  have g1 := heap_alloc_new (w.alloc (.cells #[.string lo, .string hi, .bool op] 24)) (.cells #[.int .i64 0, .int .u64 0, .int .u64 0] 32)
  simp only [World.size_alloc] at g1
  have G1 := aside g1
  have H := aside (h.below B.out)
  have C1 := aside (fun (W : World) => check_any lo hi op W)
  have CR := aside (fun (W : World) (h : IsSt W sb g tb nd ck T n) => srows lo hi op h hH hl)
  have CF := aside (fun (W : World) (h : IsSt W sb g tb nd ck T n) => yfoldE (belE lo Ls : Int) (endE hi op Ls : Int) h.tree (bothJv g) h.cnt hH.gd (by omega))
  have HD := aside (Tr.folC_le T (belE lo Ls : Int) (endE hi op Ls : Int))
  have HV : Hid (Rg.chk ⟨lo, hi, op⟩ = 0 → Tr.fol tJoin tZero T (belE lo Ls : Int) (endE hi op Ls : Int) = foldV lo hi op Ls) := fun h0 => by
    unfold foldV
    rw [if_pos h0, hH.fold _ _ (endE_le _ _ _), seg_range hH.rises (chk_may h0)]
  have HZ : Hid (Rg.chk ⟨lo, hi, op⟩ ≠ 0 → foldV lo hi op Ls = tZero) := fun h0 => by unfold foldV; rw [if_neg h0]
  obtain ⟨c, hc⟩ : ∃ c, Rg.chk ⟨lo, hi, op⟩ = c := ⟨_, rfl⟩
  rw [hc] at C1 HV HZ ⊢
  generalize Tr.folC T (belE lo Ls : Int) (endE hi op Ls : Int) = d at *
  generalize Tr.fol tJoin tZero T (belE lo Ls : Int) (endE hi op Ls : Int) = fv at *
  generalize foldV lo hi op Ls = rv at *
  generalize (belE lo Ls : Int) = a at *
  generalize (endE hi op Ls : Int) = b at *
  clear h hH hl hc b0 b1 g1
  obtain ⟨q0, q1, q2, -⟩ := tri G0.out
  by_cases h0 : c = 0
  · have hrv := HV.out h0
    subst hrv
    subst h0
    go_enter Tryd.func28, Tryd.ntmps28
    go_wp2_with fail
    refine (C1.out _).mono ?_
    rintro e w1 ⟨rfl, b1⟩
    have H1 := aside (H.out.below b1)
    have G1' := aside (blk_on G1.out b1)
    have B1 := aside (bthen B.out b1)
    obtain ⟨r0, r1, r2, -⟩ := tri (blk_on G0.out b1)
    clear b1 H G1 G0 B C1 q0 q1 q2
    go_wp2_with fail
    refine (CR.out _ H1.out).mono ?_
    rintro e w2 ⟨rfl, b2⟩
    have H2 := aside (H1.out.below b2)
    have G2 := aside (blk_on G1'.out b2)
    have B2 := aside (bthen B1.out b2)
    obtain ⟨-, -, -, c3, -⟩ := quad H2.out.blk
    clear b2 H1 G1' B1 CR r0 r1 r2
    go_wp2_with fail
    refine (CF.out _ H2.out).mono ?_
    rintro e w3 ⟨rfl, hc3, k3⟩
    have H3 : Hid (IsSt w3 sb g tb nd ck T (n + d)) := ⟨blk_keep H2.out.blk k3 (fun e => H2.out.apart.1 (Option.some.inj e).symm), hc3, H2.out.tree.onC H2.out.cnt k3⟩
    have G3 := aside (blk_keep G2.out k3 (fun e => H2.out.not G2.out (by decide) (by decide) (by decide) (.inr (.inr (Option.some.inj e).symm))))
    have K3 := aside ((Keeps.of_below B2.out (Of sb g tb)).trans (k3.mono (fun _ _ e => .inr (.inr (Option.some.inj e).symm))))
    clear hc3 k3 c3 CF H2 G2 B2
    obtain ⟨s0, s1, s2, z0, z1, z2⟩ := tri G3.out
    have E := aside (fold_end (m := 0) H3.out K3.out G3.out fv)
    unfold set3 at E
    go_wp2
    exact bodyPost_ret (v := .tuple #[.agg #[.int .i64 fv.n, .int .u64 fv.a, .int .u64 fv.b], .int .i64 0]) (by simp [results, Tryd.results28, go_sem, s0, s1, s2]) rfl ⟨rfl, ⟨d, HD.out, E.out.1⟩, E.out.2⟩
  · have hz := HZ.out h0
    have h0' : (c == 0) = false := beq_eq_false_iff_ne.2 h0
    subst hz
    rw [tZero_n, tZero_a, tZero_b]
    go_enter Tryd.func28, Tryd.ntmps28
    go_wp2_with fail
    refine (C1.out _).mono ?_
    rintro e w1 ⟨rfl, b1⟩
    have H1 := aside (H.out.below b1)
    have G1' := aside (blk_on G1.out b1)
    have B1 := aside (bthen B.out b1)
    obtain ⟨s0, s1, s2, z0, z1, z2⟩ := tri G1'.out
    have E := aside (fold_end (m := 0) H1.out (Keeps.of_below B1.out _) G1'.out tZero)
    unfold set3 at E
    rw [tZero_n, tZero_a, tZero_b] at E
    clear b1 H G1 G0 B C1 q0 q1 q2
    go_wp2
    exact bodyPost_ret (v := .tuple #[.agg #[.int .i64 0, .int .u64 0, .int .u64 0], .int .i64 c]) (by simp [results, Tryd.results28, go_sem, s0, s1, s2]) rfl ⟨rfl, ⟨0, Nat.zero_le _, E.out.1⟩, E.out.2⟩
end Go.Proofs.YtpbkjffiohfkcaaDoor
namespace Go.Proofs.YtpbkjffiohfkcaaDoor
open Go.RowKit
end Go.Proofs.YtpbkjffiohfkcaaDoor
namespace Go.Proofs.YtpbkjffiohfkcaaDoor
open Go.RowKit
set_option linter.unusedVariables false
end Go.Proofs.YtpbkjffiohfkcaaDoor
namespace Go.Proofs.YtpbkjffiohfkcaaDoor
open Go.RowKit
set_option linter.unusedVariables false
end Go.Proofs.YtpbkjffiohfkcaaDoor
namespace Go.Proofs.YtpbkjffiohfkcaaDoor
open Go.RowKit
set_option linter.unusedVariables false
end Go.Proofs.YtpbkjffiohfkcaaDoor
namespace Go.Proofs.YtpbkjffiohfkcaaDoor
open Go.RowKit
set_option linter.unusedVariables false
/-- The store in the block sb holds Ls. -/
def Sto (w : World) (sb g tb : Nat) (nd ck : Int) (Ls : List En) : Prop := ∃ T n, IsSt w sb g tb nd ck T n ∧ Hol T Ls
theorem Sto.below {w w' : World} {sb g tb : Nat} {nd ck : Int} {Ls : List En} (h : Sto w sb g tb nd ck Ls) (b : Below w.heap.size w w') : Sto w' sb g tb nd ck Ls := by
  obtain ⟨T, n, h1, h2⟩ := h
  exact ⟨T, n, h1.below b, h2⟩
theorem Sto.keeps {w w' : World} {sb g tb : Nat} {nd ck : Int} {Ls : List En} (h : Sto w sb g tb nd ck Ls) (L : Lanes w) (k : Keeps (Of sb g tb) w w') : Lanes w' := by
  obtain ⟨T, n, h1, h2⟩ := h
  exact L.keeps k (L.apart h1)
theorem Sto.rises {w : World} {sb g tb : Nat} {nd ck : Int} {Ls : List En} (h : Sto w sb g tb nd ck Ls) : RisesE Ls := by
  obtain ⟨T, n, h1, h2⟩ := h
  exact h2.rises
theorem Sto.not {w : World} {sb g tb : Nat} {nd ck : Int} {Ls : List En} (h : Sto w sb g tb nd ck Ls) {i : Nat} {cs : Array Value} {U : TypeId} (hi : w.heap[i]? = some (.cells cs U (0, 0))) (h1 : U ≠ 82) (h2 : U ≠ 99) (h3 : U ≠ 96) : ¬ Of sb g tb i := by
  obtain ⟨T, n, h4, h5⟩ := h
  exact h4.not hi h1 h2 h3
theorem Sto.lt {w : World} {sb g tb : Nat} {nd ck : Int} {Ls : List En} (h : Sto w sb g tb nd ck Ls) : sb < w.heap.size ∧ g < w.heap.size ∧ tb < w.heap.size := by
  obtain ⟨T, n, h1, h2⟩ := h
  exact h1.lt
theorem Sto.keep {w w' : World} {sb g tb sb' g' tb' : Nat} {nd ck nd' ck' : Int} {Ls Ls' : List En} (h : Sto w sb g tb nd ck Ls) (h' : Sto w sb' g' tb' nd' ck' Ls') (k : Keeps (Of sb' g' tb') w w') (a1 : sb ≠ sb') (a2 : g ≠ g') (a3 : tb ≠ tb') : Sto w' sb g tb nd ck Ls := by
  obtain ⟨T, n, h1, h2⟩ := h
  obtain ⟨T', n', h1', h2'⟩ := h'
  exact ⟨T, n, h1.keep h1' k a1 a2 a3, h2⟩
theorem qclock {w : World} {sb g tb : Nat} {nd ck : Int} {Ls : List En} (h : Sto w sb g tb nd ck Ls) : Calls Tryd.prog 22 #[.pointer (some ⟨sb, 0, none⟩)] w fun e w' => e = .returned (.int .i64 ck) ∧ w' = w := by
  obtain ⟨T, n, h1, h2⟩ := h
  exact sclock h1
theorem qfold (lo hi : ByteArray) (op : Bool) {w : World} {sb g tb : Nat} {nd ck : Int} {Ls : List En} (h : Sto w sb g tb nd ck Ls) (L : Lanes w) (hl : Ls.length ≤ 1000000) :
    Calls Tryd.prog 28 #[.pointer (some ⟨sb, 0, none⟩), .agg #[.string lo, .string hi, .bool op]] w fun r w' => r = .returned (.tuple #[.agg #[.int .i64 (foldV lo hi op Ls).n, .int .u64 (foldV lo hi op Ls).a, .int .u64 (foldV lo hi op Ls).b], .int .i64 (Rg.chk ⟨lo, hi, op⟩)]) ∧ Sto w' sb g tb nd ck Ls ∧ Keeps (Of sb g tb) w w' ∧ Lanes w' := by
  obtain ⟨T, n, h1, h2⟩ := h
  exact (sfold lo hi op h1 h2 hl).mono fun r w' ⟨e1, ⟨d, e2, e3⟩, e4⟩ => ⟨e1, ⟨_, _, e3, h2⟩, e4, L.keeps e4 (L.apart h1)⟩
end Go.Proofs.YtpbkjffiohfkcaaDoor
