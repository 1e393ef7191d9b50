/-
  The law ItemOrder, walked: it returns true at any three versions.
  Names of sessions: which may be, how they compare; the code's calls and the document's own, each as a plain function.
  Plain mathematics of ranges of keys: which may be, which are empty, which keys they hold.
  Check, the code's and the document's own: each returns the number that the plain function gives, and writes nothing that was there.
  Empty and Holds, the code's and the document's own: each returns what the plain function gives, and writes nothing that was there.
  Parts of frames, plain: which may be, one by one and all of them.
  Lists of parts in memory.
  What == says of two sums.
  Tallies: their three cells, what == says of two, and of sums within them.
  The code's small calls on parts and frames.
-/
import Derived.Test.YtbnppmkdhnpdfaaBy1
import Derived.Laws.StructEq
import Derived.Test.YtbnppmkdhnpdfaaProg
import Derived.WalkKit
import Derived.Laws.Cover1
import Derived.WalkSpells
import Derived.WalkLawsBesides
import Derived.KernelRfl
import Derived.Below
import Derived.Laws.IdiomStrings
import Derived.Test.YtbnppmkdhnpdfaaBy5
import Derived.Laws.Tables
import Derived.Laws.Cover2
import Derived.Deep.RegionHeld
namespace Go.Proofs.Ytbnppmkdhnpdfaa
open Go.RowKit
end Go.Proofs.Ytbnppmkdhnpdfaa
namespace Go.Proofs.Ytbnppmkdhnpdfaa
open Go.RowKit
set_option linter.unusedVariables false
/-- Whether a name may be. -/
def Nm.chk (a l n : Int) : Int := if a < 0 ∨ 8 ≤ a then 110 else if l < 1 ∨ 1048576 < l ∨ n < 1 ∨ 1048576 < n then 111 else 0
set_option maxHeartbeats 400000 in
theorem fnode_any (n : Int) (w : World) : Calls Try.prog 67 #[.int .i64 n] w fun e w' => e = .returned (.bool (nodeB n)) ∧ w' = w := by
  by_cases h1 : n < 0
  · have h0 : ¬ 0 ≤ n := by omega
    go_enter Try.func67, Try.ntmps67
    go_wp2
    go_ret
    exact ⟨ret_bool (node_no1 (by omega)).symm, rfl⟩
  · have h0 : 0 ≤ n := by omega
    by_cases h2 : 8 ≤ n
    · have h3 : ¬ n < 8 := by omega
      go_enter Try.func67, Try.ntmps67
      go_wp2
      go_ret
      exact ⟨ret_bool (node_no2 (by omega)).symm, rfl⟩
    · have h3 : n < 8 := by omega
      go_enter Try.func67, Try.ntmps67
      go_wp2
      go_ret
      exact ⟨ret_bool (node_yes (by omega) (by omega)).symm, rfl⟩
theorem fnode_at {n : Int} {q : Bool} (h : nodeB n = q) (w : World) : Calls Try.prog 67 #[.int .i64 n] w fun e w' => e = .returned (.bool q) ∧ w' = w := by
  subst h; exact fnode_any n w
set_option maxHeartbeats 1600000 in
theorem nchk_any (a l n : Int) (w : World) : Calls Try.prog 47 #[.agg #[.int .i64 a, .int .i64 l, .int .i64 n]] w fun e w' => e = .returned (.int .i64 (Nm.chk a l n)) ∧ Below w.heap.size w w' := by
  by_cases h1 : a < 0
  · skip
    go_enter Try.func47, Try.ntmps47
    go_wp2_with fail
    refine (fnode_at (node_no1 (by omega)) _).mono ?_
    rintro e w1 ⟨rfl, rfl⟩
    go_wp2
    go_ret
    exact ⟨ret_i64 (by unfold Nm.chk; rw [if_pos (by omega)]), bnew w _⟩
  · by_cases h2 : 8 ≤ a
    · skip
      go_enter Try.func47, Try.ntmps47
      go_wp2_with fail
      refine (fnode_at (node_no2 (by omega)) _).mono ?_
      rintro e w1 ⟨rfl, rfl⟩
      go_wp2
      go_ret
      exact ⟨ret_i64 (by unfold Nm.chk; rw [if_pos (by omega)]), bnew w _⟩
    · by_cases h3 : l < 1
      · skip
        go_enter Try.func47, Try.ntmps47
        go_wp2_with fail
        refine (fnode_at (node_yes (by omega) (by omega)) _).mono ?_
        rintro e w1 ⟨rfl, rfl⟩
        go_wp2
        go_ret
        exact ⟨ret_i64 (by unfold Nm.chk; rw [if_neg (by omega), if_pos (by omega)]), bnew w _⟩
      · by_cases h4 : 1048576 < l
        · skip
          go_enter Try.func47, Try.ntmps47
          go_wp2_with fail
          refine (fnode_at (node_yes (by omega) (by omega)) _).mono ?_
          rintro e w1 ⟨rfl, rfl⟩
          go_wp2
          go_ret
          exact ⟨ret_i64 (by unfold Nm.chk; rw [if_neg (by omega), if_pos (by omega)]), bnew w _⟩
        · by_cases h5 : n < 1
          · skip
            go_enter Try.func47, Try.ntmps47
            go_wp2_with fail
            refine (fnode_at (node_yes (by omega) (by omega)) _).mono ?_
            rintro e w1 ⟨rfl, rfl⟩
            go_wp2
            go_ret
            exact ⟨ret_i64 (by unfold Nm.chk; rw [if_neg (by omega), if_pos (by omega)]), bnew w _⟩
          · by_cases h6 : 1048576 < n
            · skip
              go_enter Try.func47, Try.ntmps47
              go_wp2_with fail
              refine (fnode_at (node_yes (by omega) (by omega)) _).mono ?_
              rintro e w1 ⟨rfl, rfl⟩
              go_wp2
              go_ret
              exact ⟨ret_i64 (by unfold Nm.chk; rw [if_neg (by omega), if_pos (by omega)]), bnew w _⟩
            · skip
              go_enter Try.func47, Try.ntmps47
              go_wp2_with fail
              refine (fnode_at (node_yes (by omega) (by omega)) _).mono ?_
              rintro e w1 ⟨rfl, rfl⟩
              go_wp2
              go_ret
              exact ⟨ret_i64 (by unfold Nm.chk; rw [if_neg (by omega), if_neg (by omega)]), bnew w _⟩
set_option maxHeartbeats 1600000 in
theorem nchkR_any (a l n : Int) (w : World) : Calls Try.prog 43 #[.agg #[.int .i64 a, .int .i64 l, .int .i64 n]] w fun e w' => e = .returned (.int .i64 (Nm.chk a l n)) ∧ Below w.heap.size w w' := by
  by_cases h1 : a < 0
  · skip
    go_enter Try.func43, Try.ntmps43
    go_wp2
    go_ret
    exact ⟨ret_i64 (by unfold Nm.chk; rw [if_pos (by omega)]), bnew w _⟩
  · by_cases h2 : 8 ≤ a
    · skip
      go_enter Try.func43, Try.ntmps43
      go_wp2
      go_ret
      exact ⟨ret_i64 (by unfold Nm.chk; rw [if_pos (by omega)]), bnew w _⟩
    · by_cases h3 : l < 1
      · skip
        go_enter Try.func43, Try.ntmps43
        go_wp2
        go_ret
        exact ⟨ret_i64 (by unfold Nm.chk; rw [if_neg (by omega), if_pos (by omega)]), bnew w _⟩
      · by_cases h4 : 1048576 < l
        · skip
          go_enter Try.func43, Try.ntmps43
          go_wp2
          go_ret
          exact ⟨ret_i64 (by unfold Nm.chk; rw [if_neg (by omega), if_pos (by omega)]), bnew w _⟩
        · by_cases h5 : n < 1
          · skip
            go_enter Try.func43, Try.ntmps43
            go_wp2
            go_ret
            exact ⟨ret_i64 (by unfold Nm.chk; rw [if_neg (by omega), if_pos (by omega)]), bnew w _⟩
          · by_cases h6 : 1048576 < n
            · skip
              go_enter Try.func43, Try.ntmps43
              go_wp2
              go_ret
              exact ⟨ret_i64 (by unfold Nm.chk; rw [if_neg (by omega), if_pos (by omega)]), bnew w _⟩
            · skip
              go_enter Try.func43, Try.ntmps43
              go_wp2
              go_ret
              exact ⟨ret_i64 (by unfold Nm.chk; rw [if_neg (by omega), if_neg (by omega)]), bnew w _⟩
theorem nchk_at {a l n q : Int} (h : Nm.chk a l n = q) (w : World) : Calls Try.prog 47 #[.agg #[.int .i64 a, .int .i64 l, .int .i64 n]] w fun e w' => e = .returned (.int .i64 q) ∧ Below w.heap.size w w' := by
  subst h; exact nchk_any a l n w
theorem nchkR_at {a l n q : Int} (h : Nm.chk a l n = q) (w : World) : Calls Try.prog 43 #[.agg #[.int .i64 a, .int .i64 l, .int .i64 n]] w fun e w' => e = .returned (.int .i64 q) ∧ Below w.heap.size w w' := by
  subst h; exact nchkR_any a l n w
theorem name_run (a l n b m k : Int) (w : World) : (binOp .eql 23 (.agg #[.int .i64 a, .int .i64 l, .int .i64 n]) (.agg #[.int .i64 b, .int .i64 m, .int .i64 k])).run Try.prog w = .ok (.bool (a == b && (l == m && n == k))) w := by
  rw [run_eql_struct, show (10000 : Nat) = 9999 + 1 from rfl]
  go_simp
  by_cases h1 : a = b <;> by_cases h2 : l = m <;> by_cases h3 : n = k <;> simp [h1, h2, h3]
end Go.Proofs.Ytbnppmkdhnpdfaa
namespace Go.Proofs.Ytbnppmkdhnpdfaa
open Go.RowKit
/-- A range: its bounds, and whether it is open. -/
structure Rg where
  lo : ByteArray
  hi : ByteArray
  op : Bool
namespace Rg
/-- The number that Check gives. -/
def chk (r : Rg) : Int :=
  if 16 < (r.lo.size : Int) ∨ 16 < (r.hi.size : Int) then 20
  else if (r.op && !r.hi.toList.isEmpty) || (!r.op && (!Op.bytesLess r.lo.toList r.hi.toList && !(r.lo.toList == r.hi.toList))) then 21 else 0
/-- May it be? -/
def may (r : Rg) : Bool := chk r == 0
/-- Is it empty, or may it not be? -/
def emp (r : Rg) : Bool := !r.may || (!r.op && (r.lo.toList == r.hi.toList))
/-- Does it hold a key? -/
def has (r : Rg) (k : ByteArray) : Bool := r.may && decide ((k.size : Int) ≤ 16) && !Op.bytesLess k.toList r.lo.toList && (r.op || Op.bytesLess k.toList r.hi.toList)
end Rg
end Go.Proofs.Ytbnppmkdhnpdfaa
namespace Go.Proofs.Ytbnppmkdhnpdfaa
open Go.RowKit
theorem chk_shut {lo hi : ByteArray} (h1 : (lo.size : Int) ≤ 16) (h2 : (hi.size : Int) ≤ 16) :
    Rg.chk ⟨lo, hi, false⟩ = bif (!Op.bytesLess lo.toList hi.toList && !(lo.toList == hi.toList)) then 21 else 0 := by
  unfold Rg.chk; rw [if_neg (not_or.2 ⟨Int.not_lt.2 h1, Int.not_lt.2 h2⟩)]
  cases Op.bytesLess lo.toList hi.toList <;> cases (lo.toList == hi.toList) <;> rfl
theorem chk_open {lo hi : ByteArray} (h1 : (lo.size : Int) ≤ 16) (h2 : (hi.size : Int) ≤ 16) :
    Rg.chk ⟨lo, hi, true⟩ = bif hi.toList.isEmpty then 0 else 21 := by
  unfold Rg.chk; rw [if_neg (not_or.2 ⟨Int.not_lt.2 h1, Int.not_lt.2 h2⟩)]
  cases hi.toList.isEmpty <;> rfl
set_option maxHeartbeats 1600000 in
theorem check_any (lo hi : ByteArray) (op : Bool) (w : World) :
    Calls Try.prog 87 #[.agg #[.string lo, .string hi, .bool op]] w fun e w' => e = .returned (.int .i64 (Rg.chk ⟨lo, hi, op⟩)) ∧ Below w.heap.size w w' := by
  by_cases h1 : (16 : Int) < lo.size
  · go_enter Try.func87, Try.ntmps87
    go_wp2
    go_ret
    exact ⟨ret_i64 (by simp [Rg.chk, h1]), (Below.refl _ w).alloc (Nat.le_refl _) _⟩
  · by_cases h2 : (16 : Int) < hi.size
    · go_enter Try.func87, Try.ntmps87
      go_wp2
      go_ret
      exact ⟨ret_i64 (by simp [Rg.chk, h2]), (Below.refl _ w).alloc (Nat.le_refl _) _⟩
    · cases op
      · cases h4 : Op.bytesLess lo.toList hi.toList <;> cases h5 : (lo.toList == hi.toList)
        all_goals
          go_enter Try.func87, Try.ntmps87
          go_wp2
          go_ret
          exact ⟨ret_i64 (by rw [chk_shut h1 h2, h4, h5]; rfl), (Below.refl _ w).alloc (Nat.le_refl _) _⟩
      · cases h3 : hi.toList.isEmpty
        all_goals
          go_enter Try.func87, Try.ntmps87
          go_wp2
          go_ret
          exact ⟨ret_i64 (by rw [chk_open h1 h2, h3]; rfl), (Below.refl _ w).alloc (Nat.le_refl _) _⟩
set_option maxHeartbeats 1600000 in
theorem checkRef_any (lo hi : ByteArray) (op : Bool) (w : World) :
    Calls Try.prog 84 #[.agg #[.string lo, .string hi, .bool op]] w fun e w' => e = .returned (.int .i64 (Rg.chk ⟨lo, hi, op⟩)) ∧ Below w.heap.size w w' := by
  by_cases h1 : (16 : Int) < lo.size
  · go_enter Try.func84, Try.ntmps84
    go_wp2
    go_ret
    exact ⟨ret_i64 (by simp [Rg.chk, h1]), (Below.refl _ w).alloc (Nat.le_refl _) _⟩
  · by_cases h2 : (16 : Int) < hi.size
    · go_enter Try.func84, Try.ntmps84
      go_wp2
      go_ret
      exact ⟨ret_i64 (by simp [Rg.chk, h2]), (Below.refl _ w).alloc (Nat.le_refl _) _⟩
    · cases op
      · cases h4 : Op.bytesLess lo.toList hi.toList <;> cases h5 : (lo.toList == hi.toList)
        all_goals
          go_enter Try.func84, Try.ntmps84
          go_wp2
          go_ret
          exact ⟨ret_i64 (by rw [chk_shut h1 h2, h4, h5]; rfl), (Below.refl _ w).alloc (Nat.le_refl _) _⟩
      · cases h3 : hi.toList.isEmpty
        all_goals
          go_enter Try.func84, Try.ntmps84
          go_wp2
          go_ret
          exact ⟨ret_i64 (by rw [chk_open h1 h2, h3]; rfl), (Below.refl _ w).alloc (Nat.le_refl _) _⟩
set_option maxHeartbeats 1600000 in
theorem mayBe_any (lo hi : ByteArray) (op : Bool) (w : World) :
    Calls Try.prog 97 #[.agg #[.string lo, .string hi, .bool op]] w fun e w' => e = .returned (.bool (Rg.may ⟨lo, hi, op⟩)) ∧ Below w.heap.size w w' := by
  go_enter Try.func97, Try.ntmps97
  go_wp2_with (go_at_call 87; refine (check_any _ _ _ _).mono ?_; rintro e w1 ⟨rfl, b1⟩)
  go_ret
  exact ⟨ret_bool rfl, bthen (bnew w _) b1⟩
end Go.Proofs.Ytbnppmkdhnpdfaa
namespace Go.Proofs.Ytbnppmkdhnpdfaa
open Go.RowKit
/-- What lies in a box that was laid last stays there. -/
theorem box3 {w w1 : World} {a b c : Value} {t : TypeId} (h : Below (w.alloc (.cells #[a, b, c] t)).heap.size (w.alloc (.cells #[a, b, c] t)) w1) :
    w1.cell? ⟨w.heap.size, 0, none⟩ = some a ∧ w1.cell? ⟨w.heap.size, 1, none⟩ = some b ∧ w1.cell? ⟨w.heap.size, 2, none⟩ = some c := by
  have e : ∀ j, (w.alloc (.cells #[a, b, c] t)).cell? ⟨w.heap.size, j, none⟩ = #[a, b, c][j]? := fun j => World.cell?_alloc_mark w #[a, b, c] t (0, 0) j
  refine ⟨?_, ?_, ?_⟩
  · rw [h.cell (p := ⟨w.heap.size, 0, none⟩) (by simp), e]; rfl
  · rw [h.cell (p := ⟨w.heap.size, 1, none⟩) (by simp), e]; rfl
  · rw [h.cell (p := ⟨w.heap.size, 2, none⟩) (by simp), e]; rfl
theorem mayBe_at {lo hi : ByteArray} {op m : Bool} (h : Rg.may ⟨lo, hi, op⟩ = m) (w : World) :
    Calls Try.prog 97 #[.agg #[.string lo, .string hi, .bool op]] w fun e w' => e = .returned (.bool m) ∧ Below w.heap.size w w' := by
  subst h; exact mayBe_any lo hi op w
theorem check_at {lo hi : ByteArray} {op : Bool} {c : Int} (h : Rg.chk ⟨lo, hi, op⟩ = c) (w : World) :
    Calls Try.prog 87 #[.agg #[.string lo, .string hi, .bool op]] w fun e w' => e = .returned (.int .i64 c) ∧ Below w.heap.size w w' := by
  subst h; exact check_any lo hi op w
theorem checkRef_at {lo hi : ByteArray} {op : Bool} {c : Int} (h : Rg.chk ⟨lo, hi, op⟩ = c) (w : World) :
    Calls Try.prog 84 #[.agg #[.string lo, .string hi, .bool op]] w fun e w' => e = .returned (.int .i64 c) ∧ Below w.heap.size w w' := by
  subst h; exact checkRef_any lo hi op w
theorem may_chk {r : Rg} (h : r.may = true) : r.chk = 0 := by simpa [Rg.may] using h
theorem may_not {r : Rg} (h : r.may = false) : ∃ c, r.chk = c ∧ (c != 0) = true ∧ ¬ c = 0 := ⟨_, rfl, by simpa [Rg.may] using h, by simpa [Rg.may] using h⟩
set_option maxHeartbeats 1600000 in
theorem empty_any (lo hi : ByteArray) (op : Bool) (w : World) :
    Calls Try.prog 88 #[.agg #[.string lo, .string hi, .bool op]] w fun e w' => e = .returned (.bool (Rg.emp ⟨lo, hi, op⟩)) ∧ Below w.heap.size w w' := by
  cases hm : Rg.may ⟨lo, hi, op⟩
  · rw [show Rg.emp ⟨lo, hi, op⟩ = true from by simp [Rg.emp, hm]]
    have C := aside (fun w => mayBe_at hm w)
    clear hm
    go_enter Try.func88, Try.ntmps88
    go_wp2_with (go_at_call 97; refine (C.out _).mono ?_; rintro e w1 ⟨rfl, b1⟩; obtain ⟨q0, q1, q2⟩ := box3 b1)
    go_ret
    exact ⟨rfl, bthen (bnew w _) b1⟩
  · have C := aside (fun w => mayBe_at hm w)
    rw [show Rg.emp ⟨lo, hi, op⟩ = (!op && (lo.toList == hi.toList)) from by simp [Rg.emp, hm]]
    clear hm
    cases op
    · cases h5 : (lo.toList == hi.toList)
      all_goals
        go_enter Try.func88, Try.ntmps88
        go_wp2_with (go_at_call 97; refine (C.out _).mono ?_; rintro e w1 ⟨rfl, b1⟩; obtain ⟨q0, q1, q2⟩ := box3 b1)
        go_ret
        exact ⟨rfl, bthen (bnew w _) b1⟩
    · go_enter Try.func88, Try.ntmps88
      go_wp2_with (go_at_call 97; refine (C.out _).mono ?_; rintro e w1 ⟨rfl, b1⟩; obtain ⟨q0, q1, q2⟩ := box3 b1)
      go_ret
      exact ⟨rfl, bthen (bnew w _) b1⟩
set_option maxHeartbeats 1600000 in
theorem holds_any (lo hi : ByteArray) (op : Bool) (k : ByteArray) (w : World) :
    Calls Try.prog 98 #[.agg #[.string lo, .string hi, .bool op], .string k] w fun e w' => e = .returned (.bool (Rg.has ⟨lo, hi, op⟩ k)) ∧ Below w.heap.size w w' := by
  cases hm : Rg.may ⟨lo, hi, op⟩
  · rw [show Rg.has ⟨lo, hi, op⟩ k = false from by simp [Rg.has, hm]]
    have C := aside (fun w => mayBe_at hm w)
    clear hm
    go_enter Try.func98, Try.ntmps98
    go_wp2_with (go_at_call 97; refine (C.out _).mono ?_; rintro e w1 ⟨rfl, b1⟩; obtain ⟨q0, q1, q2⟩ := box3 b1)
    go_ret
    exact ⟨rfl, bthen (bnew w _) b1⟩
  · have C := aside (fun w => mayBe_at hm w)
    rw [show Rg.has ⟨lo, hi, op⟩ k = (decide ((k.size : Int) ≤ 16) && !Op.bytesLess k.toList lo.toList && (op || Op.bytesLess k.toList hi.toList)) from by simp [Rg.has, hm]]
    clear hm
    by_cases h1 : (k.size : Int) ≤ 16
    · rw [decide_eq_true h1]
      cases h2 : Op.bytesLess k.toList lo.toList
      · cases op
        · cases h5 : Op.bytesLess k.toList hi.toList
          all_goals
            go_enter Try.func98, Try.ntmps98
            go_wp2_with (go_at_call 97; refine (C.out _).mono ?_; rintro e w1 ⟨rfl, b1⟩; obtain ⟨q0, q1, q2⟩ := box3 b1)
            go_ret
            exact ⟨rfl, bthen (bnew w _) b1⟩
        · go_enter Try.func98, Try.ntmps98
          go_wp2_with (go_at_call 97; refine (C.out _).mono ?_; rintro e w1 ⟨rfl, b1⟩; obtain ⟨q0, q1, q2⟩ := box3 b1)
          go_ret
          exact ⟨rfl, bthen (bnew w _) b1⟩
      · go_enter Try.func98, Try.ntmps98
        go_wp2_with (go_at_call 97; refine (C.out _).mono ?_; rintro e w1 ⟨rfl, b1⟩; obtain ⟨q0, q1, q2⟩ := box3 b1)
        go_ret
        exact ⟨rfl, bthen (bnew w _) b1⟩
    · rw [decide_eq_false h1]
      go_enter Try.func98, Try.ntmps98
      go_wp2_with (go_at_call 97; refine (C.out _).mono ?_; rintro e w1 ⟨rfl, b1⟩; obtain ⟨q0, q1, q2⟩ := box3 b1)
      go_ret
      exact ⟨rfl, bthen (bnew w _) b1⟩
set_option maxHeartbeats 1600000 in
theorem holdsRef_any (lo hi : ByteArray) (op : Bool) (k : ByteArray) (w : World) :
    Calls Try.prog 96 #[.agg #[.string lo, .string hi, .bool op], .string k] w fun e w' => e = .returned (.bool (Rg.has ⟨lo, hi, op⟩ k)) ∧ Below w.heap.size w w' := by
  cases hm : Rg.may ⟨lo, hi, op⟩
  · rw [show Rg.has ⟨lo, hi, op⟩ k = false from by simp [Rg.has, hm]]
    obtain ⟨c, hc, hne, hnz⟩ := may_not hm
    have C := aside (fun w => checkRef_at hc w)
    clear hm hc
    go_enter Try.func96, Try.ntmps96
    go_wp2_with (go_at_call 84; refine (C.out _).mono ?_; rintro e w1 ⟨rfl, b1⟩; obtain ⟨q0, q1, q2⟩ := box3 b1)
    go_ret
    exact ⟨rfl, bthen (bnew w _) b1⟩
  · have C := aside (fun w => checkRef_at (may_chk hm) w)
    rw [show Rg.has ⟨lo, hi, op⟩ k = (decide ((k.size : Int) ≤ 16) && !Op.bytesLess k.toList lo.toList && (op || Op.bytesLess k.toList hi.toList)) from by simp [Rg.has, hm]]
    clear hm
    by_cases h1 : (k.size : Int) ≤ 16
    · rw [decide_eq_true h1]
      cases h2 : Op.bytesLess k.toList lo.toList
      · cases op
        · cases h5 : Op.bytesLess k.toList hi.toList
          all_goals
            go_enter Try.func96, Try.ntmps96
            go_wp2_with (go_at_call 84; refine (C.out _).mono ?_; rintro e w1 ⟨rfl, b1⟩; obtain ⟨q0, q1, q2⟩ := box3 b1)
            go_ret
            exact ⟨rfl, bthen (bnew w _) b1⟩
        · go_enter Try.func96, Try.ntmps96
          go_wp2_with (go_at_call 84; refine (C.out _).mono ?_; rintro e w1 ⟨rfl, b1⟩; obtain ⟨q0, q1, q2⟩ := box3 b1)
          go_ret
          exact ⟨rfl, bthen (bnew w _) b1⟩
      · go_enter Try.func96, Try.ntmps96
        go_wp2_with (go_at_call 84; refine (C.out _).mono ?_; rintro e w1 ⟨rfl, b1⟩; obtain ⟨q0, q1, q2⟩ := box3 b1)
        go_ret
        exact ⟨rfl, bthen (bnew w _) b1⟩
    · rw [decide_eq_false h1]
      go_enter Try.func96, Try.ntmps96
      go_wp2_with (go_at_call 84; refine (C.out _).mono ?_; rintro e w1 ⟨rfl, b1⟩; obtain ⟨q0, q1, q2⟩ := box3 b1)
      go_ret
      exact ⟨rfl, bthen (bnew w _) b1⟩
end Go.Proofs.Ytbnppmkdhnpdfaa
namespace Go.Proofs.Ytbnppmkdhnpdfaa
open Go.RowKit
set_option linter.unusedVariables false
/-- A part: its kind, range, tally, and its entries with the slice that holds them. -/
structure Pm where
  kind : Int
  lo : ByteArray
  hi : ByteArray
  op : Bool
  cnt : Int
  s0 : Int
  s1 : Int
  ea : Option Addr
  el : Nat
  ec : Nat
  T : Nat → En
def Pm.rg (p : Pm) : Rg := ⟨p.lo, p.hi, p.op⟩
/-- Whether it has no fields but its own. -/
def Pm.alone (p : Pm) : Bool := if p.kind = 1 then p.el == 0 else if p.kind = 2 ∨ p.kind = 3 then p.cnt == 0 && (p.s0 == 0 && p.s1 == 0) else false
/-- What is wrong with a tally. -/
def tlChk (c a b : Int) : Int := if c < 0 ∨ 256 < c then 117 else if c = 0 ∧ ¬ (a = 0 ∧ b = 0) then 117 else 0
/-- What is wrong with the entry i of a part. -/
def itAt (r : Rg) (T : Nat → En) (i : Nat) : Int := if (T i).chk ≠ 0 then (T i).chk else if r.has (T i).k = false ∨ (0 < i ∧ kLt (T (i - 1)).k (T i).k = false) then 116 else 0
/-- What is wrong first with n entries of a part. -/
def itN (r : Rg) (T : Nat → En) : Nat → Int
  | 0 => 0
  | n + 1 => if itN r T n ≠ 0 then itN r T n else itAt r T n
/-- What is wrong with the entries of a part. -/
def Pm.its (p : Pm) : Int := if itN p.rg p.T p.el ≠ 0 then itN p.rg p.T p.el else if p.kind = 3 ∧ p.el = 0 then 116 else 0
/-- What is wrong with a part, behind a range. -/
def Pm.chk (p : Pm) (hi : ByteArray) (op : Bool) : Int :=
  if p.alone = false then 114 else if p.rg.chk ≠ 0 then p.rg.chk else if p.rg.emp = true ∨ op = true ∨ kLt p.lo hi = true then 115 else if p.kind = 1 then tlChk p.cnt p.s0 p.s1 else p.its
/-- The range ahead of the part i. -/
def ahHi (P : Nat → Pm) : Nat → ByteArray
  | 0 => ⟨#[]⟩
  | n + 1 => (P n).hi
def ahOp (P : Nat → Pm) : Nat → Bool
  | 0 => false
  | n + 1 => (P n).op
def ahLo (P : Nat → Pm) : Nat → ByteArray
  | 0 => ⟨#[]⟩
  | n + 1 => (P n).lo
def ptAt (P : Nat → Pm) (i : Nat) : Int := (P i).chk (ahHi P i) (ahOp P i)
/-- What is wrong first with n parts. -/
def ptN (P : Nat → Pm) : Nat → Int
  | 0 => 0
  | n + 1 => if ptN P n ≠ 0 then ptN P n else ptAt P n
/-- How many entries n parts have. -/
def totE (P : Nat → Pm) : Nat → Nat
  | 0 => 0
  | n + 1 => totE P n + (P n).el
/-- What is wrong with parts. -/
def psChk (P : Nat → Pm) (n : Nat) : Int := if 768 < n ∨ 256 < totE P n then 113 else ptN P n
/-- Whether parts are those of a first frame. -/
def opening (P : Nat → Pm) (n : Nat) : Bool := decide (n = 1) && ((P 0).kind == 1 && ((P 0).lo.toList == (⟨#[]⟩ : ByteArray).toList && ((P 0).hi.toList == (⟨#[]⟩ : ByteArray).toList && (P 0).op == true)))
theorem totE_mono (P : Nat → Pm) : ∀ {i n : Nat}, i ≤ n → totE P i ≤ totE P n := by
  intro i n h
  induction n with
  | zero => obtain rfl : i = 0 := by omega
            exact Nat.le_refl _
  | succ n ih =>
    rcases Nat.lt_or_ge n i with g | g
    · obtain rfl : i = n + 1 := by omega
      exact Nat.le_refl _
    · have := ih g
      simp only [totE]; omega
theorem el_totE (P : Nat → Pm) {i n : Nat} (h : i < n) : totE P i + (P i).el ≤ totE P n := totE_mono P (i := i + 1) h
section
variable {r : Rg} {T : Nat → En}
theorem itN_step {n : Nat} (h : itN r T n = 0) : itN r T (n + 1) = itAt r T n := by unfold itN; rw [if_neg (by simp [h])]
theorem itN_stay {n : Nat} (h : itN r T n ≠ 0) : ∀ m, n ≤ m → itN r T m = itN r T n := by
  intro m hm
  induction m with
  | zero => obtain rfl : n = 0 := by omega
            rfl
  | succ m ih =>
    rcases Nat.lt_or_ge m n with g | g
    · obtain rfl : n = m + 1 := by omega
      rfl
    · have := ih g
      simp only [itN]; rw [if_pos (by rw [this]; exact h), this]
theorem itN_bad {i n : Nat} (h0 : itN r T i = 0) (hi : i < n) (h : itAt r T i ≠ 0) : itN r T n = itAt r T i := by
  have h1 := itN_step h0
  rw [← h1] at h
  rw [itN_stay h n (by omega), h1]
theorem itAt_ent {i : Nat} (h : (T i).chk ≠ 0) : itAt r T i = (T i).chk := by unfold itAt; rw [if_pos h]
theorem itAt_out {i : Nat} (h : (T i).chk = 0) (h2 : r.has (T i).k = false) : itAt r T i = 116 := by unfold itAt; rw [if_neg (by simp [h]), if_pos (.inl h2)]
theorem itAt_ord {i : Nat} (h : (T i).chk = 0) (h2 : 0 < i ∧ kLt (T (i - 1)).k (T i).k = false) : itAt r T i = 116 := by unfold itAt; rw [if_neg (by simp [h]), if_pos (.inr h2)]
theorem itAt_ok {i : Nat} (h : (T i).chk = 0) (h1 : r.has (T i).k = true) (h2 : ¬ (0 < i ∧ kLt (T (i - 1)).k (T i).k = false)) : itAt r T i = 0 := by
  unfold itAt
  rw [if_neg (by simp [h]), if_neg]
  rintro (g | g)
  · rw [h1] at g; cases g
  · exact h2 g
end
section
variable {P : Nat → Pm}
theorem ptN_step {n : Nat} (h : ptN P n = 0) : ptN P (n + 1) = ptAt P n := by unfold ptN; rw [if_neg (by simp [h])]
theorem ptN_stay {n : Nat} (h : ptN P n ≠ 0) : ∀ m, n ≤ m → ptN P m = ptN P n := by
  intro m hm
  induction m with
  | zero => obtain rfl : n = 0 := by omega
            rfl
  | succ m ih =>
    rcases Nat.lt_or_ge m n with g | g
    · obtain rfl : n = m + 1 := by omega
      rfl
    · have := ih g
      simp only [ptN]; rw [if_pos (by rw [this]; exact h), this]
theorem ptN_bad {i n : Nat} (h0 : ptN P i = 0) (hi : i < n) (h : ptAt P i ≠ 0) : ptN P n = ptAt P i := by
  have h1 := ptN_step h0
  rw [← h1] at h
  rw [ptN_stay h n (by omega), h1]
end
/-- x <= y of two texts, by the order. -/
theorem leqF (x y : ByteArray) : (Op.bytesLess x.toList y.toList || x.toList == y.toList) = !kLt y x := by
  unfold kLt
  cases h1 : Op.bytesLess x.toList y.toList <;> cases h2 : Op.bytesLess y.toList x.toList
  · have e := L_total _ _ h1 h2
    simp [e]
  · have e : (x.toList == y.toList) = false := by
      rw [beq_eq_false_iff_ne]; intro e; rw [e, L_irrefl] at h2; cases h2
    simp [e]
  · simp
  · have := L_trans _ _ _ h1 h2
    rw [L_irrefl] at this
    cases this
end Go.Proofs.Ytbnppmkdhnpdfaa
namespace Go.Proofs.Ytbnppmkdhnpdfaa
open Go.RowKit
set_option linter.unusedVariables false
/-- The eight cells of a part. -/
def PmAt (w : World) (b off : Nat) (p : Pm) : Prop := w.cell? ⟨b, off, none⟩ = some (.int .i64 p.kind) ∧ w.cell? ⟨b, off + 1, none⟩ = some (.string p.lo) ∧ w.cell? ⟨b, off + 2, none⟩ = some (.string p.hi) ∧ w.cell? ⟨b, off + 3, none⟩ = some (.bool p.op) ∧ w.cell? ⟨b, off + 4, none⟩ = some (.int .i64 p.cnt) ∧ w.cell? ⟨b, off + 5, none⟩ = some (.int .u64 p.s0) ∧ w.cell? ⟨b, off + 6, none⟩ = some (.int .u64 p.s1) ∧ w.cell? ⟨b, off + 7, none⟩ = some (.slice p.ea p.el p.ec)
theorem PmAt.keep {w w' : World} {b off : Nat} {p : Pm} (h : PmAt w b off p) (k : Below w.heap.size w w') : PmAt w' b off p := by
  obtain ⟨c0, c1, c2, c3, c4, c5, c6, c7⟩ := h
  exact ⟨cell_in c0 k, cell_in c1 k, cell_in c2 k, cell_in c3 k, cell_in c4 k, cell_in c5 k, cell_in c6 k, cell_in c7 k⟩
/-- Its entries are there. -/
def Pm.In (w : World) (p : Pm) : Prop := EntsIn w p.ea p.el p.ec p.T
theorem Pm.In.keep {w w' : World} {p : Pm} (h : p.In w) (k : Below w.heap.size w w') : p.In w' := EntsIn.keep h k
/-- A list of parts in memory. -/
def PartsIn (w : World) (a : Option Addr) (len cap : Nat) (P : Nat → Pm) : Prop :=
  len ≤ cap ∧ cap ≤ maxLen ∧ (len = 0 ∨ ∃ b off, a = some ⟨b, off, none⟩ ∧ b < w.heap.size ∧ ∀ i, i < len → PmAt w b (off + i * 8) (P i) ∧ (P i).In w)
theorem PartsIn.keep {w w' : World} {a : Option Addr} {len cap : Nat} {P : Nat → Pm} (h : PartsIn w a len cap P) (k : Below w.heap.size w w') : PartsIn w' a len cap P := by
  obtain ⟨h1, h2, h3⟩ := h
  refine ⟨h1, h2, ?_⟩
  rcases h3 with h3 | ⟨bb, off, rfl, hb, hc⟩
  · exact .inl h3
  · exact .inr ⟨bb, off, rfl, by have := k.size; omega, fun i hi => ⟨(hc i hi).1.keep k, (hc i hi).2.keep k⟩⟩
end Go.Proofs.Ytbnppmkdhnpdfaa
namespace Go.Proofs.Ytbnppmkdhnpdfaa
open Go.RowKit
theorem sum_in (a b c d : Int) (w : World) : (Op.equalIn 10000 41 (.agg #[.int .u64 a, .int .u64 b]) (.agg #[.int .u64 c, .int .u64 d])).run Try.prog w = .ok (a == c && b == d) w := by
  have u3 := Try.underlying39
  have a3 := Try.isAgg39
  have z3 := Try.sizeOf39
  rw [show (10000 : Nat) = 9999 + 1 from rfl, Op.equalIn]
  simp only [Sem.run_bind, run_underlying Try.underlying41, Result.andThen_ok]
  simp only [Std.Legacy.Range.forIn_eq_forIn_range', Std.Legacy.Range.size, Nat.sub_zero, Nat.add_sub_cancel, Nat.div_one, List.range'_succ, List.range'_zero, List.forIn_cons, List.forIn_nil]
  go_simp
  by_cases h1 : a = c <;> by_cases h2 : b = d <;> simp [h1, h2]
theorem sum_ne_run (a b c d : Int) (w : World) : (binOp .neq 41 (.agg #[.int .u64 a, .int .u64 b]) (.agg #[.int .u64 c, .int .u64 d])).run Try.prog w = .ok (.bool (!(a == c && b == d))) w := by
  rw [run_neq_struct, sum_in]; rfl
end Go.Proofs.Ytbnppmkdhnpdfaa
namespace Go.Proofs.Ytbnppmkdhnpdfaa
open Go.RowKit
set_option linter.unusedVariables false
/-- The three cells of a tally's block. -/
theorem tri {w : World} {i : Nat} {a b c : Value} {T : TypeId} (h : w.heap[i]? = some (.cells #[a, b, c] T (0, 0))) :
    w.cell? ⟨i, 0, none⟩ = some a ∧ w.cell? ⟨i, 1, none⟩ = some b ∧ w.cell? ⟨i, 2, none⟩ = some c ∧ w.frozen? ⟨i, 0, none⟩ = false ∧ w.frozen? ⟨i, 1, none⟩ = false ∧ w.frozen? ⟨i, 2, none⟩ = false :=
  ⟨by simp [World.cell?, h], by simp [World.cell?, h], by simp [World.cell?, h], frozen_of_row w i 0 _ _ h, frozen_of_row w i 1 _ _ h, frozen_of_row w i 2 _ _ h⟩
theorem sum_in9 (a b c d : Int) (w : World) : (Op.equalIn 9999 41 (.agg #[.int .u64 a, .int .u64 b]) (.agg #[.int .u64 c, .int .u64 d])).run Try.prog w = .ok (a == c && b == d) w := by
  have u3 := Try.underlying39
  have a3 := Try.isAgg39
  have z3 := Try.sizeOf39
  rw [show (9999 : Nat) = 9998 + 1 from rfl, Op.equalIn]
  simp only [Sem.run_bind, run_underlying Try.underlying41, Result.andThen_ok]
  simp only [Std.Legacy.Range.forIn_eq_forIn_range', Std.Legacy.Range.size, Nat.sub_zero, Nat.add_sub_cancel, Nat.div_one, List.range'_succ, List.range'_zero, List.forIn_cons, List.forIn_nil]
  go_simp
  by_cases h1 : a = c <;> by_cases h2 : b = d <;> simp [h1, h2]
theorem tal_in (n a b m c d : Int) (w : World) : (Op.equalIn 10000 43 (.agg #[.int .i64 n, .int .u64 a, .int .u64 b]) (.agg #[.int .i64 m, .int .u64 c, .int .u64 d])).run Try.prog w = .ok (n == m && (a == c && b == d)) w := by
  have e := sum_in9 a b c d w
  rw [show (10000 : Nat) = 9999 + 1 from rfl]
  go_simp
  by_cases h1 : n = m <;> by_cases h2 : a = c <;> by_cases h3 : b = d <;> simp [h1, h2, h3]
theorem tal_run (n a b m c d : Int) (w : World) : (binOp .eql 43 (.agg #[.int .i64 n, .int .u64 a, .int .u64 b]) (.agg #[.int .i64 m, .int .u64 c, .int .u64 d])).run Try.prog w = .ok (.bool (n == m && (a == c && b == d))) w := by
  rw [run_eql_struct, tal_in]; rfl
theorem tal_ne_run (n a b m c d : Int) (w : World) : (binOp .neq 43 (.agg #[.int .i64 n, .int .u64 a, .int .u64 b]) (.agg #[.int .i64 m, .int .u64 c, .int .u64 d])).run Try.prog w = .ok (.bool (!(n == m && (a == c && b == d)))) w := by
  rw [run_neq_struct, tal_in]; rfl
theorem tal_ne_same (n a b : Int) (w : World) : (binOp .neq 43 (.agg #[.int .i64 n, .int .u64 a, .int .u64 b]) (.agg #[.int .i64 n, .int .u64 a, .int .u64 b])).run Try.prog w = .ok (.bool false) w := by
  rw [tal_ne_run]; simp
end Go.Proofs.Ytbnppmkdhnpdfaa
namespace Go.Proofs.Ytbnppmkdhnpdfaa
open Go.RowKit
set_option linter.unusedVariables false
set_option maxHeartbeats 1600000 in
theorem alone_any (p : Pm) (w : World) : Calls Try.prog 86 #[.agg #[.int .i64 p.kind, .string p.lo, .string p.hi, .bool p.op, .int .i64 p.cnt, .int .u64 p.s0, .int .u64 p.s1, .slice p.ea p.el p.ec]] w fun e w' => e = .returned (.bool p.alone) ∧ Below w.heap.size w w' := by
  obtain ⟨kind, lo, hi, op, cnt, s0, s1, ea, el, ec, T⟩ := p
  dsimp only
  by_cases h1 : kind = 1
  · subst h1
    by_cases h0 : el = 0
    · subst h0
      go_enter Try.func86, Try.ntmps86
      go_wp2
      go_ret
      exact ⟨ret_bool (by simp [Pm.alone]), bnew w _⟩
    · have h0' : ((el : Int) == 0) = false := by simp; omega
      have H0 := aside h0
      go_enter Try.func86, Try.ntmps86
      go_wp2
      go_ret
      exact ⟨ret_bool (by simp [Pm.alone, H0.out]), bnew w _⟩
  · by_cases h2 : kind = 2 ∨ kind = 3
    · obtain ⟨q, hq⟩ : ∃ q, (cnt == 0 && (s0 == 0 && s1 == 0)) = q := ⟨_, rfl⟩
      have TQ := fun W => tal_run cnt s0 s1 0 0 0 W
      rw [hq] at TQ
      have HQ := aside hq
      clear hq h1
      rcases h2 with rfl | rfl
      · skip
        go_enter Try.func86, Try.ntmps86
        go_wp2
        go_ret
        exact ⟨ret_bool (by simp only [Pm.alone]; rw [if_neg (by decide), if_pos (by decide)]; exact HQ.out.symm), bnew w _⟩
      · skip
        go_enter Try.func86, Try.ntmps86
        go_wp2
        go_ret
        exact ⟨ret_bool (by simp only [Pm.alone]; rw [if_neg (by decide), if_pos (by decide)]; exact HQ.out.symm), bnew w _⟩
    · have b1 : (kind == 1) = false := by simpa using h1
      have b2 : (kind == 2) = false := by simp; omega
      have b3 : (kind == 3) = false := by simp; omega
      have H1 := aside h1
      have H2 := aside h2
      go_enter Try.func86, Try.ntmps86
      go_wp2
      go_ret
      exact ⟨ret_bool (by simp only [Pm.alone]; rw [if_neg H1.out, if_neg H2.out]), bnew w _⟩
set_option maxHeartbeats 1600000 in
theorem tlchk_any (c a b : Int) (w : World) : Calls Try.prog 89 #[.agg #[.int .i64 c, .int .u64 a, .int .u64 b]] w fun e w' => e = .returned (.int .i64 (tlChk c a b)) ∧ Below w.heap.size w w' := by
  by_cases h1 : c < 0
  · skip
    go_enter Try.func89, Try.ntmps89
    go_wp2
    go_ret
    exact ⟨ret_i64 (by unfold tlChk; rw [if_pos (by omega)]), bnew w _⟩
  · by_cases h2 : 256 < c
    · skip
      go_enter Try.func89, Try.ntmps89
      go_wp2
      go_ret
      exact ⟨ret_i64 (by unfold tlChk; rw [if_pos (by omega)]), bnew w _⟩
    · by_cases h3 : c = 0
      · subst h3
        by_cases h4 : a = 0 ∧ b = 0
        · have TQ := fun W => tal_ne_run 0 a b 0 0 0 W
          obtain ⟨rfl, rfl⟩ := h4
          go_enter Try.func89, Try.ntmps89
          go_wp2
          go_ret
          exact ⟨ret_i64 (by unfold tlChk; rw [if_neg (by omega), if_neg (by omega)]), bnew w _⟩
        · have TQ := fun W => tal_ne_run 0 a b 0 0 0 W
          have hq : (a == 0 && b == 0) = false := by
            cases h : (a == 0 && b == 0)
            · rfl
            · exact absurd (by simpa using h) h4
          rw [hq] at TQ
          have H4 := aside h4
          clear hq h4
          go_enter Try.func89, Try.ntmps89
          go_wp2
          go_ret
          exact ⟨ret_i64 (by unfold tlChk; rw [if_neg (by omega), if_pos ⟨rfl, H4.out⟩]), bnew w _⟩
      · have b3 : (c == 0) = false := by simpa using h3
        go_enter Try.func89, Try.ntmps89
        go_wp2
        go_ret
        exact ⟨ret_i64 (by unfold tlChk; rw [if_neg (by omega), if_neg (by omega)]), bnew w _⟩
/-- Whether the ends of a frame go together. -/
def endsB (fr tzz o : Int) : Bool := nodeB fr && nodeB tzz && (!(fr == tzz)) && (o == fr || o == tzz)
/-- Whether a turn is the sender's. -/
def turnB (tn fr o : Int) : Bool := decide (¬ tn < 0) && decide (¬ 63 < tn) && ((tn % 2 == 0) == (fr == o))
set_option maxHeartbeats 3200000 in
theorem ends_any (fr tzz o l n tn : Int) (a : Option Addr) (len cap : Nat) (w : World) : Calls Try.prog 46 #[.agg #[.int .i64 fr, .int .i64 tzz, .int .i64 o, .int .i64 l, .int .i64 n, .int .i64 tn, .slice a len cap]] w fun e w' => e = .returned (.bool (endsB fr tzz o)) ∧ Below w.heap.size w w' := by
  cases h1 : nodeB fr
  · have H1 := aside h1
    clear h1
    go_enter Try.func46, Try.ntmps46
    go_wp2_with fail
    refine (fnode_at H1.out _).mono ?_
    rintro e w1 ⟨rfl, rfl⟩
    go_wp2
    go_ret
    exact ⟨ret_bool (by simp [endsB, H1.out]), bnew w _⟩
  · have H1 := aside h1
    clear h1
    cases h2 : nodeB tzz
    · have H2 := aside h2
      clear h2
      go_enter Try.func46, Try.ntmps46
      go_wp2_with fail
      refine (fnode_at H1.out _).mono ?_
      rintro e w1 ⟨rfl, rfl⟩
      go_wp2_with fail
      refine (fnode_at H2.out _).mono ?_
      rintro e w1 ⟨rfl, rfl⟩
      go_wp2
      go_ret
      exact ⟨ret_bool (by simp [endsB, H2.out]), bnew w _⟩
    · have H2 := aside h2
      clear h2
      by_cases h3 : fr = tzz
      · subst h3
        go_enter Try.func46, Try.ntmps46
        go_wp2_with fail
        refine (fnode_at H1.out _).mono ?_
        rintro e w1 ⟨rfl, rfl⟩
        go_wp2_with fail
        refine (fnode_at H2.out _).mono ?_
        rintro e w1 ⟨rfl, rfl⟩
        go_wp2
        go_ret
        exact ⟨ret_bool (by simp [endsB]), bnew w _⟩
      · have b3 : (fr == tzz) = false := by simpa using h3
        have H3 := aside h3
        by_cases h4 : o = fr
        · subst h4
          go_enter Try.func46, Try.ntmps46
          go_wp2_with fail
          refine (fnode_at H1.out _).mono ?_
          rintro e w1 ⟨rfl, rfl⟩
          go_wp2_with fail
          refine (fnode_at H2.out _).mono ?_
          rintro e w1 ⟨rfl, rfl⟩
          go_wp2
          go_ret
          exact ⟨ret_bool (by unfold endsB; rw [H1.out, H2.out, beq_eq_false_iff_ne.2 H3.out]; simpa using H3.out), bnew w _⟩
        · have b4 : (o == fr) = false := by simpa using h4
          have H4 := aside h4
          by_cases h5 : o = tzz
          · subst h5
            go_enter Try.func46, Try.ntmps46
            go_wp2_with fail
            refine (fnode_at H1.out _).mono ?_
            rintro e w1 ⟨rfl, rfl⟩
            go_wp2_with fail
            refine (fnode_at H2.out _).mono ?_
            rintro e w1 ⟨rfl, rfl⟩
            go_wp2
            go_ret
            exact ⟨ret_bool (by unfold endsB; rw [H1.out, H2.out, beq_eq_false_iff_ne.2 H3.out]; simpa using H3.out), bnew w _⟩
          · have b5 : (o == tzz) = false := by simpa using h5
            have H5 := aside h5
            go_enter Try.func46, Try.ntmps46
            go_wp2_with fail
            refine (fnode_at H1.out _).mono ?_
            rintro e w1 ⟨rfl, rfl⟩
            go_wp2_with fail
            refine (fnode_at H2.out _).mono ?_
            rintro e w1 ⟨rfl, rfl⟩
            go_wp2
            go_ret
            exact ⟨ret_bool (by simp [endsB, H4.out, H5.out]), bnew w _⟩
set_option maxHeartbeats 3200000 in
theorem turn_any (fr tzz o l n tn : Int) (a : Option Addr) (len cap : Nat) (w : World) : Calls Try.prog 48 #[.agg #[.int .i64 fr, .int .i64 tzz, .int .i64 o, .int .i64 l, .int .i64 n, .int .i64 tn, .slice a len cap]] w fun e w' => e = .returned (.bool (turnB tn fr o)) ∧ Below w.heap.size w w' := by
  by_cases h1 : tn < 0
  · skip
    go_enter Try.func48, Try.ntmps48
    go_wp2
    go_ret
    exact ⟨ret_bool (by simp [turnB]; omega), bnew w _⟩
  · by_cases h2 : 63 < tn
    · skip
      go_enter Try.func48, Try.ntmps48
      go_wp2
      go_ret
      exact ⟨ret_bool (by simp [turnB]; omega), bnew w _⟩
    · obtain ⟨q, hq⟩ : ∃ q, (tn % 2 == 0) = q := ⟨_, rfl⟩
      obtain ⟨z, hz⟩ : ∃ z, (fr == o) = z := ⟨_, rfl⟩
      have HQ := aside hq
      have HZ := aside hz
      cases q <;> cases z
      all_goals
        go_enter Try.func48, Try.ntmps48
        go_wp2
        go_ret
        exact ⟨ret_bool (by unfold turnB; rw [HQ.out, HZ.out, decide_eq_true (show ¬ tn < 0 by omega), decide_eq_true (show ¬ 63 < tn by omega)]; rfl), bnew w _⟩
theorem rg_run (lo hi : ByteArray) (op : Bool) (lo' hi' : ByteArray) (op' : Bool) (w : World) : (binOp .eql 38 (.agg #[.string lo, .string hi, .bool op]) (.agg #[.string lo', .string hi', .bool op'])).run Try.prog w = .ok (.bool (lo.toList == lo'.toList && (hi.toList == hi'.toList && op == op'))) w := by
  rw [run_eql_struct, show (10000 : Nat) = 9999 + 1 from rfl]
  go_simp
  cases h1 : (lo.toList == lo'.toList) <;> cases h2 : (hi.toList == hi'.toList) <;> cases op <;> cases op' <;> simp_all
set_option maxHeartbeats 400000 in
theorem whole_anyF (w : World) : Calls Try.prog 70 #[] w fun e w' => e = .returned (.agg #[.string ⟨#[]⟩, .string ⟨#[]⟩, .bool true]) ∧ Below w.heap.size w w' := by
  go_enter Try.func70, Try.ntmps70
  go_wp2
  obtain ⟨s0, s1, s2, -⟩ := tri (heap_alloc_new w (.cells #[.string ⟨#[]⟩, .string ⟨#[]⟩, .bool true] 38))
  exact bodyPost_ret (v := .agg #[.string ⟨#[]⟩, .string ⟨#[]⟩, .bool true]) (by simp [results, Try.results70, go_sem, s0, s1, s2]) rfl ⟨rfl, bnew w _⟩
end Go.Proofs.Ytbnppmkdhnpdfaa
