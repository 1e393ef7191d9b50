/-
  Plain mathematics of ranges of keys: which may be, which are empty, which keys they hold.
-/
import Derived.Test.YtpbkjffiohfkcaaGreatDoorProg
import Derived.WalkKit
import Derived.Laws.Cover1
import Derived.Test.YtpbkjffiohfkcaaGreatDoorBs1
import Derived.WalkSpells
import Derived.WalkLawsBesides
import Derived.KernelRfl
import Derived.Below
import Derived.Laws.IdiomStrings
import Derived.Test.YtpbkjffiohfkcaaGreatDoorBs13
import Derived.Test.YtpbkjffiohfkcaaGreatDoorBs2
import Derived.Deep.RegionWith
namespace Go.Proofs.YtpbkjffiohfkcaaGreatDoor
open Go.RowKit
structure Rg where
 lo : ByteArray
 hi : ByteArray
 op : Bool
namespace Rg
def val (r : Rg) : Value := .agg #[.string r.lo, .string r.hi, .bool r.op]
def chk (r : Rg) : Int :=
 if 16 < (r.lo.size : Int) ∨ 16 < (r.hi.size : Int) then 20
 else if (r.op && !r.hi.toList.isEmpty) || (!r.op && (!Op.bytesLess r.lo.toList r.hi.toList && !(r.lo.toList == r.hi.toList))) then 21 else 0
def may (r : Rg) : Bool := chk r == 0
def emp (r : Rg) : Bool := !r.may || (!r.op && (r.lo.toList == r.hi.toList))
def has (r : Rg) (k : ByteArray) : Bool := r.may && decide ((k.size : Int) ≤ 16) && !Op.bytesLess k.toList r.lo.toList && (r.op || Op.bytesLess k.toList r.hi.toList)
def mx (a b : ByteArray) : ByteArray := bif Op.bytesLess a.toList b.toList then b else a
def both (a b : Rg) : Rg := ⟨mx a.lo b.lo, bif a.op || (!b.op && Op.bytesLess b.hi.toList a.hi.toList) then b.hi else a.hi, bif a.op || (!b.op && Op.bytesLess b.hi.toList a.hi.toList) then b.op else a.op⟩
def meet (a b : Rg) : Option Rg := if a.emp || b.emp || (both a b).emp then none else some (both a b)
end Rg
end Go.Proofs.YtpbkjffiohfkcaaGreatDoor
namespace Go.Proofs.YtpbkjffiohfkcaaGreatDoor
open Go.RowKit
set_option linter.unusedVariables false
theorem chk_shut {lo hi : ByteArray} (h1 : (lo.size : Int) ≤ 16) (h2 : (hi.size : Int) ≤ 16) :
    Rg.chk ⟨lo, hi, false⟩ = bif (!Op.bytesLess lo.toList hi.toList && !(lo.toList == hi.toList)) then 21 else 0 := by
 unfold Rg.chk; rw [if_neg (not_or.2 ⟨Int.not_lt.2 h1, Int.not_lt.2 h2⟩)]
 cases Op.bytesLess lo.toList hi.toList <;> cases (lo.toList == hi.toList) <;> rfl
theorem chk_open {lo hi : ByteArray} (h1 : (lo.size : Int) ≤ 16) (h2 : (hi.size : Int) ≤ 16) :
    Rg.chk ⟨lo, hi, true⟩ = bif hi.toList.isEmpty then 0 else 21 := by
 unfold Rg.chk; rw [if_neg (not_or.2 ⟨Int.not_lt.2 h1, Int.not_lt.2 h2⟩)]
 cases hi.toList.isEmpty <;> rfl
set_option maxHeartbeats 1600000 in
theorem check_any (lo hi : ByteArray) (op : Bool) (w : World) :
    Calls Tryz.prog 47 #[.agg #[.string lo, .string hi, .bool op]] w fun e w' => e = .returned (.int .i64 (Rg.chk ⟨lo, hi, op⟩)) ∧ Below w.heap.size w w' := by
 by_cases h1 : (16 : Int) < lo.size
 ·go_enter Tryz.func47, Tryz.ntmps47
  go_wp2
  go_ret
  exact ⟨ret_i64 (by simp [Rg.chk, h1]), (Below.refl _ w).alloc (Nat.le_refl _) _⟩
 ·by_cases h2 : (16 : Int) < hi.size
  ·go_enter Tryz.func47, Tryz.ntmps47
   go_wp2
   go_ret
   exact ⟨ret_i64 (by simp [Rg.chk, h2]), (Below.refl _ w).alloc (Nat.le_refl _) _⟩
  ·cases op
   ·cases h4 : Op.bytesLess lo.toList hi.toList <;> cases h5 : (lo.toList == hi.toList)
    all_goals
     go_enter Tryz.func47, Tryz.ntmps47
     go_wp2
     go_ret
     exact ⟨ret_i64 (by rw [chk_shut h1 h2, h4, h5]; rfl), (Below.refl _ w).alloc (Nat.le_refl _) _⟩
   ·cases h3 : hi.toList.isEmpty
    all_goals
     go_enter Tryz.func47, Tryz.ntmps47
     go_wp2
     go_ret
     exact ⟨ret_i64 (by rw [chk_open h1 h2, h3]; rfl), (Below.refl _ w).alloc (Nat.le_refl _) _⟩
set_option maxHeartbeats 1600000 in
theorem checkRef_any (lo hi : ByteArray) (op : Bool) (w : World) :
    Calls Tryz.prog 65 #[.agg #[.string lo, .string hi, .bool op]] w fun e w' => e = .returned (.int .i64 (Rg.chk ⟨lo, hi, op⟩)) ∧ Below w.heap.size w w' := by
 by_cases h1 : (16 : Int) < lo.size
 ·go_enter Tryz.func65, Tryz.ntmps65
  go_wp2
  go_ret
  exact ⟨ret_i64 (by simp [Rg.chk, h1]), (Below.refl _ w).alloc (Nat.le_refl _) _⟩
 ·by_cases h2 : (16 : Int) < hi.size
  ·go_enter Tryz.func65, Tryz.ntmps65
   go_wp2
   go_ret
   exact ⟨ret_i64 (by simp [Rg.chk, h2]), (Below.refl _ w).alloc (Nat.le_refl _) _⟩
  ·cases op
   ·cases h4 : Op.bytesLess lo.toList hi.toList <;> cases h5 : (lo.toList == hi.toList)
    all_goals
     go_enter Tryz.func65, Tryz.ntmps65
     go_wp2
     go_ret
     exact ⟨ret_i64 (by rw [chk_shut h1 h2, h4, h5]; rfl), (Below.refl _ w).alloc (Nat.le_refl _) _⟩
   ·cases h3 : hi.toList.isEmpty
    all_goals
     go_enter Tryz.func65, Tryz.ntmps65
     go_wp2
     go_ret
     exact ⟨ret_i64 (by rw [chk_open h1 h2, h3]; rfl), (Below.refl _ w).alloc (Nat.le_refl _) _⟩
set_option maxHeartbeats 1600000 in
theorem mayBe_any (lo hi : ByteArray) (op : Bool) (w : World) :
    Calls Tryz.prog 102 #[.agg #[.string lo, .string hi, .bool op]] w fun e w' => e = .returned (.bool (Rg.may ⟨lo, hi, op⟩)) ∧ Below w.heap.size w w' := by
 go_enter Tryz.func102, Tryz.ntmps102
 go_wp2_with (go_at_call 47; refine (check_any _ _ _ _).mono ?_; rintro e w1 ⟨rfl, b1⟩)
 go_ret
 exact ⟨ret_bool rfl, bthen (bnew w _) b1⟩
theorem box3 {w w1 : World} {a b c : Value} {t : TypeId} (h : Below (w.alloc (.cells #[a, b, c] t)).heap.size (w.alloc (.cells #[a, b, c] t)) w1) :
    w1.cell? ⟨w.heap.size, 0, none⟩ = some a ∧ w1.cell? ⟨w.heap.size, 1, none⟩ = some b ∧ w1.cell? ⟨w.heap.size, 2, none⟩ = some c := by
 have e : ∀ j, (w.alloc (.cells #[a, b, c] t)).cell? ⟨w.heap.size, j, none⟩ = #[a, b, c][j]? := fun j => World.cell?_alloc_mark w #[a, b, c] t (0, 0) j
 refine ⟨?_, ?_, ?_⟩
 ·rw [h.cell (p := ⟨w.heap.size, 0, none⟩) (by simp), e]; rfl
 ·rw [h.cell (p := ⟨w.heap.size, 1, none⟩) (by simp), e]; rfl
 ·rw [h.cell (p := ⟨w.heap.size, 2, none⟩) (by simp), e]; rfl
theorem mayBe_at {lo hi : ByteArray} {op m : Bool} (h : Rg.may ⟨lo, hi, op⟩ = m) (w : World) :
    Calls Tryz.prog 102 #[.agg #[.string lo, .string hi, .bool op]] w fun e w' => e = .returned (.bool m) ∧ Below w.heap.size w w' := by
 subst h; exact mayBe_any lo hi op w
theorem check_at {lo hi : ByteArray} {op : Bool} {c : Int} (h : Rg.chk ⟨lo, hi, op⟩ = c) (w : World) :
    Calls Tryz.prog 47 #[.agg #[.string lo, .string hi, .bool op]] w fun e w' => e = .returned (.int .i64 c) ∧ Below w.heap.size w w' := by
 subst h; exact check_any lo hi op w
theorem checkRef_at {lo hi : ByteArray} {op : Bool} {c : Int} (h : Rg.chk ⟨lo, hi, op⟩ = c) (w : World) :
    Calls Tryz.prog 65 #[.agg #[.string lo, .string hi, .bool op]] w fun e w' => e = .returned (.int .i64 c) ∧ Below w.heap.size w w' := by
 subst h; exact checkRef_any lo hi op w
theorem may_chk {r : Rg} (h : r.may = true) : r.chk = 0 := by simpa [Rg.may] using h
theorem may_not {r : Rg} (h : r.may = false) : ∃ c, r.chk = c ∧ (c != 0) = true ∧ ¬ c = 0 := ⟨_, rfl, by simpa [Rg.may] using h, by simpa [Rg.may] using h⟩
set_option maxHeartbeats 1600000 in
theorem empty_any (lo hi : ByteArray) (op : Bool) (w : World) :
    Calls Tryz.prog 75 #[.agg #[.string lo, .string hi, .bool op]] w fun e w' => e = .returned (.bool (Rg.emp ⟨lo, hi, op⟩)) ∧ Below w.heap.size w w' := by
 cases hm : Rg.may ⟨lo, hi, op⟩
 ·rw [show Rg.emp ⟨lo, hi, op⟩ = true from by simp [Rg.emp, hm]]
  have C := aside (fun w => mayBe_at hm w)
  clear hm
  go_enter Tryz.func75, Tryz.ntmps75
  go_wp2_with (go_at_call 102; refine (C.out _).mono ?_; rintro e w1 ⟨rfl, b1⟩; obtain ⟨q0, q1, q2⟩ := box3 b1)
  go_ret
  exact ⟨rfl, bthen (bnew w _) b1⟩
 ·have C := aside (fun w => mayBe_at hm w)
  rw [show Rg.emp ⟨lo, hi, op⟩ = (!op && (lo.toList == hi.toList)) from by simp [Rg.emp, hm]]
  clear hm
  cases op
  ·cases h5 : (lo.toList == hi.toList)
   all_goals
    go_enter Tryz.func75, Tryz.ntmps75
    go_wp2_with (go_at_call 102; refine (C.out _).mono ?_; rintro e w1 ⟨rfl, b1⟩; obtain ⟨q0, q1, q2⟩ := box3 b1)
    go_ret
    exact ⟨rfl, bthen (bnew w _) b1⟩
  ·go_enter Tryz.func75, Tryz.ntmps75
   go_wp2_with (go_at_call 102; refine (C.out _).mono ?_; rintro e w1 ⟨rfl, b1⟩; obtain ⟨q0, q1, q2⟩ := box3 b1)
   go_ret
   exact ⟨rfl, bthen (bnew w _) b1⟩
set_option maxHeartbeats 1600000 in
theorem holds_any (lo hi : ByteArray) (op : Bool) (k : ByteArray) (w : World) :
    Calls Tryz.prog 103 #[.agg #[.string lo, .string hi, .bool op], .string k] w fun e w' => e = .returned (.bool (Rg.has ⟨lo, hi, op⟩ k)) ∧ Below w.heap.size w w' := by
 cases hm : Rg.may ⟨lo, hi, op⟩
 ·rw [show Rg.has ⟨lo, hi, op⟩ k = false from by simp [Rg.has, hm]]
  have C := aside (fun w => mayBe_at hm w)
  clear hm
  go_enter Tryz.func103, Tryz.ntmps103
  go_wp2_with (go_at_call 102; refine (C.out _).mono ?_; rintro e w1 ⟨rfl, b1⟩; obtain ⟨q0, q1, q2⟩ := box3 b1)
  go_ret
  exact ⟨rfl, bthen (bnew w _) b1⟩
 ·have C := aside (fun w => mayBe_at hm w)
  rw [show Rg.has ⟨lo, hi, op⟩ k = (decide ((k.size : Int) ≤ 16) && !Op.bytesLess k.toList lo.toList && (op || Op.bytesLess k.toList hi.toList)) from by simp [Rg.has, hm]]
  clear hm
  by_cases h1 : (k.size : Int) ≤ 16
  ·rw [decide_eq_true h1]
   cases h2 : Op.bytesLess k.toList lo.toList
   ·cases op
    ·cases h5 : Op.bytesLess k.toList hi.toList
     all_goals
      go_enter Tryz.func103, Tryz.ntmps103
      go_wp2_with (go_at_call 102; refine (C.out _).mono ?_; rintro e w1 ⟨rfl, b1⟩; obtain ⟨q0, q1, q2⟩ := box3 b1)
      go_ret
      exact ⟨rfl, bthen (bnew w _) b1⟩
    ·go_enter Tryz.func103, Tryz.ntmps103
     go_wp2_with (go_at_call 102; refine (C.out _).mono ?_; rintro e w1 ⟨rfl, b1⟩; obtain ⟨q0, q1, q2⟩ := box3 b1)
     go_ret
     exact ⟨rfl, bthen (bnew w _) b1⟩
   ·go_enter Tryz.func103, Tryz.ntmps103
    go_wp2_with (go_at_call 102; refine (C.out _).mono ?_; rintro e w1 ⟨rfl, b1⟩; obtain ⟨q0, q1, q2⟩ := box3 b1)
    go_ret
    exact ⟨rfl, bthen (bnew w _) b1⟩
  ·rw [decide_eq_false h1]
   go_enter Tryz.func103, Tryz.ntmps103
   go_wp2_with (go_at_call 102; refine (C.out _).mono ?_; rintro e w1 ⟨rfl, b1⟩; obtain ⟨q0, q1, q2⟩ := box3 b1)
   go_ret
   exact ⟨rfl, bthen (bnew w _) b1⟩
set_option maxHeartbeats 1600000 in
theorem holdsRef_any (lo hi : ByteArray) (op : Bool) (k : ByteArray) (w : World) :
    Calls Tryz.prog 66 #[.agg #[.string lo, .string hi, .bool op], .string k] w fun e w' => e = .returned (.bool (Rg.has ⟨lo, hi, op⟩ k)) ∧ Below w.heap.size w w' := by
 cases hm : Rg.may ⟨lo, hi, op⟩
 ·rw [show Rg.has ⟨lo, hi, op⟩ k = false from by simp [Rg.has, hm]]
  obtain ⟨c, hc, hne, hnz⟩ := may_not hm
  have C := aside (fun w => checkRef_at hc w)
  clear hm hc
  go_enter Tryz.func66, Tryz.ntmps66
  go_wp2_with (go_at_call 65; refine (C.out _).mono ?_; rintro e w1 ⟨rfl, b1⟩; obtain ⟨q0, q1, q2⟩ := box3 b1)
  go_ret
  exact ⟨rfl, bthen (bnew w _) b1⟩
 ·have C := aside (fun w => checkRef_at (may_chk hm) w)
  rw [show Rg.has ⟨lo, hi, op⟩ k = (decide ((k.size : Int) ≤ 16) && !Op.bytesLess k.toList lo.toList && (op || Op.bytesLess k.toList hi.toList)) from by simp [Rg.has, hm]]
  clear hm
  by_cases h1 : (k.size : Int) ≤ 16
  ·rw [decide_eq_true h1]
   cases h2 : Op.bytesLess k.toList lo.toList
   ·cases op
    ·cases h5 : Op.bytesLess k.toList hi.toList
     all_goals
      go_enter Tryz.func66, Tryz.ntmps66
      go_wp2_with (go_at_call 65; refine (C.out _).mono ?_; rintro e w1 ⟨rfl, b1⟩; obtain ⟨q0, q1, q2⟩ := box3 b1)
      go_ret
      exact ⟨rfl, bthen (bnew w _) b1⟩
    ·go_enter Tryz.func66, Tryz.ntmps66
     go_wp2_with (go_at_call 65; refine (C.out _).mono ?_; rintro e w1 ⟨rfl, b1⟩; obtain ⟨q0, q1, q2⟩ := box3 b1)
     go_ret
     exact ⟨rfl, bthen (bnew w _) b1⟩
   ·go_enter Tryz.func66, Tryz.ntmps66
    go_wp2_with (go_at_call 65; refine (C.out _).mono ?_; rintro e w1 ⟨rfl, b1⟩; obtain ⟨q0, q1, q2⟩ := box3 b1)
    go_ret
    exact ⟨rfl, bthen (bnew w _) b1⟩
  ·rw [decide_eq_false h1]
   go_enter Tryz.func66, Tryz.ntmps66
   go_wp2_with (go_at_call 65; refine (C.out _).mono ?_; rintro e w1 ⟨rfl, b1⟩; obtain ⟨q0, q1, q2⟩ := box3 b1)
   go_ret
   exact ⟨rfl, bthen (bnew w _) b1⟩
def restN (k : List UInt8) (h m : Nat) : Nat := leB ((k.drop m).take (h - m))
theorem restN_end (k : List UInt8) (h : Nat) : restN k h h = 0 := by simp [restN, leB]
theorem restN_step (k : List UInt8) (h m : Nat) (hm : m < h) (hk : m < k.length) : restN k h m = restN k h (m + 1) * 256 + k[m].toNat := by
 unfold restN
 rw [List.drop_eq_getElem_cons hk, show h - m = (h - (m + 1)) + 1 from by omega, List.take_succ_cons]
 simp only [leB]
 omega
theorem restN_lt (k : List UInt8) (h m : Nat) (hm : h ≤ m + 8) : restN k h m < 18446744073709551616 := by
 have hl := leB_lt ((k.drop m).take (h - m))
 have hb : ((k.drop m).take (h - m)).length ≤ 8 := by simp; omega
 have : 256 ^ ((k.drop m).take (h - m)).length ≤ 256 ^ 8 := Nat.pow_le_pow_right (by decide) hb
 unfold restN
 omega
theorem restN_word (k : List UInt8) (s h : Nat) (hh : h = min (s + 8) k.length) (hs : s ≤ k.length) : restN k h s = wordN k s := by
 unfold restN wordN
 by_cases h8 : s + 8 ≤ k.length
 ·rw [show h - s = 8 from by omega]
 ·rw [List.take_of_length_le (by simp; omega), List.take_of_length_le (by simp; omega)]
def WordAtRel (k : ByteArray) (s h : Nat) (w : World) (v i : Value) (wr : World) : Prop :=
 ∃ m : Nat, v = .int .u64 (restN k.data.toList h m : Int) ∧ i = .int .i64 ((m : Int) - 1) ∧ s ≤ m ∧ m ≤ h ∧ wr = w
set_option maxHeartbeats 1600000 in
set_option maxRecDepth 100000 in
theorem wordAt_any (k : ByteArray) (s : Nat) (w : World) (hk : k.size ≤ 140737488355328) (hs : s < k.size) :
    Calls Tryz.prog 135 #[.string k, .int .i64 (s : Int)] w fun e w' => e = .returned (.int .u64 (wordN k.data.toList s : Int)) ∧ w' = w := by
 have hlen : k.data.toList.length = k.size := by show k.data.toList.length = k.data.size; simp
 have hw8 : IntKind.i64.wrap ((s : Int) + 8) = (s : Int) + 8 := by rw [IntKind.wrap_i64]; omega
 obtain ⟨top, hh⟩ : ∃ h, h = min (s + 8) k.size := ⟨_, rfl⟩
 have HH := aside hh
 clear hh
 go_enter Tryz.func135, Tryz.ntmps135
 go_wp2
 all_goals
  rename_i hc
  go_loopw [5, 6] (fun v i wr => WordAtRel k s top w v i wr) (fun _ i _ => (intOf i + 1).toNat)
  case atStart =>
   refine ⟨top, by rw [restN_end]; rfl, ?_, by have := HH.out; omega, Nat.le_refl _, rfl⟩
   congr 1
   have := HH.out
   omega
  case round =>
   obtain ⟨m, rfl, rfl, hsm, hmh, rfl⟩ := hrel
   by_cases hge : (s : Int) ≤ (m : Int) - 1
   ·obtain ⟨p, rfl⟩ : ∃ p, m = p + 1 := ⟨m - 1, by omega⟩
    have hp : ((p + 1 : Nat) : Int) - 1 = (p : Int) := by omega
    rw [hp]
    have hpk : p < k.size := by have := HH.out; omega
    have hps : (s : Int) ≤ (p : Int) := by omega
    have hix := idx_str' k p hpk (p : Int) rfl wr
    have hst := restN_step k.data.toList top p (by omega) (by omega)
    have hlt := restN_lt k.data.toList top (p + 1) (by have := HH.out; omega)
    have hlt' := restN_lt k.data.toList top p (by have := HH.out; omega)
    generalize restN k.data.toList top (p + 1) = a at *
    obtain ⟨b, hb⟩ : ∃ b, b = restN k.data.toList top p := ⟨_, rfl⟩
    rw [← hb] at hst hlt'
    have hgt : k.data.toList[p]'(by omega) = k[p] := rfl
    rw [hgt] at hst
    have hc2 := k[p].toNat_lt
    generalize k[p].toNat = c at *
    have hs3 : IntKind.u64.wrap (c : Int) = (c : Int) := by rw [IntKind.wrap_u64]; omega
    have hs1 : IntKind.u64.wrap ((a : Int) * 256) = (a : Int) * 256 := by rw [IntKind.wrap_u64]; omega
    have hs2 : IntKind.u64.wrap ((a : Int) * 256 + (c : Int)) = (b : Int) := by rw [IntKind.wrap_u64]; omega
    have HB := aside hb
    clear hb hst hlt hlt' hgt hc hc2
    go_wp2
    go_roundw
    case rel => exact ⟨p, by rw [← HB.out], by go_num, by omega, by omega, rfl⟩
    case measure => simp [intOf]
   ·have hms : m = s := by omega
    have hng : ¬ (s : Int) ≤ (m : Int) - 1 := hge
    subst hms
    go_wp2
    go_ret
    exact ⟨by rw [restN_word k.data.toList m top (by rw [hlen]; exact HH.out) (by omega)]; rfl, rfl⟩
def of3 (w : World) (c n r0 r1 x0 x1 : Int) : World :=
 ((w.alloc (.cells #[.int .i64 c, .int .i64 n] 75)).alloc (.cells #[.int .u64 r0, .int .u64 r1] 43)).alloc (.cells #[.int .u64 x0, .int .u64 x1] 43)
structure OfSt (w wr : World) (c n x0 x1 : Int) : Prop where
 below : Below w.heap.size w wr
 sz : w.heap.size + 3 ≤ wr.heap.size
 v : wr.heap[w.heap.size]? = some (.cells #[.int .i64 c, .int .i64 n] 75 (0, 0))
 r : wr.heap[w.heap.size + 1]? = some (.cells #[.int .u64 0, .int .u64 0] 43 (0, 0))
 s : wr.heap[w.heap.size + 2]? = some (.cells #[.int .u64 x0, .int .u64 x1] 43 (0, 0))
theorem OfSt.keep {w wr w2 : World} {c n x0 x1 : Int} (h : OfSt w wr c n x0 x1) (b : Below wr.heap.size wr w2) : OfSt w w2 c n x0 x1 :=
 ⟨h.below.trans (b.mono h.below.size), by have := b.size; have := h.sz; omega, blk_on h.v b, blk_on h.r b, blk_on h.s b⟩
theorem OfSt.drew {w wr : World} {c n x0 x1 : Int} (h : OfSt w wr c n x0 x1) : OfSt w wr.drew c n x0 x1 := ⟨h.below.drew, h.sz, h.v, h.r, h.s⟩
theorem OfSt.set {w wr : World} {c n x0 x1 : Int} (h : OfSt w wr c n x0 x1) (y0 y1 : Int) : OfSt w ((wr.setCell ⟨w.heap.size + 2, 0, none⟩ (.int .u64 y0)).setCell ⟨w.heap.size + 2, 1, none⟩ (.int .u64 y1)) c n y0 y1 := by
 have s1 := heap_setCell_same wr (w.heap.size + 2) 0 _ _ (.int .u64 y0) h.s
 have s2 := heap_setCell_same _ (w.heap.size + 2) 1 _ _ (.int .u64 y1) s1
 refine ⟨(h.below.setCell (by simp) _).setCell (by simp) _, by simpa using h.sz, ?_, ?_, s2⟩
 ·rw [heap_setCell_other _ _ _ _ (by simp), heap_setCell_other _ _ _ _ (by simp)]; exact h.v
 ·rw [heap_setCell_other _ _ _ _ (by simp), heap_setCell_other _ _ _ _ (by simp)]; exact h.r
theorem of3_st (w : World) (c n x0 x1 : Int) : OfSt w (of3 w c n 0 0 x0 x1) c n x0 x1 := by
 refine ⟨((bnew w _).alloc (by simp) _).alloc (by simp; omega) _, by simp [of3], ?_, ?_, ?_⟩
 ·exact blk_on (blk_on (heap_alloc_new w _) (bnew _ _)) (bnew _ _)
 ·exact blk_on (by have := heap_alloc_new (w.alloc (.cells #[.int .i64 c, .int .i64 n] 75)) (.cells #[.int .u64 0, .int .u64 0] 43); simpa using this) (bnew _ _)
 ·have := heap_alloc_new ((w.alloc (.cells #[.int .i64 c, .int .i64 n] 75)).alloc (.cells #[.int .u64 0, .int .u64 0] 43)) (.cells #[.int .u64 x0, .int .u64 x1] 43)
  simpa [of3] using this
def headW (k : ByteArray) (j : Nat) : List Int := (k.size : Int) :: keyW k.data.toList j
theorem head0 (k : ByteArray) (j : Nat) : lane0 (headW k (j + 1)) = mixI 11400714819323198485 29 (lane0 (headW k j)) (wordN k.data.toList (8 * j) : Int) := by
 rw [headW, keyW_succ, ← List.cons_append, lane0_snoc]; rfl
theorem head1 (k : ByteArray) (j : Nat) : lane1 (headW k (j + 1)) = mixI 14029467366897019727 32 (lane1 (headW k j)) (wordN k.data.toList (8 * j) : Int) := by
 rw [headW, keyW_succ, ← List.cons_append, lane1_snoc]; rfl
theorem of0_end (k : ByteArray) (c n : Int) {j : Nat} (h : j = keyN k.size) : of0 k c n = mixI 11400714819323198485 29 (mixI 11400714819323198485 29 (lane0 (headW k j)) (IntKind.u64.wrap c)) (IntKind.u64.wrap n) := by
 subst h; rw [of0, wordsI_snoc, lane0_snoc, lane0_snoc]; rfl
theorem of1_end (k : ByteArray) (c n : Int) {j : Nat} (h : j = keyN k.size) : of1 k c n = mixI 14029467366897019727 32 (mixI 14029467366897019727 32 (lane1 (headW k j)) (IntKind.u64.wrap c)) (IntKind.u64.wrap n) := by
 subst h; rw [of1, wordsI_snoc, lane1_snoc, lane1_snoc]; rfl
def OfRel (w : World) (k : ByteArray) (c n : Int) (i : Value) (wr : World) : Prop :=
 ∃ j : Nat, i = .int .i64 ((8 * j : Nat) : Int) ∧ j ≤ keyN k.size ∧ OfSt w wr c n (lane0 (headW k j)) (lane1 (headW k j))
def OfRel0 (w : World) (c n : Int) (i : Value) (wr : World) : Prop :=
 (i = .int .i64 0 ∧ wr = of3 w c n 0 0 0 0) ∨ (i = .int .i64 1 ∧ wr = of3 w c n 0 0 2611923443488327891 0) ∨ (i = .int .i64 2 ∧ wr = of3 w c n 0 0 2611923443488327891 1376283091369227076)
set_option maxHeartbeats 1600000 in
set_option maxRecDepth 100000 in
theorem of_any (k : ByteArray) (c n : Int) (w : World) (L : Lanes w) (hk : k.size ≤ 140737488355328) :
    Calls Tryz.prog 116 #[.string k, .agg #[.int .i64 c, .int .i64 n]] w fun e w' => e = .returned (ofV k c n) ∧ Below w.heap.size w w' := by
 have h0 := L.pos
 have LL := aside L
 obtain ⟨c0, c1, c2, c3, c4, c5⟩ := L
 go_enter Tryz.func116, Tryz.ntmps116
 go_wp2
 go_loopw [8] (fun i wr => OfRel0 w c n i wr) (fun i _ => 2 - (intOf i).toNat)
 case atStart => exact .inl ⟨rfl, rfl⟩
 case round =>
  obtain ⟨rfl, rfl⟩ | ⟨rfl, rfl⟩ | ⟨rfl, rfl⟩ := hrel
  ·unfold of3
   go_wp2
   go_roundw
   case rel => exact .inr (.inl ⟨rfl, rfl⟩)
   case measure => simp [intOf]
  ·unfold of3
   go_wp2
   go_roundw
   case rel => exact .inr (.inr ⟨rfl, rfl⟩)
   case measure => simp [intOf]
  ·unfold of3
   go_wp2_with fail
   refine (mixed_any _ _ _ _ (LL.out.keep (of3_st w c n _ _).below)).mono ?_
   rintro e w1 ⟨rfl, b1⟩
   have S1 := (of3_st w c n _ _).keep b1
   have H1 := aside S1
   obtain ⟨-, z1, -, -, s1⟩ := S1
   obtain ⟨p0, p1, p2, p3⟩ := pair s1
   clear b1 s1 c0 c1 c2 c3 c4 c5
   go_wp2_with fail
   have H2 := H1.out.set (lane0 (headW k 0)) (lane1 (headW k 0))
   have HH2 := aside H2
   clear H1 H2
   go_loopw [7] (fun i wr => OfRel w k c n i wr) (fun i _ => (k.size + 8 - (intOf i).toNat))
   case atStart => exact ⟨0, rfl, Nat.zero_le _, HH2.out⟩
   case round =>
    obtain ⟨j, rfl, hj, S⟩ := hrel
    clear HH2 p0 p1 p2 p3
    have L2 := aside (LL.out.keep S.drew.below)
    have HS := aside S
    obtain ⟨-, z1, s2, s3, s1⟩ := S
    obtain ⟨p0, p1, p2, p3⟩ := pair s1
    by_cases hlt : ((8 * j : Nat) : Int) < (k.size : Int)
    ·clear s1 s2 s3
     have wa : ∀ W, Hid _ := fun W => aside (wordAt_any k (8 * j) W hk (by omega))
     have hw8 : IntKind.i64.wrap (8 * (j : Int) + 8) = 8 * (j : Int) + 8 := by rw [IntKind.wrap_i64]; omega
     go_wp2
     go_region_with (first | (go_at_call 135; refine (wa _).out.mono ?_; rintro e w' ⟨rfl, rfl⟩) | (go_at_call 134; refine (mixed_any _ _ _ _ L2.out).mono ?_; rintro e w2 ⟨rfl, b2⟩; have S2 := HS.out.drew.keep b2; have HS2 := aside S2; obtain ⟨-, -, -, -, s1⟩ := S2; obtain ⟨q0, q1, q2, q3⟩ := pair s1; clear s1))
     all_goals
      go_wp2
      go_roundw
      case rel =>
       refine ⟨j + 1, by congr 1, by unfold keyN; omega, ?_⟩
       rw [head0, head1]
       exact HS2.out.set _ _
      case measure => simp [intOf]; omega
    ·obtain ⟨q0, q1, q2, q3⟩ := pair s2
     clear s1 s2 s3
     have hjn : j = keyN k.size := by unfold keyN at hj ⊢; omega
     have HJ := aside hjn
     clear hjn hj
     go_wp2_with fail
     refine (mixed_any _ _ _ _ (LL.out.keep HS.out.below)).mono ?_
     rintro e w2 ⟨rfl, b2⟩
     have S2 := HS.out.keep b2
     have HS2 := aside (S2.set (mixI 11400714819323198485 29 (lane0 (headW k j)) (IntKind.u64.wrap c)) (mixI 14029467366897019727 32 (lane1 (headW k j)) (IntKind.u64.wrap c)))
     clear HS L2 p0 p1 p2 p3 q0 q1 q2 q3 b2 z1
     obtain ⟨-, z1, s2, s3, s1⟩ := S2
     obtain ⟨p0, p1, p2, p3⟩ := pair s1
     obtain ⟨q0, q1, q2, q3⟩ := pair s2
     clear s1 s2 s3
     go_wp2_with fail
     refine (mixed_any _ _ _ _ (LL.out.keep HS2.out.below)).mono ?_
     rintro e w3 ⟨rfl, b3⟩
     have S3 := HS2.out.keep b3
     have HS3 := aside S3
     clear HS2 p0 p1 p2 p3 q0 q1 q2 q3 b3 z1
     obtain ⟨-, z1, s2, s3, s1⟩ := S3
     obtain ⟨p0, p1, p2, p3⟩ := pair s3
     clear s1 s2 s3
     go_wp2_with fail
     have e0 := of0_end k c n HJ.out
     have e1 := of1_end k c n HJ.out
     generalize mixI 11400714819323198485 29 (mixI 11400714819323198485 29 (lane0 (headW k j)) (IntKind.u64.wrap c)) (IntKind.u64.wrap n) = x0 at *
     generalize mixI 14029467366897019727 32 (mixI 14029467366897019727 32 (lane1 (headW k j)) (IntKind.u64.wrap c)) (IntKind.u64.wrap n) = x1 at *
     refine bodyPost_ret (v := .agg #[.int .u64 x0, .int .u64 x1]) (by simp [results, Tryz.results116, go_sem, p0, p1]) rfl ⟨by rw [ofV, e0, e1], ?_⟩
     exact (HS3.out.below.setCell (by simp) _).setCell (by simp) _
end Go.Proofs.YtpbkjffiohfkcaaGreatDoor
