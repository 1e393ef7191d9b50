/-
  Empty and Holds, the code's and the document's own: each returns what the plain function gives, and writes nothing that was there.
-/
import Derived.Test.YtpbkjffiohfkcaaGreatDoorBt13
import Derived.Test.YtpbkjffiohfkcaaGreatDoorBt2
import Derived.Deep.RegionWith
namespace Go.Proofs.YtpbkjffiohfkcaaGreatDoor
open Go.RowKit
set_option linter.unusedVariables false
theorem box3 {w w1 : World} {a b c : Value} {t : TypeId} (h : Below (w.alloc (.cells #[a, b, c] t)).heap.size (w.alloc (.cells #[a, b, c] t)) w1) :
    w1.cell? ⟨w.heap.size, 0, none⟩ = some a ∧ w1.cell? ⟨w.heap.size, 1, none⟩ = some b ∧ w1.cell? ⟨w.heap.size, 2, none⟩ = some c := by
 have e : ∀ j, (w.alloc (.cells #[a, b, c] t)).cell? ⟨w.heap.size, j, none⟩ = #[a, b, c][j]? := fun j => World.cell?_alloc_mark w #[a, b, c] t (0, 0) j
 refine ⟨?_, ?_, ?_⟩
 ·rw [h.cell (p := ⟨w.heap.size, 0, none⟩) (by simp), e]; rfl
 ·rw [h.cell (p := ⟨w.heap.size, 1, none⟩) (by simp), e]; rfl
 ·rw [h.cell (p := ⟨w.heap.size, 2, none⟩) (by simp), e]; rfl
theorem mayBe_at {lo hi : ByteArray} {op m : Bool} (h : Rg.may ⟨lo, hi, op⟩ = m) (w : World) :
    Calls Tryz.prog 102 #[.agg #[.string lo, .string hi, .bool op]] w fun e w' => e = .returned (.bool m) ∧ Below w.heap.size w w' := by
 subst h; exact mayBe_any lo hi op w
theorem check_at {lo hi : ByteArray} {op : Bool} {c : Int} (h : Rg.chk ⟨lo, hi, op⟩ = c) (w : World) :
    Calls Tryz.prog 47 #[.agg #[.string lo, .string hi, .bool op]] w fun e w' => e = .returned (.int .i64 c) ∧ Below w.heap.size w w' := by
 subst h; exact check_any lo hi op w
theorem checkRef_at {lo hi : ByteArray} {op : Bool} {c : Int} (h : Rg.chk ⟨lo, hi, op⟩ = c) (w : World) :
    Calls Tryz.prog 65 #[.agg #[.string lo, .string hi, .bool op]] w fun e w' => e = .returned (.int .i64 c) ∧ Below w.heap.size w w' := by
 subst h; exact checkRef_any lo hi op w
theorem may_chk {r : Rg} (h : r.may = true) : r.chk = 0 := by simpa [Rg.may] using h
theorem may_not {r : Rg} (h : r.may = false) : ∃ c, r.chk = c ∧ (c != 0) = true ∧ ¬ c = 0 := ⟨_, rfl, by simpa [Rg.may] using h, by simpa [Rg.may] using h⟩
set_option maxHeartbeats 1600000 in
theorem empty_any (lo hi : ByteArray) (op : Bool) (w : World) :
    Calls Tryz.prog 75 #[.agg #[.string lo, .string hi, .bool op]] w fun e w' => e = .returned (.bool (Rg.emp ⟨lo, hi, op⟩)) ∧ Below w.heap.size w w' := by
 cases hm : Rg.may ⟨lo, hi, op⟩
 ·rw [show Rg.emp ⟨lo, hi, op⟩ = true from by simp [Rg.emp, hm]]
  have C := aside (fun w => mayBe_at hm w)
  clear hm
  go_enter Tryz.func75, Tryz.ntmps75
  go_wp2_with (go_at_call 102; refine (C.out _).mono ?_; rintro e w1 ⟨rfl, b1⟩; obtain ⟨q0, q1, q2⟩ := box3 b1)
  go_ret
  exact ⟨rfl, bthen (bnew w _) b1⟩
 ·have C := aside (fun w => mayBe_at hm w)
  rw [show Rg.emp ⟨lo, hi, op⟩ = (!op && (lo.toList == hi.toList)) from by simp [Rg.emp, hm]]
  clear hm
  cases op
  ·cases h5 : (lo.toList == hi.toList)
   all_goals
    go_enter Tryz.func75, Tryz.ntmps75
    go_wp2_with (go_at_call 102; refine (C.out _).mono ?_; rintro e w1 ⟨rfl, b1⟩; obtain ⟨q0, q1, q2⟩ := box3 b1)
    go_ret
    exact ⟨rfl, bthen (bnew w _) b1⟩
  ·go_enter Tryz.func75, Tryz.ntmps75
   go_wp2_with (go_at_call 102; refine (C.out _).mono ?_; rintro e w1 ⟨rfl, b1⟩; obtain ⟨q0, q1, q2⟩ := box3 b1)
   go_ret
   exact ⟨rfl, bthen (bnew w _) b1⟩
set_option maxHeartbeats 1600000 in
theorem holds_any (lo hi : ByteArray) (op : Bool) (k : ByteArray) (w : World) :
    Calls Tryz.prog 103 #[.agg #[.string lo, .string hi, .bool op], .string k] w fun e w' => e = .returned (.bool (Rg.has ⟨lo, hi, op⟩ k)) ∧ Below w.heap.size w w' := by
 cases hm : Rg.may ⟨lo, hi, op⟩
 ·rw [show Rg.has ⟨lo, hi, op⟩ k = false from by simp [Rg.has, hm]]
  have C := aside (fun w => mayBe_at hm w)
  clear hm
  go_enter Tryz.func103, Tryz.ntmps103
  go_wp2_with (go_at_call 102; refine (C.out _).mono ?_; rintro e w1 ⟨rfl, b1⟩; obtain ⟨q0, q1, q2⟩ := box3 b1)
  go_ret
  exact ⟨rfl, bthen (bnew w _) b1⟩
 ·have C := aside (fun w => mayBe_at hm w)
  rw [show Rg.has ⟨lo, hi, op⟩ k = (decide ((k.size : Int) ≤ 16) && !Op.bytesLess k.toList lo.toList && (op || Op.bytesLess k.toList hi.toList)) from by simp [Rg.has, hm]]
  clear hm
  by_cases h1 : (k.size : Int) ≤ 16
  ·rw [decide_eq_true h1]
   cases h2 : Op.bytesLess k.toList lo.toList
   ·cases op
    ·cases h5 : Op.bytesLess k.toList hi.toList
     all_goals
      go_enter Tryz.func103, Tryz.ntmps103
      go_wp2_with (go_at_call 102; refine (C.out _).mono ?_; rintro e w1 ⟨rfl, b1⟩; obtain ⟨q0, q1, q2⟩ := box3 b1)
      go_ret
      exact ⟨rfl, bthen (bnew w _) b1⟩
    ·go_enter Tryz.func103, Tryz.ntmps103
     go_wp2_with (go_at_call 102; refine (C.out _).mono ?_; rintro e w1 ⟨rfl, b1⟩; obtain ⟨q0, q1, q2⟩ := box3 b1)
     go_ret
     exact ⟨rfl, bthen (bnew w _) b1⟩
   ·go_enter Tryz.func103, Tryz.ntmps103
    go_wp2_with (go_at_call 102; refine (C.out _).mono ?_; rintro e w1 ⟨rfl, b1⟩; obtain ⟨q0, q1, q2⟩ := box3 b1)
    go_ret
    exact ⟨rfl, bthen (bnew w _) b1⟩
  ·rw [decide_eq_false h1]
   go_enter Tryz.func103, Tryz.ntmps103
   go_wp2_with (go_at_call 102; refine (C.out _).mono ?_; rintro e w1 ⟨rfl, b1⟩; obtain ⟨q0, q1, q2⟩ := box3 b1)
   go_ret
   exact ⟨rfl, bthen (bnew w _) b1⟩
set_option maxHeartbeats 1600000 in
theorem holdsRef_any (lo hi : ByteArray) (op : Bool) (k : ByteArray) (w : World) :
    Calls Tryz.prog 66 #[.agg #[.string lo, .string hi, .bool op], .string k] w fun e w' => e = .returned (.bool (Rg.has ⟨lo, hi, op⟩ k)) ∧ Below w.heap.size w w' := by
 cases hm : Rg.may ⟨lo, hi, op⟩
 ·rw [show Rg.has ⟨lo, hi, op⟩ k = false from by simp [Rg.has, hm]]
  obtain ⟨c, hc, hne, hnz⟩ := may_not hm
  have C := aside (fun w => checkRef_at hc w)
  clear hm hc
  go_enter Tryz.func66, Tryz.ntmps66
  go_wp2_with (go_at_call 65; refine (C.out _).mono ?_; rintro e w1 ⟨rfl, b1⟩; obtain ⟨q0, q1, q2⟩ := box3 b1)
  go_ret
  exact ⟨rfl, bthen (bnew w _) b1⟩
 ·have C := aside (fun w => checkRef_at (may_chk hm) w)
  rw [show Rg.has ⟨lo, hi, op⟩ k = (decide ((k.size : Int) ≤ 16) && !Op.bytesLess k.toList lo.toList && (op || Op.bytesLess k.toList hi.toList)) from by simp [Rg.has, hm]]
  clear hm
  by_cases h1 : (k.size : Int) ≤ 16
  ·rw [decide_eq_true h1]
   cases h2 : Op.bytesLess k.toList lo.toList
   ·cases op
    ·cases h5 : Op.bytesLess k.toList hi.toList
     all_goals
      go_enter Tryz.func66, Tryz.ntmps66
      go_wp2_with (go_at_call 65; refine (C.out _).mono ?_; rintro e w1 ⟨rfl, b1⟩; obtain ⟨q0, q1, q2⟩ := box3 b1)
      go_ret
      exact ⟨rfl, bthen (bnew w _) b1⟩
    ·go_enter Tryz.func66, Tryz.ntmps66
     go_wp2_with (go_at_call 65; refine (C.out _).mono ?_; rintro e w1 ⟨rfl, b1⟩; obtain ⟨q0, q1, q2⟩ := box3 b1)
     go_ret
     exact ⟨rfl, bthen (bnew w _) b1⟩
   ·go_enter Tryz.func66, Tryz.ntmps66
    go_wp2_with (go_at_call 65; refine (C.out _).mono ?_; rintro e w1 ⟨rfl, b1⟩; obtain ⟨q0, q1, q2⟩ := box3 b1)
    go_ret
    exact ⟨rfl, bthen (bnew w _) b1⟩
  ·rw [decide_eq_false h1]
   go_enter Tryz.func66, Tryz.ntmps66
   go_wp2_with (go_at_call 65; refine (C.out _).mono ?_; rintro e w1 ⟨rfl, b1⟩; obtain ⟨q0, q1, q2⟩ := box3 b1)
   go_ret
   exact ⟨rfl, bthen (bnew w _) b1⟩
def restN (k : List UInt8) (h m : Nat) : Nat := leB ((k.drop m).take (h - m))
theorem restN_end (k : List UInt8) (h : Nat) : restN k h h = 0 := by simp [restN, leB]
theorem restN_step (k : List UInt8) (h m : Nat) (hm : m < h) (hk : m < k.length) : restN k h m = restN k h (m + 1) * 256 + k[m].toNat := by
 unfold restN
 rw [List.drop_eq_getElem_cons hk, show h - m = (h - (m + 1)) + 1 from by omega, List.take_succ_cons]
 simp only [leB]
 omega
theorem restN_lt (k : List UInt8) (h m : Nat) (hm : h ≤ m + 8) : restN k h m < 18446744073709551616 := by
 have hl := leB_lt ((k.drop m).take (h - m))
 have hb : ((k.drop m).take (h - m)).length ≤ 8 := by simp; omega
 have : 256 ^ ((k.drop m).take (h - m)).length ≤ 256 ^ 8 := Nat.pow_le_pow_right (by decide) hb
 unfold restN
 omega
theorem restN_word (k : List UInt8) (s h : Nat) (hh : h = min (s + 8) k.length) (hs : s ≤ k.length) : restN k h s = wordN k s := by
 unfold restN wordN
 by_cases h8 : s + 8 ≤ k.length
 ·rw [show h - s = 8 from by omega]
 ·rw [List.take_of_length_le (by simp; omega), List.take_of_length_le (by simp; omega)]
def WordAtRel (k : ByteArray) (s h : Nat) (w : World) (v i : Value) (wr : World) : Prop :=
 ∃ m : Nat, v = .int .u64 (restN k.data.toList h m : Int) ∧ i = .int .i64 ((m : Int) - 1) ∧ s ≤ m ∧ m ≤ h ∧ wr = w
set_option maxHeartbeats 1600000 in
set_option maxRecDepth 100000 in
theorem wordAt_any (k : ByteArray) (s : Nat) (w : World) (hk : k.size ≤ 140737488355328) (hs : s < k.size) :
    Calls Tryz.prog 135 #[.string k, .int .i64 (s : Int)] w fun e w' => e = .returned (.int .u64 (wordN k.data.toList s : Int)) ∧ w' = w := by
 have hlen : k.data.toList.length = k.size := by show k.data.toList.length = k.data.size; simp
 have hw8 : IntKind.i64.wrap ((s : Int) + 8) = (s : Int) + 8 := by rw [IntKind.wrap_i64]; omega
 obtain ⟨top, hh⟩ : ∃ h, h = min (s + 8) k.size := ⟨_, rfl⟩
 have HH := aside hh
 clear hh
 go_enter Tryz.func135, Tryz.ntmps135
 go_wp2
 all_goals
  rename_i hc
  go_loopw [5, 6] (fun v i wr => WordAtRel k s top w v i wr) (fun _ i _ => (intOf i + 1).toNat)
  case atStart =>
   refine ⟨top, by rw [restN_end]; rfl, ?_, by have := HH.out; omega, Nat.le_refl _, rfl⟩
   congr 1
   have := HH.out
   omega
  case round =>
   obtain ⟨m, rfl, rfl, hsm, hmh, rfl⟩ := hrel
   by_cases hge : (s : Int) ≤ (m : Int) - 1
   ·obtain ⟨p, rfl⟩ : ∃ p, m = p + 1 := ⟨m - 1, by omega⟩
    have hp : ((p + 1 : Nat) : Int) - 1 = (p : Int) := by omega
    rw [hp]
    have hpk : p < k.size := by have := HH.out; omega
    have hps : (s : Int) ≤ (p : Int) := by omega
    have hix := idx_str' k p hpk (p : Int) rfl wr
    have hst := restN_step k.data.toList top p (by omega) (by omega)
    have hlt := restN_lt k.data.toList top (p + 1) (by have := HH.out; omega)
    have hlt' := restN_lt k.data.toList top p (by have := HH.out; omega)
    generalize restN k.data.toList top (p + 1) = a at *
    obtain ⟨b, hb⟩ : ∃ b, b = restN k.data.toList top p := ⟨_, rfl⟩
    rw [← hb] at hst hlt'
    have hgt : k.data.toList[p]'(by omega) = k[p] := rfl
    rw [hgt] at hst
    have hc2 := k[p].toNat_lt
    generalize k[p].toNat = c at *
    have hs3 : IntKind.u64.wrap (c : Int) = (c : Int) := by rw [IntKind.wrap_u64]; omega
    have hs1 : IntKind.u64.wrap ((a : Int) * 256) = (a : Int) * 256 := by rw [IntKind.wrap_u64]; omega
    have hs2 : IntKind.u64.wrap ((a : Int) * 256 + (c : Int)) = (b : Int) := by rw [IntKind.wrap_u64]; omega
    have HB := aside hb
    clear hb hst hlt hlt' hgt hc hc2
    go_wp2
    go_roundw
    case rel => exact ⟨p, by rw [← HB.out], by go_num, by omega, by omega, rfl⟩
    case measure => simp [intOf]
   ·have hms : m = s := by omega
    have hng : ¬ (s : Int) ≤ (m : Int) - 1 := hge
    subst hms
    go_wp2
    go_ret
    exact ⟨by rw [restN_word k.data.toList m top (by rw [hlen]; exact HH.out) (by omega)]; rfl, rfl⟩
def of3 (w : World) (c n r0 r1 x0 x1 : Int) : World :=
 ((w.alloc (.cells #[.int .i64 c, .int .i64 n] 75)).alloc (.cells #[.int .u64 r0, .int .u64 r1] 43)).alloc (.cells #[.int .u64 x0, .int .u64 x1] 43)
structure OfSt (w wr : World) (c n x0 x1 : Int) : Prop where
 below : Below w.heap.size w wr
 sz : w.heap.size + 3 ≤ wr.heap.size
 v : wr.heap[w.heap.size]? = some (.cells #[.int .i64 c, .int .i64 n] 75 (0, 0))
 r : wr.heap[w.heap.size + 1]? = some (.cells #[.int .u64 0, .int .u64 0] 43 (0, 0))
 s : wr.heap[w.heap.size + 2]? = some (.cells #[.int .u64 x0, .int .u64 x1] 43 (0, 0))
theorem OfSt.keep {w wr w2 : World} {c n x0 x1 : Int} (h : OfSt w wr c n x0 x1) (b : Below wr.heap.size wr w2) : OfSt w w2 c n x0 x1 :=
 ⟨h.below.trans (b.mono h.below.size), by have := b.size; have := h.sz; omega, blk_on h.v b, blk_on h.r b, blk_on h.s b⟩
theorem OfSt.drew {w wr : World} {c n x0 x1 : Int} (h : OfSt w wr c n x0 x1) : OfSt w wr.drew c n x0 x1 := ⟨h.below.drew, h.sz, h.v, h.r, h.s⟩
theorem OfSt.set {w wr : World} {c n x0 x1 : Int} (h : OfSt w wr c n x0 x1) (y0 y1 : Int) : OfSt w ((wr.setCell ⟨w.heap.size + 2, 0, none⟩ (.int .u64 y0)).setCell ⟨w.heap.size + 2, 1, none⟩ (.int .u64 y1)) c n y0 y1 := by
 have s1 := heap_setCell_same wr (w.heap.size + 2) 0 _ _ (.int .u64 y0) h.s
 have s2 := heap_setCell_same _ (w.heap.size + 2) 1 _ _ (.int .u64 y1) s1
 refine ⟨(h.below.setCell (by simp) _).setCell (by simp) _, by simpa using h.sz, ?_, ?_, s2⟩
 ·rw [heap_setCell_other _ _ _ _ (by simp), heap_setCell_other _ _ _ _ (by simp)]; exact h.v
 ·rw [heap_setCell_other _ _ _ _ (by simp), heap_setCell_other _ _ _ _ (by simp)]; exact h.r
theorem of3_st (w : World) (c n x0 x1 : Int) : OfSt w (of3 w c n 0 0 x0 x1) c n x0 x1 := by
 refine ⟨((bnew w _).alloc (by simp) _).alloc (by simp; omega) _, by simp [of3], ?_, ?_, ?_⟩
 ·exact blk_on (blk_on (heap_alloc_new w _) (bnew _ _)) (bnew _ _)
 ·exact blk_on (by have := heap_alloc_new (w.alloc (.cells #[.int .i64 c, .int .i64 n] 75)) (.cells #[.int .u64 0, .int .u64 0] 43); simpa using this) (bnew _ _)
 ·have := heap_alloc_new ((w.alloc (.cells #[.int .i64 c, .int .i64 n] 75)).alloc (.cells #[.int .u64 0, .int .u64 0] 43)) (.cells #[.int .u64 x0, .int .u64 x1] 43)
  simpa [of3] using this
def headW (k : ByteArray) (j : Nat) : List Int := (k.size : Int) :: keyW k.data.toList j
theorem head0 (k : ByteArray) (j : Nat) : lane0 (headW k (j + 1)) = mixI 11400714819323198485 29 (lane0 (headW k j)) (wordN k.data.toList (8 * j) : Int) := by
 rw [headW, keyW_succ, ← List.cons_append, lane0_snoc]; rfl
theorem head1 (k : ByteArray) (j : Nat) : lane1 (headW k (j + 1)) = mixI 14029467366897019727 32 (lane1 (headW k j)) (wordN k.data.toList (8 * j) : Int) := by
 rw [headW, keyW_succ, ← List.cons_append, lane1_snoc]; rfl
theorem of0_end (k : ByteArray) (c n : Int) {j : Nat} (h : j = keyN k.size) : of0 k c n = mixI 11400714819323198485 29 (mixI 11400714819323198485 29 (lane0 (headW k j)) (IntKind.u64.wrap c)) (IntKind.u64.wrap n) := by
 subst h; rw [of0, wordsI_snoc, lane0_snoc, lane0_snoc]; rfl
theorem of1_end (k : ByteArray) (c n : Int) {j : Nat} (h : j = keyN k.size) : of1 k c n = mixI 14029467366897019727 32 (mixI 14029467366897019727 32 (lane1 (headW k j)) (IntKind.u64.wrap c)) (IntKind.u64.wrap n) := by
 subst h; rw [of1, wordsI_snoc, lane1_snoc, lane1_snoc]; rfl
def OfRel (w : World) (k : ByteArray) (c n : Int) (i : Value) (wr : World) : Prop :=
 ∃ j : Nat, i = .int .i64 ((8 * j : Nat) : Int) ∧ j ≤ keyN k.size ∧ OfSt w wr c n (lane0 (headW k j)) (lane1 (headW k j))
def OfRel0 (w : World) (c n : Int) (i : Value) (wr : World) : Prop :=
 (i = .int .i64 0 ∧ wr = of3 w c n 0 0 0 0) ∨ (i = .int .i64 1 ∧ wr = of3 w c n 0 0 2611923443488327891 0) ∨ (i = .int .i64 2 ∧ wr = of3 w c n 0 0 2611923443488327891 1376283091369227076)
set_option maxHeartbeats 1600000 in
set_option maxRecDepth 100000 in
theorem of_any (k : ByteArray) (c n : Int) (w : World) (L : Lanes w) (hk : k.size ≤ 140737488355328) :
    Calls Tryz.prog 116 #[.string k, .agg #[.int .i64 c, .int .i64 n]] w fun e w' => e = .returned (ofV k c n) ∧ Below w.heap.size w w' := by
 have h0 := L.pos
 have LL := aside L
 obtain ⟨c0, c1, c2, c3, c4, c5⟩ := L
 go_enter Tryz.func116, Tryz.ntmps116
 go_wp2
 go_loopw [8] (fun i wr => OfRel0 w c n i wr) (fun i _ => 2 - (intOf i).toNat)
 case atStart => exact .inl ⟨rfl, rfl⟩
 case round =>
  obtain ⟨rfl, rfl⟩ | ⟨rfl, rfl⟩ | ⟨rfl, rfl⟩ := hrel
  ·unfold of3
   go_wp2
   go_roundw
   case rel => exact .inr (.inl ⟨rfl, rfl⟩)
   case measure => simp [intOf]
  ·unfold of3
   go_wp2
   go_roundw
   case rel => exact .inr (.inr ⟨rfl, rfl⟩)
   case measure => simp [intOf]
  ·unfold of3
   go_wp2_with fail
   refine (mixed_any _ _ _ _ (LL.out.keep (of3_st w c n _ _).below)).mono ?_
   rintro e w1 ⟨rfl, b1⟩
   have S1 := (of3_st w c n _ _).keep b1
   have H1 := aside S1
   obtain ⟨-, z1, -, -, s1⟩ := S1
   obtain ⟨p0, p1, p2, p3⟩ := pair s1
   clear b1 s1 c0 c1 c2 c3 c4 c5
   go_wp2_with fail
   have H2 := H1.out.set (lane0 (headW k 0)) (lane1 (headW k 0))
   have HH2 := aside H2
   clear H1 H2
   go_loopw [7] (fun i wr => OfRel w k c n i wr) (fun i _ => (k.size + 8 - (intOf i).toNat))
   case atStart => exact ⟨0, rfl, Nat.zero_le _, HH2.out⟩
   case round =>
    obtain ⟨j, rfl, hj, S⟩ := hrel
    clear HH2 p0 p1 p2 p3
    have L2 := aside (LL.out.keep S.drew.below)
    have HS := aside S
    obtain ⟨-, z1, s2, s3, s1⟩ := S
    obtain ⟨p0, p1, p2, p3⟩ := pair s1
    by_cases hlt : ((8 * j : Nat) : Int) < (k.size : Int)
    ·clear s1 s2 s3
     have wa : ∀ W, Hid _ := fun W => aside (wordAt_any k (8 * j) W hk (by omega))
     have hw8 : IntKind.i64.wrap (8 * (j : Int) + 8) = 8 * (j : Int) + 8 := by rw [IntKind.wrap_i64]; omega
     go_wp2
     go_region_with (first | (go_at_call 135; refine (wa _).out.mono ?_; rintro e w' ⟨rfl, rfl⟩) | (go_at_call 134; refine (mixed_any _ _ _ _ L2.out).mono ?_; rintro e w2 ⟨rfl, b2⟩; have S2 := HS.out.drew.keep b2; have HS2 := aside S2; obtain ⟨-, -, -, -, s1⟩ := S2; obtain ⟨q0, q1, q2, q3⟩ := pair s1; clear s1))
     all_goals
      go_wp2
      go_roundw
      case rel =>
       refine ⟨j + 1, by congr 1, by unfold keyN; omega, ?_⟩
       rw [head0, head1]
       exact HS2.out.set _ _
      case measure => simp [intOf]; omega
    ·obtain ⟨q0, q1, q2, q3⟩ := pair s2
     clear s1 s2 s3
     have hjn : j = keyN k.size := by unfold keyN at hj ⊢; omega
     have HJ := aside hjn
     clear hjn hj
     go_wp2_with fail
     refine (mixed_any _ _ _ _ (LL.out.keep HS.out.below)).mono ?_
     rintro e w2 ⟨rfl, b2⟩
     have S2 := HS.out.keep b2
     have HS2 := aside (S2.set (mixI 11400714819323198485 29 (lane0 (headW k j)) (IntKind.u64.wrap c)) (mixI 14029467366897019727 32 (lane1 (headW k j)) (IntKind.u64.wrap c)))
     clear HS L2 p0 p1 p2 p3 q0 q1 q2 q3 b2 z1
     obtain ⟨-, z1, s2, s3, s1⟩ := S2
     obtain ⟨p0, p1, p2, p3⟩ := pair s1
     obtain ⟨q0, q1, q2, q3⟩ := pair s2
     clear s1 s2 s3
     go_wp2_with fail
     refine (mixed_any _ _ _ _ (LL.out.keep HS2.out.below)).mono ?_
     rintro e w3 ⟨rfl, b3⟩
     have S3 := HS2.out.keep b3
     have HS3 := aside S3
     clear HS2 p0 p1 p2 p3 q0 q1 q2 q3 b3 z1
     obtain ⟨-, z1, s2, s3, s1⟩ := S3
     obtain ⟨p0, p1, p2, p3⟩ := pair s3
     clear s1 s2 s3
     go_wp2_with fail
     have e0 := of0_end k c n HJ.out
     have e1 := of1_end k c n HJ.out
     generalize mixI 11400714819323198485 29 (mixI 11400714819323198485 29 (lane0 (headW k j)) (IntKind.u64.wrap c)) (IntKind.u64.wrap n) = x0 at *
     generalize mixI 14029467366897019727 32 (mixI 14029467366897019727 32 (lane1 (headW k j)) (IntKind.u64.wrap c)) (IntKind.u64.wrap n) = x1 at *
     refine bodyPost_ret (v := .agg #[.int .u64 x0, .int .u64 x1]) (by simp [results, Tryz.results116, go_sem, p0, p1]) rfl ⟨by rw [ofV, e0, e1], ?_⟩
     exact (HS3.out.below.setCell (by simp) _).setCell (by simp) _
theorem info64 : (Tryz.prog.info? 41).map (fun i => (i.zero, i.size, i.bytes)) = some (some (.int .u64 0), 1, 8) := by kernel_rfl
theorem own_base {w : World} {base base' : Nat} {e : TypeId} {size : Nat} {v : Value} {n : Nat} {xs : List Value} (h : w.ownsRow base e size v n xs) (hb : base' ≤ base) : w.ownsRow base' e size v n xs := by
 refine ⟨h.1, ?_⟩
 rcases h.2 with h0 | ⟨g, cap, cur, h1, h2, h3⟩
 ·exact .inl h0
 ·exact .inr ⟨g, cap, cur, h1, Nat.le_trans hb h2, h3⟩
def u64s (l : List Int) : List Value := l.map (Value.int .u64)
theorem doneW_length (k : List UInt8) (i : Nat) : (doneW k i).length = i / 8 + (if i % 8 = 0 then 0 else 1) := by
 unfold doneW
 rw [List.length_append, keyW_length]
 split <;> simp
structure WordsSt (w wr : World) (k : ByteArray) (c n : Int) (g cap : Nat) (l : List Int) : Prop where
 below : Below w.heap.size w wr
 sz : w.heap.size + 1 ≤ wr.heap.size
 v : wr.heap[w.heap.size]? = some (.cells #[.int .i64 c, .int .i64 n] 75 (0, 0))
 own : wr.ownsRow (w.heap.size + 1) 41 1 (.slice (some ⟨g, 0, none⟩) l.length cap) l.length (u64s l)
def WordsRel (w : World) (k : ByteArray) (c n : Int) (v i : Value) (wr : World) : Prop :=
 ∃ (j g cap : Nat), i = .int .i64 (j : Int) ∧ j ≤ k.size ∧ v = .slice (some ⟨g, 0, none⟩) ((k.size : Int) :: doneW k.data.toList j).length cap ∧ WordsSt w wr k c n g cap ((k.size : Int) :: doneW k.data.toList j)
theorem WordsSt.last {w wr : World} {k : ByteArray} {c n : Int} {g cap q : Nat} {l : List Int} {x : Int} (h : WordsSt w wr k c n g cap (l ++ [x])) (hq : l.length = q) :
    wr.cell? ⟨g, q, none⟩ = some (.int .u64 x) ∧ wr.frozen? ⟨g, q, none⟩ = false ∧ ∀ y : Int, WordsSt w (wr.drew.setCell ⟨g, q, none⟩ (.int .u64 y)) k c n g cap (l ++ [y]) := by
 have hlt := h.own.lt g rfl
 refine ⟨?_, h.own.frozenAt q, fun y => ⟨h.below.drew.setCell (by simp; omega) _, by simpa using h.sz, ?_, ?_⟩⟩
 ·rw [h.own.cellAt q (by simp; omega), u64s, List.map_append, List.getElem?_append_right (by simp; omega)]
  simp [hq]
 ·rw [heap_setCell_other _ _ _ _ (by show w.heap.size ≠ g; omega)]; exact h.v
 ·have hs := (h.own.drew.stored q (.int .u64 y)).1
  have e1 : (u64s (l ++ [x])).set q (.int .u64 y) = u64s (l ++ [y]) := by
   rw [u64s, List.map_append, List.set_append_right _ _ (by simp; omega)]
   simp [u64s, hq]
  rw [e1] at hs
  have e2 : (l ++ [x]).length = (l ++ [y]).length := by simp
  rw [← e2]
  exact hs
theorem WordsSt.app {w wr w1 : World} {k : ByteArray} {c n : Int} {g cap g1 cap1 : Nat} {l : List Int} {xs : List Value} {m : Nat} {o : Obj} (h : WordsSt w wr k c n g cap l)
    (hown : w1.ownsRow (w.heap.size + 1) 41 1 (.slice (some ⟨g1, 0, none⟩) m cap1) m xs) (hgrow : (wr.alloc o).grownBy w1 (some g)) {l' : List Int} (hm : m = l'.length) (hx : xs = u64s l') : WordsSt w w1 k c n g1 cap1 l' := by
 have hlt := h.own.lt g rfl
 have b1 : Below w.heap.size w w1 := (h.below.alloc (by have := h.sz; omega) o).grown hgrow (by simp; have := h.sz; omega) (fun j hj => by simp at hj; omega)
 refine ⟨b1, by have := hgrow.size; simp at this; have := h.sz; omega, ?_, by subst hm hx; exact hown⟩
 rw [hgrow.block _ (by simp; have := h.sz; omega) (by simp; omega), heap_alloc_old _ _ (by have := h.sz; omega)]
 exact h.v
theorem words_edge {x : Int} {d e : List Int} {p b : Nat} {r : Nat} {kw : List Int} (hn : d = kw ++ [((p + b * 256 ^ r : Nat) : Int)]) (he : e = kw ∧ p = 0) (hr : r = 0) : x :: d = (x :: e) ++ [(b : Int)] := by
 subst hn hr; rw [he.1, he.2]; simp
set_option maxHeartbeats 1600000 in
set_option maxRecDepth 100000 in
theorem words_any (k : ByteArray) (c n : Int) (w : World) (hk : k.size ≤ 140737488351232) :
    Calls Tryz.prog 143 #[.string k, .agg #[.int .i64 c, .int .i64 n]] w fun e w' => ∃ g cap, e = .returned (.slice (some ⟨g, 0, none⟩) (wordsI k c n).length cap) ∧ w'.ownsRow w.heap.size 41 1 (.slice (some ⟨g, 0, none⟩) (wordsI k c n).length cap) (wordsI k c n).length (u64s (wordsI k c n)) ∧ Below w.heap.size w w' := by
 obtain ⟨i0, hi, hz0, hz1, hz2⟩ := info_parts info64
 have hlen : k.data.toList.length = k.size := by show k.data.toList.length = k.data.size; simp
 go_enter Tryz.func143, Tryz.ntmps143
 go_wp2
 go_loopw [5, 6] (fun v i wr => WordsRel w k c n v i wr) (fun _ i _ => k.size - (intOf i).toNat)
 case atStart =>
  refine ⟨0, w.heap.size + 1, 1, rfl, Nat.zero_le _, by rw [doneW_zero]; rfl, (bnew w _).alloc (by simp) _, by simp, blk_on (heap_alloc_new w _) (bnew _ _), ?_⟩
  rw [doneW_zero]
  have := World.ownsRow_lit (base := w.heap.size + 1) (e := 41) (size := 1) (w.alloc (.cells #[.int .i64 c, .int .i64 n] 75)) #[.int .u64 (k.size : Int)] 1 (by simp) (by decide) rfl
  simpa [u64s] using this
 case round =>
  obtain ⟨j, g, cap, rfl, hj, rfl, S⟩ := hrel
  have hsz := S.sz
  have hN : ((k.size : Int) :: doneW k.data.toList j).length ≤ j / 8 + 2 := by rw [List.length_cons, doneW_length]; split <;> omega
  by_cases hlt : (j : Int) < (k.size : Int)
  ·have hjk : j < k.size := by omega
   have hix : ∀ W, (Instr.index 9 (.string k) (.int .i64 (j : Int))).run Tryz.prog W = .ok (.int .u8 (k[j].toNat : Int)) W := fun W => idx_str' k j hjk (j : Int) rfl W
   have hnx := doneW_next k.data.toList j (by omega)
   have hgt : k.data.toList[j]'(by omega) = k[j] := rfl
   have hslt := sum_lt k.data.toList j k[j]
   rw [hgt] at hnx
   have hc2 := k[j].toNat_lt
   generalize k[j].toNat = b at *
   have hs3 : IntKind.u64.wrap (b : Int) = (b : Int) := by rw [IntKind.wrap_u64]; omega
   by_cases h8 : j % 8 = 0
   ·have hm8 : (j : Int) % 8 = 0 := by omega
    have hed := doneW_edge k.data.toList j h8
    have HO := aside S.own
    have HS := aside S
    have HN := aside hnx
    have HE := aside hed
    obtain ⟨q, hq⟩ : ∃ q, q = ((k.size : Int) :: doneW k.data.toList j).length := ⟨_, rfl⟩
    rw [← hq] at hN HO ⊢
    have HQ := aside hq
    clear S hnx hed hq hslt hc2
    go_wp2_with (at_builtin; refine wpList_append_lies _ rfl _ _ _ rfl (w.heap.size + 1) 41 i0 (.int .u64 0) 1 8 Tryz.underlying201 hi hz0 hz1 hz2 rfl (by decide) _ _ _ (by rfl) (HO.out.alloc _) ⟨wr.heap.size, 0, none⟩ 1 1 [.int .u64 0] (by rfl) (by rfl) (World.news_of_block (cs := #[.int .u64 0]) (t := 41) (fr := (0, 0)) (heap_alloc_new wr _)) (by simp [Value.oneCell']) (by omega) (by unfold maxLen; omega) (by omega) (by simp; omega) (wr.heap.size + 1) (by simp) ?_; intro g1 cap1 w1 hown1 hgrow hat hlt1; refine Hid.out ?_)
    refine aside ?_
    have S1 := HS.out.app hown1 hgrow (l' := ((k.size : Int) :: doneW k.data.toList j) ++ [0]) (by rw [HQ.out]; simp) (by simp [u64s])
    obtain ⟨c1, f1, put⟩ := S1.last HQ.out.symm
    have PUT := aside put
    clear hown1 hgrow hat hlt1 put S1
    go_wp2
    go_region
    all_goals
     go_wp2
     go_roundw
     case rel =>
      have eqn := words_edge (x := (k.size : Int)) HN.out HE.out h8
      refine ⟨j + 1, g1, cap1, by go_num, by omega, by rw [eqn, HQ.out]; simp, ?_⟩
      rw [eqn]
      exact PUT.out (b : Int)
     case measure => simp [intOf]; omega
   ·obtain ⟨r, hr⟩ : ∃ r, r = j % 8 := ⟨_, rfl⟩
    have hm8 : (j : Int) % 8 = (r : Int) := by omega
    have hm8' : (j : Int).tmod 8 = (r : Int) := by rw [Int.tmod_eq_emod_of_nonneg (by omega)]; omega
    have hne : ¬ (r : Int) = 0 := by omega
    have hw8 : IntKind.i64.wrap (8 * (r : Int)) = 8 * (r : Int) := by rw [IntKind.wrap_i64]; omega
    have h64 : 8 * (r : Int) ≤ 64 := by omega
    have h64' : 0 ≤ 8 * (r : Int) := by omega
    have hhr := doneW_here k.data.toList j h8
    rw [← hr] at hnx hslt
    generalize partN k.data.toList j = p at *
    obtain ⟨sh, hsh⟩ : ∃ sh, sh = b * 256 ^ r := ⟨_, rfl⟩
    rw [← hsh] at hnx hslt
    have hs1 : IntKind.u64.wrap ((b : Int) * 2 ^ (8 * (r : Int)).toNat) = (sh : Int) := by
     rw [show (8 * (r : Int)).toNat = 8 * r from by omega, show ((b : Int) * 2 ^ (8 * r)) = (sh : Int) from by rw [hsh, Nat.pow_mul 2 8 r |> fun h => show (256 : Nat) ^ r = 2 ^ (8 * r) from h.symm]; push_cast; rfl, IntKind.wrap_u64]
     omega
    have hs2 : IntKind.u64.wrap ((p : Int) + (sh : Int)) = ((p + sh : Nat) : Int) := by rw [IntKind.wrap_u64]; omega
    have HN := aside hnx
    obtain ⟨q, hq⟩ : ∃ q, q = ((k.size : Int) :: keyW k.data.toList (j / 8)).length := ⟨_, rfl⟩
    rw [hhr, ← List.cons_append] at S
    have hle : ((k.size : Int) :: doneW k.data.toList j).length = q + 1 := by rw [hhr, hq]; simp
    rw [hle] at hN ⊢
    obtain ⟨c1, f1, put⟩ := S.last hq.symm
    have PUT := aside put
    have HQ := aside hq
    clear S hnx hq hslt hc2 hle put hhr hsh hr h8 hgt
    generalize p + sh = t at *
    go_wp2
    go_region
    all_goals
     go_wp2
     go_roundw
     case rel =>
      refine ⟨j + 1, g, cap, by go_num, by omega, by rw [HN.out, HQ.out]; simp, ?_⟩
      rw [HN.out, ← List.cons_append]
      exact PUT.out (t : Int)
     case measure => simp [intOf]; omega
  ·have hjk : j = k.size := by omega
   have hall : (k.size : Int) :: doneW k.data.toList j = (k.size : Int) :: keyW k.data.toList (keyN k.size) := by
    have := doneW_all k.data.toList
    rw [hlen] at this
    rw [hjk, this]
   rw [hall] at S hN ⊢
   obtain ⟨v1, v2, -, -⟩ := pair S.v
   have HO := aside S.own
   have HS := aside S
   obtain ⟨q, hq⟩ : ∃ q, q = ((k.size : Int) :: keyW k.data.toList (keyN k.size)).length := ⟨_, rfl⟩
   rw [← hq] at hN HO ⊢
   have HQ := aside hq
   clear S hq hall
   go_wp2_with (at_builtin; refine wpList_append_lies _ rfl _ _ _ rfl (w.heap.size + 1) 41 i0 (.int .u64 0) 1 8 Tryz.underlying201 hi hz0 hz1 hz2 rfl (by decide) _ _ _ (by rfl) (HO.out.alloc _) ⟨wr.heap.size, 0, none⟩ 2 2 [.int .u64 (IntKind.u64.wrap c), .int .u64 (IntKind.u64.wrap n)] (by rfl) (by rfl) (World.news_of_block (cs := #[.int .u64 (IntKind.u64.wrap c), .int .u64 (IntKind.u64.wrap n)]) (t := 41) (fr := (0, 0)) (heap_alloc_new wr _)) (by simp [Value.oneCell']) (by omega) (by unfold maxLen; omega) (by omega) (by simp; omega) (wr.heap.size + 1) (by simp) ?_; intro g1 cap1 w1 hown1 hgrow hat hlt1; refine Hid.out ?_)
   refine aside ?_
   have S1 := HS.out.app hown1 hgrow (l' := wordsI k c n) (by rw [HQ.out]; simp [wordsI]) (by simp [u64s, wordsI])
   have hql : q + 2 = (wordsI k c n).length := by rw [HQ.out]; simp [wordsI]
   have HS1 := aside S1
   have HQL := aside hql
   clear hown1 hgrow hat hlt1 S1 hql
   go_wp2
   go_ret
   exact ⟨g1, cap1, by rw [← HQL.out]; rfl, own_base HS1.out.own (by omega), HS1.out.below⟩
set_option maxHeartbeats 1600000 in
set_option maxRecDepth 100000 in
theorem lane_any (x f : Int) (s : Nat) (l : List Int) (B g cap : Nat) (w : World) (hs : s ≤ 63) (own : w.ownsRow B 41 1 (.slice (some ⟨g, 0, none⟩) l.length cap) l.length (u64s l)) :
    Calls Tryz.prog 144 #[.int .u64 x, .int .u64 f, .int .i64 (s : Int), .slice (some ⟨g, 0, none⟩) l.length cap] w fun e w' => e = .returned (.int .u64 (l.foldl (mixI f s) x)) ∧ w' = w := by
 have hs0 : (0 : Int) ≤ (s : Int) := by omega
 have hs1 : (s : Int) ≤ 64 := by omega
 have hcell : ∀ j (h : j < l.length), w.cell? ⟨g, j, none⟩ = some (.int .u64 l[j]) := by
  intro j h
  rw [own.cellAt j (by omega), u64s, List.getElem?_map, List.getElem?_eq_getElem h]
  rfl
 have HC := aside hcell
 have hmx : l.length ≤ maxLen := by
  rcases own.2 with ⟨h, _⟩ | ⟨g', cap', cur, h1, h2, h3, h4, h5, h6⟩
  ·cases h
  ·injection h1 with e1 e2 e3
   omega
 have hmx' : (l.length : Int) ≤ 9223372036854775807 := by unfold maxLen at hmx; omega
 clear hmx
 obtain ⟨N, hN⟩ : ∃ N, N = l.length := ⟨_, rfl⟩
 have HN := aside hN
 rw [← hN] at hmx' ⊢
 clear own hcell hN
 go_enter Tryz.func144, Tryz.ntmps144
 go_wp2
 go_loopw [0, 13] (fun v i wr => ∃ j : Nat, i = .int .i64 (j : Int) ∧ j ≤ N ∧ v = .int .u64 ((l.take j).foldl (mixI f s) x) ∧ wr = w) (fun _ i _ => N - (intOf i).toNat)
 case atStart => exact ⟨0, rfl, Nat.zero_le _, rfl, rfl⟩
 case round =>
  obtain ⟨j, rfl, hj, rfl, rfl⟩ := hrel
  by_cases hlt : (j : Int) < (N : Int)
  ·have hjl : j < l.length := by have := HN.out; omega
   have c1 := HC.out j hjl
   have hst : (l.take (j + 1)).foldl (mixI f s) x = mixI f s ((l.take j).foldl (mixI f s) x) l[j] := by
    rw [List.take_succ_eq_append_getElem hjl, List.foldl_append]; rfl
   have HST := aside hst
   have hj0 : (0 : Int) ≤ (j : Int) := by omega
   clear hst
   generalize l[j] = u at *
   generalize (l.take j).foldl (mixI f s) x = y at *
   go_wp2
   go_roundw
   case rel => exact ⟨j + 1, by go_num, by omega, by rw [HST.out]; rfl, trivial⟩
   case measure => simp [intOf]; omega
  ·have hjl : j = l.length := by have := HN.out; omega
   have hall : (l.take j).foldl (mixI f s) x = l.foldl (mixI f s) x := by rw [hjl, List.take_length]
   have HA := aside hall
   clear hall hjl
   go_wp2
   go_ret
   exact ⟨by rw [← HA.out]; rfl, rfl⟩
set_option maxHeartbeats 1600000 in
set_option maxRecDepth 100000 in
theorem ofRef_any (k : ByteArray) (c n : Int) (w : World) (hk : k.size ≤ 140737488351232) :
    Calls Tryz.prog 127 #[.string k, .agg #[.int .i64 c, .int .i64 n]] w fun e w' => e = .returned (ofV k c n) ∧ Below w.heap.size w w' := by
 go_enter Tryz.func127, Tryz.ntmps127
 go_wp2_with fail
 refine (words_any k c n _ hk).mono ?_
 rintro e w1 ⟨g, cap, rfl, own, b1⟩
 have bt : Below w.heap.size w w1 := bthen ((bnew w _).alloc (by simp) _) b1
 have hr := blk_on (show ((w.alloc (.cells #[.int .i64 c, .int .i64 n] 75)).alloc (.cells #[.int .u64 0, .int .u64 0] 43)).heap[w.heap.size + 1]? = some (.cells #[.int .u64 0, .int .u64 0] 43 (0, 0)) from by have := heap_alloc_new (w.alloc (.cells #[.int .i64 c, .int .i64 n] 75)) (.cells #[.int .u64 0, .int .u64 0] 43); simpa using this) b1
 obtain ⟨p0, p1, p2, p3⟩ := pair hr
 have HO := aside own
 have BT := aside bt
 clear own b1 bt hr
 go_wp2_with fail
 refine (lane_any _ _ 29 _ _ _ _ _ (by omega) HO.out).mono ?_
 rintro e w2 ⟨rfl, rfl⟩
 go_wp2_with fail
 refine (lane_any _ _ 32 _ _ _ _ _ (by omega) HO.out).mono ?_
 rintro e w3 ⟨rfl, rfl⟩
 go_wp2
 exact bodyPost_ret (v := ofV k c n) (by simp [results, Tryz.results127, go_sem, p0, p1, ofV, of0, of1, lane0, lane1]) rfl ⟨rfl, (BT.out.setCell (by simp) _).setCell (by simp) _⟩
end Go.Proofs.YtpbkjffiohfkcaaGreatDoor
