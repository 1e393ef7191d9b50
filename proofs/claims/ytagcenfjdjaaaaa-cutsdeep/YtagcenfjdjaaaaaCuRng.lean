/-
  Ranges of the code and of the document: a range split at keys.
-/
import Derived.Test.YtagcenfjdjaaaaaCuCut
namespace Go.Proofs.Ytagcenfjdjaaaaa
open Go.RowKit
set_option linter.unusedVariables false

theorem box_after {w X : World} {lo hi : ByteArray} {op : Bool} (b : Below (w.alloc (.cells #[.string lo, .string hi, .bool op] 23)).heap.size (w.alloc (.cells #[.string lo, .string hi, .bool op] 23)) X) :
    X.heap[w.heap.size]? = some (.cells #[.string lo, .string hi, .bool op] 23 (0, 0)) ∧ Below w.heap.size w X :=
  ⟨keep (heap_alloc_new w _) b, bthen (bnew w _) b⟩

set_option maxRecDepth 100000 in
set_option maxHeartbeats 3200000 in
theorem allHeld_any (lo hi : ByteArray) (op : Bool) (a : Option Addr) (n cap : Nat) (S : Nat → ByteArray) (w : World) (h : StrsIn w.heap.size w a n cap S) :
    Calls Try.prog 33 #[.agg #[.string lo, .string hi, .bool op], .slice a n cap] w fun e w' => e = .returned (.bool (allK ⟨lo, hi, op⟩ S n)) ∧ Below w.heap.size w w' := by
  have hlc := h.1
  have hl16 := h.2.1
  have HH := aside h.2.2
  clear h
  go_enter Try.func33, Try.ntmps33
  go_wp2
  go_loopw [9] (fun i wr => ∃ k : Nat, k ≤ n ∧ i = .int .i64 (k : Int) ∧ Hid (∀ j, j < k → Rg.has ⟨lo, hi, op⟩ (S j) = true) ∧ Hid (Below (w.alloc (.cells #[.string lo, .string hi, .bool op] 23)).heap.size (w.alloc (.cells #[.string lo, .string hi, .bool op] 23)) wr)) (fun i _ => n - (intOf i).toNat)
  case atStart => exact ⟨0, Nat.zero_le _, rfl, fun j hj => by omega, Below.refl _ _⟩
  case round =>
    obtain ⟨k, hk, rfl, hall, HB⟩ := hrel
    obtain ⟨hbx, hnx⟩ := box_after HB.out
    have HX := aside hnx
    obtain ⟨⟨q0, q1, q2⟩, -⟩ := box_out hbx
    by_cases hlt : (k : Int) < (n : Int)
    · rcases HH.out with hh | ⟨b, off, rfl, hb, hc⟩
      · omega
      have c0 := (hnx.cell (p := ⟨b, off + k, none⟩) hb).trans (hc k (by omega))
      have hk0 : (0 : Int) ≤ (k : Int) := by omega
      have hqw : IntKind.i64.wrap ((k : Int) + 1) = (k : Int) + 1 := by rw [IntKind.wrap_i64]; omega
      clear hc hnx hbx
      obtain ⟨x, hx⟩ : ∃ x, Rg.has ⟨lo, hi, op⟩ (S k) = x := ⟨_, rfl⟩
      have HC := aside (fun w => holds_any lo hi op (S k) w)
      rw [hx] at HC
      go_wp2_with fail
      refine (HC.out _).mono ?_
      rintro e w1 ⟨rfl, b1⟩
      have B1 := aside (HB.out.trans (b1.mono HB.out.size))
      clear b1 HC
      cases x
      · have HF := aside (allK_false (r := ⟨lo, hi, op⟩) (S := S) (n := n) (by omega) hx)
        clear q0 q1 q2 c0
        go_wp2
        go_ret
        exact ⟨by rw [HF.out]; rfl, (box_after B1.out).2⟩
      · have HA := aside (show ∀ j, j < k + 1 → Rg.has ⟨lo, hi, op⟩ (S j) = true from fun j hj => by
          by_cases e : j = k
          · rw [e]; exact hx
          · exact hall.out j (by omega))
        clear q0 q1 q2 c0
        go_wp2
        go_roundw
        case rel => exact ⟨k + 1, by omega, by go_num, HA, B1⟩
        case measure => simp [intOf]; omega
    · obtain rfl : n = k := by omega
      have HT := aside (allK_true hall.out)
      clear hnx hbx q0 q1 q2
      go_wp2
      go_ret
      exact ⟨by rw [HT.out]; rfl, HX.out⟩

/-- What is wrong with a range, its keys and a number of parts. -/
def rngE (r : Rg) (S : Nat → ByteArray) (n : Nat) (p : Int) : Int :=
  if r.chk = 0 then (if keyE S n = 0 then (if allK r S n then (if 1 ≤ (n : Int) ∧ (n : Int) ≤ 256 ∧ 1 ≤ p ∧ p ≤ (n : Int) then 0 else 1) else 22) else keyE S n) else r.chk

set_option maxHeartbeats 3200000 in
set_option maxRecDepth 100000 in
theorem ranges_chk (lo hi : ByteArray) (op : Bool) (a : Option Addr) (n cap : Nat) (S : Nat → ByteArray) (p : Int) (w : World) (h : StrsIn w.heap.size w a n cap S) (c : Int) (hch : Rg.chk ⟨lo, hi, op⟩ = c) (hc0 : ¬ c = 0) :
    Calls Try.prog 13 #[.agg #[.string lo, .string hi, .bool op], .slice a n cap, .int .i64 p] w fun e w' => e = .returned (.tuple #[.slice none 0 0, .int .i64 c]) ∧ Below w.heap.size w w' := by
  have HS := aside h
  clear h
  go_enter Try.func13, Try.ntmps13
  go_wp2_with fail
  refine (check_at hch _).mono ?_
  rintro e w1 ⟨rfl, b1⟩
  have X1 := aside b1
  clear b1
  obtain ⟨hbx, hnx⟩ := box_after X1.out
  obtain ⟨⟨q0, q1, q2⟩, -⟩ := box_out hbx
  have B1 := aside hnx
  clear hbx hnx
  go_wp2
  exact bodyPost_ret (v := .tuple #[.slice none 0 0, .int .i64 c]) (by simp [results, Try.results13, go_sem]) rfl ⟨rfl, B1.out⟩

set_option maxHeartbeats 3200000 in
set_option maxRecDepth 100000 in
theorem ranges_key (lo hi : ByteArray) (op : Bool) (a : Option Addr) (n cap : Nat) (S : Nat → ByteArray) (p : Int) (w : World) (h : StrsIn w.heap.size w a n cap S) (c : Int) (hch : Rg.chk ⟨lo, hi, op⟩ = 0) (hke : keyE S n = c) (hc0 : ¬ c = 0) :
    Calls Try.prog 13 #[.agg #[.string lo, .string hi, .bool op], .slice a n cap, .int .i64 p] w fun e w' => e = .returned (.tuple #[.slice none 0 0, .int .i64 c]) ∧ Below w.heap.size w w' := by
  have HS := aside h
  clear h
  go_enter Try.func13, Try.ntmps13
  go_wp2_with fail
  refine (check_at hch _).mono ?_
  rintro e w1 ⟨rfl, b1⟩
  have X1 := aside b1
  clear b1
  obtain ⟨hbx, hnx⟩ := box_after X1.out
  obtain ⟨⟨q0, q1, q2⟩, -⟩ := box_out hbx
  have B1 := aside hnx
  clear hbx hnx
  go_wp2_with fail
  refine (checkKeys_any a n cap S _ (HS.out.up B1.out B1.out.size)).mono ?_
  rw [hke]
  rintro e w2 ⟨rfl, b2⟩
  have X2 := aside (X1.out.trans (b2.mono X1.out.size))
  clear b2 q0 q1 q2
  obtain ⟨hbx, hnx⟩ := box_after X2.out
  obtain ⟨⟨q0, q1, q2⟩, -⟩ := box_out hbx
  have B2 := aside hnx
  clear hbx hnx
  go_wp2
  exact bodyPost_ret (v := .tuple #[.slice none 0 0, .int .i64 c]) (by simp [results, Try.results13, go_sem]) rfl ⟨rfl, B2.out⟩

set_option maxHeartbeats 3200000 in
set_option maxRecDepth 100000 in
theorem ranges_not (lo hi : ByteArray) (op : Bool) (a : Option Addr) (n cap : Nat) (S : Nat → ByteArray) (p : Int) (w : World) (h : StrsIn w.heap.size w a n cap S) (hch : Rg.chk ⟨lo, hi, op⟩ = 0) (hke : keyE S n = 0) (hal : allK ⟨lo, hi, op⟩ S n = false) :
    Calls Try.prog 13 #[.agg #[.string lo, .string hi, .bool op], .slice a n cap, .int .i64 p] w fun e w' => e = .returned (.tuple #[.slice none 0 0, .int .i64 22]) ∧ Below w.heap.size w w' := by
  have HS := aside h
  clear h
  go_enter Try.func13, Try.ntmps13
  go_wp2_with fail
  refine (check_at hch _).mono ?_
  rintro e w1 ⟨rfl, b1⟩
  have X1 := aside b1
  clear b1
  obtain ⟨hbx, hnx⟩ := box_after X1.out
  obtain ⟨⟨q0, q1, q2⟩, -⟩ := box_out hbx
  have B1 := aside hnx
  clear hbx hnx
  go_wp2_with fail
  refine (checkKeys_any a n cap S _ (HS.out.up B1.out B1.out.size)).mono ?_
  rw [hke]
  rintro e w2 ⟨rfl, b2⟩
  have X2 := aside (X1.out.trans (b2.mono X1.out.size))
  clear b2 q0 q1 q2
  obtain ⟨hbx, hnx⟩ := box_after X2.out
  obtain ⟨⟨q0, q1, q2⟩, -⟩ := box_out hbx
  have B2 := aside hnx
  clear hbx hnx
  go_wp2_with fail
  refine (allHeld_any lo hi op a n cap S _ (HS.out.up B2.out B2.out.size)).mono ?_
  rw [hal]
  rintro e w3 ⟨rfl, b3⟩
  have X3 := aside (X2.out.trans (b3.mono X2.out.size))
  clear b3 q0 q1 q2
  obtain ⟨hbx, hnx⟩ := box_after X3.out
  obtain ⟨⟨q0, q1, q2⟩, -⟩ := box_out hbx
  have B3 := aside hnx
  clear hbx hnx
  go_wp2
  exact bodyPost_ret (v := .tuple #[.slice none 0 0, .int .i64 22]) (by simp [results, Try.results13, go_sem]) rfl ⟨rfl, B3.out⟩

set_option maxHeartbeats 3200000 in
set_option maxRecDepth 100000 in
theorem ranges_arg (lo hi : ByteArray) (op : Bool) (a : Option Addr) (n cap : Nat) (S : Nat → ByteArray) (p : Int) (w : World) (h : StrsIn w.heap.size w a n cap S) (hch : Rg.chk ⟨lo, hi, op⟩ = 0) (hke : keyE S n = 0) (hal : allK ⟨lo, hi, op⟩ S n = true) (hb : ¬ (1 ≤ (n : Int) ∧ (n : Int) ≤ 256 ∧ 1 ≤ p ∧ p ≤ (n : Int))) :
    Calls Try.prog 13 #[.agg #[.string lo, .string hi, .bool op], .slice a n cap, .int .i64 p] w fun e w' => e = .returned (.tuple #[.slice none 0 0, .int .i64 1]) ∧ Below w.heap.size w w' := by
  have HS := aside h
  clear h
  have HB := aside hb
  clear hb
  go_enter Try.func13, Try.ntmps13
  go_wp2_with fail
  refine (check_at hch _).mono ?_
  rintro e w1 ⟨rfl, b1⟩
  have X1 := aside b1
  clear b1
  obtain ⟨hbx, hnx⟩ := box_after X1.out
  obtain ⟨⟨q0, q1, q2⟩, -⟩ := box_out hbx
  have B1 := aside hnx
  clear hbx hnx
  go_wp2_with fail
  refine (checkKeys_any a n cap S _ (HS.out.up B1.out B1.out.size)).mono ?_
  rw [hke]
  rintro e w2 ⟨rfl, b2⟩
  have X2 := aside (X1.out.trans (b2.mono X1.out.size))
  clear b2 q0 q1 q2
  obtain ⟨hbx, hnx⟩ := box_after X2.out
  obtain ⟨⟨q0, q1, q2⟩, -⟩ := box_out hbx
  have B2 := aside hnx
  clear hbx hnx
  go_wp2_with fail
  refine (allHeld_any lo hi op a n cap S _ (HS.out.up B2.out B2.out.size)).mono ?_
  rw [hal]
  rintro e w3 ⟨rfl, b3⟩
  have X3 := aside (X2.out.trans (b3.mono X2.out.size))
  clear b3 q0 q1 q2
  obtain ⟨hbx, hnx⟩ := box_after X3.out
  obtain ⟨⟨q0, q1, q2⟩, -⟩ := box_out hbx
  have B3 := aside hnx
  clear hbx hnx
  go_wp2_with fail
  refine (bordersOf_bad a n cap p _ HB.out).mono ?_
  rintro e w4 ⟨rfl, rfl⟩
  go_wp2
  exact bodyPost_ret (v := .tuple #[.slice none 0 0, .int .i64 1]) (by simp [results, Try.results13, go_sem]) rfl ⟨rfl, B3.out⟩

set_option maxHeartbeats 3200000 in
set_option maxRecDepth 100000 in
theorem ranges_ok (lo hi : ByteArray) (op : Bool) (a : Option Addr) (n cap : Nat) (S : Nat → ByteArray) (q : Nat) (w : World) (h : StrsIn w.heap.size w a n cap S) (hch : Rg.chk ⟨lo, hi, op⟩ = 0) (hke : keyE S n = 0) (hal : allK ⟨lo, hi, op⟩ S n = true) (hqn : q + 1 ≤ n) (hn : n ≤ 256) :
    Calls Try.prog 13 #[.agg #[.string lo, .string hi, .bool op], .slice a n cap, .int .i64 ((q : Int) + 1)] w fun e w' => ∃ g cp, e = .returned (.tuple #[.slice (some ⟨g, 0, none⟩) (q + 1) cp, .int .i64 0]) ∧ w'.ownsRow w.heap.size 23 3 (.slice (some ⟨g, 0, none⟩) (q + 1) cp) (q + 1) (rgCells (piece ⟨lo, hi, op⟩ (bdr n (q + 1) S) q) (q + 1)) ∧ g < w'.heap.size ∧ Below w.heap.size w w' := by
  have HS := aside h
  clear h
  have HM := aside (show Rg.may ⟨lo, hi, op⟩ = true from by unfold Rg.may; rw [hch]; rfl)
  have HR := aside (fun h0 : 0 < q => pieces_rise (r := ⟨lo, hi, op⟩) (keysOk hke) (fun i hi => allK_at hal hi) hqn h0)
  have HC := aside (rgCells_congr (f := piece ⟨lo, hi, op⟩ (bdr n (0 + 1) S) 0) (g := fun _ => ⟨lo, hi, op⟩) (n := 1) (fun i hi' => by have e : i = 0 := (by omega); rw [e]; rfl))
  go_enter Try.func13, Try.ntmps13
  go_wp2_with fail
  refine (check_at hch _).mono ?_
  rintro e w1 ⟨rfl, b1⟩
  have X1 := aside b1
  clear b1
  obtain ⟨hbx, hnx⟩ := box_after X1.out
  obtain ⟨⟨q0, q1, q2⟩, -⟩ := box_out hbx
  have B1 := aside hnx
  clear hbx hnx
  go_wp2_with fail
  refine (checkKeys_any a n cap S _ (HS.out.up B1.out B1.out.size)).mono ?_
  rw [hke]
  rintro e w2 ⟨rfl, b2⟩
  have X2 := aside (X1.out.trans (b2.mono X1.out.size))
  clear b2 q0 q1 q2
  obtain ⟨hbx, hnx⟩ := box_after X2.out
  obtain ⟨⟨q0, q1, q2⟩, -⟩ := box_out hbx
  have B2 := aside hnx
  clear hbx hnx
  go_wp2_with fail
  refine (allHeld_any lo hi op a n cap S _ (HS.out.up B2.out B2.out.size)).mono ?_
  rw [hal]
  rintro e w3 ⟨rfl, b3⟩
  have X3 := aside (X2.out.trans (b3.mono X2.out.size))
  clear b3 q0 q1 q2
  obtain ⟨hbx, hnx⟩ := box_after X3.out
  obtain ⟨⟨q0, q1, q2⟩, -⟩ := box_out hbx
  have B3 := aside hnx
  clear hbx hnx
  go_wp2_with fail
  refine (bordersOf_any a n cap q S _ (HS.out.up B3.out B3.out.size) hqn hn).mono ?_
  rintro e w4 ⟨g4, c4, rfl, o4, l4, b4⟩
  have O4 := aside o4
  have X4 := aside (X3.out.trans (b4.mono X3.out.size))
  clear b4 o4 l4 q0 q1 q2
  obtain ⟨hbx, hnx⟩ := box_after X4.out
  obtain ⟨⟨q0, q1, q2⟩, -⟩ := box_out hbx
  have B4 := aside hnx
  clear hbx hnx
  rcases Nat.eq_zero_or_pos q with h0 | h0
  · subst h0
    go_wp2_with fail
    refine (split_none lo hi op (some ⟨g4, 0, none⟩) c4 _ HM.out).mono ?_
    rintro e w5 ⟨g, cp, rfl, o5, l5, b5⟩
    have O5 := aside o5
    have B5 := aside (bthen B4.out b5)
    clear o5 b5 q0 q1 q2
    go_wp2
    exact bodyPost_ret (v := .tuple #[.slice (some ⟨g, 0, none⟩) 1 cp, .int .i64 0]) (by simp [results, Try.results13, go_sem]) rfl ⟨g, cp, rfl, by rw [HC.out]; exact row_base O5.out B4.out.size, l5, B5.out⟩
  · go_wp2_with fail
    refine (split_yes lo hi op (some ⟨g4, 0, none⟩) q c4 (bdr n (q + 1) S) _ HM.out (strs_own O4.out (by omega)) (by omega) h0 (HR.out h0)).mono ?_
    rintro e w5 ⟨g, cp, rfl, o5, l5, b5⟩
    have O5 := aside o5
    have B5 := aside (bthen B4.out b5)
    clear o5 b5 q0 q1 q2
    go_wp2
    exact bodyPost_ret (v := .tuple #[.slice (some ⟨g, 0, none⟩) (q + 1) cp, .int .i64 0]) (by simp [results, Try.results13, go_sem]) rfl ⟨g, cp, rfl, row_base O5.out B4.out.size, l5, B5.out⟩

end Go.Proofs.Ytagcenfjdjaaaaa
