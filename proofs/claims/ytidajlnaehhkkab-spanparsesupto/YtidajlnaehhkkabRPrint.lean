/-
  The document's own Print: the text of a range that may be, or Check's error.
-/
import Derived.Test.YtidajlnaehhkkabSShown
import Derived.Test.YtidajlnaehhkkabRHex
import Derived.Deep.RegionHeld3
namespace Go.Proofs.Ytidajlnaehhkkab
open Go.RowKit

theorem keep1 {w W W' : World} {i : Nat} {a b c : Value} (h : Below w.heap.size w W ∧ W.cell? ⟨i, 0, none⟩ = some a ∧ W.cell? ⟨i, 1, none⟩ = some b ∧ W.cell? ⟨i, 2, none⟩ = some c) (bb : Below W.heap.size W W') :
    Below w.heap.size w W' ∧ W'.cell? ⟨i, 0, none⟩ = some a ∧ W'.cell? ⟨i, 1, none⟩ = some b ∧ W'.cell? ⟨i, 2, none⟩ = some c :=
  ⟨bthen h.1 bb, cell_on h.2.1 bb, cell_on h.2.2.1 bb, cell_on h.2.2.2 bb⟩

theorem hex02_at {s t : ByteArray} (h : t = ⟨(Hx.hex s.data.toList).toArray⟩) (hs : s.size ≤ 16) (w : World) :
    Calls Try.prog 20 #[.string s] w fun e w' => e = .returned (.string t) ∧ Below w.heap.size w w' := by
  subst h; exact hex02_any s w hs

set_option maxHeartbeats 1600000 in
theorem print02_bad (lo hi : ByteArray) (op : Bool) (c : Int) (w : World) (hc : Rg.chk ⟨lo, hi, op⟩ = c) (_hne : (c != 0) = true) (_hnz : ¬ c = 0) :
    Calls Try.prog 8 #[.agg #[.string lo, .string hi, .bool op]] w fun e w' => e = .returned (.tuple #[.string ⟨#[]⟩, .int .i64 c]) ∧ Below w.heap.size w w' := by
  have C := aside (fun w => checkRef_at hc w)
  clear hc
  go_enter Try.func8, Try.ntmps8
  go_wp2_with fail
  refine (C.out _).mono ?_
  rintro e w1 ⟨rfl, b1⟩
  go_wp2
  go_ret2
  exact ⟨rfl, bthen (bnew w _) b1⟩

set_option maxHeartbeats 1600000 in
theorem print02_open (lo hi lh d2 : ByteArray) (w : World) (hm : Rg.may ⟨lo, hi, true⟩ = true) (h1 : lh = ⟨(Hx.hex lo.data.toList).toArray⟩)
    (hadd : ∀ wx, (Op.stringOp .add lh ⟨#[46, 46, 42]⟩).run Try.prog wx = .ok (.string d2) wx) :
    Calls Try.prog 8 #[.agg #[.string lo, .string hi, .bool true]] w fun e w' => e = .returned (.tuple #[.string d2, .int .i64 0]) ∧ Below w.heap.size w w' := by
  have C := aside (fun w => checkRef_at (may_chk hm) w)
  have HL := aside (fun w => hex02_at h1 (may_small hm).1 w)
  clear hm h1
  go_enter Try.func8, Try.ntmps8
  go_wp2_with fail
  refine (C.out _).mono ?_
  rintro e w1 ⟨rfl, b1⟩
  obtain ⟨q0, q1, q2⟩ := box3 b1
  have b01 := bthen (bnew w (.cells #[.string lo, .string hi, .bool true] 23)) b1
  clear b1
  go_wp2_with fail
  refine (HL.out _).mono ?_
  rintro e w2 ⟨rfl, b2⟩
  have b02 := bthen b01 b2
  clear q0 q1 q2 b2
  go_wp2
  go_ret2
  exact ⟨rfl, b02⟩

set_option maxHeartbeats 3200000 in
set_option maxRecDepth 100000 in
theorem print02_shut (lo hi lh hh d1 d2 : ByteArray) (w : World) (hm : Rg.may ⟨lo, hi, false⟩ = true) (h1 : lh = ⟨(Hx.hex lo.data.toList).toArray⟩) (h2 : hh = ⟨(Hx.hex hi.data.toList).toArray⟩)
    (hadd : ∀ wx, (Op.stringOp .add lh ⟨#[46, 46]⟩).run Try.prog wx = .ok (.string d1) wx) (hadd2 : ∀ wx, (Op.stringOp .add d1 hh).run Try.prog wx = .ok (.string d2) wx) :
    Calls Try.prog 8 #[.agg #[.string lo, .string hi, .bool false]] w fun e w' => e = .returned (.tuple #[.string d2, .int .i64 0]) ∧ Below w.heap.size w w' := by
  have C := aside (fun w => checkRef_at (may_chk hm) w)
  have HL := aside (fun w => hex02_at h1 (may_small hm).1 w)
  have HH := aside (fun w => hex02_at h2 (may_small hm).2 w)
  clear hm h1 h2
  go_enter Try.func8, Try.ntmps8
  go_wp2_with fail
  refine (C.out _).mono ?_
  rintro e w1 ⟨rfl, b1⟩
  obtain ⟨q0, q1, q2⟩ := box3 b1
  have b01 := bthen (bnew w (.cells #[.string lo, .string hi, .bool false] 23)) b1
  have S0 : Hid (Below w.heap.size w w1.drew ∧ w1.drew.cell? ⟨w.heap.size, 0, none⟩ = some (.string lo) ∧ w1.drew.cell? ⟨w.heap.size, 1, none⟩ = some (.string hi) ∧ w1.drew.cell? ⟨w.heap.size, 2, none⟩ = some (.bool false)) := ⟨b01.drew, q0, q1, q2⟩
  clear b1
  go_wp2_with fail
  clear q0 q1 q2 b01
  go_region_held3 (fun W => Below w.heap.size w W ∧ W.cell? ⟨w.heap.size, 0, none⟩ = some (.string lo) ∧ W.cell? ⟨w.heap.size, 1, none⟩ = some (.string hi) ∧ W.cell? ⟨w.heap.size, 2, none⟩ = some (.bool false)) (first | (exact keep1 (by assumption) bb) | (exact S0.out) | assumption | go_keep)
    (first | (go_at_call 20; refine (HL.out _).mono ?_; clear HL; rintro e w2 ⟨rfl, bb⟩) | (go_at_call 20; refine (HH.out _).mono ?_; clear HH; rintro e w2 ⟨rfl, bb⟩))
  all_goals
    go_wp2
    go_ret2
    rename_i hx
    exact ⟨rfl, hx.1⟩

theorem print02_any (lo hi : ByteArray) (op : Bool) (w : World) (hm : Rg.may ⟨lo, hi, op⟩ = true) :
    Calls Try.prog 8 #[.agg #[.string lo, .string hi, .bool op]] w fun e w' => e = .returned (.tuple #[.string ⟨(txtL ⟨lo, hi, op⟩).toArray⟩, .int .i64 0]) ∧ Below w.heap.size w w' := by
  obtain ⟨hs1, hs2⟩ := may_small hm
  have hs1' : lo.data.toList.length ≤ 16 := by simpa using hs1
  have hs2' : hi.data.toList.length ≤ 16 := by simpa using hs2
  have hl1 := Hx.hex_length lo.data.toList
  have hl2 := Hx.hex_length hi.data.toList
  have add : ∀ (a b : List UInt8) (wx : World), a.length + b.length ≤ 1000 → (Op.stringOp .add ⟨a.toArray⟩ ⟨b.toArray⟩).run Try.prog wx = .ok (.string ⟨(a ++ b).toArray⟩) wx := fun a b wx h => by
    rw [run_string_add_sum wx _ _ (by show a.toArray.size + b.toArray.size ≤ _; simp; omega)]
    congr 2
  cases op
  · exact print02_shut lo hi _ _ ⟨(Hx.hex lo.data.toList ++ [46, 46]).toArray⟩ _ w hm rfl rfl (fun wx => add _ [46, 46] wx (by simp; omega)) (fun wx => add _ _ wx (by simp; omega))
  · have e : txtL ⟨lo, hi, true⟩ = Hx.hex lo.data.toList ++ [46, 46, 42] := by simp [txtL]
    rw [e]
    exact print02_open lo hi _ _ w hm rfl (fun wx => add _ [46, 46, 42] wx (by simp; omega))

end Go.Proofs.Ytidajlnaehhkkab
