/-
  Print, the code's: it returns the text of a range that may be, or Check's error.
-/
import Derived.Test.YtidajlnaehhkkaaSMeet
import Derived.Test.YtidajlnaehhkkaaHexWalks2
namespace Go.Proofs.Ytidajlnaehhkkaa
open Go.RowKit

theorem may_small {r : Rg} (h : r.may = true) : r.lo.size ≤ 16 ∧ r.hi.size ≤ 16 := by
  have h0 := may_chk h
  unfold Rg.chk at h0
  split at h0
  · cases h0
  · rename_i hn
    omega

/-- A range's text. -/
def txtL (r : Rg) : List UInt8 := Hx.hex r.lo.data.toList ++ [46, 46] ++ (bif r.op then [42] else Hx.hex r.hi.data.toList)

theorem hex_at {s t : ByteArray} (h : t = ⟨(Hx.hex s.data.toList).toArray⟩) (hs : s.size ≤ 16) (w : World) :
    Calls Try.prog 36 #[.string s] w fun e w' => e = .returned (.string t) ∧ Below w.heap.size w w' := by
  subst h; exact hex_any s w (by omega)

set_option maxHeartbeats 1600000 in
theorem print_bad (lo hi : ByteArray) (op : Bool) (c : Int) (w : World) (hc : Rg.chk ⟨lo, hi, op⟩ = c) (_hne : (c != 0) = true) (_hnz : ¬ c = 0) :
    Calls Try.prog 28 #[.agg #[.string lo, .string hi, .bool op]] w fun e w' => e = .returned (.tuple #[.string ⟨#[]⟩, .int .i64 c]) ∧ Below w.heap.size w w' := by
  have C := aside (fun w => check_at hc w)
  clear hc
  go_enter Try.func28, Try.ntmps28
  go_wp2_with fail
  refine (C.out _).mono ?_
  rintro e w1 ⟨rfl, b1⟩
  go_wp2
  go_ret2
  exact ⟨rfl, bthen (bnew w _) b1⟩

set_option maxHeartbeats 1600000 in
theorem print_core (lo hi : ByteArray) (op : Bool) (w : World) (hm : Rg.may ⟨lo, hi, op⟩ = true) (lh hh d1 en d2 : ByteArray)
    (h1 : lh = ⟨(Hx.hex lo.data.toList).toArray⟩) (h2 : hh = ⟨(Hx.hex hi.data.toList).toArray⟩) (hen : en = bif op then ⟨#[42]⟩ else hh)
    (hadd1 : ∀ wx, (Op.stringOp .add lh ⟨#[46, 46]⟩).run Try.prog wx = .ok (.string d1) wx) (hadd2 : ∀ wx, (Op.stringOp .add d1 en).run Try.prog wx = .ok (.string d2) wx) :
    Calls Try.prog 28 #[.agg #[.string lo, .string hi, .bool op]] w fun e w' => e = .returned (.tuple #[.string d2, .int .i64 0]) ∧ Below w.heap.size w w' := by
  have C := aside (fun w => check_at (may_chk hm) w)
  have HL := aside (fun w => hex_at h1 (may_small hm).1 w)
  have HH := aside (fun w => hex_at h2 (may_small hm).2 w)
  clear hm h1 h2
  go_enter Try.func28, Try.ntmps28
  go_wp2_with fail
  refine (C.out _).mono ?_
  rintro e w1 ⟨rfl, b1⟩
  obtain ⟨q0, q1, q2⟩ := box3 b1
  have b01 := bthen (bnew w (.cells #[.string lo, .string hi, .bool op] 23)) b1
  have K := aside (keep (heap_new w (.cells #[.string lo, .string hi, .bool op] 23)) b1)
  clear b1
  go_wp2_with fail
  refine (HH.out _).mono ?_
  rintro e w2 ⟨rfl, b2⟩
  have k2 := keep K.out b2
  have b02 := bthen b01 b2
  clear K q0 q1 q2 b2 b01
  have K := aside k2
  obtain ⟨⟨q0, q1, q2⟩, -⟩ := box_out k2
  clear k2
  cases op
  · obtain rfl : en = hh := hen
    go_wp2_with fail
    refine (HL.out _).mono ?_
    rintro e w3 ⟨rfl, b3⟩
    have b03 := bthen b02 b3
    clear q0 q1 q2 b3
    go_wp2
    go_ret2
    exact ⟨rfl, b03⟩
  · obtain rfl : en = ⟨#[42]⟩ := hen
    go_wp2_with fail
    refine (HL.out _).mono ?_
    rintro e w3 ⟨rfl, b3⟩
    have b03 := bthen b02 b3
    clear q0 q1 q2 b3
    go_wp2
    go_ret2
    exact ⟨rfl, b03⟩

theorem print_any (lo hi : ByteArray) (op : Bool) (w : World) (hm : Rg.may ⟨lo, hi, op⟩ = true) :
    Calls Try.prog 28 #[.agg #[.string lo, .string hi, .bool op]] w fun e w' => e = .returned (.tuple #[.string ⟨(txtL ⟨lo, hi, op⟩).toArray⟩, .int .i64 0]) ∧ Below w.heap.size w w' := by
  obtain ⟨hs1, hs2⟩ := may_small hm
  have hs1' : lo.data.toList.length ≤ 16 := by simpa using hs1
  have hs2' : hi.data.toList.length ≤ 16 := by simpa using hs2
  have hl1 := Hx.hex_length lo.data.toList
  have hl2 := Hx.hex_length hi.data.toList
  have add : ∀ (a b : List UInt8) (wx : World), a.length + b.length ≤ 1000 → (Op.stringOp .add ⟨a.toArray⟩ ⟨b.toArray⟩).run Try.prog wx = .ok (.string ⟨(a ++ b).toArray⟩) wx := fun a b wx h => by
    rw [run_string_add_sum wx _ _ (by show a.toArray.size + b.toArray.size ≤ _; simp; omega)]
    congr 2
  cases op
  · exact print_core lo hi false w hm _ _ ⟨(Hx.hex lo.data.toList ++ [46, 46]).toArray⟩ _ _ rfl rfl rfl (fun wx => add _ [46, 46] wx (by simp; omega)) (fun wx => add _ _ wx (by simp; omega))
  · exact print_core lo hi true w hm _ _ ⟨(Hx.hex lo.data.toList ++ [46, 46]).toArray⟩ _ _ rfl rfl rfl (fun wx => add _ [46, 46] wx (by simp; omega)) (fun wx => add _ [42] wx (by simp; omega))

end Go.Proofs.Ytidajlnaehhkkaa
