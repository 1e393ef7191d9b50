/-
  The law SpanTexts, walked: it returns true at every range.
-/
import Derived.Test.YtidajlnaehhkkabSShown
import Derived.Test.YtidajlnaehhkkabSText
import Derived.Test.YtidajlnaehhkkabRPrint
namespace Go.Proofs.Ytidajlnaehhkkab
open Go.RowKit

theorem print_at {lo hi t : ByteArray} {op : Bool} (hm : Rg.may ⟨lo, hi, op⟩ = true) (h : t = ⟨(txtL ⟨lo, hi, op⟩).toArray⟩) (w : World) :
    Calls Try.prog 7 #[.agg #[.string lo, .string hi, .bool op]] w fun e w' => e = .returned (.tuple #[.string t, .int .i64 0]) ∧ Below w.heap.size w w' := by
  subst h; exact print_any lo hi op w hm

theorem print02_at {lo hi t : ByteArray} {op : Bool} (hm : Rg.may ⟨lo, hi, op⟩ = true) (h : t = ⟨(txtL ⟨lo, hi, op⟩).toArray⟩) (w : World) :
    Calls Try.prog 8 #[.agg #[.string lo, .string hi, .bool op]] w fun e w' => e = .returned (.tuple #[.string t, .int .i64 0]) ∧ Below w.heap.size w w' := by
  subst h; exact print02_any lo hi op w hm

theorem parse_at {s : ByteArray} {r : Rg} (h : parseL s.data.toList = some r) (hs : s.size < 4294967281) (w : World) (hw : MaxAt w) :
    Calls Try.prog 9 #[.string s] w fun e w' => e = .returned (.tuple #[.agg #[.string r.lo, .string r.hi, .bool r.op], .int .i64 0]) ∧ Below w.heap.size w w' := by
  have := parse_any s w hw hs
  rw [h] at this
  exact this

set_option maxRecDepth 100000 in
set_option maxHeartbeats 3200000 in
theorem texts_walk (lo hi : ByteArray) (op : Bool) (w : World) (hw : MaxAt w) :
    Calls Try.prog 3 #[.agg #[.string lo, .string hi, .bool op]] w fun e w' => e = .returned (.bool true) ∧ Below w.heap.size w w' := by
  have C0 := aside (fun w h => shown_any w h)
  have HW := aside hw
  clear hw
  cases hm : Rg.may ⟨lo, hi, op⟩
  · obtain ⟨c, hc, hne, hnz⟩ := may_not hm
    have P1 := aside (fun w => print_bad lo hi op c w hc hne hnz)
    have P2 := aside (fun w => print02_bad lo hi op c w hc hne hnz)
    clear hm hc
    go_enter Try.func3, Try.ntmps3
    go_wp2_with fail
    refine (C0.out _ (HW.out.below (bnew w _))).mono ?_
    rintro e w1 ⟨rfl, b1⟩
    obtain ⟨q0, q1, q2⟩ := box3 b1
    have b01 := bthen (bnew w (.cells #[.string lo, .string hi, .bool op] 23)) b1
    clear b1 HW C0
    go_wp2_with fail
    refine (P1.out _).mono ?_
    rintro e w2 ⟨rfl, b2⟩
    have b02 := bthen b01 b2
    replace q0 := cell_on q0 b2; replace q1 := cell_on q1 b2; replace q2 := cell_on q2 b2
    clear b2 b01
    go_wp2_with fail
    refine (P2.out _).mono ?_
    rintro e w3 ⟨rfl, b3⟩
    have b03 := bthen b02 b3
    clear b3 b02 q0 q1 q2
    go_wp2
    go_ret
    exact ⟨rfl, b03⟩
  · obtain ⟨t, ht⟩ : ∃ t : ByteArray, t = ⟨(txtL ⟨lo, hi, op⟩).toArray⟩ := ⟨_, rfl⟩
    have hp : parseL t.data.toList = some ⟨lo, hi, op⟩ := by rw [ht]; exact parse_txt hm
    have hs : t.size < 4294967281 := by
      rw [ht]
      obtain ⟨h1, h2⟩ := may_small hm
      show (txtL ⟨lo, hi, op⟩).toArray.size < _
      have x1 := Hx.hex_length lo.data.toList
      have x2 := Hx.hex_length hi.data.toList
      have y1 : lo.data.toList.length ≤ 16 := by rw [size_list]; exact h1
      have y2 : hi.data.toList.length ≤ 16 := by rw [size_list]; exact h2
      simp only [txtL, List.size_toArray, List.length_append, List.length_cons, List.length_nil]
      cases op <;> simp <;> omega
    have P1 := aside (fun w => print_at hm ht w)
    have P2 := aside (fun w => print02_at hm ht w)
    have P3 := aside (fun w hw => parse_at hp hs w hw)
    clear hm ht hp hs
    go_enter Try.func3, Try.ntmps3
    go_wp2_with fail
    refine (C0.out _ (HW.out.below (bnew w _))).mono ?_
    rintro e w1 ⟨rfl, b1⟩
    have k1 := keep (heap_new w (.cells #[.string lo, .string hi, .bool op] 23)) b1
    obtain ⟨q0, q1, q2⟩ := box3 b1
    have b01 := bthen (bnew w (.cells #[.string lo, .string hi, .bool op] 23)) b1
    have K := aside k1
    clear b1 C0 k1
    go_wp2_with fail
    refine (P1.out _).mono ?_
    rintro e w2 ⟨rfl, b2⟩
    have b02 := bthen b01 b2
    have k2 := keep K.out b2
    replace q0 := cell_on q0 b2; replace q1 := cell_on q1 b2; replace q2 := cell_on q2 b2
    clear b2 b01 K
    have K := aside k2
    clear k2
    go_wp2_with fail
    refine (P2.out _).mono ?_
    rintro e w3 ⟨rfl, b3⟩
    have b03 := bthen b02 b3
    have k3 := keep K.out b3
    clear b3 b02 q0 q1 q2 K
    have K := aside k3
    clear k3
    go_wp2_with fail
    refine (P3.out _ (HW.out.below b03)).mono ?_
    rintro e w4 ⟨rfl, b4⟩
    have b04 := bthen b03 b4
    have k4 := keep K.out b4
    have n4 := lies k4
    obtain ⟨⟨q0, q1, q2⟩, -⟩ := box_out k4
    clear b4 b03 K k4 HW
    go_wp2
    go_ret
    exact ⟨rfl, b04.alloc b04.size _⟩

end Go.Proofs.Ytidajlnaehhkkab
