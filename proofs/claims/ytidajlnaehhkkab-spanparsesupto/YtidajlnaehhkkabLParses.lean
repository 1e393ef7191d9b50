/-
  The law SpanParses, walked: it returns true at every text shorter than 4294967281 bytes.
-/
import Derived.Test.YtidajlnaehhkkabLTexts
import Derived.Test.YtidajlnaehhkkabRParse
namespace Go.Proofs.Ytidajlnaehhkkab
open Go.RowKit

theorem parseV_at {s : ByteArray} {o : Option Rg} (h : parseL s.data.toList = o) (hs : s.size < 4294967281) (w : World) (hw : MaxAt w) :
    Calls Try.prog 9 #[.string s] w fun e w' => e = .returned (parseV o) ∧ Below w.heap.size w w' := by
  subst h; exact parse_any s w hw hs

theorem parse02V_at {s : ByteArray} {o : Option Rg} (h : parseL s.data.toList = o) (hs : s.size < 4294967281) (w : World) :
    Calls Try.prog 10 #[.string s] w fun e w' => e = .returned (parseV o) ∧ Below w.heap.size w w' := by
  subst h; exact parse02_any s w hs

set_option maxRecDepth 100000 in
set_option maxHeartbeats 3200000 in
theorem parses_walk (s : ByteArray) (w : World) (hw : MaxAt w) (hs : s.size < 4294967281) :
    Calls Try.prog 4 #[.string s] w fun e w' => e = .returned (.bool true) ∧ Below w.heap.size w w' := by
  have C0 := aside (fun w h => shown_any w h)
  have HW := aside hw
  clear hw
  cases hp : parseL s.data.toList with
  | none =>
    have P1 : Hid (∀ w, MaxAt w → Calls Try.prog 9 #[.string s] w fun e w' => e = .returned (.tuple #[.agg #[.string ⟨#[]⟩, .string ⟨#[]⟩, .bool false], .int .i64 23]) ∧ Below w.heap.size w w') := aside (fun w hw => parseV_at hp hs w hw)
    have P2 : Hid (∀ w, Calls Try.prog 10 #[.string s] w fun e w' => e = .returned (.tuple #[.agg #[.string ⟨#[]⟩, .string ⟨#[]⟩, .bool false], .int .i64 23]) ∧ Below w.heap.size w w') := aside (fun w => parse02V_at hp hs w)
    clear hp hs
    go_enter Try.func4, Try.ntmps4
    go_wp2_with fail
    refine (C0.out _ HW.out).mono ?_
    rintro e w1 ⟨rfl, b1⟩
    clear C0
    go_wp2_with fail
    refine (P1.out _ (HW.out.below b1)).mono ?_
    rintro e w2 ⟨rfl, b2⟩
    have b02 := bthen b1 b2
    have b03 := bthen b02 (bnew w2 (.cells #[.string ⟨#[]⟩, .string ⟨#[]⟩, .bool false] 23))
    have k0 := aside (heap_new w2 (.cells #[.string ⟨#[]⟩, .string ⟨#[]⟩, .bool false] 23))
    clear b1 b2 b02 HW
    go_wp2_with fail
    refine (P2.out _).mono ?_
    rintro e w3 ⟨rfl, b3⟩
    have b04 := bthen b03 b3
    have k3 := keep k0.out b3
    have n3 := lies k3
    obtain ⟨⟨q0, q1, q2⟩, -⟩ := box_out k3
    clear b3 b03 k0 k3
    go_wp2
    go_ret
    exact ⟨rfl, b04.alloc b04.size _⟩
  | some r =>
    obtain ⟨lo, hi, op⟩ := r
    obtain ⟨hm, ht⟩ := txt_parse hp
    have hts : s = ⟨(txtL ⟨lo, hi, op⟩).toArray⟩ := by rw [ht]
    have P1 : Hid (∀ w, MaxAt w → Calls Try.prog 9 #[.string s] w fun e w' => e = .returned (.tuple #[.agg #[.string lo, .string hi, .bool op], .int .i64 0]) ∧ Below w.heap.size w w') := aside (fun w hw => parseV_at hp hs w hw)
    have P2 : Hid (∀ w, Calls Try.prog 10 #[.string s] w fun e w' => e = .returned (.tuple #[.agg #[.string lo, .string hi, .bool op], .int .i64 0]) ∧ Below w.heap.size w w') := aside (fun w => parse02V_at hp hs w)
    have P3 := aside (fun w => print_at hm hts w)
    clear hp hs hm ht hts
    go_enter Try.func4, Try.ntmps4
    go_wp2_with fail
    refine (C0.out _ HW.out).mono ?_
    rintro e w1 ⟨rfl, b1⟩
    clear C0
    go_wp2_with fail
    refine (P1.out _ (HW.out.below b1)).mono ?_
    rintro e w2 ⟨rfl, b2⟩
    have b02 := bthen b1 b2
    have b03 := bthen b02 (bnew w2 (.cells #[.string lo, .string hi, .bool op] 23))
    have k0 := aside (heap_new w2 (.cells #[.string lo, .string hi, .bool op] 23))
    clear b1 b2 b02 HW
    go_wp2_with fail
    refine (P2.out _).mono ?_
    rintro e w3 ⟨rfl, b3⟩
    have b04 := bthen b03 b3
    have k3 := keep k0.out b3
    have n3 := lies k3
    have k4 := aside (keepA (p := .cells #[.string lo, .string hi, .bool op] 23) k3)
    have b05 := bthen b04 (bnew w3 (.cells #[.string lo, .string hi, .bool op] 23))
    obtain ⟨⟨q0, q1, q2⟩, -⟩ := box_out k3
    clear b3 b03 b04 k0 k3
    go_wp2_with fail
    refine (P3.out _).mono ?_
    rintro e w4 ⟨rfl, b4⟩
    have b06 := bthen b05 b4
    clear b4 b05 k4 q0 q1 q2 n3
    go_wp2
    go_ret
    exact ⟨rfl, b06⟩

end Go.Proofs.Ytidajlnaehhkkab
