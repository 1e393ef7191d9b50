/-
  The law SpanChecks, walked: it returns true at every range and every text.
-/
import Derived.Test.YtidajlnaehhkkaaSShown
namespace Go.Proofs.Ytidajlnaehhkkaa
open Go.RowKit

theorem one_keep {w W W' : World} {i : Nat} {a b c : Value} (h : Below w.heap.size w W ∧ W.cell? ⟨i, 0, none⟩ = some a ∧ W.cell? ⟨i, 1, none⟩ = some b ∧ W.cell? ⟨i, 2, none⟩ = some c) (bb : Below W.heap.size W W') :
    Below w.heap.size w W' ∧ W'.cell? ⟨i, 0, none⟩ = some a ∧ W'.cell? ⟨i, 1, none⟩ = some b ∧ W'.cell? ⟨i, 2, none⟩ = some c :=
  ⟨bthen h.1 bb, cell_on h.2.1 bb, cell_on h.2.2.1 bb, cell_on h.2.2.2 bb⟩

theorem emptyRef_at' {lo hi : ByteArray} {op m : Bool} (h : Rg.emp ⟨lo, hi, op⟩ = m) (w : World) :
    Calls Try.prog 13 #[.agg #[.string lo, .string hi, .bool op]] w fun e w' => e = .returned (.bool m) ∧ Below w.heap.size w w' := by
  subst h; exact emptyRef_any lo hi op w

theorem holdsRef_at {lo hi k : ByteArray} {op q : Bool} (h : Rg.has ⟨lo, hi, op⟩ k = q) (w : World) :
    Calls Try.prog 15 #[.agg #[.string lo, .string hi, .bool op], .string k] w fun e w' => e = .returned (.bool q) ∧ Below w.heap.size w w' := by
  subst h; exact holdsRef_any lo hi op k w

set_option maxRecDepth 100000 in
set_option maxHeartbeats 3200000 in
theorem checks_walk (lo hi : ByteArray) (op : Bool) (k : ByteArray) (w : World) (hw : MaxAt w) :
    Calls Try.prog 3 #[.agg #[.string lo, .string hi, .bool op], .string k] w fun e w' => e = .returned (.bool true) ∧ Below w.heap.size w w' := by
  have hW : Hid (MaxAt (w.alloc (.cells #[.string lo, .string hi, .bool op] 23)).drew) := hw.below (bnew w _).drew
  obtain ⟨c, hc⟩ : ∃ c, Rg.chk ⟨lo, hi, op⟩ = c := ⟨_, rfl⟩
  obtain ⟨m, hm⟩ : ∃ m, Rg.emp ⟨lo, hi, op⟩ = m := ⟨_, rfl⟩
  obtain ⟨q, hq⟩ : ∃ q, Rg.has ⟨lo, hi, op⟩ k = q := ⟨_, rfl⟩
  have C1 := aside (fun w => check_at hc w)
  have C2 := aside (fun w => checkRef_at hc w)
  have C3 := aside (fun w => empty_at hm w)
  have C4 := aside (fun w => emptyRef_at' hm w)
  have C5 := aside (fun w => holds_at hq w)
  have C6 := aside (fun w => holdsRef_at hq w)
  have C0 := aside (fun w h => shown_any w h)
  have X := (box_out (heap_new w (.cells #[.string lo, .string hi, .bool op] 23))).1
  have S0 : Hid (Below w.heap.size w (w.alloc (.cells #[.string lo, .string hi, .bool op] 23)).drew ∧ (w.alloc (.cells #[.string lo, .string hi, .bool op] 23)).drew.cell? ⟨w.heap.size, 0, none⟩ = some (.string lo) ∧ (w.alloc (.cells #[.string lo, .string hi, .bool op] 23)).drew.cell? ⟨w.heap.size, 1, none⟩ = some (.string hi) ∧ (w.alloc (.cells #[.string lo, .string hi, .bool op] 23)).drew.cell? ⟨w.heap.size, 2, none⟩ = some (.bool op)) := ⟨(bnew w _).drew, X⟩
  clear hc hm hq hw X
  go_enter Try.func3, Try.ntmps3
  go_wp2_with fail
  generalize w.alloc (.cells #[.string lo, .string hi, .bool op] 23) = W0 at *
  go_region_held3 (fun W => Below w.heap.size w W ∧ W.cell? ⟨w.heap.size, 0, none⟩ = some (.string lo) ∧ W.cell? ⟨w.heap.size, 1, none⟩ = some (.string hi) ∧ W.cell? ⟨w.heap.size, 2, none⟩ = some (.bool op)) (first | (exact one_keep (by assumption) bb) | (exact S0.out) | assumption | go_keep)
    (first | (go_at_call 9; refine (C0.out _ hW.out).mono ?_; rintro e w1 ⟨rfl, bb⟩) | (go_at_call 10; refine (C1.out _).mono ?_; rintro e w1 ⟨rfl, bb⟩) | (go_at_call 11; refine (C2.out _).mono ?_; rintro e w1 ⟨rfl, bb⟩) | (go_at_call 12; refine (C3.out _).mono ?_; rintro e w1 ⟨rfl, bb⟩) | (go_at_call 13; refine (C4.out _).mono ?_; rintro e w1 ⟨rfl, bb⟩) | (go_at_call 14; refine (C5.out _).mono ?_; rintro e w1 ⟨rfl, bb⟩) | (go_at_call 15; refine (C6.out _).mono ?_; rintro e w1 ⟨rfl, bb⟩))
  all_goals
    go_wp2
    go_ret
    rename_i hh
    exact ⟨rfl, hh.1⟩

end Go.Proofs.Ytidajlnaehhkkaa
