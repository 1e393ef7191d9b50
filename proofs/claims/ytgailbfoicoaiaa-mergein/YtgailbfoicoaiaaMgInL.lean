/-
  In by the lists that it is handed and hands out.
-/
import Derived.Test.YtgailbfoicoaiaaMgIn
import Derived.Test.YtgailbfoicoaiaaMgKept
namespace Go.Proofs.Ytgailbfoicoaiaa
open Go.RowKit
set_option linter.unusedVariables false

/-- What is wrong first with a list and a range. -/
def ckRL (l : List En) (r : Rg) : Int := if ckL l ≠ 0 then ckL l else r.chk
theorem ckR_of {T : Nat → En} {n : Nat} {l : List En} (h : firstE T n = l) (r : Rg) : ckR T n r = ckRL l r := by
  unfold ckR ckRL
  rw [ck_list_of h]
theorem keys_in {l : List En} (h : KeysOk l) (q : Int) (r : Rg) : KeysOk (outL q (inL r l)) := by
  intro e he
  unfold outL at he
  split at he
  · exact h e (List.mem_filter.1 he).1
  · simp at he
theorem len_in (l : List En) (q : Int) (r : Rg) : (outL q (inL r l)).length ≤ l.length := by
  unfold outL
  split
  · exact inL_len r l
  · simp

theorem minL {a : Option Addr} {n c : Nat} {l : List En} {w : World} (h : Lst w a n c l) (hn : n ≤ 2147483648) {lo hi : ByteArray} {op : Bool} {q : Int} (hq : ckRL l ⟨lo, hi, op⟩ = q) : Calls Try.prog 29 #[.slice a n c, .agg #[.string lo, .string hi, .bool op]] w fun e w' => Says w q (outL q (inL ⟨lo, hi, op⟩ l)) e w' := by
  obtain ⟨T, hE, hT⟩ := h
  rw [← hq, ← ckR_of hT, ← hT]
  exact min_any a n c T lo hi op w hE hn
theorem rinL {a : Option Addr} {n c : Nat} {l : List En} {w : World} (h : Lst w a n c l) (hn : n ≤ 2147483648) {lo hi : ByteArray} {op : Bool} {q : Int} (hq : ckRL l ⟨lo, hi, op⟩ = q) : Calls Try.prog 30 #[.slice a n c, .agg #[.string lo, .string hi, .bool op]] w fun e w' => Says w q (outL q (inL ⟨lo, hi, op⟩ l)) e w' := by
  obtain ⟨T, hE, hT⟩ := h
  rw [← hq, ← ckR_of hT, ← hT]
  exact rin_any a n c T lo hi op w hE hn

end Go.Proofs.Ytgailbfoicoaiaa
