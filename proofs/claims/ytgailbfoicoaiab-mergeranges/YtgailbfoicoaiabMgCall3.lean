/-
  Lacks, In and the document's Max, by the lists that they are handed and hand out.
-/
import Derived.Test.YtgailbfoicoaiabMgCall2
import Derived.Test.YtgailbfoicoaiabMgRmx
import Derived.Test.YtgailbfoicoaiabMgLack
import Derived.Test.YtgailbfoicoaiabMgInL
namespace Go.Proofs.Ytgailbfoicoaiab
open Go.RowKit
set_option linter.unusedVariables false

theorem lackL_ok {a b : Option Addr} {la ca lb cb : Nat} {Ma Mb : List En} {w : World} (ha : Lst w a la ca Ma) (hb : Lst w b lb cb Mb) (ma : MapL Ma) (mb : MapL Mb) (hl : Ma.length + Mb.length ≤ 2147483648) :
    Calls Try.prog 11 #[.slice a la ca, .slice b lb cb] w (Gives w (lkL Ma Mb)) := by
  have l1 := ha.len
  have l2 := hb.len
  obtain ⟨A, eA, rA⟩ := ha
  obtain ⟨B, eB, rB⟩ := hb
  refine (mlack_any a la ca A b lb cb B w eA eB (by omega)).mono ?_
  intro e w' h
  exact h.gives (ck2_maps rA rB ma mb) (by rw [rA, rB]; rfl) (lk_map ma mb).keys
theorem rmaxL_ok {a b : Option Addr} {la ca lb cb : Nat} {Ma Mb : List En} {w : World} (ha : Lst w a la ca Ma) (hb : Lst w b lb cb Mb) (ma : MapL Ma) (mb : MapL Mb) (hl : Ma.length + Mb.length ≤ 2147483648) :
    Calls Try.prog 13 #[.slice a la ca, .slice b lb cb] w (Gives w (mxL Ma Mb)) := by
  have l1 := ha.len
  have l2 := hb.len
  obtain ⟨A, eA, rA⟩ := ha
  obtain ⟨B, eB, rB⟩ := hb
  refine (rmax_any a la ca A b lb cb B w eA eB (by omega)).mono ?_
  intro e w' h
  exact h.gives (ck2_maps rA rB ma mb) (by rw [rA, rB]; rfl) (mx_map ma mb).keys
/-- What a call hands out: a list, and an error. -/
def GivesE (w : World) (q : Int) (l : List En) (e : Ending) (w' : World) : Prop := ∃ a n c, e = .returned (.tuple #[.slice a n c, .int .i64 q]) ∧ Lst w' a n c l ∧ Below w.heap.size w w'
theorem Says.givesE {w : World} {q : Int} {l : List En} {e : Ending} {w' : World} (h : Says w q l e w') (hk : KeysOk l) : GivesE w q l e w' := by
  obtain ⟨v, rfl, h1, h2⟩ := h
  obtain ⟨a, c, rfl, h3⟩ := Lst.of_row h1 hk
  exact ⟨a, _, c, rfl, h3, h2⟩
theorem minE {a : Option Addr} {n c : Nat} {l : List En} {w : World} (h : Lst w a n c l) (hn : n ≤ 2147483648) {lo hi : ByteArray} {op : Bool} {q : Int} (hq : ckRL l ⟨lo, hi, op⟩ = q) : Calls Try.prog 15 #[.slice a n c, .agg #[.string lo, .string hi, .bool op]] w (GivesE w q (outL q (inL ⟨lo, hi, op⟩ l))) := by
  have hk := h.keys
  refine (minL h hn hq).mono ?_
  intro e w' hh
  exact hh.givesE (keys_in hk q _)

end Go.Proofs.Ytgailbfoicoaiab
