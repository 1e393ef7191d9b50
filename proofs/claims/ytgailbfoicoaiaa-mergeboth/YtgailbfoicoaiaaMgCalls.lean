/-
  The calls of merge, by the lists that they are handed and hand out.
-/
import Derived.Test.YtgailbfoicoaiaaMgMax
import Derived.Test.YtgailbfoicoaiaaMgAbv
import Derived.Test.YtgailbfoicoaiaaMgCln
import Derived.Test.YtgailbfoicoaiaaMgLaw
import Derived.Test.YtgailbfoicoaiaaMgBey
namespace Go.Proofs.Ytgailbfoicoaiaa
open Go.RowKit
set_option linter.unusedVariables false

/-- A list of entries in memory, by its entries. -/
def Lst (w : World) (a : Option Addr) (n c : Nat) (l : List En) : Prop := ∃ T, EntsIn w a n c T ∧ firstE T n = l
theorem Lst.keep {w w' : World} {a : Option Addr} {n c : Nat} {l : List En} (h : Lst w a n c l) (b : Below w.heap.size w w') : Lst w' a n c l := by
  obtain ⟨T, h1, h2⟩ := h
  exact ⟨T, h1.keep b, h2⟩
theorem Lst.len {w : World} {a : Option Addr} {n c : Nat} {l : List En} (h : Lst w a n c l) : l.length = n := by
  obtain ⟨T, h1, h2⟩ := h
  rw [← h2, firstE_len]
theorem Lst.of_row {w : World} {B n : Nat} {v : Value} {l : List En} (h : w.ownsRow B 29 5 v n (entCells l)) (hk : KeysOk l) : ∃ a c, v = .slice a n c ∧ Lst w a n c l := by
  have hl : l.length = n := by have := h.1; rw [entCells_length] at this; omega
  obtain ⟨a, c, rfl, hn, hm, hform⟩ := own_slice h
  refine ⟨a, c, rfl, nthE l, ?_, by rw [← hl]; exact firstE_nth l⟩
  rcases hform with ⟨rfl, rfl, rfl⟩ | ⟨g, rfl, hb⟩
  · exact ⟨Nat.le_refl _, Nat.zero_le _, .inl rfl⟩
  · have := ents_of_row h hk (o := 0) (m := n) (c := c) (by omega) hn hm (a := some ⟨g, 0, none⟩) (.inr (by simp))
    simpa using this
theorem MapL.keys {l : List En} (h : MapL l) : KeysOk l := fun e he => by have := (chk_pos (h.chk e he)).2.1; omega

/-- What a call hands out: a list, and no error. -/
def Gives (w : World) (l : List En) (e : Ending) (w' : World) : Prop := ∃ a n c, e = .returned (.tuple #[.slice a n c, .int .i64 0]) ∧ Lst w' a n c l ∧ Below w.heap.size w w'
theorem Says.gives {w : World} {q : Int} {l m : List En} {e : Ending} {w' : World} (h : Says w q (outL q l) e w') (h0 : q = 0) (hl : l = m) (hk : KeysOk m) : Gives w m e w' := by
  subst h0 hl
  rw [outL_ok _ rfl] at h
  obtain ⟨v, rfl, h1, h2⟩ := h
  obtain ⟨a, c, rfl, h3⟩ := Lst.of_row h1 hk
  exact ⟨a, _, c, rfl, h3, h2⟩

theorem beyond1 {a : Option Addr} {la ca : Nat} {Ma : List En} {w : World} (ha : Lst w a la ca Ma) :
    Calls Try.prog 9 #[.slice (some ⟨w.heap.size, 0, none⟩) 1 1] (w.alloc (.cells #[.slice a la ca] 22)) fun e w' => ∃ q, e = .returned (.bool q) ∧ (q = false → Ma.length ≤ 1073741824) ∧ Below w.heap.size w w' := by
  obtain ⟨Ta, ea, ra⟩ := ha
  have qa : Ma.length = la := by rw [← ra, firstE_len]
  have kb := heap_alloc_new w (.cells #[.slice a la ca] 22)
  have bb := bnew w (.cells #[.slice a la ca] 22)
  refine (beyond_any w.heap.size 1 1 (fun _ => a) (fun _ => la) (fun _ => ca) (fun _ => Ta) _ (by omega) ?_).mono ?_
  · intro k hk
    match k, hk with
    | 0, _ => exact ⟨by rw [cell_of_row _ _ 0 _ _ _ kb]; rfl, ea.keep bb⟩
  · rintro e w' ⟨q, rfl, hq, b1⟩
    refine ⟨q, rfl, fun h => ?_, bthen bb b1⟩
    have := hq h
    simp only [smL] at this
    omega

theorem beyond2 {a : Option Addr} {la ca : Nat} {Ma : List En} {b : Option Addr} {lb cb : Nat} {Mb : List En} {w : World} (ha : Lst w a la ca Ma) (hb : Lst w b lb cb Mb) :
    Calls Try.prog 9 #[.slice (some ⟨w.heap.size, 0, none⟩) 2 2] (w.alloc (.cells #[.slice a la ca, .slice b lb cb] 22)) fun e w' => ∃ q, e = .returned (.bool q) ∧ (q = false → Ma.length + Mb.length ≤ 1073741824) ∧ Below w.heap.size w w' := by
  obtain ⟨Ta, ea, ra⟩ := ha
  obtain ⟨Tb, eb, rb⟩ := hb
  have qa : Ma.length = la := by rw [← ra, firstE_len]
  have qb : Mb.length = lb := by rw [← rb, firstE_len]
  have kb := heap_alloc_new w (.cells #[.slice a la ca, .slice b lb cb] 22)
  have bb := bnew w (.cells #[.slice a la ca, .slice b lb cb] 22)
  refine (beyond_any w.heap.size 2 2 (fun k => match k with | 0 => a | _ => b) (fun k => match k with | 0 => la | _ => lb) (fun k => match k with | 0 => ca | _ => cb) (fun k => match k with | 0 => Ta | _ => Tb) _ (by omega) ?_).mono ?_
  · intro k hk
    match k, hk with
    | 0, _ => exact ⟨by rw [cell_of_row _ _ 0 _ _ _ kb]; rfl, ea.keep bb⟩
    | 1, _ => exact ⟨by rw [cell_of_row _ _ 1 _ _ _ kb]; rfl, eb.keep bb⟩
  · rintro e w' ⟨q, rfl, hq, b1⟩
    refine ⟨q, rfl, fun h => ?_, bthen bb b1⟩
    have := hq h
    simp only [smL] at this
    omega

theorem beyond3 {a : Option Addr} {la ca : Nat} {Ma : List En} {b : Option Addr} {lb cb : Nat} {Mb : List En} {c : Option Addr} {lc cc : Nat} {Mc : List En} {w : World} (ha : Lst w a la ca Ma) (hb : Lst w b lb cb Mb) (hc : Lst w c lc cc Mc) :
    Calls Try.prog 9 #[.slice (some ⟨w.heap.size, 0, none⟩) 3 3] (w.alloc (.cells #[.slice a la ca, .slice b lb cb, .slice c lc cc] 22)) fun e w' => ∃ q, e = .returned (.bool q) ∧ (q = false → Ma.length + Mb.length + Mc.length ≤ 1073741824) ∧ Below w.heap.size w w' := by
  obtain ⟨Ta, ea, ra⟩ := ha
  obtain ⟨Tb, eb, rb⟩ := hb
  obtain ⟨Tc, ec, rc⟩ := hc
  have qa : Ma.length = la := by rw [← ra, firstE_len]
  have qb : Mb.length = lb := by rw [← rb, firstE_len]
  have qc : Mc.length = lc := by rw [← rc, firstE_len]
  have kb := heap_alloc_new w (.cells #[.slice a la ca, .slice b lb cb, .slice c lc cc] 22)
  have bb := bnew w (.cells #[.slice a la ca, .slice b lb cb, .slice c lc cc] 22)
  refine (beyond_any w.heap.size 3 3 (fun k => match k with | 0 => a | 1 => b | _ => c) (fun k => match k with | 0 => la | 1 => lb | _ => lc) (fun k => match k with | 0 => ca | 1 => cb | _ => cc) (fun k => match k with | 0 => Ta | 1 => Tb | _ => Tc) _ (by omega) ?_).mono ?_
  · intro k hk
    match k, hk with
    | 0, _ => exact ⟨by rw [cell_of_row _ _ 0 _ _ _ kb]; rfl, ea.keep bb⟩
    | 1, _ => exact ⟨by rw [cell_of_row _ _ 1 _ _ _ kb]; rfl, eb.keep bb⟩
    | 2, _ => exact ⟨by rw [cell_of_row _ _ 2 _ _ _ kb]; rfl, ec.keep bb⟩
  · rintro e w' ⟨q, rfl, hq, b1⟩
    refine ⟨q, rfl, fun h => ?_, bthen bb b1⟩
    have := hq h
    simp only [smL] at this
    omega


theorem ck2_maps {A : Nat → En} {la : Nat} {B : Nat → En} {lb : Nat} {Ma Mb : List En} (ha : firstE A la = Ma) (hb : firstE B lb = Mb) (ma : MapL Ma) (mb : MapL Mb) : ck2 A la B lb = 0 := ck2_ok.2 ⟨by rw [ha]; exact ma, by rw [hb]; exact mb⟩

theorem maxL_ok {a b : Option Addr} {la ca lb cb : Nat} {Ma Mb : List En} {w : World} (ha : Lst w a la ca Ma) (hb : Lst w b lb cb Mb) (ma : MapL Ma) (mb : MapL Mb) (hl : Ma.length + Mb.length ≤ 2147483648) :
    Calls Try.prog 11 #[.slice a la ca, .slice b lb cb] w (Gives w (mxL Ma Mb)) := by
  have l1 := ha.len
  have l2 := hb.len
  obtain ⟨A, eA, rA⟩ := ha
  obtain ⟨B, eB, rB⟩ := hb
  refine (mmax_any a la ca A b lb cb B w eA eB (by omega)).mono ?_
  intro e w' h
  exact h.gives (ck2_maps rA rB ma mb) (by rw [rA, rB]; rfl) (mx_map ma mb).keys

theorem aboveL_ok {a b : Option Addr} {la ca lb cb : Nat} {Ma Mb : List En} {w : World} (ha : Lst w a la ca Ma) (hb : Lst w b lb cb Mb) (ma : MapL Ma) (mb : MapL Mb) (hl : Ma.length + Mb.length ≤ 2147483648) {q : Bool} (hq : abL Ma Mb = q) :
    Calls Try.prog 13 #[.slice a la ca, .slice b lb cb] w fun e w' => e = .returned (.tuple #[.bool q, .int .i64 0]) ∧ Below w.heap.size w w' := by
  have l1 := ha.len
  have l2 := hb.len
  obtain ⟨A, eA, rA⟩ := ha
  obtain ⟨B, eB, rB⟩ := hb
  refine (mabove_any a la ca A b lb cb B w eA eB (by omega)).mono ?_
  rintro e w' ⟨rfl, h⟩
  have h0 := ck2_maps rA rB ma mb
  refine ⟨?_, h⟩
  rw [h0, rA, rB]
  unfold aboveV
  rw [if_pos rfl, ← hq]
  rfl

theorem sameL {a b : Option Addr} {la ca lb cb : Nat} {Ma Mb : List En} {w : World} (ha : Lst w a la ca Ma) (hb : Lst w b lb cb Mb) (h : Ma = Mb) :
    Calls Try.prog 12 #[.slice a la ca, .slice b lb cb] w fun e w' => e = .returned (.bool true) ∧ Below w.heap.size w w' := by
  obtain ⟨A, eA, rA⟩ := ha
  obtain ⟨B, eB, rB⟩ := hb
  exact same_yes a la ca A b lb cb B w eA eB (by rw [rA, rB, h])

theorem cleanL_any {a b : Option Addr} {la ca lb cb : Nat} {Ma Mb : List En} {w : World} (ha : Lst w a la ca Ma) (hb : Lst w b lb cb Mb) (hl : Ma.length + Mb.length ≤ 2147483648) :
    Calls Try.prog 10 #[.slice a la ca, .slice b lb cb] w fun e w' => ∃ q, e = .returned (.bool q) ∧ (q = true → MapL Ma ∧ MapL Mb ∧ CleanL Ma Mb) ∧ Below w.heap.size w w' := by
  have l1 := ha.len
  have l2 := hb.len
  obtain ⟨A, eA, rA⟩ := ha
  obtain ⟨B, eB, rB⟩ := hb
  refine (clean_any a la ca A b lb cb B w eA eB (by omega)).mono ?_
  rintro e w' ⟨q, rfl, h1, h2⟩
  rw [rA, rB] at h1
  exact ⟨q, rfl, h1, h2⟩

end Go.Proofs.Ytgailbfoicoaiaa
