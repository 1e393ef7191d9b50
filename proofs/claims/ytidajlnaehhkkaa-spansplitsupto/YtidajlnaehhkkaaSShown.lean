/-
  shown: the document's examples come out true.
-/
import Derived.Test.YtidajlnaehhkkaaSParse
import Derived.Test.YtidajlnaehhkkaaSSplit
import Derived.Test.YtidajlnaehhkkaaSWith
import Derived.Deep.RegionHeld3
namespace Go.Proofs.Ytidajlnaehhkkaa
open Go.RowKit

theorem sh_meet : Rg.meetV (Rg.meet ⟨⟨#[97]⟩, ⟨#[109]⟩, false⟩ ⟨⟨#[99]⟩, ⟨#[]⟩, true⟩) = .tuple #[.agg #[.string ⟨#[99]⟩, .string ⟨#[109]⟩, .bool false], .bool true] := by
  have e1 : (⟨#[97]⟩ : ByteArray).toList = [97] := ByteArray.toList_mk [97]
  have e2 : (⟨#[109]⟩ : ByteArray).toList = [109] := ByteArray.toList_mk [109]
  have e3 : (⟨#[99]⟩ : ByteArray).toList = [99] := ByteArray.toList_mk [99]
  have e4 : (⟨#[]⟩ : ByteArray).toList = [] := ByteArray.toList_mk []
  have s1 : (⟨#[97]⟩ : ByteArray).size = 1 := rfl
  have s2 : (⟨#[109]⟩ : ByteArray).size = 1 := rfl
  have s3 : (⟨#[99]⟩ : ByteArray).size = 1 := rfl
  have s4 : (⟨#[]⟩ : ByteArray).size = 0 := rfl
  simp [Rg.meet, Rg.emp, Rg.both, Rg.mx, Rg.may, Rg.chk, Rg.meetV, Op.bytesLess, e1, e2, e3, e4, s1, s2, s3, s4]

def shS : Nat → ByteArray
  | 0 => ⟨#[102]⟩
  | _ => ⟨#[109]⟩

theorem sh_may : Rg.may ⟨⟨#[]⟩, ⟨#[]⟩, true⟩ = true := by
  have e4 : (⟨#[]⟩ : ByteArray).toList = [] := ByteArray.toList_mk []
  have s4 : (⟨#[]⟩ : ByteArray).size = 0 := rfl
  simp [Rg.may, Rg.chk, e4, s4]

theorem sh_may2 : Rg.may ⟨⟨#[97, 98]⟩, ⟨#[98]⟩, false⟩ = true := by
  have e1 : (⟨#[97, 98]⟩ : ByteArray).toList = [97, 98] := ByteArray.toList_mk [97, 98]
  have e2 : (⟨#[98]⟩ : ByteArray).toList = [98] := ByteArray.toList_mk [98]
  have s1 : (⟨#[97, 98]⟩ : ByteArray).size = 2 := rfl
  have s2 : (⟨#[98]⟩ : ByteArray).size = 1 := rfl
  simp [Rg.may, Rg.chk, e1, e2, s1, s2, Op.bytesLess]

theorem sh_rises : rises (piece ⟨⟨#[]⟩, ⟨#[]⟩, true⟩ shS 2) (2 + 1) = true := by
  have e1 : (⟨#[102]⟩ : ByteArray).toList = [102] := ByteArray.toList_mk [102]
  have e2 : (⟨#[109]⟩ : ByteArray).toList = [109] := ByteArray.toList_mk [109]
  have e4 : (⟨#[]⟩ : ByteArray).toList = [] := ByteArray.toList_mk []
  have s1 : (⟨#[102]⟩ : ByteArray).size = 1 := rfl
  have s2 : (⟨#[109]⟩ : ByteArray).size = 1 := rfl
  have s4 : (⟨#[]⟩ : ByteArray).size = 0 := rfl
  simp [rises, anyE, upto, List.range_succ, piece, cutLo, shS, okP, Rg.emp, Rg.may, Rg.chk, Op.bytesLess, e1, e2, e4, s1, s2, s4]

theorem sh_txt : (⟨(txtL ⟨⟨#[97, 98]⟩, ⟨#[98]⟩, false⟩).toArray⟩ : ByteArray) = ⟨#[54, 49, 54, 50, 46, 46, 54, 50]⟩ := by decide +kernel

theorem sh_parse (w : World) (hw : MaxAt w) : Calls Try.prog 29 #[.string ⟨#[46, 46, 42]⟩] w fun e w' => e = .returned (.tuple #[.agg #[.string ⟨#[]⟩, .string ⟨#[]⟩, .bool true], .int .i64 0]) ∧ Below w.heap.size w w' := by
  have h := parse_core ⟨#[46, 46, 42]⟩ ⟨#[]⟩ ⟨#[42]⟩ ⟨#[]⟩ ⟨#[]⟩ ⟨#[]⟩ true true true 0 0 w hw (by decide) (by decide +kernel) (by decide +kernel) (by decide +kernel)
    (by rw [show (⟨#[42]⟩ : ByteArray).toList = [42] from ByteArray.toList_mk [42]]; rfl) rfl rfl rfl (by decide) (by decide) sh_may (.inl rfl) (.inl rfl)
  exact h

theorem sh_split (w : World) (g : Nat) (hb : w.heap[g]? = some (.cells #[.string ⟨#[102]⟩, .string ⟨#[109]⟩] 9 (0, 0))) :
    Calls Try.prog 20 #[.agg #[.string ⟨#[]⟩, .string ⟨#[]⟩, .bool true], .slice (some ⟨g, 0, none⟩) 2 2] w fun e w' =>
      ∃ g cp, e = .returned (.tuple #[.slice (some ⟨g, 0, none⟩) 3 cp, .int .i64 0]) ∧ Hid (RgsIn w'.heap.size w' (some ⟨g, 0, none⟩) 3 cp (piece ⟨⟨#[]⟩, ⟨#[]⟩, true⟩ shS 2)) ∧ Below w.heap.size w w' := by
  have hs : StrsIn w.heap.size w (some ⟨g, 0, none⟩) 2 2 shS := by
    refine ⟨Nat.le_refl _, by omega, .inr ⟨g, 0, rfl, lies hb, fun i hi => ?_⟩⟩
    match i, hi with
    | 0, _ => simp [World.cell?, hb, shS]
    | 1, _ => simp [World.cell?, hb, shS]
  refine (split_yes ⟨#[]⟩ ⟨#[]⟩ true _ 2 2 shS w sh_may hs (by omega) (by omega) sh_rises).mono ?_
  rintro e w' ⟨g, cp, rfl, hown, hg, hB⟩
  exact ⟨g, cp, rfl, rgs_of_row hown hg (by omega), hB⟩

theorem sh_cells {w : World} {g cp : Nat} (h : RgsIn w.heap.size w (some ⟨g, 0, none⟩) 3 cp (piece ⟨⟨#[]⟩, ⟨#[]⟩, true⟩ shS 2)) :
    (w.cell? ⟨g, 3, none⟩ = some (.string ⟨#[102]⟩) ∧ w.cell? ⟨g, 4, none⟩ = some (.string ⟨#[109]⟩) ∧ w.cell? ⟨g, 5, none⟩ = some (.bool false)) ∧ (w.cell? ⟨g, 6, none⟩ = some (.string ⟨#[109]⟩) ∧ w.cell? ⟨g, 7, none⟩ = some (.string ⟨#[]⟩) ∧ w.cell? ⟨g, 8, none⟩ = some (.bool true)) := by
  obtain ⟨-, -, h | ⟨b, off, e, -, hc⟩⟩ := h
  · omega
  · simp only [Option.some.injEq, Addr.mk.injEq, and_true] at e
    obtain ⟨rfl, rfl⟩ := e
    exact ⟨by simpa [piece, cutLo, shS] using hc 1 (by omega), by simpa [piece, cutLo, shS] using hc 2 (by omega)⟩

theorem holds_at {lo hi k : ByteArray} {op q : Bool} (h : Rg.has ⟨lo, hi, op⟩ k = q) (w : World) :
    Calls Try.prog 14 #[.agg #[.string lo, .string hi, .bool op], .string k] w fun e w' => e = .returned (.bool q) ∧ Below w.heap.size w w' := by
  subst h; exact holds_any lo hi op k w

theorem sh_has : Rg.has ⟨⟨#[]⟩, ⟨#[]⟩, true⟩ ⟨#[]⟩ = true := by
  have e4 : (⟨#[]⟩ : ByteArray).toList = [] := ByteArray.toList_mk []
  have s4 : (⟨#[]⟩ : ByteArray).size = 0 := rfl
  simp [Rg.has, Rg.may, Rg.chk, e4, s4, Op.bytesLess]

theorem sh_print (w : World) : Calls Try.prog 28 #[.agg #[.string ⟨#[97, 98]⟩, .string ⟨#[98]⟩, .bool false]] w fun e w' => e = .returned (.tuple #[.string ⟨#[54, 49, 54, 50, 46, 46, 54, 50]⟩, .int .i64 0]) ∧ Below w.heap.size w w' := by
  rw [← sh_txt]; exact print_any _ _ _ w sh_may2

theorem cell_on {W W' : World} {p : Addr} {v : Value} (h : W.cell? p = some v) (b : Below W.heap.size W W') : W'.cell? p = some v :=
  (b.cell (World.block_lt_of_cell? W _ h)).trans h

theorem sh_keep {w W W' : World} {i g r : Nat} (h : Below w.heap.size w W ∧ W.cell? ⟨i, 0, none⟩ = some (.string ⟨#[99]⟩) ∧ W.cell? ⟨i, 1, none⟩ = some (.string ⟨#[109]⟩) ∧ W.cell? ⟨i, 2, none⟩ = some (.bool false) ∧ W.cell? ⟨g, 3, none⟩ = some (.string ⟨#[102]⟩) ∧ W.cell? ⟨g, 4, none⟩ = some (.string ⟨#[109]⟩) ∧ W.cell? ⟨g, 5, none⟩ = some (.bool false) ∧ W.cell? ⟨g, 6, none⟩ = some (.string ⟨#[109]⟩) ∧ W.cell? ⟨g, 7, none⟩ = some (.string ⟨#[]⟩) ∧ W.cell? ⟨g, 8, none⟩ = some (.bool true) ∧ W.cell? ⟨r, 0, none⟩ = some (.string ⟨#[]⟩) ∧ W.cell? ⟨r, 1, none⟩ = some (.string ⟨#[]⟩) ∧ W.cell? ⟨r, 2, none⟩ = some (.bool true)) (b : Below W.heap.size W W') :
    Below w.heap.size w W' ∧ W'.cell? ⟨i, 0, none⟩ = some (.string ⟨#[99]⟩) ∧ W'.cell? ⟨i, 1, none⟩ = some (.string ⟨#[109]⟩) ∧ W'.cell? ⟨i, 2, none⟩ = some (.bool false) ∧ W'.cell? ⟨g, 3, none⟩ = some (.string ⟨#[102]⟩) ∧ W'.cell? ⟨g, 4, none⟩ = some (.string ⟨#[109]⟩) ∧ W'.cell? ⟨g, 5, none⟩ = some (.bool false) ∧ W'.cell? ⟨g, 6, none⟩ = some (.string ⟨#[109]⟩) ∧ W'.cell? ⟨g, 7, none⟩ = some (.string ⟨#[]⟩) ∧ W'.cell? ⟨g, 8, none⟩ = some (.bool true) ∧ W'.cell? ⟨r, 0, none⟩ = some (.string ⟨#[]⟩) ∧ W'.cell? ⟨r, 1, none⟩ = some (.string ⟨#[]⟩) ∧ W'.cell? ⟨r, 2, none⟩ = some (.bool true) := by
  obtain ⟨h0, h1, h2, h3, h4, h5, h6, h7, h8, h9, h10, h11, h12⟩ := h
  exact ⟨bthen h0 b, cell_on h1 b, cell_on h2 b, cell_on h3 b, cell_on h4 b, cell_on h5 b, cell_on h6 b, cell_on h7 b, cell_on h8 b, cell_on h9 b, cell_on h10 b, cell_on h11 b, cell_on h12 b⟩

set_option maxRecDepth 100000 in
set_option maxHeartbeats 3200000 in
theorem shown_any (w : World) (hw : MaxAt w) : Calls Try.prog 9 #[] w fun e w' => e = .returned (.bool true) ∧ Below w.heap.size w w' := by
  have HW := aside hw
  clear hw
  go_enter Try.func9, Try.ntmps9
  go_wp2_with fail
  refine (meet_at sh_meet _).mono ?_
  rintro e w1 ⟨rfl, b1⟩
  have hS := heap_new (w1.alloc (.cells #[.string ⟨#[99]⟩, .string ⟨#[109]⟩, .bool false] 23)) (.cells #[.string ⟨#[102]⟩, .string ⟨#[109]⟩] 9)
  rw [World.size_alloc] at hS
  go_wp2_with fail
  refine (sh_split _ _ hS).mono ?_
  rintro e w2 ⟨g, cp, rfl, hR2, b2⟩
  have kA := keep (keepA (p := .cells #[.string ⟨#[102]⟩, .string ⟨#[109]⟩] 9) (heap_new w1 (.cells #[.string ⟨#[99]⟩, .string ⟨#[109]⟩, .bool false] 23))) b2
  have b02 := bthen b1 (bthen (bthen (bnew w1 (.cells #[.string ⟨#[99]⟩, .string ⟨#[109]⟩, .bool false] 23)) (bnew _ (.cells #[.string ⟨#[102]⟩, .string ⟨#[109]⟩] 9))) b2)
  clear hS b1 b2
  go_wp2_with fail
  refine (sh_print _).mono ?_
  rintro e w3 ⟨rfl, b3⟩
  have kA3 := keep kA b3
  have hR3 := aside (hR2.out.up b3 b3.size)
  have b03 := bthen b02 b3
  clear kA hR2 b02 b3
  go_wp2_with fail
  refine (sh_parse _ (HW.out.below b03)).mono ?_
  rintro e w4 ⟨rfl, b4⟩
  have kA4 := keep kA3 b4
  have hR4 := hR3.out.up b4 b4.size
  have b04 := bthen b03 b4
  have n1 := lies kA4
  have n2 : g < w4.heap.size := by
    obtain ⟨-, -, h | ⟨b, off, e, hb, -⟩⟩ := hR4
    · omega
    · simp only [Option.some.injEq, Addr.mk.injEq, and_true] at e
      omega
  obtain ⟨⟨a0, a1, a2⟩, -⟩ := box_out kA4
  obtain ⟨⟨c0, c1, c2⟩, d0, d1, d2⟩ := sh_cells hR4
  have b05 := bthen b04 (bnew w4 (.cells #[.string ⟨#[]⟩, .string ⟨#[]⟩, .bool true] 23))
  have X := (box_out (heap_new w4 (.cells #[.string ⟨#[]⟩, .string ⟨#[]⟩, .bool true] 23))).1
  have bN := bnew w4 (.cells #[.string ⟨#[]⟩, .string ⟨#[]⟩, .bool true] 23)
  have S0 : Hid (Below w.heap.size w (w4.alloc (.cells #[.string ⟨#[]⟩, .string ⟨#[]⟩, .bool true] 23)).drew ∧ (w4.alloc (.cells #[.string ⟨#[]⟩, .string ⟨#[]⟩, .bool true] 23)).drew.cell? ⟨w1.heap.size, 0, none⟩ = some (.string ⟨#[99]⟩) ∧ (w4.alloc (.cells #[.string ⟨#[]⟩, .string ⟨#[]⟩, .bool true] 23)).drew.cell? ⟨w1.heap.size, 1, none⟩ = some (.string ⟨#[109]⟩) ∧ (w4.alloc (.cells #[.string ⟨#[]⟩, .string ⟨#[]⟩, .bool true] 23)).drew.cell? ⟨w1.heap.size, 2, none⟩ = some (.bool false) ∧ (w4.alloc (.cells #[.string ⟨#[]⟩, .string ⟨#[]⟩, .bool true] 23)).drew.cell? ⟨g, 3, none⟩ = some (.string ⟨#[102]⟩) ∧ (w4.alloc (.cells #[.string ⟨#[]⟩, .string ⟨#[]⟩, .bool true] 23)).drew.cell? ⟨g, 4, none⟩ = some (.string ⟨#[109]⟩) ∧ (w4.alloc (.cells #[.string ⟨#[]⟩, .string ⟨#[]⟩, .bool true] 23)).drew.cell? ⟨g, 5, none⟩ = some (.bool false) ∧ (w4.alloc (.cells #[.string ⟨#[]⟩, .string ⟨#[]⟩, .bool true] 23)).drew.cell? ⟨g, 6, none⟩ = some (.string ⟨#[109]⟩) ∧ (w4.alloc (.cells #[.string ⟨#[]⟩, .string ⟨#[]⟩, .bool true] 23)).drew.cell? ⟨g, 7, none⟩ = some (.string ⟨#[]⟩) ∧ (w4.alloc (.cells #[.string ⟨#[]⟩, .string ⟨#[]⟩, .bool true] 23)).drew.cell? ⟨g, 8, none⟩ = some (.bool true) ∧ (w4.alloc (.cells #[.string ⟨#[]⟩, .string ⟨#[]⟩, .bool true] 23)).drew.cell? ⟨w4.heap.size, 0, none⟩ = some (.string ⟨#[]⟩) ∧ (w4.alloc (.cells #[.string ⟨#[]⟩, .string ⟨#[]⟩, .bool true] 23)).drew.cell? ⟨w4.heap.size, 1, none⟩ = some (.string ⟨#[]⟩) ∧ (w4.alloc (.cells #[.string ⟨#[]⟩, .string ⟨#[]⟩, .bool true] 23)).drew.cell? ⟨w4.heap.size, 2, none⟩ = some (.bool true)) :=
    ⟨b05.drew, cell_on a0 bN.drew, cell_on a1 bN.drew, cell_on a2 bN.drew, cell_on c0 bN.drew, cell_on c1 bN.drew, cell_on c2 bN.drew, cell_on d0 bN.drew, cell_on d1 bN.drew, cell_on d2 bN.drew, X⟩
  clear kA3 hR3 b03 b4 kA4 hR4 b04 X bN a0 a1 a2 c0 c1 c2 d0 d1 d2
  go_wp2_with fail
  generalize w4.alloc (.cells #[.string ⟨#[]⟩, .string ⟨#[]⟩, .bool true] 23) = W0 at *
  go_region_held3 (fun W => Below w.heap.size w W ∧ W.cell? ⟨w1.heap.size, 0, none⟩ = some (.string ⟨#[99]⟩) ∧ W.cell? ⟨w1.heap.size, 1, none⟩ = some (.string ⟨#[109]⟩) ∧ W.cell? ⟨w1.heap.size, 2, none⟩ = some (.bool false) ∧ W.cell? ⟨g, 3, none⟩ = some (.string ⟨#[102]⟩) ∧ W.cell? ⟨g, 4, none⟩ = some (.string ⟨#[109]⟩) ∧ W.cell? ⟨g, 5, none⟩ = some (.bool false) ∧ W.cell? ⟨g, 6, none⟩ = some (.string ⟨#[109]⟩) ∧ W.cell? ⟨g, 7, none⟩ = some (.string ⟨#[]⟩) ∧ W.cell? ⟨g, 8, none⟩ = some (.bool true) ∧ W.cell? ⟨w4.heap.size, 0, none⟩ = some (.string ⟨#[]⟩) ∧ W.cell? ⟨w4.heap.size, 1, none⟩ = some (.string ⟨#[]⟩) ∧ W.cell? ⟨w4.heap.size, 2, none⟩ = some (.bool true)) (first | (exact sh_keep (by assumption) bb) | (exact S0.out) | assumption | go_keep)
    (first | (go_at_call 30; refine (whole_any _).mono ?_; rintro e w5 ⟨rfl, bb⟩) | (go_at_call 14; refine (holds_at sh_has _).mono ?_; rintro e w6 ⟨rfl, bb⟩))
  all_goals
    go_wp2
    go_ret
    rename_i hh
    exact ⟨rfl, hh.1⟩

end Go.Proofs.Ytidajlnaehhkkaa
