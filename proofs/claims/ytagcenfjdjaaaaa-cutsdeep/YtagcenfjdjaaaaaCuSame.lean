/-
  The bound of the document, and texts compared.
-/
import Derived.Test.YtagcenfjdjaaaaaCuBord
namespace Go.Proofs.Ytagcenfjdjaaaaa
open Go.RowKit
set_option linter.unusedVariables false

/-- What beyond answers: where it is false, there are not too many. -/
def ByOut (e : Ending) (len : Nat) : Prop := ∃ b : Bool, e = .returned (.bool b) ∧ (b = false → len ≤ 1073741824)

set_option maxHeartbeats 6400000 in
set_option maxRecDepth 100000 in
theorem beyond_any (a : Option Addr) (len cap : Nat) (S : Nat → ByteArray) (lo hi : ByteArray) (op : Bool) (w : World) (h : StrsIn w.heap.size w a len cap S) :
    Calls Try.prog 9 #[.slice a len cap, .agg #[.string lo, .string hi, .bool op]] w fun e w' => ByOut e len ∧ Below w.heap.size w w' := by
  have hlc := h.1
  have hl16 := h.2.1
  have HH := aside h.2.2
  clear h
  by_cases h1 : 1073741824 < lo.size
  · by_cases h2 : 1073741824 < hi.size
    ·
      have hwa : IntKind.i64.wrap ((len : Int) + 1073741824) = (len : Int) + 1073741824 := by rw [IntKind.wrap_i64]; omega
      have hwb : IntKind.i64.wrap ((len : Int) + 1073741824 + 1073741824) = (len : Int) + 1073741824 + 1073741824 := by rw [IntKind.wrap_i64]; omega
      go_enter Try.func9, Try.ntmps9
      go_wp2
      go_loopw [5, 6] (fun v i wr => ∃ (k : Nat) (x : Int), k ≤ len ∧ v = .int .i64 x ∧ i = .int .i64 (k : Int) ∧ (len : Int) ≤ x ∧ x ≤ 35184372088832 ∧ Below w.heap.size w wr) (fun _ i _ => len - (intOf i).toNat)
      case atStart => exact ⟨0, _, Nat.zero_le _, rfl, rfl, by omega, by omega, bnew w _⟩
      case round =>
        obtain ⟨k, x, hk, rfl, rfl, hx1, hx2, hnx⟩ := hrel
        have HX := aside hnx
        by_cases hlt : (k : Int) < (len : Int)
        · by_cases hle : x ≤ 1073741824
          · rcases HH.out with h0 | ⟨b, off, rfl, hb, hc⟩
            · omega
            have c0 := (hnx.cell (p := ⟨b, off + k, none⟩) hb).trans (hc k (by omega))
            have hk0 : (0 : Int) ≤ (k : Int) := by omega
            have hqw : IntKind.i64.wrap ((k : Int) + 1) = (k : Int) + 1 := by rw [IntKind.wrap_i64]; omega
            clear hc hnx
            by_cases hs : 1073741824 < (S k).size
            · have hw1 : IntKind.i64.wrap (x + 1073741824) = x + 1073741824 := by rw [IntKind.wrap_i64]; omega
              go_wp2
              go_roundw
              case rel => exact ⟨k + 1, _, by omega, rfl, by go_num, by omega, by omega, HX.out⟩
              case measure => simp [intOf]; omega
            · have hw1 : IntKind.i64.wrap (x + ((S k).size : Int)) = x + ((S k).size : Int) := by rw [IntKind.wrap_i64]; omega
              go_wp2
              go_roundw
              case rel => exact ⟨k + 1, _, by omega, rfl, by go_num, by omega, by omega, HX.out⟩
              case measure => simp [intOf]; omega
          · clear hnx
            go_wp2
            go_ret
            exact ⟨⟨true, by first | rfl | (show Ending.returned (.bool (decide ((1073741824 : Int) < x))) = _; rw [decide_eq_true (by omega)]), fun e => by cases e⟩, HX.out⟩
        · clear hnx
          by_cases hle : x ≤ 1073741824
          · go_wp2
            go_ret
            exact ⟨⟨false, by first | rfl | (show Ending.returned (.bool (decide ((1073741824 : Int) < x))) = _; rw [decide_eq_false (by omega)]), fun _ => by omega⟩, HX.out⟩
          · go_wp2
            go_ret
            exact ⟨⟨true, by first | rfl | (show Ending.returned (.bool (decide ((1073741824 : Int) < x))) = _; rw [decide_eq_true (by omega)]), fun e => by cases e⟩, HX.out⟩
    ·
      have hwa : IntKind.i64.wrap ((len : Int) + 1073741824) = (len : Int) + 1073741824 := by rw [IntKind.wrap_i64]; omega
      have hwb : IntKind.i64.wrap ((len : Int) + 1073741824 + (hi.size : Int)) = (len : Int) + 1073741824 + (hi.size : Int) := by rw [IntKind.wrap_i64]; omega
      go_enter Try.func9, Try.ntmps9
      go_wp2
      go_loopw [5, 6] (fun v i wr => ∃ (k : Nat) (x : Int), k ≤ len ∧ v = .int .i64 x ∧ i = .int .i64 (k : Int) ∧ (len : Int) ≤ x ∧ x ≤ 35184372088832 ∧ Below w.heap.size w wr) (fun _ i _ => len - (intOf i).toNat)
      case atStart => exact ⟨0, _, Nat.zero_le _, rfl, rfl, by omega, by omega, bnew w _⟩
      case round =>
        obtain ⟨k, x, hk, rfl, rfl, hx1, hx2, hnx⟩ := hrel
        have HX := aside hnx
        by_cases hlt : (k : Int) < (len : Int)
        · by_cases hle : x ≤ 1073741824
          · rcases HH.out with h0 | ⟨b, off, rfl, hb, hc⟩
            · omega
            have c0 := (hnx.cell (p := ⟨b, off + k, none⟩) hb).trans (hc k (by omega))
            have hk0 : (0 : Int) ≤ (k : Int) := by omega
            have hqw : IntKind.i64.wrap ((k : Int) + 1) = (k : Int) + 1 := by rw [IntKind.wrap_i64]; omega
            clear hc hnx
            by_cases hs : 1073741824 < (S k).size
            · have hw1 : IntKind.i64.wrap (x + 1073741824) = x + 1073741824 := by rw [IntKind.wrap_i64]; omega
              go_wp2
              go_roundw
              case rel => exact ⟨k + 1, _, by omega, rfl, by go_num, by omega, by omega, HX.out⟩
              case measure => simp [intOf]; omega
            · have hw1 : IntKind.i64.wrap (x + ((S k).size : Int)) = x + ((S k).size : Int) := by rw [IntKind.wrap_i64]; omega
              go_wp2
              go_roundw
              case rel => exact ⟨k + 1, _, by omega, rfl, by go_num, by omega, by omega, HX.out⟩
              case measure => simp [intOf]; omega
          · clear hnx
            go_wp2
            go_ret
            exact ⟨⟨true, by first | rfl | (show Ending.returned (.bool (decide ((1073741824 : Int) < x))) = _; rw [decide_eq_true (by omega)]), fun e => by cases e⟩, HX.out⟩
        · clear hnx
          by_cases hle : x ≤ 1073741824
          · go_wp2
            go_ret
            exact ⟨⟨false, by first | rfl | (show Ending.returned (.bool (decide ((1073741824 : Int) < x))) = _; rw [decide_eq_false (by omega)]), fun _ => by omega⟩, HX.out⟩
          · go_wp2
            go_ret
            exact ⟨⟨true, by first | rfl | (show Ending.returned (.bool (decide ((1073741824 : Int) < x))) = _; rw [decide_eq_true (by omega)]), fun e => by cases e⟩, HX.out⟩
  · by_cases h2 : 1073741824 < hi.size
    ·
      obtain ⟨L, hL⟩ : ∃ L : Int, (lo.size : Int) = L := ⟨_, rfl⟩
      have hl1 : ¬ (1073741824 < L) := by omega
      have hl2 : 0 ≤ L := by omega
      have hwa : IntKind.i64.wrap ((len : Int) + L) = (len : Int) + L := by rw [IntKind.wrap_i64]; omega
      have hwb : IntKind.i64.wrap ((len : Int) + L + 1073741824) = (len : Int) + L + 1073741824 := by rw [IntKind.wrap_i64]; omega
      clear h1
      go_enter Try.func9, Try.ntmps9
      go_wp2
      go_loopw [5, 6] (fun v i wr => ∃ (k : Nat) (x : Int), k ≤ len ∧ v = .int .i64 x ∧ i = .int .i64 (k : Int) ∧ (len : Int) ≤ x ∧ x ≤ 35184372088832 ∧ Below w.heap.size w wr) (fun _ i _ => len - (intOf i).toNat)
      case atStart => exact ⟨0, _, Nat.zero_le _, rfl, rfl, by omega, by omega, bnew w _⟩
      case round =>
        obtain ⟨k, x, hk, rfl, rfl, hx1, hx2, hnx⟩ := hrel
        have HX := aside hnx
        by_cases hlt : (k : Int) < (len : Int)
        · by_cases hle : x ≤ 1073741824
          · rcases HH.out with h0 | ⟨b, off, rfl, hb, hc⟩
            · omega
            have c0 := (hnx.cell (p := ⟨b, off + k, none⟩) hb).trans (hc k (by omega))
            have hk0 : (0 : Int) ≤ (k : Int) := by omega
            have hqw : IntKind.i64.wrap ((k : Int) + 1) = (k : Int) + 1 := by rw [IntKind.wrap_i64]; omega
            clear hc hnx
            by_cases hs : 1073741824 < (S k).size
            · have hw1 : IntKind.i64.wrap (x + 1073741824) = x + 1073741824 := by rw [IntKind.wrap_i64]; omega
              go_wp2
              go_roundw
              case rel => exact ⟨k + 1, _, by omega, rfl, by go_num, by omega, by omega, HX.out⟩
              case measure => simp [intOf]; omega
            · have hw1 : IntKind.i64.wrap (x + ((S k).size : Int)) = x + ((S k).size : Int) := by rw [IntKind.wrap_i64]; omega
              go_wp2
              go_roundw
              case rel => exact ⟨k + 1, _, by omega, rfl, by go_num, by omega, by omega, HX.out⟩
              case measure => simp [intOf]; omega
          · clear hnx
            go_wp2
            go_ret
            exact ⟨⟨true, by first | rfl | (show Ending.returned (.bool (decide ((1073741824 : Int) < x))) = _; rw [decide_eq_true (by omega)]), fun e => by cases e⟩, HX.out⟩
        · clear hnx
          by_cases hle : x ≤ 1073741824
          · go_wp2
            go_ret
            exact ⟨⟨false, by first | rfl | (show Ending.returned (.bool (decide ((1073741824 : Int) < x))) = _; rw [decide_eq_false (by omega)]), fun _ => by omega⟩, HX.out⟩
          · go_wp2
            go_ret
            exact ⟨⟨true, by first | rfl | (show Ending.returned (.bool (decide ((1073741824 : Int) < x))) = _; rw [decide_eq_true (by omega)]), fun e => by cases e⟩, HX.out⟩
    ·
      have hwa : IntKind.i64.wrap ((len : Int) + (lo.size : Int)) = (len : Int) + (lo.size : Int) := by rw [IntKind.wrap_i64]; omega
      have hwb : IntKind.i64.wrap ((len : Int) + (lo.size : Int) + (hi.size : Int)) = (len : Int) + (lo.size : Int) + (hi.size : Int) := by rw [IntKind.wrap_i64]; omega
      go_enter Try.func9, Try.ntmps9
      go_wp2
      go_loopw [5, 6] (fun v i wr => ∃ (k : Nat) (x : Int), k ≤ len ∧ v = .int .i64 x ∧ i = .int .i64 (k : Int) ∧ (len : Int) ≤ x ∧ x ≤ 35184372088832 ∧ Below w.heap.size w wr) (fun _ i _ => len - (intOf i).toNat)
      case atStart => exact ⟨0, _, Nat.zero_le _, rfl, rfl, by omega, by omega, bnew w _⟩
      case round =>
        obtain ⟨k, x, hk, rfl, rfl, hx1, hx2, hnx⟩ := hrel
        have HX := aside hnx
        by_cases hlt : (k : Int) < (len : Int)
        · by_cases hle : x ≤ 1073741824
          · rcases HH.out with h0 | ⟨b, off, rfl, hb, hc⟩
            · omega
            have c0 := (hnx.cell (p := ⟨b, off + k, none⟩) hb).trans (hc k (by omega))
            have hk0 : (0 : Int) ≤ (k : Int) := by omega
            have hqw : IntKind.i64.wrap ((k : Int) + 1) = (k : Int) + 1 := by rw [IntKind.wrap_i64]; omega
            clear hc hnx
            by_cases hs : 1073741824 < (S k).size
            · have hw1 : IntKind.i64.wrap (x + 1073741824) = x + 1073741824 := by rw [IntKind.wrap_i64]; omega
              go_wp2
              go_roundw
              case rel => exact ⟨k + 1, _, by omega, rfl, by go_num, by omega, by omega, HX.out⟩
              case measure => simp [intOf]; omega
            · have hw1 : IntKind.i64.wrap (x + ((S k).size : Int)) = x + ((S k).size : Int) := by rw [IntKind.wrap_i64]; omega
              go_wp2
              go_roundw
              case rel => exact ⟨k + 1, _, by omega, rfl, by go_num, by omega, by omega, HX.out⟩
              case measure => simp [intOf]; omega
          · clear hnx
            go_wp2
            go_ret
            exact ⟨⟨true, by first | rfl | (show Ending.returned (.bool (decide ((1073741824 : Int) < x))) = _; rw [decide_eq_true (by omega)]), fun e => by cases e⟩, HX.out⟩
        · clear hnx
          by_cases hle : x ≤ 1073741824
          · go_wp2
            go_ret
            exact ⟨⟨false, by first | rfl | (show Ending.returned (.bool (decide ((1073741824 : Int) < x))) = _; rw [decide_eq_false (by omega)]), fun _ => by omega⟩, HX.out⟩
          · go_wp2
            go_ret
            exact ⟨⟨true, by first | rfl | (show Ending.returned (.bool (decide ((1073741824 : Int) < x))) = _; rw [decide_eq_true (by omega)]), fun e => by cases e⟩, HX.out⟩

set_option maxRecDepth 100000 in
set_option maxHeartbeats 2000000 in
theorem sameTexts_any (a a' : Option Addr) (len cap cap' : Nat) (S : Nat → ByteArray) (w : World) (h : StrsIn w.heap.size w a len cap S) (h' : StrsIn w.heap.size w a' len cap' S) :
    Calls Try.prog 20 #[.slice a len cap, .slice a' len cap'] w fun e w' => e = .returned (.bool true) ∧ Below w.heap.size w w' := by
  have hlc := h.1
  have hl16 := h.2.1
  have hlc' := h'.1
  have HH := aside h.2.2
  have HH' := aside h'.2.2
  clear h h'
  go_enter Try.func20, Try.ntmps20
  go_wp2
  go_loopw [5] (fun i wr => ∃ k : Nat, k ≤ len ∧ i = .int .i64 (k : Int) ∧ Below w.heap.size w wr) (fun i _ => len - (intOf i).toNat)
  case atStart => exact ⟨0, Nat.zero_le _, rfl, Below.refl _ _⟩
  case round =>
    obtain ⟨k, hk, rfl, hnx⟩ := hrel
    have HX := aside hnx
    by_cases hlt : (k : Int) < (len : Int)
    · rcases HH.out with h0 | ⟨b, off, rfl, hb, hc⟩
      · omega
      rcases HH'.out with h0 | ⟨b', off', rfl, hb', hc'⟩
      · omega
      have c0 := (hnx.cell (p := ⟨b, off + k, none⟩) hb).trans (hc k (by omega))
      have d0 := (hnx.cell (p := ⟨b', off' + k, none⟩) hb').trans (hc' k (by omega))
      have hk0 : (0 : Int) ≤ (k : Int) := by omega
      have hqw : IntKind.i64.wrap ((k : Int) + 1) = (k : Int) + 1 := by rw [IntKind.wrap_i64]; omega
      clear hc hc' hnx
      go_wp2_with fail
      refine wp_region_held_drew (S := fun X => X.cell? ⟨b, off + k, none⟩ = some (.string (S k)) ∧ X.cell? ⟨b', off' + k, none⟩ = some (.string (S k)) ∧ Hid (Below w.heap.size w X)) (by kernel_rfl) ⟨c0, d0, aside HX.out.drew⟩ (fun hHeld => ?_)
      refine wpAnyH_take (i := 0) (v := ?_) rfl (by kernel_rfl) (by kernel_rfl) (by kernel_rfl) (fun _ _ _ h => h) (Or.inl ⟨by rfl, ?_⟩) (by assumption) ?_
      rotate_left
      · intro w hSw
        go_simp
        try with_reducible rfl
      simp only [Act.put, List.getElem_toArray, List.getElem_cons_zero, List.setIfInBounds_toArray, List.set_cons_zero, List.set_cons_succ]
      refine wpAnyH_take (i := 1) (v := ?_) rfl (by kernel_rfl) (by kernel_rfl) (by kernel_rfl) (fun _ _ _ h => h) (Or.inl ⟨by rfl, ?_⟩) (by assumption) ?_
      rotate_left
      · intro w hSw
        go_simp
        try with_reducible rfl
      simp only [Act.put, List.getElem_toArray, List.getElem_cons_zero, List.getElem_cons_succ, List.setIfInBounds_toArray, List.set_cons_zero, List.set_cons_succ]
      refine wpAnyH_take (i := 2) (v := ?_) rfl (by kernel_rfl) (by kernel_rfl) (by kernel_rfl) (fun _ _ _ h => h) (Or.inl ⟨by rfl, ?_⟩) (by assumption) ?_
      rotate_left
      · intro w hSw
        go_simp
        try with_reducible rfl
      simp only [Act.put, List.getElem_toArray, List.getElem_cons_zero, List.getElem_cons_succ, List.setIfInBounds_toArray, List.set_cons_zero, List.set_cons_succ]
      refine wpAnyH_take (i := 3) (v := ?_) rfl (by kernel_rfl) (by kernel_rfl) (by kernel_rfl) (fun _ _ _ h => h) (Or.inl ⟨by rfl, ?_⟩) (by assumption) ?_
      rotate_left
      · intro w hSw
        go_simp
        try with_reducible rfl
      simp only [Act.put, List.getElem_toArray, List.getElem_cons_zero, List.getElem_cons_succ, List.setIfInBounds_toArray, List.set_cons_zero, List.set_cons_succ]
      refine wpAnyH_take (i := 4) (v := ?_) rfl (by kernel_rfl) (by kernel_rfl) (by kernel_rfl) (fun _ _ _ h => h) (Or.inl ⟨by rfl, ?_⟩) (by assumption) ?_
      rotate_left
      · intro w hSw
        go_simp
        try with_reducible rfl
      simp only [Act.put, List.getElem_toArray, List.getElem_cons_zero, List.getElem_cons_succ, List.setIfInBounds_toArray, List.set_cons_zero, List.set_cons_succ]
      refine wpAnyH_take (i := 5) (v := ?_) rfl (by kernel_rfl) (by kernel_rfl) (by kernel_rfl) (fun _ _ _ h => h) (Or.inl ⟨by rfl, ?_⟩) (by assumption) ?_
      rotate_left
      · intro w hSw
        go_simp
        try with_reducible rfl
      simp only [Act.put, List.getElem_toArray, List.getElem_cons_zero, List.getElem_cons_succ, List.setIfInBounds_toArray, List.set_cons_zero, List.set_cons_succ]
      refine wpAnyH_take (i := 6) (v := ?_) rfl (by kernel_rfl) (by kernel_rfl) (by kernel_rfl) (fun _ _ _ h => h) (Or.inl ⟨by rfl, ?_⟩) (by assumption) ?_
      rotate_left
      · intro w hSw
        go_simp
        try with_reducible rfl
      simp only [Act.put, List.getElem_toArray, List.getElem_cons_zero, List.getElem_cons_succ, List.setIfInBounds_toArray, List.set_cons_zero, List.set_cons_succ]
      refine wpAnyH_take (i := 7) (v := ?_) rfl (by kernel_rfl) (by kernel_rfl) (by kernel_rfl) (fun _ _ _ h => h) (Or.inl ⟨by rfl, ?_⟩) (by assumption) ?_
      rotate_left
      · intro w hSw
        go_simp
        try with_reducible rfl
      simp only [Act.put, List.getElem_toArray, List.getElem_cons_zero, List.getElem_cons_succ, List.setIfInBounds_toArray, List.set_cons_zero, List.set_cons_succ]
      refine wpAnyH_take (i := 8) (v := ?_) rfl (by kernel_rfl) (by kernel_rfl) (by kernel_rfl) (fun _ _ _ h => h) (Or.inl ⟨by rfl, ?_⟩) (by assumption) ?_
      rotate_left
      · intro w hSw
        go_simp
        try with_reducible rfl
      simp only [Act.put, List.getElem_toArray, List.getElem_cons_zero, List.getElem_cons_succ, List.setIfInBounds_toArray, List.set_cons_zero, List.set_cons_succ]
      refine wpAnyH_done (by kernel_rfl) ?_ _
      have HY := aside hHeld.2.2.out
      clear hHeld c0 d0
      go_wp2
      go_roundw
      case rel => exact ⟨k + 1, by omega, by go_num, HY.out⟩
      case measure => simp [intOf]; omega
    · obtain rfl : len = k := by omega
      clear hnx
      go_wp2
      go_ret
      exact ⟨rfl, HX.out⟩

theorem StrsIn.congr {n₀ : Nat} {w : World} {a : Option Addr} {len cap : Nat} {S S' : Nat → ByteArray} (h : StrsIn n₀ w a len cap S) (e : ∀ i, i < len → S i = S' i) : StrsIn n₀ w a len cap S' := by
  obtain ⟨h1, h2, h3⟩ := h
  refine ⟨h1, h2, ?_⟩
  rcases h3 with h3 | ⟨b, off, e1, hb, hc⟩
  · exact .inl h3
  · exact .inr ⟨b, off, e1, hb, fun i hi => by rw [hc i hi, e i hi]⟩

theorem strs_copy {w : World} {B : Nat} {a : Option Addr} {n cap : Nat} {S : Nat → ByteArray} (h : w.ownsRow B 9 1 (.slice a n cap) n (strCells (strUpto S n))) (hb : n * 16 ≤ 281474976710656) : StrsIn w.heap.size w a n cap S :=
  (strs_of_row h (Nat.le_refl _) hb).congr (fun i hi => by simp [strUpto, List.getD, hi])

theorem heap_set1 {w : World} {b : Nat} (k : Nat) (u : Value) {cs : Array Value} {t : TypeId} (h : w.heap[b]? = some (.cells cs t (0, 0))) : (w.setCell ⟨b, k, none⟩ u).heap[b]? = some (.cells (cs.setIfInBounds k u) t (0, 0)) := by
  simp only [World.setCell]
  rw [Array.getElem?_modify]
  simp [h]

end Go.Proofs.Ytagcenfjdjaaaaa
