/-
  The weight of parts: what a weight within the bound says of the sizes.
  Clone of a frame whose parts have no entries.
  checked: a frame that may be is told in new memory.
  First, the code's.
  First, the document's own.
  The law FrameFirst, walked: it returns true at any node, name and tally.
  What follows of a frame that may be: its ranges rise, and the keys of all its entries.
  Answer to a frame that may be, with parts that have no entries.
  Decode of any bytes; a byte appended to a row.
  Clone of the document's, of any frame: parts and entries in memory of its own.
-/
import Derived.Test.YtbnppmkdhnpdfaaBwireonce7
import Derived.Deep.RegionHeld
import Derived.Deep.CutBlock
import Derived.Deep.DeepCutAuto
import Derived.Test.YtbnppmkdhnpdfaaBwireonce12
import Derived.Test.YtbnppmkdhnpdfaaBwireonce1
import Derived.Laws.Tables
import Derived.Test.YtbnppmkdhnpdfaaBwireonce11
import Derived.Test.YtbnppmkdhnpdfaaBwireonce13
namespace Go.Proofs.Ytbnppmkdhnpdfaa
open Go.RowKit
set_option linter.unusedVariables false
theorem int_eqF {a b : Int} (h : a = b) : Value.int .i64 a = .int .i64 b := by rw [h]
theorem wt_step (m x y : Nat) (hm : m ≤ 2147483648) : Value.int .i64 (IntKind.i64.wrap (IntKind.i64.wrap (IntKind.i64.wrap ((m : Int) + 1) + (if (2147483648 : Int) < (x : Int) then 2147483648 else (x : Int))) + (if (2147483648 : Int) < (y : Int) then 2147483648 else (y : Int)))) = .int .i64 ((m + 1 + min x 2147483648 + min y 2147483648 : Nat) : Int) := by
  refine int_eqF ?_
  rw [IntKind.wrap_i64, IntKind.wrap_i64, IntKind.wrap_i64]
  split <;> split <;> omega
set_option maxHeartbeats 6400000 in
set_option maxRecDepth 100000 in
theorem weight_any (a : Option Addr) (len cap : Nat) (P : Nat → Pm) (w : World) (h : PartsIn w a len cap P) :
    Calls Try.prog 45 #[.slice a len cap] w fun e w' => ∃ m : Nat, e = .returned (.int .i64 (m : Int)) ∧ (m ≤ 536870912 → len + totE P len ≤ m) ∧ Below w.heap.size w w' := by
  have HE := aside h
  have hmx : (len : Int) ≤ 9223372036854775807 := by have h1 := h.1; have h2 := h.2.1; unfold maxLen at h2; omega
  clear h
  go_enter Try.func45, Try.ntmps45
  go_wp2
  go_loopw [3, 4] (fun c i wr => ∃ (j m : Nat), c = .int .i64 (m : Int) ∧ i = .int .i64 (j : Int) ∧ j ≤ len ∧ (Hid (j + totE P j ≤ m ∨ 2147483648 ≤ m)) ∧ m ≤ 6442450944 ∧ Hid (Below w.heap.size w wr)) (fun c i _ => len - (intOf i).toNat)
  case atStart => exact ⟨0, 0, rfl, rfl, Nat.zero_le _, Or.inl (Nat.le_refl _), by omega, Below.refl _ _⟩
  case round =>
    obtain ⟨j, m, rfl, rfl, hj, HJ, hm, HB⟩ := hrel
    by_cases hlt : (j : Int) < (len : Int)
    · by_cases hm31 : (m : Int) < 2147483648
      · skip
        rcases HE.out.2.2 with h0 | ⟨b, off, rfl, hb, hc⟩
        · omega
        obtain ⟨hat, hin⟩ := hc j (by omega)
        obtain ⟨p, hp⟩ : ∃ p, P j = p := ⟨_, rfl⟩
        have HP := aside hp
        rw [hp] at hat hin
        clear hp hc
        obtain ⟨kind, lo, hi, op, cnt, s0, s1, ea, el, ec, T⟩ := p
        obtain ⟨-, c1, c2, -, -, -, -, c7⟩ := hat
        dsimp only at c1 c2 c7
        have hj0 : (0 : Int) ≤ (j : Int) := by omega
        have HIN := aside (show EntsIn w ea el ec T from hin)
        have hel : (el : Int) ≤ 9223372036854775807 := by have h1 := HIN.out.1; have h2 := HIN.out.2.1; unfold maxLen at h2; omega
        clear hin
        have C7 := aside (fun W (bb : Below w.heap.size w W) => cell_in c7 bb)
        replace c1 := cell_in c1 HB.out
        replace c2 := cell_in c2 HB.out
        clear c7
        go_upto_region 5 with fail
        go_cut [3] (fun s9 wx => ∃ m1 : Nat, s9 = .int .i64 (m1 : Int) ∧ Hid (j + 1 + totE P j + 0 ≤ m1 ∨ 2147483648 ≤ m1) ∧ Hid (m1 ≤ 6442450944) ∧ Hid (Below w.heap.size w wx))
        case first =>
          have HJ1 := aside (show j + 1 + totE P j + 0 ≤ m + 1 + min lo.size 2147483648 + min hi.size 2147483648 ∨ 2147483648 ≤ m + 1 + min lo.size 2147483648 + min hi.size 2147483648 from by have := HJ.out; omega)
          have HM1 := aside (show m + 1 + min lo.size 2147483648 + min hi.size 2147483648 ≤ 6442450944 from by omega)
          have HM9 := aside (show m ≤ 2147483647 from by omega)
          clear hm hm31
          have SX := aside (fun W (bb : Below wr.heap.size wr W) => (show Below wr.heap.size wr W ∧ W.cell? ⟨b, off + j * 8 + 1, none⟩ = some (.string lo) ∧ W.cell? ⟨b, off + j * 8 + 2, none⟩ = some (.string hi) from ⟨bb, cell_in c1 bb, cell_in c2 bb⟩))
          clear c1 c2
          refine wp_region_held_drew (S := fun W => Below wr.heap.size wr W ∧ W.cell? ⟨b, off + j * 8 + 1, none⟩ = some (.string lo) ∧ W.cell? ⟨b, off + j * 8 + 2, none⟩ = some (.string hi)) (by kernel_rfl) (SX.out _ (Below.refl _ wr).drew) (fun hHeld => ?_)
          refine wpAnyH_take (i := 0) (v := ?_) rfl (by kernel_rfl) (by kernel_rfl) (by kernel_rfl) (fun _ _ _ h => h) (Or.inl ⟨by rfl, ?_⟩) (by assumption) ?_
          rotate_left
          · intro w hSw
            go_simp
            try with_reducible rfl
          simp only [Act.put, List.getElem_toArray, List.getElem_cons_zero, List.setIfInBounds_toArray, List.set_cons_zero, List.set_cons_succ]
          refine wpAnyH_take (i := 1) (v := ?_) rfl (by kernel_rfl) (by kernel_rfl) (by kernel_rfl) (fun _ _ _ h => h) (Or.inl ⟨by rfl, ?_⟩) (by assumption) ?_
          rotate_left
          · intro w hSw
            go_simp
            try with_reducible rfl
          simp only [Act.put, List.getElem_toArray, List.getElem_cons_zero, List.getElem_cons_succ, List.setIfInBounds_toArray, List.set_cons_zero, List.set_cons_succ]
          refine wpAnyH_take (i := 2) (v := ?_) rfl (by kernel_rfl) (by kernel_rfl) (by kernel_rfl) (fun _ _ _ h => h) (Or.inl ⟨by rfl, ?_⟩) (by assumption) ?_
          rotate_left
          · intro w hSw
            go_simp
            try with_reducible rfl
          simp only [Act.put, List.getElem_toArray, List.getElem_cons_zero, List.getElem_cons_succ, List.setIfInBounds_toArray, List.set_cons_zero, List.set_cons_succ]
          refine wpAnyH_take (i := 3) (v := ?_) rfl (by kernel_rfl) (by kernel_rfl) (by kernel_rfl) (fun _ _ _ h => h) (Or.inl ⟨by rfl, ?_⟩) (by assumption) ?_
          rotate_left
          · intro w hSw
            go_simp
            try with_reducible rfl
          simp only [Act.put, List.getElem_toArray, List.getElem_cons_zero, List.getElem_cons_succ, List.setIfInBounds_toArray, List.set_cons_zero, List.set_cons_succ]
          refine wpAnyH_take (i := 4) (v := ?_) rfl (by kernel_rfl) (by kernel_rfl) (by kernel_rfl) (fun _ _ _ h => h) (Or.inl ⟨by rfl, ?_⟩) (by assumption) ?_
          rotate_left
          · intro w hSw
            go_simp
            try with_reducible rfl
          simp only [Act.put, List.getElem_toArray, List.getElem_cons_zero, List.getElem_cons_succ, List.setIfInBounds_toArray, List.set_cons_zero, List.set_cons_succ]
          refine wpAnyH_take (i := 5) (v := ?_) rfl (by kernel_rfl) (by kernel_rfl) (by kernel_rfl) (fun _ _ _ h => h) (Or.inl ⟨by rfl, ?_⟩) (by assumption) ?_
          rotate_left
          · intro w hSw
            go_simp
            try with_reducible rfl
          simp only [Act.put, List.getElem_toArray, List.getElem_cons_zero, List.getElem_cons_succ, List.setIfInBounds_toArray, List.set_cons_zero, List.set_cons_succ]
          refine wpAnyH_take (i := 6) (v := ?_) rfl (by kernel_rfl) (by kernel_rfl) (by kernel_rfl) (fun _ _ _ h => h) (Or.inl ⟨by rfl, ?_⟩) (by assumption) ?_
          rotate_left
          · intro w hSw
            go_simp
            try with_reducible rfl
          simp only [Act.put, List.getElem_toArray, List.getElem_cons_zero, List.getElem_cons_succ, List.setIfInBounds_toArray, List.set_cons_zero, List.set_cons_succ]
          refine wpAnyH_take (i := 7) (v := ?_) rfl (by kernel_rfl) (by kernel_rfl) (by kernel_rfl) (fun _ _ _ h => h) (Or.inl ⟨by rfl, ?_⟩) (by assumption) ?_
          rotate_left
          · intro w hSw
            go_simp
            try with_reducible rfl
          simp only [Act.put, List.getElem_toArray, List.getElem_cons_zero, List.getElem_cons_succ, List.setIfInBounds_toArray, List.set_cons_zero, List.set_cons_succ]
          refine wpAnyH_take (i := 8) (v := ?_) rfl (by kernel_rfl) (by kernel_rfl) (by kernel_rfl) (fun _ _ _ h => h) (Or.inl ⟨by rfl, ?_⟩) (by assumption) ?_
          rotate_left
          · intro w hSw
            go_simp
            try with_reducible rfl
          simp only [Act.put, List.getElem_toArray, List.getElem_cons_zero, List.getElem_cons_succ, List.setIfInBounds_toArray, List.set_cons_zero, List.set_cons_succ]
          refine wpAnyH_take (i := 9) (v := ?_) rfl (by kernel_rfl) (by kernel_rfl) (by kernel_rfl) (fun _ _ _ h => h) (Or.inl ⟨by rfl, ?_⟩) (by assumption) ?_
          rotate_left
          · intro w hSw
            go_simp
            try with_reducible rfl
          simp only [Act.put, List.getElem_toArray, List.getElem_cons_zero, List.getElem_cons_succ, List.setIfInBounds_toArray, List.set_cons_zero, List.set_cons_succ]
          refine wpAnyH_take (i := 10) (v := ?_) rfl (by kernel_rfl) (by kernel_rfl) (by kernel_rfl) (fun _ _ _ h => h) (Or.inl ⟨by rfl, ?_⟩) (by assumption) ?_
          rotate_left
          · intro w hSw
            go_simp
            try with_reducible rfl
          simp only [Act.put, List.getElem_toArray, List.getElem_cons_zero, List.getElem_cons_succ, List.setIfInBounds_toArray, List.set_cons_zero, List.set_cons_succ]
          refine wpAnyH_take (i := 11) (v := ?_) rfl (by kernel_rfl) (by kernel_rfl) (by kernel_rfl) (fun _ _ _ h => h) (Or.inl ⟨by rfl, ?_⟩) (by assumption) ?_
          rotate_left
          · intro w hSw
            go_simp
            try with_reducible rfl
          simp only [Act.put, List.getElem_toArray, List.getElem_cons_zero, List.getElem_cons_succ, List.setIfInBounds_toArray, List.set_cons_zero, List.set_cons_succ]
          refine wpAnyH_take (i := 12) (v := ?_) rfl (by kernel_rfl) (by kernel_rfl) (by kernel_rfl) (fun _ _ _ h => h) (Or.inl ⟨by rfl, ?_⟩) (by assumption) ?_
          rotate_left
          · intro w hSw
            go_simp
            try with_reducible rfl
          simp only [Act.put, List.getElem_toArray, List.getElem_cons_zero, List.getElem_cons_succ, List.setIfInBounds_toArray, List.set_cons_zero, List.set_cons_succ]
          refine wpAnyH_take (i := 13) (v := ?_) rfl (by kernel_rfl) (by kernel_rfl) (by kernel_rfl) (fun _ _ _ h => h) (Or.inl ⟨by rfl, ?_⟩) (by assumption) ?_
          rotate_left
          · intro w hSw
            go_simp
            try with_reducible rfl
          simp only [Act.put, List.getElem_toArray, List.getElem_cons_zero, List.getElem_cons_succ, List.setIfInBounds_toArray, List.set_cons_zero, List.set_cons_succ]
          refine wpAnyH_take (i := 14) (v := ?_) rfl (by kernel_rfl) (by kernel_rfl) (by kernel_rfl) (fun _ _ _ h => h) (Or.inl ⟨by rfl, ?_⟩) (by assumption) ?_
          rotate_left
          · intro w hSw
            go_simp
            try with_reducible rfl
          simp only [Act.put, List.getElem_toArray, List.getElem_cons_zero, List.getElem_cons_succ, List.setIfInBounds_toArray, List.set_cons_zero, List.set_cons_succ]
          refine wpAnyH_take (i := 15) (v := ?_) rfl (by kernel_rfl) (by kernel_rfl) (by kernel_rfl) (fun _ _ _ h => h) (Or.inl ⟨by rfl, ?_⟩) (by assumption) ?_
          rotate_left
          · intro w hSw
            go_simp
            try with_reducible rfl
          simp only [Act.put, List.getElem_toArray, List.getElem_cons_zero, List.getElem_cons_succ, List.setIfInBounds_toArray, List.set_cons_zero, List.set_cons_succ]
          refine wpAnyH_take (i := 16) (v := ?_) rfl (by kernel_rfl) (by kernel_rfl) (by kernel_rfl) (fun _ _ _ h => h) (Or.inl ⟨by rfl, ?_⟩) (by assumption) ?_
          rotate_left
          · intro w hSw
            go_simp
            try with_reducible rfl
          simp only [Act.put, List.getElem_toArray, List.getElem_cons_zero, List.getElem_cons_succ, List.setIfInBounds_toArray, List.set_cons_zero, List.set_cons_succ]
          refine wpAnyH_take (i := 17) (v := ?_) rfl (by kernel_rfl) (by kernel_rfl) (by kernel_rfl) (fun _ _ _ h => h) (Or.inl ⟨by rfl, ?_⟩) (by assumption) ?_
          rotate_left
          · intro w hSw
            go_simp
            try with_reducible rfl
          simp only [Act.put, List.getElem_toArray, List.getElem_cons_zero, List.getElem_cons_succ, List.setIfInBounds_toArray, List.set_cons_zero, List.set_cons_succ]
          refine wpAnyH_take (i := 18) (v := ?_) rfl (by kernel_rfl) (by kernel_rfl) (by kernel_rfl) (fun _ _ _ h => h) (Or.inl ⟨by rfl, ?_⟩) (by assumption) ?_
          rotate_left
          · intro w hSw
            go_simp
            try with_reducible rfl
          simp only [Act.put, List.getElem_toArray, List.getElem_cons_zero, List.getElem_cons_succ, List.setIfInBounds_toArray, List.set_cons_zero, List.set_cons_succ]
          refine wpAnyH_take (i := 19) (v := ?_) rfl (by kernel_rfl) (by kernel_rfl) (by kernel_rfl) (fun _ _ _ h => h) (Or.inl ⟨by rfl, ?_⟩) (by assumption) ?_
          rotate_left
          · intro w hSw
            go_simp
            try with_reducible rfl
          simp only [Act.put, List.getElem_toArray, List.getElem_cons_zero, List.getElem_cons_succ, List.setIfInBounds_toArray, List.set_cons_zero, List.set_cons_succ]
          refine wpAnyH_take (i := 20) (v := ?_) rfl (by kernel_rfl) (by kernel_rfl) (by kernel_rfl) (fun _ _ _ h => h) (Or.inl ⟨by rfl, ?_⟩) (by assumption) ?_
          rotate_left
          · intro w hSw
            go_simp
            try with_reducible rfl
          simp only [Act.put, List.getElem_toArray, List.getElem_cons_zero, List.getElem_cons_succ, List.setIfInBounds_toArray, List.set_cons_zero, List.set_cons_succ]
          refine wpAnyH_done (by kernel_rfl) ?_ _
          have B9 := aside (HB.out.trans (hHeld.1.mono HB.out.size))
          clear hHeld
          generalize hX : (if (2147483648 : Int) < (lo.size : Int) then (2147483648 : Int) else (lo.size : Int)) = X
          generalize hY : (if (2147483648 : Int) < (hi.size : Int) then (2147483648 : Int) else (hi.size : Int)) = Y
          have HX := aside hX
          have HY := aside hY
          clear hX hY
          go_wp2
          go_meet
          exact ⟨m + 1 + min lo.size 2147483648 + min hi.size 2147483648, by rw [← HX.out, ← HY.out]; exact wt_step m lo.size hi.size (by have := HM9.out; omega), HJ1, HM1, B9⟩
        case rest =>
          obtain ⟨m1, rfl, HJ1, HM1, HB1⟩ := hcut
          clear c1 c2 HJ hm hm31 HB
          go_wp2
          go_loopw [3, 5] (fun c i wr => ∃ (k m : Nat), c = .int .i64 (m : Int) ∧ i = .int .i64 (k : Int) ∧ k ≤ el ∧ (Hid (j + 1 + totE P j + k ≤ m ∨ 2147483648 ≤ m)) ∧ m ≤ 6442450944 ∧ Hid (Below w.heap.size w wr)) (fun c i _ => el - (intOf i).toNat)
          case atStart => exact ⟨0, m1, rfl, rfl, Nat.zero_le _, HJ1, HM1.out, HB1⟩
          case round =>
            obtain ⟨k, m, rfl, rfl, hk, HJ, hm, HB⟩ := hrel
            have c7 := C7.out _ HB.out
            by_cases hlk : (k : Int) < (el : Int)
            · by_cases hm31 : (m : Int) < 2147483648
              · have hk0 : (0 : Int) ≤ (k : Int) := by omega
                rcases (HIN.out.keep HB.out).2.2 with h0 | ⟨b2, o2, rfl, hb2, hc2⟩
                · omega
                obtain ⟨⟨d0, -, -, d3, -⟩, -⟩ := hc2 k (by omega)
                obtain ⟨t, ht⟩ : ∃ t, T k = t := ⟨_, rfl⟩
                rw [ht] at d0 d3
                clear hc2 ht hb2
                obtain ⟨tk, htk⟩ : ∃ tk, t.k = tk := ⟨_, rfl⟩
                obtain ⟨tv, htv⟩ : ∃ tv, t.v = tv := ⟨_, rfl⟩
                rw [htk] at d0
                rw [htv] at d3
                clear htk htv
                go_upto_region 9 with fail
                have HM9 := aside (show m ≤ 2147483647 from by omega)
                clear hm hm31
                have SX := aside (fun W (bb : Below wr.heap.size wr W) => (show Below wr.heap.size wr W ∧ W.cell? ⟨b, off + j * 8 + 7, none⟩ = some (.slice (some ⟨b2, o2, none⟩) el ec) ∧ W.cell? ⟨b2, o2 + k * 5, none⟩ = some (.string tk) ∧ W.cell? ⟨b2, o2 + k * 5 + 3, none⟩ = some (.string tv) from ⟨bb, cell_in c7 bb, cell_in d0 bb, cell_in d3 bb⟩))
                clear c7 d0 d3
                refine wp_region_held_drew (S := fun W => Below wr.heap.size wr W ∧ W.cell? ⟨b, off + j * 8 + 7, none⟩ = some (.slice (some ⟨b2, o2, none⟩) el ec) ∧ W.cell? ⟨b2, o2 + k * 5, none⟩ = some (.string tk) ∧ W.cell? ⟨b2, o2 + k * 5 + 3, none⟩ = some (.string tv)) (by kernel_rfl) (SX.out _ (Below.refl _ wr).drew) (fun hHeld => ?_)
                refine wpAnyH_take (i := 0) (v := ?_) rfl (by kernel_rfl) (by kernel_rfl) (by kernel_rfl) (fun _ _ _ h => h) (Or.inl ⟨by rfl, ?_⟩) (by assumption) ?_
                rotate_left
                · intro w hSw
                  go_simp
                  try with_reducible rfl
                simp only [Act.put, List.getElem_toArray, List.getElem_cons_zero, List.setIfInBounds_toArray, List.set_cons_zero, List.set_cons_succ]
                refine wpAnyH_take (i := 1) (v := ?_) rfl (by kernel_rfl) (by kernel_rfl) (by kernel_rfl) (fun _ _ _ h => h) (Or.inl ⟨by rfl, ?_⟩) (by assumption) ?_
                rotate_left
                · intro w hSw
                  go_simp
                  try with_reducible rfl
                simp only [Act.put, List.getElem_toArray, List.getElem_cons_zero, List.getElem_cons_succ, List.setIfInBounds_toArray, List.set_cons_zero, List.set_cons_succ]
                refine wpAnyH_take (i := 2) (v := ?_) rfl (by kernel_rfl) (by kernel_rfl) (by kernel_rfl) (fun _ _ _ h => h) (Or.inl ⟨by rfl, ?_⟩) (by assumption) ?_
                rotate_left
                · intro w hSw
                  go_simp
                  try with_reducible rfl
                simp only [Act.put, List.getElem_toArray, List.getElem_cons_zero, List.getElem_cons_succ, List.setIfInBounds_toArray, List.set_cons_zero, List.set_cons_succ]
                refine wpAnyH_take (i := 3) (v := ?_) rfl (by kernel_rfl) (by kernel_rfl) (by kernel_rfl) (fun _ _ _ h => h) (Or.inl ⟨by rfl, ?_⟩) (by assumption) ?_
                rotate_left
                · intro w hSw
                  go_simp
                  try with_reducible rfl
                simp only [Act.put, List.getElem_toArray, List.getElem_cons_zero, List.getElem_cons_succ, List.setIfInBounds_toArray, List.set_cons_zero, List.set_cons_succ]
                refine wpAnyH_take (i := 4) (v := ?_) rfl (by kernel_rfl) (by kernel_rfl) (by kernel_rfl) (fun _ _ _ h => h) (Or.inl ⟨by rfl, ?_⟩) (by assumption) ?_
                rotate_left
                · intro w hSw
                  go_simp
                  try with_reducible rfl
                simp only [Act.put, List.getElem_toArray, List.getElem_cons_zero, List.getElem_cons_succ, List.setIfInBounds_toArray, List.set_cons_zero, List.set_cons_succ]
                refine wpAnyH_take (i := 5) (v := ?_) rfl (by kernel_rfl) (by kernel_rfl) (by kernel_rfl) (fun _ _ _ h => h) (Or.inl ⟨by rfl, ?_⟩) (by assumption) ?_
                rotate_left
                · intro w hSw
                  go_simp
                  try with_reducible rfl
                simp only [Act.put, List.getElem_toArray, List.getElem_cons_zero, List.getElem_cons_succ, List.setIfInBounds_toArray, List.set_cons_zero, List.set_cons_succ]
                refine wpAnyH_take (i := 6) (v := ?_) rfl (by kernel_rfl) (by kernel_rfl) (by kernel_rfl) (fun _ _ _ h => h) (Or.inl ⟨by rfl, ?_⟩) (by assumption) ?_
                rotate_left
                · intro w hSw
                  go_simp
                  try with_reducible rfl
                simp only [Act.put, List.getElem_toArray, List.getElem_cons_zero, List.getElem_cons_succ, List.setIfInBounds_toArray, List.set_cons_zero, List.set_cons_succ]
                refine wpAnyH_take (i := 7) (v := ?_) rfl (by kernel_rfl) (by kernel_rfl) (by kernel_rfl) (fun _ _ _ h => h) (Or.inl ⟨by rfl, ?_⟩) (by assumption) ?_
                rotate_left
                · intro w hSw
                  go_simp
                  try with_reducible rfl
                simp only [Act.put, List.getElem_toArray, List.getElem_cons_zero, List.getElem_cons_succ, List.setIfInBounds_toArray, List.set_cons_zero, List.set_cons_succ]
                refine wpAnyH_take (i := 8) (v := ?_) rfl (by kernel_rfl) (by kernel_rfl) (by kernel_rfl) (fun _ _ _ h => h) (Or.inl ⟨by rfl, ?_⟩) (by assumption) ?_
                rotate_left
                · intro w hSw
                  go_simp
                  try with_reducible rfl
                simp only [Act.put, List.getElem_toArray, List.getElem_cons_zero, List.getElem_cons_succ, List.setIfInBounds_toArray, List.set_cons_zero, List.set_cons_succ]
                refine wpAnyH_take (i := 9) (v := ?_) rfl (by kernel_rfl) (by kernel_rfl) (by kernel_rfl) (fun _ _ _ h => h) (Or.inl ⟨by rfl, ?_⟩) (by assumption) ?_
                rotate_left
                · intro w hSw
                  go_simp
                  try with_reducible rfl
                simp only [Act.put, List.getElem_toArray, List.getElem_cons_zero, List.getElem_cons_succ, List.setIfInBounds_toArray, List.set_cons_zero, List.set_cons_succ]
                refine wpAnyH_take (i := 10) (v := ?_) rfl (by kernel_rfl) (by kernel_rfl) (by kernel_rfl) (fun _ _ _ h => h) (Or.inl ⟨by rfl, ?_⟩) (by assumption) ?_
                rotate_left
                · intro w hSw
                  go_simp
                  try with_reducible rfl
                simp only [Act.put, List.getElem_toArray, List.getElem_cons_zero, List.getElem_cons_succ, List.setIfInBounds_toArray, List.set_cons_zero, List.set_cons_succ]
                refine wpAnyH_take (i := 11) (v := ?_) rfl (by kernel_rfl) (by kernel_rfl) (by kernel_rfl) (fun _ _ _ h => h) (Or.inl ⟨by rfl, ?_⟩) (by assumption) ?_
                rotate_left
                · intro w hSw
                  go_simp
                  try with_reducible rfl
                simp only [Act.put, List.getElem_toArray, List.getElem_cons_zero, List.getElem_cons_succ, List.setIfInBounds_toArray, List.set_cons_zero, List.set_cons_succ]
                refine wpAnyH_take (i := 12) (v := ?_) rfl (by kernel_rfl) (by kernel_rfl) (by kernel_rfl) (fun _ _ _ h => h) (Or.inl ⟨by rfl, ?_⟩) (by assumption) ?_
                rotate_left
                · intro w hSw
                  go_simp
                  try with_reducible rfl
                simp only [Act.put, List.getElem_toArray, List.getElem_cons_zero, List.getElem_cons_succ, List.setIfInBounds_toArray, List.set_cons_zero, List.set_cons_succ]
                refine wpAnyH_take (i := 13) (v := ?_) rfl (by kernel_rfl) (by kernel_rfl) (by kernel_rfl) (fun _ _ _ h => h) (Or.inl ⟨by rfl, ?_⟩) (by assumption) ?_
                rotate_left
                · intro w hSw
                  go_simp
                  try with_reducible rfl
                simp only [Act.put, List.getElem_toArray, List.getElem_cons_zero, List.getElem_cons_succ, List.setIfInBounds_toArray, List.set_cons_zero, List.set_cons_succ]
                refine wpAnyH_take (i := 14) (v := ?_) rfl (by kernel_rfl) (by kernel_rfl) (by kernel_rfl) (fun _ _ _ h => h) (Or.inl ⟨by rfl, ?_⟩) (by assumption) ?_
                rotate_left
                · intro w hSw
                  go_simp
                  try with_reducible rfl
                simp only [Act.put, List.getElem_toArray, List.getElem_cons_zero, List.getElem_cons_succ, List.setIfInBounds_toArray, List.set_cons_zero, List.set_cons_succ]
                refine wpAnyH_take (i := 15) (v := ?_) rfl (by kernel_rfl) (by kernel_rfl) (by kernel_rfl) (fun _ _ _ h => h) (Or.inl ⟨by rfl, ?_⟩) (by assumption) ?_
                rotate_left
                · intro w hSw
                  go_simp
                  try with_reducible rfl
                simp only [Act.put, List.getElem_toArray, List.getElem_cons_zero, List.getElem_cons_succ, List.setIfInBounds_toArray, List.set_cons_zero, List.set_cons_succ]
                refine wpAnyH_take (i := 16) (v := ?_) rfl (by kernel_rfl) (by kernel_rfl) (by kernel_rfl) (fun _ _ _ h => h) (Or.inl ⟨by rfl, ?_⟩) (by assumption) ?_
                rotate_left
                · intro w hSw
                  go_simp
                  try with_reducible rfl
                simp only [Act.put, List.getElem_toArray, List.getElem_cons_zero, List.getElem_cons_succ, List.setIfInBounds_toArray, List.set_cons_zero, List.set_cons_succ]
                refine wpAnyH_take (i := 17) (v := ?_) rfl (by kernel_rfl) (by kernel_rfl) (by kernel_rfl) (fun _ _ _ h => h) (Or.inl ⟨by rfl, ?_⟩) (by assumption) ?_
                rotate_left
                · intro w hSw
                  go_simp
                  try with_reducible rfl
                simp only [Act.put, List.getElem_toArray, List.getElem_cons_zero, List.getElem_cons_succ, List.setIfInBounds_toArray, List.set_cons_zero, List.set_cons_succ]
                refine wpAnyH_take (i := 18) (v := ?_) rfl (by kernel_rfl) (by kernel_rfl) (by kernel_rfl) (fun _ _ _ h => h) (Or.inl ⟨by rfl, ?_⟩) (by assumption) ?_
                rotate_left
                · intro w hSw
                  go_simp
                  try with_reducible rfl
                simp only [Act.put, List.getElem_toArray, List.getElem_cons_zero, List.getElem_cons_succ, List.setIfInBounds_toArray, List.set_cons_zero, List.set_cons_succ]
                refine wpAnyH_take (i := 19) (v := ?_) rfl (by kernel_rfl) (by kernel_rfl) (by kernel_rfl) (fun _ _ _ h => h) (Or.inl ⟨by rfl, ?_⟩) (by assumption) ?_
                rotate_left
                · intro w hSw
                  go_simp
                  try with_reducible rfl
                simp only [Act.put, List.getElem_toArray, List.getElem_cons_zero, List.getElem_cons_succ, List.setIfInBounds_toArray, List.set_cons_zero, List.set_cons_succ]
                refine wpAnyH_take (i := 20) (v := ?_) rfl (by kernel_rfl) (by kernel_rfl) (by kernel_rfl) (fun _ _ _ h => h) (Or.inl ⟨by rfl, ?_⟩) (by assumption) ?_
                rotate_left
                · intro w hSw
                  go_simp
                  try with_reducible rfl
                simp only [Act.put, List.getElem_toArray, List.getElem_cons_zero, List.getElem_cons_succ, List.setIfInBounds_toArray, List.set_cons_zero, List.set_cons_succ]
                refine wpAnyH_take (i := 21) (v := ?_) rfl (by kernel_rfl) (by kernel_rfl) (by kernel_rfl) (fun _ _ _ h => h) (Or.inl ⟨by rfl, ?_⟩) (by assumption) ?_
                rotate_left
                · intro w hSw
                  go_simp
                  try with_reducible rfl
                simp only [Act.put, List.getElem_toArray, List.getElem_cons_zero, List.getElem_cons_succ, List.setIfInBounds_toArray, List.set_cons_zero, List.set_cons_succ]
                refine wpAnyH_take (i := 22) (v := ?_) rfl (by kernel_rfl) (by kernel_rfl) (by kernel_rfl) (fun _ _ _ h => h) (Or.inl ⟨by rfl, ?_⟩) (by assumption) ?_
                rotate_left
                · intro w hSw
                  go_simp
                  try with_reducible rfl
                simp only [Act.put, List.getElem_toArray, List.getElem_cons_zero, List.getElem_cons_succ, List.setIfInBounds_toArray, List.set_cons_zero, List.set_cons_succ]
                refine wpAnyH_take (i := 23) (v := ?_) rfl (by kernel_rfl) (by kernel_rfl) (by kernel_rfl) (fun _ _ _ h => h) (Or.inl ⟨by rfl, ?_⟩) (by assumption) ?_
                rotate_left
                · intro w hSw
                  go_simp
                  try with_reducible rfl
                simp only [Act.put, List.getElem_toArray, List.getElem_cons_zero, List.getElem_cons_succ, List.setIfInBounds_toArray, List.set_cons_zero, List.set_cons_succ]
                refine wpAnyH_take (i := 24) (v := ?_) rfl (by kernel_rfl) (by kernel_rfl) (by kernel_rfl) (fun _ _ _ h => h) (Or.inl ⟨by rfl, ?_⟩) (by assumption) ?_
                rotate_left
                · intro w hSw
                  go_simp
                  try with_reducible rfl
                simp only [Act.put, List.getElem_toArray, List.getElem_cons_zero, List.getElem_cons_succ, List.setIfInBounds_toArray, List.set_cons_zero, List.set_cons_succ]
                refine wpAnyH_take (i := 25) (v := ?_) rfl (by kernel_rfl) (by kernel_rfl) (by kernel_rfl) (fun _ _ _ h => h) (Or.inl ⟨by rfl, ?_⟩) (by assumption) ?_
                rotate_left
                · intro w hSw
                  go_simp
                  try with_reducible rfl
                simp only [Act.put, List.getElem_toArray, List.getElem_cons_zero, List.getElem_cons_succ, List.setIfInBounds_toArray, List.set_cons_zero, List.set_cons_succ]
                refine wpAnyH_take (i := 26) (v := ?_) rfl (by kernel_rfl) (by kernel_rfl) (by kernel_rfl) (fun _ _ _ h => h) (Or.inl ⟨by rfl, ?_⟩) (by assumption) ?_
                rotate_left
                · intro w hSw
                  go_simp
                  try with_reducible rfl
                simp only [Act.put, List.getElem_toArray, List.getElem_cons_zero, List.getElem_cons_succ, List.setIfInBounds_toArray, List.set_cons_zero, List.set_cons_succ]
                refine wpAnyH_done (by kernel_rfl) ?_ _
                have B9 := aside (HB.out.trans (hHeld.1.mono HB.out.size))
                clear hHeld
                go_wp2
                go_roundw
                case rel => exact ⟨k + 1, m + 1 + min tk.size 2147483648 + min tv.size 2147483648, wt_step m tk.size tv.size (by have := HM9.out; omega), by go_num, by omega, show _ ∨ _ from by have := HJ.out; omega, by have := HM9.out; omega, B9⟩
                case measure => simp [intOf]; omega
              · go_wp2
                go_roundw
                case rel => exact ⟨j + 1, m, rfl, by go_num, by omega, Or.inr (by omega), hm, HB⟩
                case measure => simp [intOf]; omega
            · have HL := aside (show totE P (j + 1) = totE P j + el from by simp only [totE, HP.out])
              go_wp2
              go_roundw
              case rel => exact ⟨j + 1, m, rfl, by go_num, by omega, show _ ∨ _ from by have h1 := HJ.out; have h2 := HL.out; omega, hm, HB⟩
              case measure => simp [intOf]; omega
      · go_wp2
        go_ret
        exact ⟨m, rfl, fun g => by omega, HB.out⟩
    · have hjl : j = len := by omega
      subst hjl
      go_wp2
      go_ret
      exact ⟨m, rfl, fun g => by have := HJ.out; omega, HB.out⟩
set_option maxHeartbeats 1600000 in
theorem weightF_any (fr tz o l n tn : Int) (a : Option Addr) (len cap : Nat) (P : Nat → Pm) (w : World) (h : PartsIn w a len cap P) :
    Calls Try.prog 19 #[.agg #[.int .i64 fr, .int .i64 tz, .int .i64 o, .int .i64 l, .int .i64 n, .int .i64 tn, .slice a len cap]] w fun e w' => ∃ m : Nat, e = .returned (.int .i64 (m : Int)) ∧ (m ≤ 536870912 → len + totE P len ≤ m) ∧ Below w.heap.size w w' := by
  have BX := aside (bnew w (.cells #[.int .i64 fr, .int .i64 tz, .int .i64 o, .int .i64 l, .int .i64 n, .int .i64 tn, .slice a len cap] 26))
  have C := aside (weight_any a len cap P _ (h.keep BX.out))
  clear h
  go_enter Try.func19, Try.ntmps19
  go_wp2_with fail
  refine C.out.mono ?_
  rintro e w1 ⟨m, rfl, hm, b1⟩
  have HM := aside hm
  have B1 := aside (bthen BX.out b1)
  clear b1 C BX hm
  go_wp2
  go_ret
  exact ⟨m, rfl, HM.out, B1.out⟩
/-- What beyond says. -/
def BeyondF (w : World) (k : Nat) (e : Ending) (w' : World) : Prop := ∃ q, e = .returned (.bool q) ∧ (q = false → k ≤ 536870912) ∧ Below w.heap.size w w'
end Go.Proofs.Ytbnppmkdhnpdfaa
namespace Go.Proofs.Ytbnppmkdhnpdfaa
open Go.RowKit
set_option linter.unusedVariables false
theorem set_self {w : World} {b k : Nat} {u : Value} (h : w.cell? ⟨b, k, none⟩ = some u) : w.setCell ⟨b, k, none⟩ u = w := by
  have hm : w.heap.modify b (fun x => match x with | .cells c elem frozen => .cells (c.setIfInBounds k u) elem frozen | o => o) = w.heap := by
    apply Array.ext_getElem?
    intro i
    rw [Array.getElem?_modify]
    by_cases hi : b = i
    · subst hi
      rw [if_pos rfl]
      unfold World.cell? at h
      cases hh : w.heap[b]? with
      | none => rfl
      | some ob =>
        rw [hh] at h
        cases ob with
        | cells c t f =>
          simp at h
          have hk : k < c.size := by
            rcases Nat.lt_or_ge k c.size with g | g
            · exact g
            · rw [Array.getElem?_eq_none g] at h; cases h
          have : c.setIfInBounds k u = c := by
            apply Array.ext_getElem?
            intro j
            rw [Array.getElem?_setIfInBounds]
            by_cases hj : k = j
            · subst hj; rw [if_pos rfl, if_pos hk]; exact h.symm
            · rw [if_neg hj]
          simp [this]
        | _ => simp at h
    · rw [if_neg hi]
  unfold World.setCell
  simp
  exact congrArg (fun hp => ({ w with heap := hp } : World)) hm
theorem own_sl {w : World} {B : Nat} {e : TypeId} {s : Nat} {v : Value} {n : Nat} {xs : List Value} (h : w.ownsRow B e s v n xs) (hn : 0 < n) : ∃ g c, v = .slice (some ⟨g, 0, none⟩) n c ∧ B ≤ g := by
  rcases h.2 with ⟨rfl, rfl⟩ | ⟨g, cap, cur, rfl, hb, _⟩
  · omega
  · exact ⟨g, cap, rfl, hb⟩
theorem set_far1 {W : World} {j k : Nat} {ob : Obj} (h : W.heap[j]? = some ob) (hne : j ≠ k) (i : Nat) (v : Value) : (W.setCell ⟨k, i, none⟩ v).heap[j]? = some ob :=
  (Keeps.setCell (Keeps.refl (fun q => q = k) W) (fun _ => rfl) v).block j (Array.getElem?_eq_some_iff.1 h).1 hne |>.trans h
theorem froz_in {w w' : World} {b k : Nat} {u : Value} (h : w.cell? ⟨b, k, none⟩ = some u) (hf : w.frozen? ⟨b, k, none⟩ = false) (bb : Below w.heap.size w w') : w'.frozen? ⟨b, k, none⟩ = false := by
  have hl := World.block_lt_of_cell? w _ h
  unfold World.frozen? at hf ⊢
  rw [bb.block b hl]
  exact hf
/-- Parts without entries. -/
def NoEnts (P : Nat → Pm) (len : Nat) : Prop := ∀ i, i < len → (P i).ea = none ∧ (P i).el = 0 ∧ (P i).ec = 0
theorem NoEnts.in_ {P : Nat → Pm} {len : Nat} (h : NoEnts P len) (w : World) : ∀ i, i < len → (P i).In w := by
  intro i hi
  obtain ⟨h1, h2, h3⟩ := h i hi
  unfold Pm.In
  rw [h1, h2, h3]
  exact ⟨Nat.le_refl _, Nat.zero_le _, .inl rfl⟩
theorem own_apart {w : World} {B g k cap n : Nat} {xs : List Value} (h : w.ownsRow B 46 8 (.slice (some ⟨g, 0, none⟩) n cap) n xs) (a : Nat) (ha : a ≠ g) (u : Value) : (w.setCell ⟨a, k, none⟩ u).ownsRow B 46 8 (.slice (some ⟨g, 0, none⟩) n cap) n xs :=
  ownsRow_keep h ((Keeps.refl (fun k => k = a) w).setCell (fun _ => rfl) u) (fun j hj x => ha (by simp [Value.ownBlock] at hj; omega))
end Go.Proofs.Ytbnppmkdhnpdfaa
namespace Go.Proofs.Ytbnppmkdhnpdfaa
open Go.RowKit
set_option linter.unusedVariables false
theorem op_zeroF {w : World} {o : Oper} {act : Act} {K : Act → World → Prop} {Q : Exit → Act → World → Prop} (ho : o.op = .build 26 #[]) (h : K (act.put o.dst (.agg #[.int .i64 0, .int .i64 0, .int .i64 0, .int .i64 0, .int .i64 0, .int .i64 0, .slice none 0 0])) w) : o.wp Try.prog act w K Q := by
  refine wp_build 26 #[] ho (by kernel_rfl) ?_
  have e : ((Try.prog.built 26 ((#[] : Array (Nat × Operand)).map fun (i, x) => (i, act.eval x)).toList).getD #[]) = #[.int .i64 0, .int .i64 0, .int .i64 0, .int .i64 0, .int .i64 0, .int .i64 0, .slice none 0 0] := by kernel_rfl
  rw [e]
  exact h
/-- What First, Answer and checked tell. -/
def TellsF (w : World) (fr tz o l n tn q : Int) (P : Nat → Pm) (len : Nat) (e : Ending) (w' : World) : Prop :=
  Below w.heap.size w w' ∧ ((q = 0 ∧ ∃ g cp, e = .returned (.tuple #[.agg #[.int .i64 fr, .int .i64 tz, .int .i64 o, .int .i64 l, .int .i64 n, .int .i64 tn, .slice (some ⟨g, 0, none⟩) len cp], .int .i64 0]) ∧ PartsIn w' (some ⟨g, 0, none⟩) len cp P ∧ w.heap.size ≤ g) ∨ (q ≠ 0 ∧ e = .returned (.tuple #[.agg #[.int .i64 0, .int .i64 0, .int .i64 0, .int .i64 0, .int .i64 0, .int .i64 0, .slice none 0 0], .int .i64 q])))
theorem chkf_of {fr tz o l n tn : Int} {a : Option Addr} {len cap : Nat} {P : Nat → Pm} {w : World} (h : PartsIn w a len cap P) (hT : totE P len ≤ 4611686018427387904) {q : Int} (hq : fChk fr tz o l n tn P len = q) :
    Calls Try.prog 21 #[.agg #[.int .i64 fr, .int .i64 tz, .int .i64 o, .int .i64 l, .int .i64 n, .int .i64 tn, .slice a len cap]] w fun e w' => e = .returned (.int .i64 q) ∧ Below w.heap.size w w' := by
  subst hq
  exact chkf_any fr tz o l n tn a len cap P w h hT
theorem parts_at {w : World} {a : Nat} {g cap n k : Nat} {P : Nat → Pm} (h : PartsIn w (some ⟨g, 0, none⟩) n cap P) (hN : NoEnts P n) (ha : a ≠ g) (u : Value) : PartsIn (w.setCell ⟨a, k, none⟩ u) (some ⟨g, 0, none⟩) n cap P := by
  obtain ⟨h1, h2, h3⟩ := h
  refine ⟨h1, h2, ?_⟩
  rcases h3 with h3 | ⟨b, off, he, hb, hc⟩
  · exact .inl h3
  · refine .inr ⟨b, off, he, ?_, fun i hi => ⟨?_, hN.in_ _ i hi⟩⟩
    · simpa [World.setCell] using hb
    · have hbg : b ≠ a := by simp at he; omega
      obtain ⟨c0, c1, c2, c3, c4, c5, c6, c7⟩ := (hc i hi).1
      exact ⟨cell_apart c0 hbg, cell_apart c1 hbg, cell_apart c2 hbg, cell_apart c3 hbg, cell_apart c4 hbg, cell_apart c5 hbg, cell_apart c6 hbg, cell_apart c7 hbg⟩
end Go.Proofs.Ytbnppmkdhnpdfaa
namespace Go.Proofs.Ytbnppmkdhnpdfaa
open Go.RowKit
set_option linter.unusedVariables false
/-- The one part of a first frame. -/
def P1 (c x z : Int) : Nat → Pm := fun _ => ⟨1, ⟨#[]⟩, ⟨#[]⟩, true, c, x, z, none, 0, 0, fun _ => ⟨⟨#[]⟩, 0, 0, ⟨#[]⟩, false⟩⟩
theorem P1_no (c x z : Int) (n : Nat) : NoEnts (P1 c x z) n := fun _ _ => ⟨rfl, rfl, rfl⟩
theorem P1_in {w : World} {k : Nat} {c x z : Int} (h : w.heap[k]? = some (.cells #[.int .i64 1, .string ⟨#[]⟩, .string ⟨#[]⟩, .bool true, .int .i64 c, .int .u64 x, .int .u64 z, .slice none 0 0] 46 (0, 0))) : PartsIn w (some ⟨k, 0, none⟩) 1 1 (P1 c x z) := by
  refine ⟨Nat.le_refl _, by unfold maxLen; omega, .inr ⟨k, 0, rfl, (Array.getElem?_eq_some_iff.1 h).1, fun i hi => ⟨?_, (P1_no c x z 1).in_ _ i hi⟩⟩⟩
  obtain rfl : i = 0 := by omega
  exact oct8 h
theorem P1_tot (c x z : Int) : totE (P1 c x z) 1 = 0 := rfl
end Go.Proofs.Ytbnppmkdhnpdfaa
namespace Go.Proofs.Ytbnppmkdhnpdfaa
open Go.RowKit
set_option linter.unusedVariables false
theorem chkR_of {fr tz o l n tn : Int} {a : Option Addr} {len cap : Nat} {P : Nat → Pm} {w : World} (h : PartsIn w a len cap P) {q : Int} (hq : fChk fr tz o l n tn P len = q) :
    Calls Try.prog 17 #[.agg #[.int .i64 fr, .int .i64 tz, .int .i64 o, .int .i64 l, .int .i64 n, .int .i64 tn, .slice a len cap]] w fun e w' => e = .returned (.int .i64 q) ∧ Below w.heap.size w w' := by
  subst hq
  exact chkR_any fr tz o l n tn a len cap P w h
end Go.Proofs.Ytbnppmkdhnpdfaa
namespace Go.Proofs.Ytbnppmkdhnpdfaa
open Go.RowKit
set_option linter.unusedVariables false
theorem nil_in (w : World) (P : Nat → Pm) : PartsIn w none 0 0 P := ⟨Nat.le_refl _, Nat.zero_le _, .inl rfl⟩
theorem same_self (p : Pm) : SamePm p p := ⟨rfl, rfl, rfl, rfl, rfl, rfl, rfl, rfl, fun _ _ => rfl⟩
end Go.Proofs.Ytbnppmkdhnpdfaa
namespace Go.Proofs.Ytbnppmkdhnpdfaa
open Go.RowKit
set_option linter.unusedVariables false
theorem kLt_le {a b c : ByteArray} (h : kLt a b = true) (h2 : kLt c b = false) : kLt a c = true := by
  unfold kLt at *
  cases h3 : Op.bytesLess b.toList c.toList
  · have e := L_total _ _ h3 h2
    rw [← e]; exact h
  · exact L_trans _ _ _ h h3
theorem le_kLt {a b c : ByteArray} (h : kLt b a = false) (h2 : kLt b c = true) : kLt a c = true := by
  unfold kLt at *
  cases h3 : Op.bytesLess a.toList b.toList
  · have e := L_total _ _ h3 h
    rw [e]; exact h2
  · exact L_trans _ _ _ h3 h2
theorem le_le {a b c : ByteArray} (h : kLt b a = false) (h2 : kLt c b = false) : kLt c a = false := by
  cases h3 : kLt c a
  · rfl
  · have := kLt_le h3 h
    rw [this] at h2; cases h2
theorem kLt_tr {a b c : ByteArray} (h : kLt a b = true) (h2 : kLt b c = true) : kLt a c = true := L_trans _ _ _ h h2
theorem ptN_all {P : Nat → Pm} : ∀ {n : Nat}, ptN P n = 0 → ∀ i, i < n → ptAt P i = 0 := by
  intro n
  induction n with
  | zero => intro _ i hi; omega
  | succ n ih =>
    intro h i hi
    have h0 : ptN P n = 0 := by
      by_cases g : ptN P n = 0
      · exact g
      · rw [ptN_stay g (n + 1) (by omega)] at h; exact absurd h g
    rcases Nat.lt_or_ge i n with g | g
    · exact ih h0 i g
    · obtain rfl : i = n := by omega
      rw [← ptN_step h0]; exact h
theorem itN_all {r : Rg} {T : Nat → En} : ∀ {n : Nat}, itN r T n = 0 → ∀ i, i < n → itAt r T i = 0 := by
  intro n
  induction n with
  | zero => intro _ i hi; omega
  | succ n ih =>
    intro h i hi
    have h0 : itN r T n = 0 := by
      by_cases g : itN r T n = 0
      · exact g
      · rw [itN_stay g (n + 1) (by omega)] at h; exact absurd h g
    rcases Nat.lt_or_ge i n with g | g
    · exact ih h0 i g
    · obtain rfl : i = n := by omega
      rw [← itN_step h0]; exact h
theorem itAt_zero {r : Rg} {T : Nat → En} {i : Nat} (h : itAt r T i = 0) : r.has (T i).k = true ∧ (0 < i → kLt (T (i - 1)).k (T i).k = true) := by
  unfold itAt at h
  by_cases g : (T i).chk = 0
  · rw [if_neg (by simp [g])] at h
    by_cases g2 : r.has (T i).k = false ∨ (0 < i ∧ kLt (T (i - 1)).k (T i).k = false)
    · rw [if_pos g2] at h; cases h
    · refine ⟨?_, fun hi => ?_⟩
      · cases e : r.has (T i).k
        · exact absurd (.inl e) g2
        · rfl
      · cases e : kLt (T (i - 1)).k (T i).k
        · exact absurd (.inr ⟨hi, e⟩) g2
        · rfl
  · rw [if_pos g] at h; exact absurd h g
/-- A part that may be, behind those ahead of it. -/
structure GoodP (P : Nat → Pm) (i : Nat) : Prop where
  chk : (P i).rg.chk = 0
  emp : (P i).rg.emp = false
  op : ahOp P i = false
  lo : kLt (P i).lo (ahHi P i) = false
  its : ∀ k, k < (P i).el → itAt (P i).rg (P i).T k = 0
theorem good_of {P : Nat → Pm} {i : Nat} (h : ptAt P i = 0) : GoodP P i := by
  unfold ptAt Pm.chk at h
  cases h1 : (P i).alone
  · rw [if_pos h1] at h; cases h
  · rw [if_neg (by simp [h1])] at h
    by_cases h2 : (P i).rg.chk = 0
    · rw [if_neg (by simp [h2])] at h
      by_cases h3 : (P i).rg.emp = true ∨ ahOp P i = true ∨ kLt (P i).lo (ahHi P i) = true
      · rw [if_pos h3] at h; cases h
      · rw [if_neg h3] at h
        refine ⟨h2, ?_, ?_, ?_, ?_⟩
        · cases e : (P i).rg.emp
          · rfl
          · exact absurd (.inl e) h3
        · cases e : ahOp P i
          · rfl
          · exact absurd (.inr (.inl e)) h3
        · cases e : kLt (P i).lo (ahHi P i)
          · rfl
          · exact absurd (.inr (.inr e)) h3
        · by_cases h4 : (P i).kind = 1
          · unfold Pm.alone at h1
            rw [if_pos h4] at h1
            intro k hk
            have : (P i).el = 0 := by simpa using h1
            omega
          · rw [if_neg h4] at h
            unfold Pm.its at h
            by_cases h5 : itN (P i).rg (P i).T (P i).el = 0
            · exact fun k hk => itN_all h5 k hk
            · rw [if_pos h5] at h; exact absurd h h5
    · rw [if_pos h2] at h; exact absurd h h2
theorem chk_le {p : Rg} (h : p.chk = 0) (ho : p.op = false) : kLt p.hi p.lo = false := by
  unfold Rg.chk at h
  split at h
  · cases h
  · split at h
    · cases h
    · rename_i g
      rw [ho] at g
      simp only [Bool.false_and, Bool.not_false, Bool.true_and, Bool.false_or] at g
      cases e : kLt p.hi p.lo
      · rfl
      · exfalso
        apply g
        have e1 : Op.bytesLess p.lo.toList p.hi.toList = false := by
          cases q : Op.bytesLess p.lo.toList p.hi.toList
          · rfl
          · have := L_trans _ _ _ q e
            rw [L_irrefl] at this; cases this
        have e2 : (p.lo.toList == p.hi.toList) = false := by
          rw [beq_eq_false_iff_ne]; intro q
          unfold kLt at e; rw [q, L_irrefl] at e; cases e
        rw [e1, e2]; rfl
theorem has_ge {p : Rg} {k : ByteArray} (h : p.has k = true) : kLt k p.lo = false := by
  unfold Rg.has at h
  simp only [Bool.and_eq_true, Bool.not_eq_true'] at h
  exact h.1.2
theorem has_lt {p : Rg} {k : ByteArray} (h : p.has k = true) (ho : p.op = false) : kLt k p.hi = true := by
  unfold Rg.has at h
  simp only [Bool.and_eq_true] at h
  rw [ho, Bool.false_or] at h
  exact h.2
/-- The keys of a part, of the first n parts. -/
def keysP (p : Pm) (k : Nat) : List ByteArray := (List.range k).map fun i => (p.T i).k
def keysL (P : Nat → Pm) : Nat → List ByteArray
  | 0 => []
  | n + 1 => keysL P n ++ keysP (P n) (P n).el
theorem keysP_len (p : Pm) (k : Nat) : (keysP p k).length = k := by simp [keysP]
theorem keysL_len (P : Nat → Pm) : ∀ n, (keysL P n).length = totE P n
  | 0 => rfl
  | n + 1 => by simp only [keysL, List.length_append, keysL_len P n, keysP_len, totE]
theorem keysP_snoc (p : Pm) (k : Nat) : keysP p (k + 1) = keysP p k ++ [(p.T k).k] := by unfold keysP; rw [List.range_succ, List.map_append]; rfl
abbrev RisesB (l : List ByteArray) : Prop := l.Pairwise (fun a b => kLt a b = true)
theorem snoc_rises {l : List ByteArray} {x : ByteArray} (h : RisesB l) (h2 : ∀ y ∈ l, kLt y x = true) : RisesB (l ++ [x]) :=
  List.pairwise_append.2 ⟨h, List.pairwise_singleton _ _, fun a ha b hb => by rw [List.mem_singleton] at hb; subst hb; exact h2 a ha⟩
theorem keysP_rises {p : Pm} (h : ∀ k, k < p.el → itAt p.rg p.T k = 0) : ∀ k, k ≤ p.el → RisesB (keysP p k) := by
  intro k
  induction k with
  | zero => intro _; exact List.Pairwise.nil
  | succ k ih =>
    intro hk
    rw [keysP_snoc]
    refine snoc_rises (ih (by omega)) ?_
    cases k with
    | zero => intro y hy; simp [keysP] at hy
    | succ k =>
      have h1 := (itAt_zero (h (k + 1) (by omega))).2 (by omega)
      rw [show k + 1 - 1 = k from rfl] at h1
      intro y hy
      rw [keysP_snoc] at hy
      rcases List.mem_append.1 hy with hy | hy
      · have h2 := ih (by omega)
        rw [keysP_snoc] at h2
        exact kLt_tr ((List.pairwise_append.1 h2).2.2 y hy _ (List.mem_singleton.2 rfl)) h1
      · rw [List.mem_singleton] at hy; subst hy; exact h1
theorem keysP_mem {p : Pm} {k : Nat} {b : ByteArray} (h : b ∈ keysP p k) : ∃ i, i < k ∧ b = (p.T i).k := by
  unfold keysP at h
  obtain ⟨i, hi, rfl⟩ := List.mem_map.1 h
  exact ⟨i, List.mem_range.1 hi, rfl⟩
theorem keys_below {P : Nat → Pm} : ∀ n, (∀ i, i < n → GoodP P i) → ahOp P n = false → ∀ a ∈ keysL P n, kLt a (ahHi P n) = true
  | 0, _, _ => fun a ha => by simp [keysL] at ha
  | n + 1, hg, ho => fun a ha => by
    have g := hg n (by omega)
    simp only [keysL, List.mem_append] at ha
    simp only [ahHi]
    simp only [ahOp] at ho
    rcases ha with ha | ha
    · have h1 := keys_below n (fun i hi => hg i (by omega)) g.op a ha
      have h2 : kLt a (P n).lo = true := kLt_le h1 g.lo
      exact kLt_le h2 (chk_le g.chk ho)
    · obtain ⟨i, hi, rfl⟩ := keysP_mem ha
      exact has_lt (itAt_zero (g.its i hi)).1 ho
theorem keysL_rises {P : Nat → Pm} : ∀ n, (∀ i, i < n → GoodP P i) → RisesB (keysL P n)
  | 0, _ => List.Pairwise.nil
  | n + 1, hg => by
    have g := hg n (by omega)
    refine List.pairwise_append.2 ⟨keysL_rises n (fun i hi => hg i (by omega)), keysP_rises g.its _ (Nat.le_refl _), fun a ha b hb => ?_⟩
    have h1 := keys_below n (fun i hi => hg i (by omega)) g.op a ha
    obtain ⟨i, hi, rfl⟩ := keysP_mem hb
    exact kLt_le (kLt_le h1 g.lo) (has_ge (itAt_zero (g.its i hi)).1)
theorem rises_good {P : Nat → Pm} {n : Nat} (hg : ∀ i, i < n → GoodP P i) : rises (fun i => (P i).rg) n = true := by
  unfold rises
  rw [Bool.and_eq_true]
  refine ⟨?_, ?_⟩
  · rw [Bool.not_eq_true']
    unfold anyE
    rw [List.any_eq_false]
    intro i hi
    rw [(hg i (List.mem_range.1 hi)).emp]
    simp
  · rw [List.all_eq_true]
    intro x hx
    unfold upto at hx
    obtain ⟨i, hi, rfl⟩ := List.mem_map.1 hx
    have hi' := List.mem_range.1 hi
    have g := hg (i + 1) (by omega)
    have h1 := g.op
    have h2 := g.lo
    simp only [ahOp, ahHi] at h1 h2
    unfold kLt at h2
    unfold okP
    simp only [Pm.rg]
    rw [h1, h2]; rfl
theorem goods {P : Nat → Pm} {n : Nat} (h : psChk P n = 0) : n ≤ 768 ∧ totE P n ≤ 256 ∧ ∀ i, i < n → GoodP P i := by
  unfold psChk at h
  by_cases g : 768 < n ∨ 256 < totE P n
  · rw [if_pos g] at h; cases h
  · rw [if_neg g] at h
    exact ⟨by omega, by omega, fun i hi => good_of (ptN_all h i hi)⟩
/-- Ranges as cells. -/
def rgVals (q : Rg) : List Value := [.string q.lo, .string q.hi, .bool q.op]
def rgCells : List Rg → List Value
  | [] => []
  | e :: r => rgVals e ++ rgCells r
theorem rgCells_length : ∀ l : List Rg, (rgCells l).length = l.length * 3
  | [] => rfl
  | e :: r => by simp only [rgCells, List.length_append, rgCells_length r, List.length_cons, rgVals]; simp; omega
theorem rgCells_append : ∀ l m : List Rg, rgCells (l ++ m) = rgCells l ++ rgCells m
  | [], _ => rfl
  | e :: r, m => by simp [rgCells, rgCells_append r m]
theorem rgCells_at : ∀ (l : List Rg) (i r : Nat) (e : Rg), l[i]? = some e → r < 3 → (rgCells l)[i * 3 + r]? = (rgVals e)[r]?
  | [], i, r, e, h, _ => by simp at h
  | x :: t, 0, r, e, h, hr => by
    simp at h; subst h
    simp only [rgCells]
    rw [List.getElem?_append_left (by simp [rgVals]; omega)]
    simp
  | x :: t, i + 1, r, e, h, hr => by
    simp only [rgCells]
    rw [List.getElem?_append_right (by simp [rgVals]; omega)]
    have := rgCells_at t i r e (by simpa using h) hr
    rw [← this]
    congr 1
    simp [rgVals]
    omega
theorem infoRgF : (Try.prog.info? 38).map (fun i => (i.zero, i.size, i.bytes)) = some (some (.agg #[.string ⟨#[]⟩, .string ⟨#[]⟩, .bool false]), 3, 40) := by kernel_rfl
def rgsL (P : Nat → Pm) (n : Nat) : List Rg := (List.range n).map fun i => (P i).rg
theorem rgsL_snoc (P : Nat → Pm) (n : Nat) : rgsL P (n + 1) = rgsL P n ++ [(P n).rg] := by unfold rgsL; rw [List.range_succ, List.map_append]; rfl
/-- Texts as cells. -/
def strC (l : List ByteArray) : List Value := l.map Value.string
theorem strC_append (l : List ByteArray) (s : ByteArray) : strC (l ++ [s]) = strC l ++ [.string s] := by simp [strC]
theorem infoStr : (Try.prog.info? 9).map (fun i => (i.zero, i.size, i.bytes)) = some (some (.string ⟨#[]⟩), 1, 16) := by kernel_rfl
/-- A block that is no row stays under an append to a row. -/
theorem blk_grown {w w' : World} {k r : Nat} {o : Obj} (h : w.heap[k]? = some o) (hg : w.grownBy w' (some r)) (hne : k ≠ r) : w'.heap[k]? = some o := by
  obtain ⟨_, _, _, _, hb⟩ := hg
  rw [hb k (Array.getElem?_eq_some_iff.1 h).1 (fun e => hne (by cases e; rfl))]
  exact h
theorem own_grown {w w' : World} {B e s g n c r : Nat} {xs : List Value} (h : w.ownsRow B e s (.slice (some ⟨g, 0, none⟩) n c) n xs) (hg : w.grownBy w' (some r)) (hne : g ≠ r) : w'.ownsRow B e s (.slice (some ⟨g, 0, none⟩) n c) n xs := by
  refine ⟨h.1, ?_⟩
  rcases h.2 with ⟨h1, _⟩ | ⟨g', cap, cur, h1, h2, h3, h4⟩
  · cases h1
  · injection h1 with e1 e2 e3
    injection e1 with e1
    injection e1 with e1
    subst e1
    exact .inr ⟨g, cap, cur, by rw [e3], h2, blk_grown h3 hg hne, h4⟩
theorem own_type {w : World} {B B' e e' s s' g n n' c c' : Nat} {xs ys : List Value} (h : w.ownsRow B e s (.slice (some ⟨g, 0, none⟩) n c) n xs) (h' : w.ownsRow B' e' s' (.slice (some ⟨g, 0, none⟩) n' c') n' ys) : e = e' := by
  rcases h.2 with ⟨h1, _⟩ | ⟨g1, cap, cur, h1, h2, h3, h4⟩
  · cases h1
  · rcases h'.2 with ⟨k1, _⟩ | ⟨g2, cap2, cur2, k1, k2, k3, k4⟩
    · cases k1
    · injection h1 with e1 e2 e3
      injection e1 with e1
      injection e1 with e1
      injection k1 with d1 d2 d3
      injection d1 with d1
      injection d1 with d1
      subst e1
      subst d1
      rw [h3] at k3
      injection k3 with k3
      injection k3 with _ k3 _
end Go.Proofs.Ytbnppmkdhnpdfaa
namespace Go.Proofs.Ytbnppmkdhnpdfaa
open Go.RowKit
set_option linter.unusedVariables false
/-- Items of the whole range without entries. -/
def P2 : Nat → Pm := fun _ => ⟨2, ⟨#[]⟩, ⟨#[]⟩, true, 0, 0, 0, none, 0, 0, fun _ => ⟨⟨#[]⟩, 0, 0, ⟨#[]⟩, false⟩⟩
theorem P2_no (n : Nat) : NoEnts P2 n := fun _ _ => ⟨rfl, rfl, rfl⟩
theorem P2_in {w : World} {k : Nat} (h : w.heap[k]? = some (.cells #[.int .i64 2, .string ⟨#[]⟩, .string ⟨#[]⟩, .bool true, .int .i64 0, .int .u64 0, .int .u64 0, .slice none 0 0] 46 (0, 0))) : PartsIn w (some ⟨k, 0, none⟩) 1 1 P2 := by
  refine ⟨Nat.le_refl _, by unfold maxLen; omega, .inr ⟨k, 0, rfl, (Array.getElem?_eq_some_iff.1 h).1, fun i hi => ⟨?_, (P2_no 1).in_ _ i hi⟩⟩⟩
  obtain rfl : i = 0 := by omega
  exact oct8 h
theorem P2_tot : totE P2 1 = 0 := rfl
theorem P2_chk : psChk P2 1 = 0 := by
  have h1 : Rg.chk ⟨⟨#[]⟩, ⟨#[]⟩, true⟩ = 0 := by decide +kernel
  have h2 : Rg.emp ⟨⟨#[]⟩, ⟨#[]⟩, true⟩ = false := by decide +kernel
  have h3 : kLt (⟨#[]⟩ : ByteArray) ⟨#[]⟩ = false := by decide +kernel
  have h4 : ptAt P2 0 = 0 := by
    unfold ptAt
    exact (chk_5 (p := P2 0) rfl h1 h2 rfl h3 (by decide)).trans rfl
  unfold psChk
  rw [if_neg (by rw [P2_tot]; omega), ptN_step rfl]
  exact h4
theorem fchk_zero {fr tz o l n tn : Int} {P : Nat → Pm} {len : Nat} (h : fChk fr tz o l n tn P len = 0) : endsB fr tz o = true ∧ Nm.chk o l n = 0 ∧ turnB tn fr o = true ∧ psChk P len = 0 := by
  unfold fChk at h
  cases h1 : endsB fr tz o
  · rw [if_pos h1] at h; cases h
  · rw [if_neg (by simp [h1])] at h
    by_cases h2 : Nm.chk o l n = 0
    · rw [if_neg (by simp [h2])] at h
      cases h3 : turnB tn fr o
      · rw [if_pos h3] at h; cases h
      · rw [if_neg (by simp [h3])] at h
        by_cases h4 : psChk P len = 0
        · exact ⟨rfl, h2, rfl, h4⟩
        · rw [if_pos h4] at h; exact absurd h h4
    · rw [if_pos h2] at h; exact absurd h h2
theorem turn_ok {tn fr o : Int} (h : turnB tn fr o = true) : 0 ≤ tn ∧ tn ≤ 63 ∧ ((tn % 2 = 0) ↔ fr = o) := by
  unfold turnB at h
  simp only [Bool.and_eq_true, decide_eq_true_eq, beq_iff_eq] at h
  obtain ⟨⟨h1, h2⟩, h3⟩ := h
  refine ⟨by omega, by omega, ?_⟩
  constructor
  · intro g
    have : (tn % 2 == 0) = true := by simpa using g
    rw [this] at h3
    simpa using h3.symm
  · intro g
    have : (fr == o) = true := by simpa using g
    rw [this] at h3
    simpa using h3
theorem turn_mk {tn fr o : Int} (h0 : 0 ≤ tn) (h1 : tn ≤ 63) (h2 : (tn % 2 = 0) ↔ fr = o) : turnB tn fr o = true := by
  unfold turnB
  rw [decide_eq_true (show ¬ tn < 0 by omega), decide_eq_true (show ¬ 63 < tn by omega)]
  by_cases g : tn % 2 = 0
  · have a1 : (tn % 2 == 0) = true := by simpa using g
    have a2 : (fr == o) = true := by simpa using h2.1 g
    rw [a1, a2]; rfl
  · have a1 : (tn % 2 == 0) = false := by simpa using g
    have a2 : (fr == o) = false := by simpa using (fun e => g (h2.2 e))
    rw [a1, a2]; rfl
theorem ends_ok {fr tz o : Int} (h : endsB fr tz o = true) : nodeB fr = true ∧ nodeB tz = true ∧ ¬ fr = tz ∧ (o = fr ∨ o = tz) := by
  unfold endsB at h
  simp at h
  exact ⟨h.1.1.1, h.1.1.2, h.1.2, h.2⟩
theorem ends_swap {fr tz o : Int} (h : endsB fr tz o = true) : endsB tz fr o = true := by
  obtain ⟨h1, h2, h3, h4⟩ := ends_ok h
  unfold endsB
  rw [h1, h2, beq_eq_false_iff_ne.2 (fun e => h3 e.symm)]
  rcases h4 with h4 | h4 <;> simp [h4]
theorem next_turn {fr tz o l n tn : Int} {P : Nat → Pm} {len : Nat} (h : fChk fr tz o l n tn P len = 0) (h1 : tn < 63) : fChk tz fr o l n (tn + 1) P2 1 = 0 := by
  obtain ⟨e1, e2, e3, -⟩ := fchk_zero h
  obtain ⟨t1, t2, t3⟩ := turn_ok e3
  obtain ⟨-, -, d3, d4⟩ := ends_ok e1
  refine fchk_6 (ends_swap e1) e2 (turn_mk (by omega) (by omega) ?_) P2_chk (fun g => by omega)
  constructor
  · intro g
    rcases d4 with d | d
    · exact absurd (t3.2 d.symm) (by omega)
    · exact d.symm
  · intro g
    have : ¬ tn % 2 = 0 := fun u => by have := t3.1 u; omega
    omega
theorem last_turn {fr tz o l n tn : Int} {P : Nat → Pm} {len : Nat} (h : fChk fr tz o l n tn P len = 0) (h1 : tn = 63) : fChk tz fr o l n (tn + 1) P2 1 = 112 := by
  obtain ⟨e1, e2, -, -⟩ := fchk_zero h
  refine fchk_3 (ends_swap e1) e2 ?_
  unfold turnB
  rw [decide_eq_false (show ¬ ¬ 63 < tn + 1 by omega)]
  simp
theorem name_ne_same (a l n : Int) (w : World) : (binOp .neq 23 (.agg #[.int .i64 a, .int .i64 l, .int .i64 n]) (.agg #[.int .i64 a, .int .i64 l, .int .i64 n])).run Try.prog w = .ok (.bool false) w := by
  rw [run_neq_struct, show (10000 : Nat) = 9999 + 1 from rfl]
  go_simp
end Go.Proofs.Ytbnppmkdhnpdfaa
namespace Go.Proofs.Ytbnppmkdhnpdfaa
open Go.RowKit
set_option linter.unusedVariables false


theorem dec_any (a : Option Addr) (len cap : Nat) (l : List UInt8) (w : World) (hR : ∀ w', Below w.heap.size w w' → Reads w' (.slice a len cap) l) (hlen : len = l.length) :
    Calls Try.prog 14 #[.slice a len cap] w (DecP w l) := by
  rcases hf : frameSt l with ⟨⟨fr, tz, o, lf, n, tn, ps⟩, p, e⟩
  by_cases hl : 65536 < len
  · exact dec_long a len cap l w hR hl (decF_no hf (fun h => by omega))
  · obtain ⟨q, hq⟩ : ∃ q, doneOf ((l.length : Int) - (p : Int)) e = q := ⟨_, rfl⟩
    by_cases hq0 : q = 0
    · subst hq0
      obtain ⟨rfl, -⟩ := done_zero hq
      obtain ⟨hok, -⟩ := frame_inv hf
      obtain ⟨ch, hch⟩ : ∃ ch, FV.chk ⟨fr, tz, o, lf, n, tn, ps⟩ = ch := ⟨_, rfl⟩
      by_cases hc0 : ch = 0
      · exact dec_ok a len cap l w hR (by omega) (by omega) hf hq rfl hok hch hc0 (decF_ok hf (by omega) hq (by rw [hch]; exact hc0))
      · exact dec_chk a len cap l w hR (by omega) (by omega) hf hq rfl hok hch hc0 (decF_no hf (fun h => hc0 (by rw [← hch]; exact h.2.2)))
    · exact dec_done a len cap l w hR (by omega) (by omega) hf hq hq0 (decF_no hf (fun h => hq0 (by rw [← hq]; exact h.2.1)))
theorem decF_put {F : FV} (h : FVok F) (hc : F.chk = 0) (hl : (frameB F).length ≤ 65536) : decF (frameB F) = some F := by
  have h1 := frame_put h (show frameB F = frameB F ++ [] by simp)
  refine decF_ok h1 hl ?_ hc
  unfold doneOf
  rw [if_neg (by omega)]
theorem decF_more {F : FV} {x : List UInt8} (h : FVok F) (hx : x ≠ []) : decF (frameB F ++ x) = none := by
  have h1 := frame_put h (show frameB F ++ x = frameB F ++ x from rfl)
  refine decF_no h1 (fun h => ?_)
  have h2 := (done_zero h.2.1).2
  apply h2
  have : 0 < x.length := List.length_pos_iff.2 hx
  rw [List.length_append]
  omega
/-- What was decoded was written so. -/
theorem decF_inv {l : List UInt8} {F : FV} (h : decF l = some F) : FVok F ∧ F.chk = 0 ∧ l = frameB F ∧ l.length ≤ 65536 := by
  rcases hf : frameSt l with ⟨G, p, e⟩
  by_cases hc : l.length ≤ 65536 ∧ doneOf ((l.length : Int) - (p : Int)) e = 0 ∧ G.chk = 0
  · rw [decF_ok hf hc.1 hc.2.1 hc.2.2] at h
    injection h with h
    subst h
    obtain ⟨rfl, hd⟩ := done_zero hc.2.1
    obtain ⟨h1, h2, h3⟩ := frame_inv hf
    refine ⟨h1, hc.2.2, ?_, hc.1⟩
    rw [List.drop_of_length_le (by omega), List.append_nil] at h2
    exact h2
  · rw [decF_no hf hc] at h
    cases h
theorem own_pre {w : World} {B g n m cap : Nat} {xs : List Value} (h : w.ownsRow B 5 1 (.slice (some ⟨g, 0, none⟩) n cap) n xs) (hm : m ≤ n) : w.ownsRow B 5 1 (.slice (some ⟨g, 0, none⟩) m cap) m (xs.take m) := by
  refine ⟨by rw [List.length_take, h.1]; omega, ?_⟩
  rcases h.2 with ⟨h1, _⟩ | ⟨g', cap', cur, h1, h2, h3, h4, h5, h6, h7⟩
  · cases h1
  · injection h1 with e1 e2 e3
    injection e1 with e1
    injection e1 with e1
    subst e1 e3
    refine .inr ⟨g, cap, cur, rfl, h2, h3, by omega, h5, h6, ?_⟩
    rw [← h7, List.take_take, Nat.min_eq_left (by omega)]; simp
/-- Bytes of a block appended to an owned row that is not nil: the row grows in its place, or a new one is laid. -/
theorem op_append_bytes {w : World} {o : Oper} {act : Act} {K : Act → World → Prop} {Q : Exit → Act → World → Prop} (s x : Operand)
    (ho : o.op = .call { callee := .builtin .append, args := #[s, x], argTypes := #[30, 30] })
    (B n g0 c0 : Nat) (xs : List Value) (hs : act.eval s = .slice (some ⟨g0, 0, none⟩) n c0) (hA : w.ownsRow B 5 1 (.slice (some ⟨g0, 0, none⟩) n c0) n xs) (b m c : Nat) (news : List Value) (hx : act.eval x = .slice (some ⟨b, 0, none⟩) m c)
    (hc : ∀ j u, news[j]? = some u → w.cell? ((⟨b, 0, none⟩ : Addr).add j) = some u) (hn : news.length = m) (h1c : ∀ u ∈ news, u.oneCell' = true) (hlen : n + m ≤ 140737488351232) (hB : B ≤ w.heap.size) (hm : 0 < m)
    (h : ∀ g cap w', w'.ownsRow B 5 1 (.slice (some ⟨g, 0, none⟩) (n + m) cap) (n + m) (xs ++ news) → ((g = g0 ∧ cap = c0 ∧ w.grownBy w' (some g0)) ∨ (w.heap.size ≤ g ∧ w.grownBy w' none)) → K (act.put o.dst (.slice (some ⟨g, 0, none⟩) (n + m) cap)) w') : o.wp Try.prog act w K Q := by
  obtain ⟨i0, hi, hz0, hz1, hz2⟩ := info_parts info8
  by_cases hroom : n + m ≤ c0
  · obtain ⟨w', hrun, r1, r2⟩ := run_append_fits (P := Try.prog) w B 30 o.type 5 i0 1 Try.underlying30 hi hz1 g0 n c0 xs hA ⟨b, 0, none⟩ m c news (by rw [hn]; omega) hc h1c hroom
    unfold Oper.wp
    simp [execOp, ho, resolve, invoke, builtin, hs, hx, hrun, Result.andThen]
    exact h g0 c0 w' r1 (.inl ⟨rfl, rfl, r2⟩)
  · have hl : xs.length = n * 1 := hA.1
    obtain ⟨v', w', hrun, r1, r2⟩ := run_append_arg_grows (P := Try.prog) w 30 o.type 5 i0 _ 1 1 Try.underlying30 hi hz0 hz1 hz2 rfl (by decide) ⟨g0, 0, none⟩ n c0 xs hl (fun j u hj => by
      have hjl : j < n * 1 := by rw [← hl]; exact (List.getElem?_eq_some_iff.1 hj).1
      rw [Addr.add_lit, Nat.zero_add, hA.cellAt j (by omega)]
      exact hj) ⟨b, 0, none⟩ m c news (by rw [hn]; omega) hc (by omega) (by unfold maxLen; omega) (by omega)
    unfold Oper.wp
    simp [execOp, ho, resolve, invoke, builtin, hs, hx, hrun, Result.andThen]
    rcases r1.2 with ⟨h1, h2⟩ | ⟨g, cap', cur, rfl, hge, _⟩
    · omega
    · exact h g cap' w' (own_low r1 hB) (.inr ⟨hge, r2⟩)
/-- What is wrong with nothing wrong: a frame whose bytes can be read again. -/
theorem part_ok {P : Nat → Pm} {i : Nat} (h : ptAt P i = 0) (hel : (P i).el ≤ 256) (hu : (0 ≤ (P i).s0 ∧ (P i).s0 < 18446744073709551616) ∧ 0 ≤ (P i).s1 ∧ (P i).s1 < 18446744073709551616) : PVok (pvOf (P i)) := by
  have g := good_of h
  have hr := g.chk
  unfold ptAt Pm.chk at h
  have hal : (P i).alone = true := by
    cases h1 : (P i).alone
    · rw [if_pos h1] at h; cases h
    · rfl
  rw [if_neg (by simp [hal]), if_neg (by simp [hr]), if_neg (by rw [g.emp, g.op, g.lo]; simp)] at h
  have hk : (P i).kind = 1 ∨ (P i).kind = 2 ∨ (P i).kind = 3 := by
    unfold Pm.alone at hal
    split at hal
    · rename_i e; exact .inl e
    · split at hal
      · rename_i e; exact .inr e
      · cases hal
  have hrg : (P i).lo.size ≤ 16 ∧ (P i).hi.size ≤ 16 ∧ ((P i).op = true → (P i).hi = ⟨#[]⟩) := by
    unfold Rg.chk Pm.rg at hr
    dsimp only at hr
    split at hr
    · cases hr
    · rename_i e
      refine ⟨by omega, by omega, fun ho => ?_⟩
      split at hr
      · cases hr
      · rename_i e2
        rw [ho] at e2
        simp only [Bool.true_and, Bool.not_true, Bool.false_and, Bool.or_false] at e2
        have e3 : (P i).hi.toList.isEmpty = true := by
          cases hE : (P i).hi.toList.isEmpty
          · rw [hE] at e2; simp at e2
          · rfl
        rw [ByteArray.toList_eq] at e3
        generalize (P i).hi = x at e3
        obtain ⟨⟨y⟩⟩ := x
        simp at e3
        rw [e3]
  refine ⟨hk, hrg.1, hrg.2.1, hrg.2.2, fun e => ?_, fun e => ?_⟩
  · have e' : (P i).kind = 1 := e
    rw [if_pos e'] at h
    unfold Pm.alone at hal
    rw [if_pos e'] at hal
    have h0 : (P i).el = 0 := by simpa using hal
    unfold tlChk at h
    refine ⟨by unfold pvOf; dsimp only; rw [h0]; rfl, ?_⟩
    unfold pvOf
    dsimp only
    split at h
    · cases h
    · omega
  · have e' : ¬ (P i).kind = 1 := e
    unfold Pm.alone at hal
    rw [if_neg e', if_pos (by omega)] at hal
    simp only [Bool.and_eq_true, beq_iff_eq] at hal
    unfold pvOf
    dsimp only
    refine ⟨hal.1, by omega, by omega, by rw [eFirst_len]; exact hel, fun x hx => ?_⟩
    obtain ⟨k, hk, rfl⟩ := List.mem_map.1 hx
    have := g.its k (List.mem_range.1 hk)
    unfold itAt at this
    by_cases h1 : ((P i).T k).chk = 0
    · exact h1
    · rw [if_pos h1] at this; exact absurd this h1
theorem frame_ok {fr tz o l n tn : Int} {P : Nat → Pm} {len : Nat} (h : fChk fr tz o l n tn P len = 0) (hu : ∀ i, i < len → (0 ≤ (P i).s0 ∧ (P i).s0 < 18446744073709551616) ∧ 0 ≤ (P i).s1 ∧ (P i).s1 < 18446744073709551616) : FVok ⟨fr, tz, o, l, n, tn, psOf P len⟩ := by
  obtain ⟨h1, h2, h3, h4⟩ := fchk_zero h
  obtain ⟨g1, g2, g3⟩ := goods h4
  have hpt : ∀ i, i < len → ptAt P i = 0 := by
    unfold psChk at h4
    rw [if_neg (by omega)] at h4
    exact ptN_all h4
  unfold Nm.chk at h2
  have h2' : 0 ≤ o ∧ o ≤ 7 ∧ 1 ≤ l ∧ l ≤ 1048576 ∧ 1 ≤ n ∧ n ≤ 1048576 := by
    split at h2
    · omega
    · split at h2 <;> omega
  unfold endsB nodeB at h1
  simp only [Bool.and_eq_true, decide_eq_true_eq] at h1
  unfold turnB at h3
  simp only [Bool.and_eq_true, decide_eq_true_eq] at h3
  refine ⟨by dsimp only; omega, by dsimp only; omega, by dsimp only; omega, by dsimp only; omega, by dsimp only; omega, by dsimp only; omega, by dsimp only; rw [psOf_len]; exact g1, fun v hv => ?_⟩
  obtain ⟨i, hi, rfl⟩ := List.mem_map.1 hv
  have hi' := List.mem_range.1 hi
  exact part_ok (hpt i hi') (by have := el_totE P hi'; omega) (hu i hi')

end Go.Proofs.Ytbnppmkdhnpdfaa
namespace Go.Proofs.Ytbnppmkdhnpdfaa
open Go.RowKit
set_option linter.unusedVariables false
def firstEF (T : Nat → En) (n : Nat) : List En := (List.range n).map T
/-- Parts and their entries in rows of their own, apart from one another. -/
structure OwnF (w : World) (B g n cp : Nat) (P : Nat → Pm) : Prop where
  row : w.ownsRow B 46 8 (.slice (some ⟨g, 0, none⟩) n cp) n (ptCells (firstP P n))
  ent : ∀ i, i < n → ∃ ge, (P i).ea = some ⟨ge, 0, none⟩ ∧ w.ownsRow B 50 5 (.slice (some ⟨ge, 0, none⟩) (P i).el (P i).ec) (P i).el (entCells (firstEF (P i).T (P i).el))
  apart : ∀ i j, i < n → j < n → i ≠ j → (P i).ea ≠ (P j).ea
  keys : ∀ i, i < n → ∀ k, k < (P i).el → ((P i).T k).k.size ≤ 140737488351232
theorem OwnF.on {w w' : World} {B g n cp : Nat} {P : Nat → Pm} (h : OwnF w B g n cp P) (b : Below w.heap.size w w') : OwnF w' B g n cp P :=
  ⟨own_on h.row b, fun i hi => by obtain ⟨ge, h1, h2⟩ := h.ent i hi; exact ⟨ge, h1, own_on h2 b⟩, h.apart, h.keys⟩
theorem OwnF.grown {w w' : World} {B g n cp r : Nat} {P : Nat → Pm} (h : OwnF w B g n cp P) (hg : w.grownBy w' (some r)) (h1 : g ≠ r) (h2 : ∀ i, i < n → ∀ ge, (P i).ea = some ⟨ge, 0, none⟩ → ge ≠ r) : OwnF w' B g n cp P :=
  ⟨own_grown h.row hg h1, fun i hi => by obtain ⟨ge, k1, k2⟩ := h.ent i hi; exact ⟨ge, k1, own_grown k2 hg (h2 i hi ge k1)⟩, h.apart, h.keys⟩
theorem firstEF_get (T : Nat → En) {n i : Nat} (h : i < n) : nthE (firstEF T n) i = T i := by
  unfold nthE firstEF
  rw [List.getD, List.getElem?_map, List.getElem?_range h]; rfl
theorem ents_own {w : World} {B g n c : Nat} {T : Nat → En} (h : w.ownsRow B 50 5 (.slice (some ⟨g, 0, none⟩) n c) n (entCells (firstEF T n))) (hk : ∀ k, k < n → (T k).k.size ≤ 140737488351232) : EntsIn w (some ⟨g, 0, none⟩) n c T := by
  refine ⟨(row_max h).1, (row_max h).2, .inr ⟨g, 0, rfl, (h.lt g rfl).2, fun i hi => ⟨?_, hk i hi⟩⟩⟩
  have := row_cells h (i := i) (by unfold firstEF; simp; exact hi)
  rw [firstEF_get T hi] at this
  simpa using this
theorem ents_keys {w : World} {a : Option Addr} {n c : Nat} {T : Nat → En} (h : EntsIn w a n c T) : ∀ k, k < n → (T k).k.size ≤ 140737488351232 := by
  intro k hk
  rcases h.2.2 with h0 | ⟨b, off, _, _, hc⟩
  · omega
  · exact (hc k hk).2
/-- A list of entries appended to an empty row, as one operation. -/
theorem op_append_entsF {w : World} {o : Oper} {act : Act} {K : Act → World → Prop} {Q : Exit → Act → World → Prop} (s x : Operand)
    (ho : o.op = .call { callee := .builtin .append, args := #[s, x], argTypes := #[44, 44] })
    (B g0 c0 : Nat) (hs : act.eval s = .slice (some ⟨g0, 0, none⟩) 0 c0) (hA : w.ownsRow B 50 5 (.slice (some ⟨g0, 0, none⟩) 0 c0) 0 (entCells [])) (a : Option Addr) (len cap : Nat) (T : Nat → En) (hx : act.eval x = .slice a len cap) (hL : EntsIn w a len cap T)
    (hform : (a = none ∧ len = 0 ∧ cap = 0) ∨ ∃ y, a = some y) (hlen : len * 56 ≤ 140737488351232) (hB : B ≤ w.heap.size)
    (h : ∀ g c w', w'.ownsRow B 50 5 (.slice (some ⟨g, 0, none⟩) len c) len (entCells (firstEF T len)) → w.grownBy w' (some g0) → K (act.put o.dst (.slice (some ⟨g, 0, none⟩) len c)) w') : o.wp Try.prog act w K Q := by
  obtain ⟨i0, hi, hz0, hz1, hz2⟩ := info_parts infoEnt
  rcases hform with ⟨rfl, rfl, rfl⟩ | ⟨y, rfl⟩
  · have hrun := run_append_owned_none (P := Try.prog) (w := w) B 44 o.type 50 i0 5 Try.underlying44 hi _ _ _ hA
    unfold Oper.wp
    simp [execOp, ho, resolve, invoke, builtin, hs, hx, hrun, Result.andThen]
    exact h g0 c0 w hA (World.grownBy.refl _ _)
  · refine wp_append_own w s x _ ho B 50 i0 _ 5 56 Try.underlying44 hi hz0 hz1 hz2 rfl (by decide) _ _ _ hs hA y len cap (entCells ((List.range len).map T)) hx (by rw [entCells_length]; simp) (ents_cells hL) (entCells_one _) (by unfold maxLen; omega) (by omega) hB ?_
    intro v' w' ho' hg' hfr
    simp only [Nat.zero_add, entCells, List.nil_append] at ho'
    rcases ho'.2 with ⟨h1, h2⟩ | ⟨g, cap', cur, rfl, _⟩
    · exact absurd (hfr.1 h1).1 (by simp)
    · exact h g cap' w' ho' hg'
theorem own_apartF {w : World} {B e s g k cap n a : Nat} {xs : List Value} (h : w.ownsRow B e s (.slice (some ⟨g, 0, none⟩) n cap) n xs) (ha : a ≠ g) (u : Value) : (w.setCell ⟨a, k, none⟩ u).ownsRow B e s (.slice (some ⟨g, 0, none⟩) n cap) n xs :=
  ownsRow_keep h ((Keeps.refl (fun k => k = a) w).setCell (fun _ => rfl) u) (fun j hj x => ha (by simp [Value.ownBlock] at hj; omega))
theorem own_blk {w : World} {B e s g n c k t : Nat} {xs : List Value} {cs : Array Value} (h : w.ownsRow B e s (.slice (some ⟨g, 0, none⟩) n c) n xs) (hk : w.heap[k]? = some (.cells cs t (0, 0))) (ht : e ≠ t) : g ≠ k := by
  intro e1
  subst e1
  rcases h.2 with ⟨h1, _⟩ | ⟨g1, cap, cur, h1, h2, h3, h4⟩
  · cases h1
  · injection h1 with e1 e2 e3
    injection e1 with e1
    injection e1 with e1
    subst e1
    rw [hk] at h3
    injection h3 with h3
    injection h3 with _ h3 _
    exact ht h3.symm
theorem OwnF.setc {w : World} {B g n cp a k : Nat} {P : Nat → Pm} (h : OwnF w B g n cp P) (h1 : a ≠ g) (h2 : ∀ i, i < n → ∀ ge, (P i).ea = some ⟨ge, 0, none⟩ → a ≠ ge) (u : Value) : OwnF (w.setCell ⟨a, k, none⟩ u) B g n cp P :=
  ⟨own_apartF h.row h1 u, fun i hi => by obtain ⟨ge, k1, k2⟩ := h.ent i hi; exact ⟨ge, k1, own_apartF k2 (h2 i hi ge k1) u⟩, h.apart, h.keys⟩
theorem OwnF.low {w : World} {B C g n cp : Nat} {P : Nat → Pm} (h : OwnF w B g n cp P) (hb : C ≤ B) : OwnF w C g n cp P :=
  ⟨own_low h.row hb, fun i hi => by obtain ⟨ge, k1, k2⟩ := h.ent i hi; exact ⟨ge, k1, own_low k2 hb⟩, h.apart, h.keys⟩
theorem OwnF.lts {w : World} {B g n cp : Nat} {P : Nat → Pm} (h : OwnF w B g n cp P) : (B ≤ g ∧ g < w.heap.size) ∧ ∀ i, i < n → ∀ ge, (P i).ea = some ⟨ge, 0, none⟩ → B ≤ ge ∧ ge < w.heap.size := by
  refine ⟨h.row.lt g rfl, fun i hi ge e => ?_⟩
  obtain ⟨g1, k1, k2⟩ := h.ent i hi
  rw [k1] at e
  injection e with e
  injection e with e _ _
  subst e
  exact k2.lt g1 rfl
theorem firstP_snoc (P : Nat → Pm) (n : Nat) : firstP P (n + 1) = firstP P n ++ [P n] := by unfold firstP; rw [List.range_succ, List.map_append]; rfl
theorem firstP_ext {P Q : Nat → Pm} {n : Nat} (h : ∀ i, i < n → P i = Q i) : firstP P n = firstP Q n := by
  unfold firstP
  exact List.map_congr_left (fun i hi => h i (List.mem_range.1 hi))
/-- One part more. -/
def addP (P : Nat → Pm) (n : Nat) (p : Pm) : Nat → Pm := fun i => if i < n then P i else p
theorem addP_lt {P : Nat → Pm} {n : Nat} {p : Pm} {i : Nat} (h : i < n) : addP P n p i = P i := if_pos h
theorem addP_at {P : Nat → Pm} {n : Nat} {p : Pm} : addP P n p n = p := if_neg (Nat.lt_irrefl _)
set_option maxHeartbeats 6400000 in
set_option maxRecDepth 100000 in
theorem cloneR_any (fr tz o l n tn : Int) (a : Option Addr) (len cap : Nat) (P : Nat → Pm) (w : World) (h : PartsIn w a len cap P) (hz : len * 96 ≤ 140737488351232) (hOk : ∀ i, i < len → ((P i).ea = none ∧ (P i).el = 0 ∧ (P i).ec = 0 ∨ ∃ y, (P i).ea = some y) ∧ (P i).el * 56 ≤ 140737488351232) :
    Calls Try.prog 20 #[.agg #[.int .i64 fr, .int .i64 tz, .int .i64 o, .int .i64 l, .int .i64 n, .int .i64 tn, .slice a len cap]] w fun e w' => ∃ g cp P', e = .returned (.agg #[.int .i64 fr, .int .i64 tz, .int .i64 o, .int .i64 l, .int .i64 n, .int .i64 tn, .slice (some ⟨g, 0, none⟩) len cp]) ∧ OwnF w' w.heap.size g len cp P' ∧ (∀ i, i < len → SamePm (P i) (P' i)) ∧ Below w.heap.size w w' := by
  have HE := aside h
  have HOK := aside hOk
  have hmx : (len : Int) ≤ 9223372036854775807 := by omega
  have HZ := aside hz
  clear h hz hOk
  go_enter Try.func20, Try.ntmps20
  go_upto_region 1 with fail
  have BX := aside (bthen (bnew w (.cells #[.int .i64 fr, .int .i64 tz, .int .i64 o, .int .i64 l, .int .i64 n, .int .i64 tn, .slice a len cap] 26)) (bnew _ (.cells #[.int .i64 0, .int .i64 0, .int .i64 0, .int .i64 0, .int .i64 0, .int .i64 0, .slice none 0 0] 26)))
  have KF := aside (blk_on (heap_alloc_new w (.cells #[.int .i64 fr, .int .i64 tz, .int .i64 o, .int .i64 l, .int .i64 n, .int .i64 tn, .slice a len cap] 26)) (bnew _ (.cells #[.int .i64 0, .int .i64 0, .int .i64 0, .int .i64 0, .int .i64 0, .int .i64 0, .slice none 0 0] 26)))
  have KZ := aside (heap_alloc_new (w.alloc (.cells #[.int .i64 fr, .int .i64 tz, .int .i64 o, .int .i64 l, .int .i64 n, .int .i64 tn, .slice a len cap] 26)) (.cells #[.int .i64 0, .int .i64 0, .int .i64 0, .int .i64 0, .int .i64 0, .int .i64 0, .slice none 0 0] 26))
  have HX0 := aside (show ((w.alloc (.cells #[.int .i64 fr, .int .i64 tz, .int .i64 o, .int .i64 l, .int .i64 n, .int .i64 tn, .slice a len cap] 26)).alloc (.cells #[.int .i64 0, .int .i64 0, .int .i64 0, .int .i64 0, .int .i64 0, .int .i64 0, .slice none 0 0] 26)).heap.size = w.heap.size + 2 from by rw [World.size_alloc, World.size_alloc])
  rw [World.size_alloc] at KZ
  generalize (w.alloc (.cells #[.int .i64 fr, .int .i64 tz, .int .i64 o, .int .i64 l, .int .i64 n, .int .i64 tn, .slice a len cap] 26)).alloc (.cells #[.int .i64 0, .int .i64 0, .int .i64 0, .int .i64 0, .int .i64 0, .int .i64 0, .slice none 0 0] 26) = X0 at BX KF KZ HX0 ⊢
  have OP0 := aside (ownP_empty X0 X0.heap.size (Nat.le_refl _))
  have BE := aside (bnew X0 (.cells #[] 46))
  go_wp2
  obtain ⟨g0, hg0⟩ : ∃ g0, X0.heap.size = g0 := ⟨_, rfl⟩
  generalize X0.alloc (.cells #[] 46) = Y0 at OP0 BE ⊢
  have OW0 := aside (show OwnF Y0 X0.heap.size X0.heap.size 0 0 (fun _ => pm0) from ⟨OP0.out, fun i hi => by omega, fun i j hi => by omega, fun i hi => by omega⟩)
  clear OP0 hg0
  go_loopw [3, 4] (fun vr i wr => ∃ (j g cp : Nat) (P' : Nat → Pm), vr = .slice (some ⟨g, 0, none⟩) j cp ∧ i = .int .i64 (j : Int) ∧ j ≤ len ∧ Hid (OwnF wr X0.heap.size g j cp P') ∧ Hid (∀ i, i < j → SamePm (P i) (P' i)) ∧ Hid (Below X0.heap.size X0 wr)) (fun vr i _ => len - (intOf i).toNat)
  case atStart => exact ⟨0, X0.heap.size, 0, fun _ => pm0, rfl, rfl, Nat.zero_le _, OW0.out, fun i hi => by omega, BE.out⟩
  case round =>
    obtain ⟨j, g, cp, P', rfl, rfl, hj, OW, HS, HB⟩ := hrel
    obtain ⟨-, -, -, -, -, -, f6⟩ := sep7 (blk_on KF.out HB.out)
    by_cases hlt : (j : Int) < (len : Int)
    · have hj0 : (0 : Int) ≤ (j : Int) := by omega
      have BW := aside (bthen BX.out HB.out)
      rcases (HE.out.keep BW.out).2.2 with h0 | ⟨b, off, rfl, hb, hc⟩
      · omega
      obtain ⟨hat, hin⟩ := hc j (by omega)
      have hok := HOK.out j (by omega)
      obtain ⟨p, hp⟩ : ∃ p, P j = p := ⟨_, rfl⟩
      have HP := aside hp
      rw [hp] at hat hin hok
      clear hp hc
      obtain ⟨kind, lo, hi, op, cnt, s0, s1, ea, el, ec, T⟩ := p
      obtain ⟨c0, c1, c2, c3, c4, c5, c6, c7⟩ := hat
      dsimp only at c0 c1 c2 c3 c4 c5 c6 c7 hok
      have HIN := aside (show EntsIn wr ea el ec T from hin)
      have HFM := aside hok.1
      have HEL := aside hok.2
      have HLT := aside OW.out.lts
      have HSX := aside HB.out.size
      clear hin hok
      go_upto_region 6 with fail
      have K1 := aside (heap_alloc_new wr (.cells #[.int .i64 kind, .string lo, .string hi, .bool op, .int .i64 cnt, .int .u64 s0, .int .u64 s1, .slice ea el ec] 46))
      have BA := aside (bnew wr (.cells #[.int .i64 kind, .string lo, .string hi, .bool op, .int .i64 cnt, .int .u64 s0, .int .u64 s1, .slice ea el ec] 46))
      obtain ⟨pb, hpb⟩ : ∃ pb, wr.heap.size = pb := ⟨_, rfl⟩
      rw [hpb] at K1 HLT HSX ⊢
      clear hpb c0 c1 c2 c3 c4 c5 c6 c7 f6
      generalize wr.alloc (.cells #[.int .i64 kind, .string lo, .string hi, .bool op, .int .i64 cnt, .int .u64 s0, .int .u64 s1, .slice ea el ec] 46) = X1 at K1 BA ⊢
      go_upto_region 7 with fail
      have K2 := aside (heap_alloc_new X1 (.cells #[] 50))
      have BC := aside (bnew X1 (.cells #[] 50))
      have HX1 := aside (show pb < X1.heap.size from (Array.getElem?_eq_some_iff.1 K1.out).1)
      obtain ⟨ge0, hge0⟩ : ∃ ge0, X1.heap.size = ge0 := ⟨_, rfl⟩
      rw [hge0] at K2 HX1 ⊢
      clear hge0
      generalize X1.alloc (.cells #[] 50) = X2 at K2 BC ⊢
      have BA2 := aside (bthen BA.out BC.out)
      have K1b := aside (blk_on K1.out BC.out)
      have OE0 := aside (show X2.ownsRow pb 50 5 (.slice (some ⟨ge0, 0, none⟩) 0 0) 0 (entCells []) from ⟨rfl, .inr ⟨ge0, 0, #[], rfl, by have := HX1.out; omega, K2.out, Nat.le_refl _, Nat.zero_le _, rfl, rfl⟩⟩)
      have HI2 := aside (HIN.out.keep BA2.out)
      have HPX := aside (show pb ≤ X2.heap.size from by have h1 := (Array.getElem?_eq_some_iff.1 K1b.out).1; omega)
      have OW2 := aside (OW.out.on BA2.out)
      have B2 := aside (HB.out.trans (BA2.out.mono HB.out.size))
      clear K1 K2 BA BC BA2 OW HB
      obtain ⟨-, -, -, -, -, -, -, p7⟩ := oct8 K1b.out
      go_wp2_with (at_builtin; refine wpList_plain rfl fun K hK => op_append_entsF _ _ rfl pb ge0 0 (by rfl) OE0.out ea el ec T (by rfl) HI2.out HFM.out HEL.out HPX.out ?_; intro ge ce w3 own3 gr3; refine hK _ _ ?_; refine Hid.out ?_)
      refine aside ?_
      have K3 := aside (blk_grown K1b.out gr3 (by have := HX1.out; omega))
      have OE3 := aside own3
      have HGE := aside (own3.lt ge rfl).1
      have HGN := aside (own_blk own3 K3.out (by decide))
      have OW3 := aside (OW2.out.grown gr3 (by have h1 := HLT.out.1.2; have h2 := HX1.out; omega) (fun i hi q e => by have h1 := (HLT.out.2 i hi q e).2; have h2 := HX1.out; omega))
      have B3 := aside (B2.out.grown gr3 B2.out.size (fun k hk => by injection hk with hk; have h1 := HX1.out; have h2 := HSX.out; omega))
      clear own3 gr3 p7 K1b OE0 HI2 HPX OW2 B2
      obtain ⟨-, -, -, -, -, -, -, p7⟩ := oct8 K3.out
      have fz7 := frozen_of_row _ _ 7 _ _ K3.out
      go_upto_region 8 with fail
      have K4 := aside (set_in 7 (.slice (some ⟨ge, 0, none⟩) el ce) K3.out)
      simp only [List.setIfInBounds_toArray, List.set_cons_zero, List.set_cons_succ] at K4
      have OW4 := aside (OW3.out.setc (a := pb) (k := 7) (by have h1 := HLT.out.1.2; omega) (fun i hi q e => by have h1 := (HLT.out.2 i hi q e).2; omega) (.slice (some ⟨ge, 0, none⟩) el ce))
      have OE4 := aside (own_apartF (a := pb) (k := 7) OE3.out (fun e => HGN.out e.symm) (.slice (some ⟨ge, 0, none⟩) el ce))
      have B4 := aside (B3.out.setCell (p := ⟨pb, 7, none⟩) HSX.out (.slice (some ⟨ge, 0, none⟩) el ce))
      clear p7 fz7 K3 OE3 OW3 B3
      generalize w3.setCell ⟨pb, 7, none⟩ (.slice (some ⟨ge, 0, none⟩) el ce) = X4 at K4 OW4 OE4 B4 ⊢
      obtain ⟨p0, p1, p2, p3, p4, p5, p6, p7⟩ := oct8 K4.out
      have HKS := aside (ents_keys HIN.out)
      have B5 := aside (bnew X4 (.cells #[.int .i64 kind, .string lo, .string hi, .bool op, .int .i64 cnt, .int .u64 s0, .int .u64 s1, .slice (some ⟨ge, 0, none⟩) el ce] 46))
      have OE5 := aside (own_on OE4.out B5.out)
      have OW5 := aside (OW4.out.on B5.out)
      have HPI := aside (show PartsIn (X4.alloc (.cells #[.int .i64 kind, .string lo, .string hi, .bool op, .int .i64 cnt, .int .u64 s0, .int .u64 s1, .slice (some ⟨ge, 0, none⟩) el ce] 46)) (some ⟨X4.heap.size, 0, none⟩) 1 1 (fun _ => ⟨kind, lo, hi, op, cnt, s0, s1, some ⟨ge, 0, none⟩, el, ce, T⟩) from
        ⟨Nat.le_refl _, by unfold maxLen; omega, .inr ⟨X4.heap.size, 0, rfl, by rw [World.size_alloc]; omega, fun i hii => ⟨by
          obtain rfl : i = 0 := by omega
          exact oct8 (heap_alloc_new X4 (.cells #[.int .i64 kind, .string lo, .string hi, .bool op, .int .i64 cnt, .int .u64 s0, .int .u64 s1, .slice (some ⟨ge, 0, none⟩) el ce] 46)), ents_own OE5.out HKS.out⟩⟩⟩)
      have B6 := aside (B4.out.trans (B5.out.mono B4.out.size))
      have HNT := aside (fun i (hi : i < j) q (e : (P' i).ea = some ⟨q, 0, none⟩) => (show q ≠ g from by
        obtain ⟨q1, k1, k2⟩ := OW5.out.ent i hi
        rw [k1] at e
        injection e with e
        injection e with e _ _
        subst e
        exact fun e2 => by subst e2; exact absurd (own_type k2 OW5.out.row) (by decide)))
      have HNG := aside (show ge ≠ g from fun e2 => by subst e2; exact absurd (own_type OE5.out OW5.out.row) (by decide))
      clear B5 OE4 OW4 K4 B4
      go_wp2_with (at_builtin; refine wpList_plain rfl fun K hK => op_append_parts (V := X0) _ _ rfl j (.slice (some ⟨g, 0, none⟩) j cp) (firstP P' j) (by rfl) OW5.out.row ⟨X4.heap.size, 0, none⟩ 1 1 (fun _ => ⟨kind, lo, hi, op, cnt, s0, s1, some ⟨ge, 0, none⟩, el, ce, T⟩) (by rfl) HPI.out (by have := HZ.out; omega) B6.out ?_; intro v5 w5 own5 b5 g5; refine hK _ _ ?_; refine Hid.out ?_)
      refine aside ?_
      obtain ⟨g6, cp6, rfl, -⟩ := own_sl own5 (by omega)
      have g5' : (X4.alloc (.cells #[.int .i64 kind, .string lo, .string hi, .bool op, .int .i64 cnt, .int .u64 s0, .int .u64 s1, .slice (some ⟨ge, 0, none⟩) el ce] 46)).grownBy w5 (some g) := g5
      have OW6 := aside (show OwnF w5 X0.heap.size g6 (j + 1) cp6 (addP P' j ⟨kind, lo, hi, op, cnt, s0, s1, some ⟨ge, 0, none⟩, el, ce, T⟩) from by
        refine ⟨?_, fun i hi => ?_, fun i k hi hk hne => ?_, fun i hi => ?_⟩
        · rw [firstP_snoc, firstP_ext (Q := P') (fun i hi => addP_lt hi), addP_at]
          exact own5
        · by_cases hij : i < j
          · rw [addP_lt hij]
            obtain ⟨q, k1, k2⟩ := OW5.out.ent i hij
            exact ⟨q, k1, own_grown k2 g5' (HNT.out i hij q k1)⟩
          · obtain rfl : i = j := by omega
            rw [addP_at]
            exact ⟨ge, rfl, own_grown (own_low OE5.out HSX.out) g5' HNG.out⟩
        · by_cases h1 : i < j
          · by_cases h2 : k < j
            · rw [addP_lt h1, addP_lt h2]; exact OW5.out.apart i k h1 h2 hne
            · obtain rfl : k = j := by omega
              rw [addP_lt h1, addP_at]
              intro e
              have h3 := (HLT.out.2 i h1 ge e).2
              have h4 := HGE.out
              omega
          · obtain rfl : i = j := by omega
            have h2 : k < i := by omega
            rw [addP_lt h2, addP_at]
            intro e
            have h3 := (HLT.out.2 k h2 ge e.symm).2
            have h4 := HGE.out
            omega
        · by_cases hij : i < j
          · rw [addP_lt hij]; exact OW5.out.keys i hij
          · obtain rfl : i = j := by omega
            rw [addP_at]; exact HKS.out)
      have HS6 := aside (show ∀ i, i < j + 1 → SamePm (P i) (addP P' j ⟨kind, lo, hi, op, cnt, s0, s1, some ⟨ge, 0, none⟩, el, ce, T⟩ i) from fun i hi => by
        by_cases hij : i < j
        · rw [addP_lt hij]; exact HS.out i hij
        · obtain rfl : i = j := by omega
          rw [addP_at, HP.out]
          exact ⟨rfl, rfl, rfl, rfl, rfl, rfl, rfl, rfl, fun _ _ => rfl⟩)
      have B7 := aside b5
      clear own5 b5 g5 g5' OE5 OW5 HPI B6 HNT HNG p0 p1 p2 p3 p4 p5 p6 p7
      go_wp2
      go_roundw
      case rel => exact ⟨j + 1, g6, cp6, addP P' j ⟨kind, lo, hi, op, cnt, s0, s1, some ⟨ge, 0, none⟩, el, ce, T⟩, rfl, by go_num, by omega, OW6.out, HS6.out, B7.out⟩
      case measure => simp [intOf]; omega
    · have hjl : j = len := by omega
      subst hjl
      have KFr := aside (blk_on KF.out HB.out)
      have KZr := aside (blk_on KZ.out HB.out)
      have HLT := aside OW.out.lts
      have fz6 := frozen_of_row _ _ 6 _ _ KFr.out
      go_upto_region 10 with fail
      have KF2 := aside (set_in 6 (.slice (some ⟨g, 0, none⟩) j cp) KFr.out)
      simp only [List.setIfInBounds_toArray, List.set_cons_zero, List.set_cons_succ] at KF2
      have KZ2 := aside (set_far1 KZr.out (show w.heap.size + 1 ≠ w.heap.size by omega) 6 (.slice (some ⟨g, 0, none⟩) j cp))
      have OW2 := aside (OW.out.setc (a := w.heap.size) (k := 6) (by have h1 := HLT.out.1.1; have h2 := HX0.out; omega) (fun i hi q e => by have h1 := (HLT.out.2 i hi q e).1; have h2 := HX0.out; omega) (.slice (some ⟨g, 0, none⟩) j cp))
      have B2 := aside ((bthen BX.out HB.out).setCell (p := ⟨w.heap.size, 6, none⟩) (Nat.le_refl _) (.slice (some ⟨g, 0, none⟩) j cp))
      clear f6 fz6 KFr KZr OW HB
      generalize wr.setCell ⟨w.heap.size, 6, none⟩ (.slice (some ⟨g, 0, none⟩) j cp) = Y at KF2 KZ2 OW2 B2 ⊢
      obtain ⟨f0, f1, f2, f3, f4, f5, f6⟩ := sep7 KF2.out
      have HLE : w.heap.size ≤ w.heap.size + 1 := by omega
      obtain ⟨a0, a1, a2, a3, a4, a5, a6, hkz⟩ : ∃ a0 a1 a2 a3 a4 a5 a6 : Value, Y.heap[w.heap.size + 1]? = some (Obj.cells #[a0, a1, a2, a3, a4, a5, a6] 26 (0, 0)) := ⟨_, _, _, _, _, _, _, KZ2.out⟩
      clear KZ2
      have KZ2 := aside hkz
      clear hkz
      obtain ⟨z0, z1, z2, z3, z4, z5, z6⟩ := sep7 KZ2.out
      have y0 := frozen_of_row _ _ 0 _ _ KZ2.out
      have y1 := frozen_of_row _ _ 1 _ _ KZ2.out
      have y2 := frozen_of_row _ _ 2 _ _ KZ2.out
      have y3 := frozen_of_row _ _ 3 _ _ KZ2.out
      have y4 := frozen_of_row _ _ 4 _ _ KZ2.out
      have y5 := frozen_of_row _ _ 5 _ _ KZ2.out
      have y6 := frozen_of_row _ _ 6 _ _ KZ2.out
      have KR := (set_in 6 (.slice (some ⟨g, 0, none⟩) j cp) (set_in 5 (.int .i64 tn) (set_in 4 (.int .i64 n) (set_in 3 (.int .i64 l) (set_in 2 (.int .i64 o) (set_in 1 (.int .i64 tz) (set_in 0 (.int .i64 fr) KZ2.out)))))))
      simp only [List.setIfInBounds_toArray, List.set_cons_zero, List.set_cons_succ] at KR
      have HKR := aside KR
      have BF := aside ((((((((B2.out.setCell (p := ⟨w.heap.size + 1, 0, none⟩) HLE (.int .i64 fr)).setCell (p := ⟨w.heap.size + 1, 1, none⟩) HLE (.int .i64 tz)).setCell (p := ⟨w.heap.size + 1, 2, none⟩) HLE (.int .i64 o)).setCell (p := ⟨w.heap.size + 1, 3, none⟩) HLE (.int .i64 l)).setCell (p := ⟨w.heap.size + 1, 4, none⟩) HLE (.int .i64 n)).setCell (p := ⟨w.heap.size + 1, 5, none⟩) HLE (.int .i64 tn)).setCell (p := ⟨w.heap.size + 1, 6, none⟩) HLE (.slice (some ⟨g, 0, none⟩) j cp)))
      clear KR
      have OWF := aside ((((((((OW2.out.setc (a := w.heap.size + 1) (k := 0) (by have h1 := HLT.out.1.1; have h2 := HX0.out; omega) (fun i hi q e => by have h1 := (HLT.out.2 i hi q e).1; have h2 := HX0.out; omega) (.int .i64 fr)).setc (a := w.heap.size + 1) (k := 1) (by have h1 := HLT.out.1.1; have h2 := HX0.out; omega) (fun i hi q e => by have h1 := (HLT.out.2 i hi q e).1; have h2 := HX0.out; omega) (.int .i64 tz)).setc (a := w.heap.size + 1) (k := 2) (by have h1 := HLT.out.1.1; have h2 := HX0.out; omega) (fun i hi q e => by have h1 := (HLT.out.2 i hi q e).1; have h2 := HX0.out; omega) (.int .i64 o)).setc (a := w.heap.size + 1) (k := 3) (by have h1 := HLT.out.1.1; have h2 := HX0.out; omega) (fun i hi q e => by have h1 := (HLT.out.2 i hi q e).1; have h2 := HX0.out; omega) (.int .i64 l)).setc (a := w.heap.size + 1) (k := 4) (by have h1 := HLT.out.1.1; have h2 := HX0.out; omega) (fun i hi q e => by have h1 := (HLT.out.2 i hi q e).1; have h2 := HX0.out; omega) (.int .i64 n)).setc (a := w.heap.size + 1) (k := 5) (by have h1 := HLT.out.1.1; have h2 := HX0.out; omega) (fun i hi q e => by have h1 := (HLT.out.2 i hi q e).1; have h2 := HX0.out; omega) (.int .i64 tn)).setc (a := w.heap.size + 1) (k := 6) (by have h1 := HLT.out.1.1; have h2 := HX0.out; omega) (fun i hi q e => by have h1 := (HLT.out.2 i hi q e).1; have h2 := HX0.out; omega) (.slice (some ⟨g, 0, none⟩) j cp)))
      clear HLE
      go_wp2
      obtain ⟨r0, r1, r2, r3, r4, r5, r6⟩ := sep7 HKR.out
      exact bodyPost_ret (v := .agg #[.int .i64 fr, .int .i64 tz, .int .i64 o, .int .i64 l, .int .i64 n, .int .i64 tn, .slice (some ⟨g, 0, none⟩) j cp]) (by simp [results, Try.results20, go_sem, r0, r1, r2, r3, r4, r5, r6]) rfl ⟨g, cp, rfl, P', OWF.out.low (by have h2 := HX0.out; omega), HS.out, BF.out⟩
end Go.Proofs.Ytbnppmkdhnpdfaa
