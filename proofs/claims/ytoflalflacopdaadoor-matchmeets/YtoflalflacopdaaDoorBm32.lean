/-
  What the laws on match ask of their own: the bound, lists compared, a list of one part.
  A list of one part.
-/
import Derived.Test.YtoflalflacopdaaDoorBm30
import Derived.Test.YtoflalflacopdaaDoorBm21
import Derived.Test.YtoflalflacopdaaDoorBm31
import Derived.Test.YtoflalflacopdaaDoorBm29
namespace Go.Proofs.YtoflalflacopdaaDoor
open Go.RowKit
set_option linter.unusedVariables false
/-- What the bound says. -/
def By13 (w : World) (n : Nat) (e : Ending) (w' : World) : Prop := ∃ q, e = .returned (.bool q) ∧ (q = false → n ≤ 536870912) ∧ Below w.heap.size w w'
set_option maxHeartbeats 6400000 in
set_option maxRecDepth 100000 in
theorem beyond13_any (pa : Option Addr) (pl pc : Nat) (P : Nat → Pm) (gb m cq : Nat) (ad : Nat → Option Addr) (ln cp : Nat → Nat) (T : Nat → Nat → En) (w : World) (hm : m ≤ 1000) (h : ListsIn w gb m ad ln cp T) (hP : PartsIn w pa pl pc P) :
    Calls Tryd.prog 15 #[.slice pa pl pc, .slice (some ⟨gb, 0, none⟩) m cq] w fun e w' => By13 w (pl + totE P pl + smL ln m) e w' := by
  have HL := aside h
  have CW := aside (weight_any pa pl pc P w hP)
  obtain ⟨W0, hW0⟩ : ∃ W0, pl + totE P pl = W0 := ⟨_, rfl⟩
  rw [hW0] at CW ⊢
  clear h hP hW0
  go_enter Tryd.func15, Tryd.ntmps15
  go_wp2_with fail
  refine CW.out.mono ?_
  rintro e w1 ⟨c1, rfl, hc1, b1⟩
  have HC1 := aside hc1
  have B1 := aside b1
  clear b1 hc1 CW
  go_wp2
  go_loopw [5, 6] (fun n i wr => ∃ (k c : Nat), n = .int .i64 (c : Int) ∧ i = .int .i64 (k : Int) ∧ k ≤ m ∧ 0 ≤ c ∧ Hid (c ≤ 536870912 → W0 + smL ln k ≤ c) ∧ Below w.heap.size w wr) (fun _ i _ => m - (intOf i).toNat)
  case atStart => exact ⟨0, c1, rfl, rfl, Nat.zero_le _, Nat.zero_le _, fun h => by have := HC1.out h; simp only [smL]; omega, B1.out⟩
  case round =>
    obtain ⟨k, c, rfl, rfl, hk, hc, HS, hB⟩ := hrel
    have HB := aside hB
    clear hB
    by_cases hlt : (k : Int) < (m : Int)
    · have hk0 : (0 : Int) ≤ (k : Int) := by omega
      obtain ⟨hcell, hE⟩ := HL.out k (by omega)
      have HE := aside hE
      have HCL := aside hcell
      have HLK := aside (show smL ln (k + 1) = smL ln k + ln k from rfl)
      obtain ⟨s0, hs0⟩ : ∃ s0, smL ln k = s0 := ⟨_, rfl⟩
      rw [hs0] at HS HLK
      clear hs0
      generalize ad k = a at *
      obtain ⟨n, hn⟩ : ∃ n, ln k = n := ⟨_, rfl⟩
      rw [hn] at HE HCL HLK
      generalize cp k = cpk at *
      generalize T k = Tk at *
      have hmx : (n : Int) ≤ 9223372036854775807 := by have h1 := HE.out.1; have h2 := HE.out.2.1; unfold maxLen at h2; omega
      clear hcell hE hn
      go_wp2
      go_loopw [5, 7] (fun u i wr => ∃ (j c : Nat), u = .int .i64 (c : Int) ∧ i = .int .i64 (j : Int) ∧ j ≤ n ∧ 0 ≤ c ∧ Hid (c ≤ 536870912 → W0 + (s0 + j) ≤ c) ∧ Below w.heap.size w wr) (fun _ i _ => n - (intOf i).toNat)
      case atStart => exact ⟨0, c, rfl, rfl, Nat.zero_le _, hc, HS.out, HB.out⟩
      case round =>
        obtain ⟨j, c, rfl, rfl, hj, hc, HS2, hB⟩ := hrel
        have HB2 := aside hB
        clear hB
        have gcell := cell_in HCL.out HB2.out
        by_cases hjl : (j : Int) < (n : Int)
        · have hj0 : (0 : Int) ≤ (j : Int) := by omega
          by_cases hle : (c : Int) ≤ 536870912
          · rcases HE.out.2.2 with h0 | ⟨b, off, rfl, -, -⟩
            · omega
            obtain ⟨t, ht⟩ : ∃ t, Tk j = t := ⟨_, rfl⟩
            have FV := aside (ents_five (HE.out.keep HB2.out) (by omega) ht)
            obtain ⟨c0, -, -, c3, -⟩ := FV.out
            clear ht
            go_wp2_with fail
            refine wp_region_held_drew (S := fun W => Below w.heap.size w W ∧ W.cell? ⟨gb, k, none⟩ = some (.slice (some ⟨b, off, none⟩) n cpk) ∧ W.cell? ⟨b, off + j * 5, none⟩ = some (.string t.k) ∧ W.cell? ⟨b, off + j * 5 + 3, none⟩ = some (.string t.v)) (by kernel_rfl) ⟨HB2.out.drew, gcell, c0, c3⟩ (fun hHeld => ?_)
            refine wpAnyH_take (i := 0) (v := ?_) rfl (by kernel_rfl) (by kernel_rfl) (by kernel_rfl) (fun _ _ _ h => h) (Or.inl ⟨by rfl, ?_⟩) (by assumption) ?_
            rotate_left
            · intro w hSw
              go_simp
              try with_reducible rfl
            simp only [Act.put, List.getElem_toArray, List.getElem_cons_zero, List.setIfInBounds_toArray, List.set_cons_zero, List.set_cons_succ]
            refine wpAnyH_take (i := 1) (v := ?_) rfl (by kernel_rfl) (by kernel_rfl) (by kernel_rfl) (fun _ _ _ h => h) (Or.inl ⟨by rfl, ?_⟩) (by assumption) ?_
            rotate_left
            · intro w hSw
              go_simp
              try with_reducible rfl
            simp only [Act.put, List.getElem_toArray, List.getElem_cons_zero, List.getElem_cons_succ, List.setIfInBounds_toArray, List.set_cons_zero, List.set_cons_succ]
            refine wpAnyH_take (i := 2) (v := ?_) rfl (by kernel_rfl) (by kernel_rfl) (by kernel_rfl) (fun _ _ _ h => h) (Or.inl ⟨by rfl, ?_⟩) (by assumption) ?_
            rotate_left
            · intro w hSw
              go_simp
              try with_reducible rfl
            simp only [Act.put, List.getElem_toArray, List.getElem_cons_zero, List.getElem_cons_succ, List.setIfInBounds_toArray, List.set_cons_zero, List.set_cons_succ]
            refine wpAnyH_take (i := 3) (v := ?_) rfl (by kernel_rfl) (by kernel_rfl) (by kernel_rfl) (fun _ _ _ h => h) (Or.inl ⟨by rfl, ?_⟩) (by assumption) ?_
            rotate_left
            · intro w hSw
              go_simp
              try with_reducible rfl
            simp only [Act.put, List.getElem_toArray, List.getElem_cons_zero, List.getElem_cons_succ, List.setIfInBounds_toArray, List.set_cons_zero, List.set_cons_succ]
            refine wpAnyH_take (i := 4) (v := ?_) rfl (by kernel_rfl) (by kernel_rfl) (by kernel_rfl) (fun _ _ _ h => h) (Or.inl ⟨by rfl, ?_⟩) (by assumption) ?_
            rotate_left
            · intro w hSw
              go_simp
              try with_reducible rfl
            simp only [Act.put, List.getElem_toArray, List.getElem_cons_zero, List.getElem_cons_succ, List.setIfInBounds_toArray, List.set_cons_zero, List.set_cons_succ]
            refine wpAnyH_take (i := 5) (v := ?_) rfl (by kernel_rfl) (by kernel_rfl) (by kernel_rfl) (fun _ _ _ h => h) (Or.inl ⟨by rfl, ?_⟩) (by assumption) ?_
            rotate_left
            · intro w hSw
              go_simp
              try with_reducible rfl
            simp only [Act.put, List.getElem_toArray, List.getElem_cons_zero, List.getElem_cons_succ, List.setIfInBounds_toArray, List.set_cons_zero, List.set_cons_succ]
            refine wpAnyH_take (i := 6) (v := ?_) rfl (by kernel_rfl) (by kernel_rfl) (by kernel_rfl) (fun _ _ _ h => h) (Or.inl ⟨by rfl, ?_⟩) (by assumption) ?_
            rotate_left
            · intro w hSw
              go_simp
              try with_reducible rfl
            simp only [Act.put, List.getElem_toArray, List.getElem_cons_zero, List.getElem_cons_succ, List.setIfInBounds_toArray, List.set_cons_zero, List.set_cons_succ]
            refine wpAnyH_take (i := 7) (v := ?_) rfl (by kernel_rfl) (by kernel_rfl) (by kernel_rfl) (fun _ _ _ h => h) (Or.inl ⟨by rfl, ?_⟩) (by assumption) ?_
            rotate_left
            · intro w hSw
              go_simp
              try with_reducible rfl
            simp only [Act.put, List.getElem_toArray, List.getElem_cons_zero, List.getElem_cons_succ, List.setIfInBounds_toArray, List.set_cons_zero, List.set_cons_succ]
            refine wpAnyH_take (i := 8) (v := ?_) rfl (by kernel_rfl) (by kernel_rfl) (by kernel_rfl) (fun _ _ _ h => h) (Or.inl ⟨by rfl, ?_⟩) (by assumption) ?_
            rotate_left
            · intro w hSw
              go_simp
              try with_reducible rfl
            simp only [Act.put, List.getElem_toArray, List.getElem_cons_zero, List.getElem_cons_succ, List.setIfInBounds_toArray, List.set_cons_zero, List.set_cons_succ]
            refine wpAnyH_take (i := 9) (v := ?_) rfl (by kernel_rfl) (by kernel_rfl) (by kernel_rfl) (fun _ _ _ h => h) (Or.inl ⟨by rfl, ?_⟩) (by assumption) ?_
            rotate_left
            · intro w hSw
              go_simp
              try with_reducible rfl
            simp only [Act.put, List.getElem_toArray, List.getElem_cons_zero, List.getElem_cons_succ, List.setIfInBounds_toArray, List.set_cons_zero, List.set_cons_succ]
            refine wpAnyH_take (i := 10) (v := ?_) rfl (by kernel_rfl) (by kernel_rfl) (by kernel_rfl) (fun _ _ _ h => h) (Or.inl ⟨by rfl, ?_⟩) (by assumption) ?_
            rotate_left
            · intro w hSw
              go_simp
              try with_reducible rfl
            simp only [Act.put, List.getElem_toArray, List.getElem_cons_zero, List.getElem_cons_succ, List.setIfInBounds_toArray, List.set_cons_zero, List.set_cons_succ]
            refine wpAnyH_take (i := 11) (v := ?_) rfl (by kernel_rfl) (by kernel_rfl) (by kernel_rfl) (fun _ _ _ h => h) (Or.inl ⟨by rfl, ?_⟩) (by assumption) ?_
            rotate_left
            · intro w hSw
              go_simp
              try with_reducible rfl
            simp only [Act.put, List.getElem_toArray, List.getElem_cons_zero, List.getElem_cons_succ, List.setIfInBounds_toArray, List.set_cons_zero, List.set_cons_succ]
            refine wpAnyH_take (i := 12) (v := ?_) rfl (by kernel_rfl) (by kernel_rfl) (by kernel_rfl) (fun _ _ _ h => h) (Or.inl ⟨by rfl, ?_⟩) (by assumption) ?_
            rotate_left
            · intro w hSw
              go_simp
              try with_reducible rfl
            simp only [Act.put, List.getElem_toArray, List.getElem_cons_zero, List.getElem_cons_succ, List.setIfInBounds_toArray, List.set_cons_zero, List.set_cons_succ]
            refine wpAnyH_take (i := 13) (v := ?_) rfl (by kernel_rfl) (by kernel_rfl) (by kernel_rfl) (fun _ _ _ h => h) (Or.inl ⟨by rfl, ?_⟩) (by assumption) ?_
            rotate_left
            · intro w hSw
              go_simp
              try with_reducible rfl
            simp only [Act.put, List.getElem_toArray, List.getElem_cons_zero, List.getElem_cons_succ, List.setIfInBounds_toArray, List.set_cons_zero, List.set_cons_succ]
            refine wpAnyH_take (i := 14) (v := ?_) rfl (by kernel_rfl) (by kernel_rfl) (by kernel_rfl) (fun _ _ _ h => h) (Or.inl ⟨by rfl, ?_⟩) (by assumption) ?_
            rotate_left
            · intro w hSw
              go_simp
              try with_reducible rfl
            simp only [Act.put, List.getElem_toArray, List.getElem_cons_zero, List.getElem_cons_succ, List.setIfInBounds_toArray, List.set_cons_zero, List.set_cons_succ]
            refine wpAnyH_take (i := 15) (v := ?_) rfl (by kernel_rfl) (by kernel_rfl) (by kernel_rfl) (fun _ _ _ h => h) (Or.inl ⟨by rfl, ?_⟩) (by assumption) ?_
            rotate_left
            · intro w hSw
              go_simp
              try with_reducible rfl
            simp only [Act.put, List.getElem_toArray, List.getElem_cons_zero, List.getElem_cons_succ, List.setIfInBounds_toArray, List.set_cons_zero, List.set_cons_succ]
            refine wpAnyH_take (i := 16) (v := ?_) rfl (by kernel_rfl) (by kernel_rfl) (by kernel_rfl) (fun _ _ _ h => h) (Or.inl ⟨by rfl, ?_⟩) (by assumption) ?_
            rotate_left
            · intro w hSw
              go_simp
              try with_reducible rfl
            simp only [Act.put, List.getElem_toArray, List.getElem_cons_zero, List.getElem_cons_succ, List.setIfInBounds_toArray, List.set_cons_zero, List.set_cons_succ]
            refine wpAnyH_take (i := 17) (v := ?_) rfl (by kernel_rfl) (by kernel_rfl) (by kernel_rfl) (fun _ _ _ h => h) (Or.inl ⟨by rfl, ?_⟩) (by assumption) ?_
            rotate_left
            · intro w hSw
              go_simp
              try with_reducible rfl
            simp only [Act.put, List.getElem_toArray, List.getElem_cons_zero, List.getElem_cons_succ, List.setIfInBounds_toArray, List.set_cons_zero, List.set_cons_succ]
            refine wpAnyH_take (i := 18) (v := ?_) rfl (by kernel_rfl) (by kernel_rfl) (by kernel_rfl) (fun _ _ _ h => h) (Or.inl ⟨by rfl, ?_⟩) (by assumption) ?_
            rotate_left
            · intro w hSw
              go_simp
              try with_reducible rfl
            simp only [Act.put, List.getElem_toArray, List.getElem_cons_zero, List.getElem_cons_succ, List.setIfInBounds_toArray, List.set_cons_zero, List.set_cons_succ]
            refine wpAnyH_take (i := 19) (v := ?_) rfl (by kernel_rfl) (by kernel_rfl) (by kernel_rfl) (fun _ _ _ h => h) (Or.inl ⟨by rfl, ?_⟩) (by assumption) ?_
            rotate_left
            · intro w hSw
              go_simp
              try with_reducible rfl
            simp only [Act.put, List.getElem_toArray, List.getElem_cons_zero, List.getElem_cons_succ, List.setIfInBounds_toArray, List.set_cons_zero, List.set_cons_succ]
            refine wpAnyH_take (i := 20) (v := ?_) rfl (by kernel_rfl) (by kernel_rfl) (by kernel_rfl) (fun _ _ _ h => h) (Or.inl ⟨by rfl, ?_⟩) (by assumption) ?_
            rotate_left
            · intro w hSw
              go_simp
              try with_reducible rfl
            simp only [Act.put, List.getElem_toArray, List.getElem_cons_zero, List.getElem_cons_succ, List.setIfInBounds_toArray, List.set_cons_zero, List.set_cons_succ]
            refine wpAnyH_take (i := 21) (v := ?_) rfl (by kernel_rfl) (by kernel_rfl) (by kernel_rfl) (fun _ _ _ h => h) (Or.inl ⟨by rfl, ?_⟩) (by assumption) ?_
            rotate_left
            · intro w hSw
              go_simp
              try with_reducible rfl
            simp only [Act.put, List.getElem_toArray, List.getElem_cons_zero, List.getElem_cons_succ, List.setIfInBounds_toArray, List.set_cons_zero, List.set_cons_succ]
            refine wpAnyH_take (i := 22) (v := ?_) rfl (by kernel_rfl) (by kernel_rfl) (by kernel_rfl) (fun _ _ _ h => h) (Or.inl ⟨by rfl, ?_⟩) (by assumption) ?_
            rotate_left
            · intro w hSw
              go_simp
              try with_reducible rfl
            simp only [Act.put, List.getElem_toArray, List.getElem_cons_zero, List.getElem_cons_succ, List.setIfInBounds_toArray, List.set_cons_zero, List.set_cons_succ]
            refine wpAnyH_take (i := 23) (v := ?_) rfl (by kernel_rfl) (by kernel_rfl) (by kernel_rfl) (fun _ _ _ h => h) (Or.inl ⟨by rfl, ?_⟩) (by assumption) ?_
            rotate_left
            · intro w hSw
              go_simp
              try with_reducible rfl
            simp only [Act.put, List.getElem_toArray, List.getElem_cons_zero, List.getElem_cons_succ, List.setIfInBounds_toArray, List.set_cons_zero, List.set_cons_succ]
            refine wpAnyH_take (i := 24) (v := ?_) rfl (by kernel_rfl) (by kernel_rfl) (by kernel_rfl) (fun _ _ _ h => h) (Or.inl ⟨by rfl, ?_⟩) (by assumption) ?_
            rotate_left
            · intro w hSw
              go_simp
              try with_reducible rfl
            simp only [Act.put, List.getElem_toArray, List.getElem_cons_zero, List.getElem_cons_succ, List.setIfInBounds_toArray, List.set_cons_zero, List.set_cons_succ]
            refine wpAnyH_done (by kernel_rfl) ?_ _
            have HB3 := aside hHeld.1
            clear hHeld c0 c3 gcell
            go_wp2
            go_roundw
            case rel => exact ⟨j + 1, c + (1 + (min t.k.size 1073741824 + min t.v.size 1073741824)), by_step c _ _ (by omega), by push_cast; rfl, by omega, by omega, fun h => by have := HS2.out (by omega); omega, HB3.out⟩
            case measure => simp [intOf]; omega
          · go_wp2
            go_roundw
            case rel => exact ⟨k + 1, c, rfl, by push_cast; rfl, by omega, hc, fun h => by omega, HB2.out⟩
            case measure => simp [intOf]; omega
        · have hjn : j = n := by omega
          go_wp2
          go_roundw
          case rel => exact ⟨k + 1, c, rfl, by push_cast; rfl, by omega, hc, fun h => by have := HS2.out h; rw [HLK.out]; omega, HB2.out⟩
          case measure => simp [intOf]; omega
    · have hkl : k = m := by omega
      subst hkl
      go_wp2
      go_ret
      exact ⟨decide ((536870912 : Int) < (c : Int)), rfl, fun hq => by simp at hq; have := HS.out (by omega); omega, HB.out⟩
set_option maxHeartbeats 3200000 in
set_option maxRecDepth 100000 in
theorem same13_yes (a : Option Addr) (la ca : Nat) (A : Nat → En) (b : Option Addr) (lb cb : Nat) (B : Nat → En) (w : World) (hA : EntsIn w a la ca A) (hB : EntsIn w b lb cb B) (h : firstE A la = firstE B lb) :
    Calls Tryd.prog 22 #[.slice a la ca, .slice b lb cb] w fun e w' => e = .returned (.bool true) ∧ Below w.heap.size w w' := by
  have hll : la = lb := by have := congrArg List.length h; rwa [firstE_len, firstE_len] at this
  subst hll
  have HEQ := aside (show ∀ i, i < la → A i = B i from fun i hi => by have h1 := firstE_get A hi; rw [h, firstE_get B hi] at h1; injection h1 with h1; exact h1.symm)
  have HA := aside hA
  have HBB := aside hB
  have hmx : (la : Int) ≤ 9223372036854775807 := by have h1 := hA.1; have h2 := hA.2.1; unfold maxLen at h2; omega
  clear hA hB h
  go_enter Tryd.func22, Tryd.ntmps22
  go_wp2
  go_loopw [5] (fun i wr => ∃ j : Nat, i = .int .i64 (j : Int) ∧ j ≤ la ∧ Below w.heap.size w wr) (fun i _ => la - (intOf i).toNat)
  case atStart => exact ⟨0, rfl, Nat.zero_le _, Below.refl _ _⟩
  case round =>
    obtain ⟨j, rfl, hj, hB⟩ := hrel
    have HB := aside hB
    clear hB
    by_cases hlt : (j : Int) < (la : Int)
    · have hj0 : (0 : Int) ≤ (j : Int) := by omega
      have eA := HA.out.keep HB.out
      have eB := HBB.out.keep HB.out
      rcases eA.2.2 with h0 | ⟨ba, oa, rfl, -, -⟩
      · omega
      rcases eB.2.2 with h0 | ⟨bb, ob, rfl, -, -⟩
      · omega
      obtain ⟨x, hx⟩ : ∃ x, A j = x := ⟨_, rfl⟩
      have hy : B j = x := (HEQ.out j (by omega)).symm.trans hx
      have F1 := aside (ents_five (eA.keep (Below.refl _ wr).drew) (by omega) hx)
      have F2 := aside (ents_five (eB.keep (Below.refl _ wr).drew) (by omega) hy)
      have hNE : ∀ w, (binOp .neq 33 (.agg #[.string x.k, .int .i64 x.c, .int .i64 x.n, .string x.v, .bool x.d]) (.agg #[.string x.k, .int .i64 x.c, .int .i64 x.n, .string x.v, .bool x.d])).run Tryd.prog w = .ok (.bool false) w := fun w => by rw [ent_ne, enEqB_same]; rfl
      clear eA eB hx hy
      go_wp2_with fail
      refine wp_region_held_drew (S := fun W => Below w.heap.size w W ∧ (W.cell? ⟨ba, oa + j * 5, none⟩ = some (.string x.k) ∧ W.cell? ⟨ba, oa + j * 5 + 1, none⟩ = some (.int .i64 x.c) ∧ W.cell? ⟨ba, oa + j * 5 + 2, none⟩ = some (.int .i64 x.n) ∧ W.cell? ⟨ba, oa + j * 5 + 3, none⟩ = some (.string x.v) ∧ W.cell? ⟨ba, oa + j * 5 + 4, none⟩ = some (.bool x.d)) ∧ W.cell? ⟨bb, ob + j * 5, none⟩ = some (.string x.k) ∧ W.cell? ⟨bb, ob + j * 5 + 1, none⟩ = some (.int .i64 x.c) ∧ W.cell? ⟨bb, ob + j * 5 + 2, none⟩ = some (.int .i64 x.n) ∧ W.cell? ⟨bb, ob + j * 5 + 3, none⟩ = some (.string x.v) ∧ W.cell? ⟨bb, ob + j * 5 + 4, none⟩ = some (.bool x.d)) (by kernel_rfl) ⟨HB.out.drew, F1.out, F2.out⟩ (fun hHeld => ?_)
      refine wpAnyH_take (i := 0) (v := ?_) rfl (by kernel_rfl) (by kernel_rfl) (by kernel_rfl) (fun _ _ _ h => h) (Or.inl ⟨by rfl, ?_⟩) (by assumption) ?_
      rotate_left
      · intro w hSw
        go_simp
        try with_reducible rfl
      simp only [Act.put, List.getElem_toArray, List.getElem_cons_zero, List.setIfInBounds_toArray, List.set_cons_zero, List.set_cons_succ]
      refine wpAnyH_take (i := 1) (v := ?_) rfl (by kernel_rfl) (by kernel_rfl) (by kernel_rfl) (fun _ _ _ h => h) (Or.inl ⟨by rfl, ?_⟩) (by assumption) ?_
      rotate_left
      · intro w hSw
        go_simp
        try with_reducible rfl
      simp only [Act.put, List.getElem_toArray, List.getElem_cons_zero, List.getElem_cons_succ, List.setIfInBounds_toArray, List.set_cons_zero, List.set_cons_succ]
      refine wpAnyH_take (i := 2) (v := ?_) rfl (by kernel_rfl) (by kernel_rfl) (by kernel_rfl) (fun _ _ _ h => h) (Or.inl ⟨by rfl, ?_⟩) (by assumption) ?_
      rotate_left
      · intro w hSw
        go_simp
        try with_reducible rfl
      simp only [Act.put, List.getElem_toArray, List.getElem_cons_zero, List.getElem_cons_succ, List.setIfInBounds_toArray, List.set_cons_zero, List.set_cons_succ]
      refine wpAnyH_take (i := 3) (v := ?_) rfl (by kernel_rfl) (by kernel_rfl) (by kernel_rfl) (fun _ _ _ h => h) (Or.inl ⟨by rfl, ?_⟩) (by assumption) ?_
      rotate_left
      · intro w hSw
        go_simp
        try with_reducible rfl
      simp only [Act.put, List.getElem_toArray, List.getElem_cons_zero, List.getElem_cons_succ, List.setIfInBounds_toArray, List.set_cons_zero, List.set_cons_succ]
      refine wpAnyH_take (i := 4) (v := ?_) rfl (by kernel_rfl) (by kernel_rfl) (by kernel_rfl) (fun _ _ _ h => h) (Or.inl ⟨by rfl, ?_⟩) (by assumption) ?_
      rotate_left
      · intro w hSw
        go_simp
        try with_reducible rfl
      simp only [Act.put, List.getElem_toArray, List.getElem_cons_zero, List.getElem_cons_succ, List.setIfInBounds_toArray, List.set_cons_zero, List.set_cons_succ]
      refine wpAnyH_take (i := 5) (v := ?_) rfl (by kernel_rfl) (by kernel_rfl) (by kernel_rfl) (fun _ _ _ h => h) (Or.inl ⟨by rfl, ?_⟩) (by assumption) ?_
      rotate_left
      · intro w hSw
        go_simp
        try with_reducible rfl
      simp only [Act.put, List.getElem_toArray, List.getElem_cons_zero, List.getElem_cons_succ, List.setIfInBounds_toArray, List.set_cons_zero, List.set_cons_succ]
      refine wpAnyH_take (i := 6) (v := ?_) rfl (by kernel_rfl) (by kernel_rfl) (by kernel_rfl) (fun _ _ _ h => h) (Or.inl ⟨by rfl, ?_⟩) (by assumption) ?_
      rotate_left
      · intro w hSw
        go_simp
        try with_reducible rfl
      simp only [Act.put, List.getElem_toArray, List.getElem_cons_zero, List.getElem_cons_succ, List.setIfInBounds_toArray, List.set_cons_zero, List.set_cons_succ]
      refine wpAnyH_take (i := 7) (v := ?_) rfl (by kernel_rfl) (by kernel_rfl) (by kernel_rfl) (fun _ _ _ h => h) (Or.inl ⟨by rfl, ?_⟩) (by assumption) ?_
      rotate_left
      · intro w hSw
        go_simp
        try with_reducible rfl
      simp only [Act.put, List.getElem_toArray, List.getElem_cons_zero, List.getElem_cons_succ, List.setIfInBounds_toArray, List.set_cons_zero, List.set_cons_succ]
      refine wpAnyH_take (i := 8) (v := .bool false) rfl (by kernel_rfl) (by kernel_rfl) (by kernel_rfl) (fun _ _ _ h => h) (Or.inl ⟨by rfl, ?_⟩) (by assumption) ?_
      · intro w hSw
        go_simp
      simp only [Act.put, List.getElem_toArray, List.getElem_cons_zero, List.getElem_cons_succ, List.setIfInBounds_toArray, List.set_cons_zero, List.set_cons_succ]
      refine wpAnyH_done (by kernel_rfl) ?_ _
      have HB2 := aside hHeld.1
      clear hHeld hNE F1 F2
      go_wp2
      go_roundw
      case rel => exact ⟨j + 1, by go_num, by omega, HB2.out⟩
      case measure => simp [intOf]; omega
    · have hjl : j = la := by omega
      subst hjl
      go_wp2
      go_ret
      exact ⟨rfl, HB.out⟩
end Go.Proofs.YtoflalflacopdaaDoor
namespace Go.Proofs.YtoflalflacopdaaDoor
open Go.RowKit
set_option linter.unusedVariables false
set_option maxHeartbeats 3200000 in
set_option maxRecDepth 100000 in
theorem one_any (p : Pm) (w : World) (h : p.In w) :
    Calls Tryd.prog 16 #[.agg #[.int .i64 p.kind, .string p.lo, .string p.hi, .bool p.op, .int .i64 p.cnt, .int .u64 p.s0, .int .u64 p.s1, .slice p.ea p.el p.ec]] w fun e w' => ∃ g c, e = .returned (.slice (some ⟨g, 0, none⟩) 1 c) ∧ PartsIn w' (some ⟨g, 0, none⟩) 1 c (fun _ => p) ∧ w.heap.size ≤ g ∧ Below w.heap.size w w' := by
  have B0 := aside (bnew w (.cells #[.int .i64 p.kind, .string p.lo, .string p.hi, .bool p.op, .int .i64 p.cnt, .int .u64 p.s0, .int .u64 p.s1, .slice p.ea p.el p.ec] 59))
  have K0 := aside (heap_alloc_new w (.cells #[.int .i64 p.kind, .string p.lo, .string p.hi, .bool p.op, .int .i64 p.cnt, .int .u64 p.s0, .int .u64 p.s1, .slice p.ea p.el p.ec] 59))
  have HP := aside h
  clear h
  obtain ⟨w0, hw0⟩ : ∃ w0, w.alloc (.cells #[.int .i64 p.kind, .string p.lo, .string p.hi, .bool p.op, .int .i64 p.cnt, .int .u64 p.s0, .int .u64 p.s1, .slice p.ea p.el p.ec] 59) = w0 := ⟨_, rfl⟩
  rw [hw0] at B0 K0
  have OE := aside (ownP_empty w0 w.heap.size B0.out.size)
  have KE := aside (blk_on K0.out (bnew w0 (.cells #[] 59)))
  have BE := aside (bthen B0.out (bnew w0 (.cells #[] 59)))
  clear K0
  obtain ⟨w1, hw1⟩ : ∃ w1, w0.alloc (.cells #[] 59) = w1 := ⟨_, rfl⟩
  rw [hw1] at OE KE BE
  obtain ⟨p0, p1, p2, p3, p4, p5, p6, p7⟩ := oct KE.out
  have PI := aside (show PartsIn (w1.alloc (.cells #[.int .i64 p.kind, .string p.lo, .string p.hi, .bool p.op, .int .i64 p.cnt, .int .u64 p.s0, .int .u64 p.s1, .slice p.ea p.el p.ec] 59)) (some ⟨w1.heap.size, 0, none⟩) 1 1 (fun _ => p) from ⟨Nat.le_refl _, by unfold maxLen; omega, .inr ⟨w1.heap.size, 0, rfl, by simp, fun i hi => ⟨by
    obtain rfl : i = 0 := by omega
    exact oct (heap_alloc_new w1 (.cells #[.int .i64 p.kind, .string p.lo, .string p.hi, .bool p.op, .int .i64 p.cnt, .int .u64 p.s0, .int .u64 p.s1, .slice p.ea p.el p.ec] 59)), HP.out.keep (bthen BE.out (bnew w1 _))⟩⟩⟩)
  go_enter Tryd.func16, Tryd.ntmps16
  go_wp2_with (at_builtin; go_loud (refine wpList_plain rfl fun K hK => op_append_parts (V := w) _ _ rfl 0 _ [] (by rfl) (OE.out.alloc _) ⟨w1.heap.size, 0, none⟩ 1 1 (fun _ => p) (by rfl) PI.out (by omega) (bthen BE.out (bnew w1 _)) ?_); intro v4 w4 own4 b4 gr4; refine hK _ _ ?_; refine Hid.out ?_)
  refine aside ?_
  rw [show ([] : List Pm) ++ firstP (fun _ => p) 1 = firstP (fun _ => p) 1 from rfl] at own4
  rcases own4.2 with ⟨_, h9⟩ | ⟨g, cap, cur, rfl, h2, h3⟩
  · omega
  have O4 := aside own4
  have B4 := aside b4
  have HG := aside h2
  clear own4 b4 gr4 h2 h3 p0 p1 p2 p3 p4 p5 p6 p7
  go_wp2
  go_ret
  exact ⟨g, cap, rfl, parts_of_row O4.out (fun i hi => HP.out.keep B4.out), HG.out, B4.out⟩
end Go.Proofs.YtoflalflacopdaaDoor
