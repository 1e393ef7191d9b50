/-
  The document's Lacks and Above.
  Print, and what it stands on.
  Print.
  Same of the document's: frames that are the same.
  What the laws on match share.
-/
import Derived.Test.YtoflalflacopdaaDoorBm33
import Derived.Test.YtoflalflacopdaaDoorBm28
import Derived.Deep.Cut
import Derived.Test.YtoflalflacopdaaDoorBm29
import Derived.Deep.CutBlock
namespace Go.Proofs.YtoflalflacopdaaDoor
open Go.RowKit
set_option linter.unusedVariables false
theorem newerRef_en (x y : En) (w : World) {q : Bool} (h : En.newer x y = q) : Calls Tryd.prog 57 #[.agg #[.string x.k, .int .i64 x.c, .int .i64 x.n, .string x.v, .bool x.d], .agg #[.string y.k, .int .i64 y.c, .int .i64 y.n, .string y.v, .bool y.d]] w fun e w' => e = .returned (.bool q) ∧ Below w.heap.size w w' := newerRef_any _ _ _ _ _ _ _ _ _ _ q w h
set_option maxHeartbeats 8000000 in
set_option maxRecDepth 100000 in
theorem rlack_any (a : Option Addr) (la ca : Nat) (A : Nat → En) (b : Option Addr) (lb cb : Nat) (B : Nat → En) (w : World) (hA : EntsIn w a la ca A) (hB : EntsIn w b lb cb B) (hl : la + lb ≤ 2147483648) :
    Calls Tryd.prog 21 #[.slice a la ca, .slice b lb cb] w fun e w' => Says w (ck2 A la B lb) (outL (ck2 A la B lb) (lkP (prs (firstE A la) (firstE B lb)))) e w' := by
  obtain ⟨q, hq⟩ : ∃ q, ck2 A la B lb = q := ⟨_, rfl⟩
  have CK := aside (rchk2_any a la ca A b lb cb B w hA hB)
  rw [hq] at CK ⊢
  have CP := aside (fun W (bb : Below w.heap.size w W) (h0 : q = 0) => pairs_ok a la ca A b lb cb B W (hA.keep bb) (hB.keep bb) (hq.trans h0) hl)
  have HLN0 := aside (show (prs (firstE A la) (firstE B lb)).length ≤ 2147483648 from by have := prs_len (firstE A la) (firstE B lb); rw [firstE_len, firstE_len] at this; omega)
  have HMM := aside (fun (h0 : q = 0) => ck2_ok.1 (hq.trans h0))
  clear hA hB hl hq
  by_cases h0 : q = 0
  · subst h0
    rw [outL_ok _ rfl]
    have HPR := aside (fun p (hp : p ∈ prs (firstE A la) (firstE B lb)) => pr_two (HMM.out rfl).1 (HMM.out rfl).2 hp)
    generalize prs (firstE A la) (firstE B lb) = l at *
    go_enter Tryd.func21, Tryd.ntmps21
    go_wp2_with fail
    refine CK.out.mono ?_
    rintro e w1 ⟨rfl, b1⟩
    have B1 := aside b1
    clear b1
    go_wp2_with fail
    refine (CP.out _ B1.out (by first | rfl | trivial)).mono ?_
    rintro e w3 ⟨g, cp, rfl, own3, b3⟩
    have B3 := aside (bthen B1.out b3)
    have O3 := aside own3
    clear own3 b3 CK CP B1 HMM
    obtain ⟨n, hn⟩ : ∃ n, l.length = n := ⟨_, rfl⟩
    have HN0 := aside hn
    rw [hn] at O3 HLN0 ⊢
    clear hn
    have hln : (n : Int) ≤ 2147483648 := by have := HLN0.out; omega
    have BE := aside (bnew w3 (.cells #[] 33))
    have OE := aside (own_emptyE w3 w3.heap.size (Nat.le_refl _))
    go_wp2
    go_loopw [8, 9] (fun v i wr => ∃ k : Nat, i = .int .i64 (k : Int) ∧ k ≤ n ∧ wr.ownsRow w3.heap.size 33 5 v (lkP (l.take k)).length (entCells (lkP (l.take k))) ∧ Below w3.heap.size w3 wr) (fun _ i _ => n - (intOf i).toNat)
    case atStart => exact ⟨0, rfl, Nat.zero_le _, OE.out, BE.out⟩
    case round =>
      obtain ⟨k, rfl, hk, hO, hB⟩ := hrel
      have HB := aside hB
      have HO := aside hO
      clear hB hO
      by_cases hlt : (k : Int) < (n : Int)
      · have hk0 : (0 : Int) ≤ (k : Int) := by omega
        obtain ⟨⟨x, y⟩, hp⟩ : ∃ p, l[k]? = some p := ⟨_, List.getElem?_eq_getElem (by rw [HN0.out]; omega)⟩
        have PCW := aside (fun W (bb : Below w3.heap.size w3 W) => pr_cells (own_on O3.out bb) hp)
        have HTW := aside (HPR.out _ (List.mem_of_getElem? hp))
        have HLN := aside (show (lkP (l.take k)).length ≤ 2147483648 from by have h1 := lkP_len (l.take k); have h2 := List.length_take_le k l; omega)
        have HTK := aside (show l.take (k + 1) = l.take k ++ [(x, y)] from by rw [List.take_add_one, hp]; rfl)
        clear hp
        obtain ⟨⟨c0, c1, c2, c3, c4⟩, c5, c6, c7, c8, c9⟩ := PCW.out _ HB.out
        have hlk : lkP [(x, y)] = (if En.newer x y then [x] else []) := by
          unfold lkP
          cases h : En.newer x y <;> simp [h]
        have HSN0 := aside (show lkP (l.take (k + 1)) = lkP (l.take k) ++ (if En.newer x y then [x] else []) from by rw [HTK.out, lkP_snoc])
        clear hlk
        cases hq : (x.c == 0)
        · have CN := aside (fun W => none_any x W hq)
          clear hq
          cases hq : En.newer x y
          · have CW := aside (fun W => newerRef_en x y W hq)
            have HSN := aside (show lkP (l.take (k + 1)) = lkP (l.take k) from by rw [HSN0.out, hq]; simp)
            clear hq
            go_wp2_with fail
            refine wp_region_held_drew (S := fun W => Below w3.heap.size w3 W ∧ (W.cell? ⟨g, k * 10, none⟩ = some (.string x.k) ∧ W.cell? ⟨g, k * 10 + 1, none⟩ = some (.int .i64 x.c) ∧ W.cell? ⟨g, k * 10 + 2, none⟩ = some (.int .i64 x.n) ∧ W.cell? ⟨g, k * 10 + 3, none⟩ = some (.string x.v) ∧ W.cell? ⟨g, k * 10 + 4, none⟩ = some (.bool x.d)) ∧ W.cell? ⟨g, k * 10 + 5, none⟩ = some (.string y.k) ∧ W.cell? ⟨g, k * 10 + 6, none⟩ = some (.int .i64 y.c) ∧ W.cell? ⟨g, k * 10 + 7, none⟩ = some (.int .i64 y.n) ∧ W.cell? ⟨g, k * 10 + 8, none⟩ = some (.string y.v) ∧ W.cell? ⟨g, k * 10 + 9, none⟩ = some (.bool y.d)) (by kernel_rfl) ⟨HB.out.drew, PCW.out _ HB.out.drew⟩ (fun hHeld => ?_)
            refine wpAnyH_take (i := 0) (v := ?_) rfl (by kernel_rfl) (by kernel_rfl) (by kernel_rfl) (fun _ _ _ h => h) (Or.inl ⟨by rfl, ?_⟩) (by assumption) ?_
            rotate_left
            · intro w hSw
              go_simp
              try with_reducible rfl
            simp only [Act.put, List.getElem_toArray, List.getElem_cons_zero, List.setIfInBounds_toArray, List.set_cons_zero, List.set_cons_succ]
            refine wpAnyH_take (i := 1) (v := ?_) rfl (by kernel_rfl) (by kernel_rfl) (by kernel_rfl) (fun _ _ _ h => h) (Or.inl ⟨by rfl, ?_⟩) (by assumption) ?_
            rotate_left
            · intro w hSw
              go_simp
              try with_reducible rfl
            simp only [Act.put, List.getElem_toArray, List.getElem_cons_zero, List.getElem_cons_succ, List.setIfInBounds_toArray, List.set_cons_zero, List.set_cons_succ]
            refine wpAnyH_take (i := 2) (v := ?_) rfl (by kernel_rfl) (by kernel_rfl) (by kernel_rfl) (fun _ _ _ h => h) (Or.inl ⟨by rfl, ?_⟩) (by assumption) ?_
            rotate_left
            · intro w hSw
              go_simp
              try with_reducible rfl
            simp only [Act.put, List.getElem_toArray, List.getElem_cons_zero, List.getElem_cons_succ, List.setIfInBounds_toArray, List.set_cons_zero, List.set_cons_succ]
            refine wpAnyH_take (i := 3) (v := ?_) rfl (by kernel_rfl) (by kernel_rfl) (by kernel_rfl) (fun _ _ _ h => h) (Or.inl ⟨by rfl, ?_⟩) (by assumption) ?_
            rotate_left
            · intro w hSw
              go_simp
              try with_reducible rfl
            simp only [Act.put, List.getElem_toArray, List.getElem_cons_zero, List.getElem_cons_succ, List.setIfInBounds_toArray, List.set_cons_zero, List.set_cons_succ]
            refine wpAnyH_take (i := 4) (v := ?_) rfl (by kernel_rfl) (by kernel_rfl) (by kernel_rfl) (fun _ _ _ h => h) (Or.inl ⟨by rfl, ?_⟩) (by assumption) ?_
            rotate_left
            · intro w hSw
              go_simp
              try with_reducible rfl
            simp only [Act.put, List.getElem_toArray, List.getElem_cons_zero, List.getElem_cons_succ, List.setIfInBounds_toArray, List.set_cons_zero, List.set_cons_succ]
            refine wpAnyH_ready (rs := [5]) (by kernel_rfl) (by simp) ?_
            refine AllReadyH.cons rfl (fun K hK => ?_) AllReadyH.nil
            go_simp
            refine (CN.out _).mono ?_
            rintro e w9 ⟨rfl, bb⟩
            refine hK.out _ _ (⟨hHeld.1.trans (bb.mono hHeld.1.size), PCW.out _ (hHeld.1.trans (bb.mono hHeld.1.size))⟩) (fun hHeld => ?_)
            replace HO := aside (own_on HO.out (bthen (Below.refl _ wr).drew bb))
            clear hK K CN bb
            refine wpAnyH_take (i := 6) (v := ?_) rfl (by kernel_rfl) (by kernel_rfl) (by kernel_rfl) (fun _ _ _ h => h) (Or.inl ⟨by rfl, ?_⟩) (by assumption) ?_
            rotate_left
            · intro w hSw
              go_simp
              try with_reducible rfl
            simp only [Act.put, List.getElem_toArray, List.getElem_cons_zero, List.getElem_cons_succ, List.setIfInBounds_toArray, List.set_cons_zero, List.set_cons_succ]
            refine wpAnyH_take (i := 7) (v := ?_) rfl (by kernel_rfl) (by kernel_rfl) (by kernel_rfl) (fun _ _ _ h => h) (Or.inl ⟨by rfl, ?_⟩) (by assumption) ?_
            rotate_left
            · intro w hSw
              go_simp
              try with_reducible rfl
            simp only [Act.put, List.getElem_toArray, List.getElem_cons_zero, List.getElem_cons_succ, List.setIfInBounds_toArray, List.set_cons_zero, List.set_cons_succ]
            refine wpAnyH_take (i := 8) (v := ?_) rfl (by kernel_rfl) (by kernel_rfl) (by kernel_rfl) (fun _ _ _ h => h) (Or.inl ⟨by rfl, ?_⟩) (by assumption) ?_
            rotate_left
            · intro w hSw
              go_simp
              try with_reducible rfl
            simp only [Act.put, List.getElem_toArray, List.getElem_cons_zero, List.getElem_cons_succ, List.setIfInBounds_toArray, List.set_cons_zero, List.set_cons_succ]
            refine wpAnyH_take (i := 9) (v := ?_) rfl (by kernel_rfl) (by kernel_rfl) (by kernel_rfl) (fun _ _ _ h => h) (Or.inl ⟨by rfl, ?_⟩) (by assumption) ?_
            rotate_left
            · intro w hSw
              go_simp
              try with_reducible rfl
            simp only [Act.put, List.getElem_toArray, List.getElem_cons_zero, List.getElem_cons_succ, List.setIfInBounds_toArray, List.set_cons_zero, List.set_cons_succ]
            refine wpAnyH_take (i := 10) (v := ?_) rfl (by kernel_rfl) (by kernel_rfl) (by kernel_rfl) (fun _ _ _ h => h) (Or.inl ⟨by rfl, ?_⟩) (by assumption) ?_
            rotate_left
            · intro w hSw
              go_simp
              try with_reducible rfl
            simp only [Act.put, List.getElem_toArray, List.getElem_cons_zero, List.getElem_cons_succ, List.setIfInBounds_toArray, List.set_cons_zero, List.set_cons_succ]
            refine wpAnyH_take (i := 11) (v := ?_) rfl (by kernel_rfl) (by kernel_rfl) (by kernel_rfl) (fun _ _ _ h => h) (Or.inl ⟨by rfl, ?_⟩) (by assumption) ?_
            rotate_left
            · intro w hSw
              go_simp
              try with_reducible rfl
            simp only [Act.put, List.getElem_toArray, List.getElem_cons_zero, List.getElem_cons_succ, List.setIfInBounds_toArray, List.set_cons_zero, List.set_cons_succ]
            refine wpAnyH_take (i := 12) (v := ?_) rfl (by kernel_rfl) (by kernel_rfl) (by kernel_rfl) (fun _ _ _ h => h) (Or.inl ⟨by rfl, ?_⟩) (by assumption) ?_
            rotate_left
            · intro w hSw
              go_simp
              try with_reducible rfl
            simp only [Act.put, List.getElem_toArray, List.getElem_cons_zero, List.getElem_cons_succ, List.setIfInBounds_toArray, List.set_cons_zero, List.set_cons_succ]
            refine wpAnyH_take (i := 13) (v := ?_) rfl (by kernel_rfl) (by kernel_rfl) (by kernel_rfl) (fun _ _ _ h => h) (Or.inl ⟨by rfl, ?_⟩) (by assumption) ?_
            rotate_left
            · intro w hSw
              go_simp
              try with_reducible rfl
            simp only [Act.put, List.getElem_toArray, List.getElem_cons_zero, List.getElem_cons_succ, List.setIfInBounds_toArray, List.set_cons_zero, List.set_cons_succ]
            refine wpAnyH_take (i := 14) (v := ?_) rfl (by kernel_rfl) (by kernel_rfl) (by kernel_rfl) (fun _ _ _ h => h) (Or.inl ⟨by rfl, ?_⟩) (by assumption) ?_
            rotate_left
            · intro w hSw
              go_simp
              try with_reducible rfl
            simp only [Act.put, List.getElem_toArray, List.getElem_cons_zero, List.getElem_cons_succ, List.setIfInBounds_toArray, List.set_cons_zero, List.set_cons_succ]
            refine wpAnyH_take (i := 15) (v := ?_) rfl (by kernel_rfl) (by kernel_rfl) (by kernel_rfl) (fun _ _ _ h => h) (Or.inl ⟨by rfl, ?_⟩) (by assumption) ?_
            rotate_left
            · intro w hSw
              go_simp
              try with_reducible rfl
            simp only [Act.put, List.getElem_toArray, List.getElem_cons_zero, List.getElem_cons_succ, List.setIfInBounds_toArray, List.set_cons_zero, List.set_cons_succ]
            refine wpAnyH_take (i := 16) (v := ?_) rfl (by kernel_rfl) (by kernel_rfl) (by kernel_rfl) (fun _ _ _ h => h) (Or.inl ⟨by rfl, ?_⟩) (by assumption) ?_
            rotate_left
            · intro w hSw
              go_simp
              try with_reducible rfl
            simp only [Act.put, List.getElem_toArray, List.getElem_cons_zero, List.getElem_cons_succ, List.setIfInBounds_toArray, List.set_cons_zero, List.set_cons_succ]
            refine wpAnyH_take (i := 17) (v := ?_) rfl (by kernel_rfl) (by kernel_rfl) (by kernel_rfl) (fun _ _ _ h => h) (Or.inl ⟨by rfl, ?_⟩) (by assumption) ?_
            rotate_left
            · intro w hSw
              go_simp
              try with_reducible rfl
            simp only [Act.put, List.getElem_toArray, List.getElem_cons_zero, List.getElem_cons_succ, List.setIfInBounds_toArray, List.set_cons_zero, List.set_cons_succ]
            refine wpAnyH_ready (rs := [18]) (by kernel_rfl) (by simp) ?_
            refine AllReadyH.cons rfl (fun K hK => ?_) AllReadyH.nil
            go_simp
            refine (CW.out _).mono ?_
            rintro e w8 ⟨rfl, bb⟩
            refine hK.out _ _ (⟨hHeld.1.trans (bb.mono hHeld.1.size), PCW.out _ (hHeld.1.trans (bb.mono hHeld.1.size))⟩) (fun hHeld => ?_)
            replace HO := aside (own_on HO.out bb)
            clear hK K CW bb
            refine wpAnyH_take (i := 19) (v := ?_) rfl (by kernel_rfl) (by kernel_rfl) (by kernel_rfl) (fun _ _ _ h => h) (Or.inl ⟨by rfl, ?_⟩) (by assumption) ?_
            rotate_left
            · intro w hSw
              go_simp
              try with_reducible rfl
            simp only [Act.put, List.getElem_toArray, List.getElem_cons_zero, List.getElem_cons_succ, List.setIfInBounds_toArray, List.set_cons_zero, List.set_cons_succ]
            refine wpAnyH_done (by kernel_rfl) ?_ _
            replace HB := aside hHeld.1
            clear hHeld c0 c1 c2 c3 c4 c5 c6 c7 c8 c9
            go_wp2
            go_roundw
            case rel => exact ⟨k + 1, by go_num, by omega, by rw [HSN.out]; exact HO.out, HB.out⟩
            case measure => simp [intOf]; omega
          · have CW := aside (fun W => newerRef_en x y W hq)
            have HSN := aside (show lkP (l.take (k + 1)) = lkP (l.take k) ++ [x] from by rw [HSN0.out, hq]; simp)
            clear hq
            go_wp2_with fail
            refine wp_region_held_drew (S := fun W => Below w3.heap.size w3 W ∧ (W.cell? ⟨g, k * 10, none⟩ = some (.string x.k) ∧ W.cell? ⟨g, k * 10 + 1, none⟩ = some (.int .i64 x.c) ∧ W.cell? ⟨g, k * 10 + 2, none⟩ = some (.int .i64 x.n) ∧ W.cell? ⟨g, k * 10 + 3, none⟩ = some (.string x.v) ∧ W.cell? ⟨g, k * 10 + 4, none⟩ = some (.bool x.d)) ∧ W.cell? ⟨g, k * 10 + 5, none⟩ = some (.string y.k) ∧ W.cell? ⟨g, k * 10 + 6, none⟩ = some (.int .i64 y.c) ∧ W.cell? ⟨g, k * 10 + 7, none⟩ = some (.int .i64 y.n) ∧ W.cell? ⟨g, k * 10 + 8, none⟩ = some (.string y.v) ∧ W.cell? ⟨g, k * 10 + 9, none⟩ = some (.bool y.d)) (by kernel_rfl) ⟨HB.out.drew, PCW.out _ HB.out.drew⟩ (fun hHeld => ?_)
            refine wpAnyH_take (i := 0) (v := ?_) rfl (by kernel_rfl) (by kernel_rfl) (by kernel_rfl) (fun _ _ _ h => h) (Or.inl ⟨by rfl, ?_⟩) (by assumption) ?_
            rotate_left
            · intro w hSw
              go_simp
              try with_reducible rfl
            simp only [Act.put, List.getElem_toArray, List.getElem_cons_zero, List.setIfInBounds_toArray, List.set_cons_zero, List.set_cons_succ]
            refine wpAnyH_take (i := 1) (v := ?_) rfl (by kernel_rfl) (by kernel_rfl) (by kernel_rfl) (fun _ _ _ h => h) (Or.inl ⟨by rfl, ?_⟩) (by assumption) ?_
            rotate_left
            · intro w hSw
              go_simp
              try with_reducible rfl
            simp only [Act.put, List.getElem_toArray, List.getElem_cons_zero, List.getElem_cons_succ, List.setIfInBounds_toArray, List.set_cons_zero, List.set_cons_succ]
            refine wpAnyH_take (i := 2) (v := ?_) rfl (by kernel_rfl) (by kernel_rfl) (by kernel_rfl) (fun _ _ _ h => h) (Or.inl ⟨by rfl, ?_⟩) (by assumption) ?_
            rotate_left
            · intro w hSw
              go_simp
              try with_reducible rfl
            simp only [Act.put, List.getElem_toArray, List.getElem_cons_zero, List.getElem_cons_succ, List.setIfInBounds_toArray, List.set_cons_zero, List.set_cons_succ]
            refine wpAnyH_take (i := 3) (v := ?_) rfl (by kernel_rfl) (by kernel_rfl) (by kernel_rfl) (fun _ _ _ h => h) (Or.inl ⟨by rfl, ?_⟩) (by assumption) ?_
            rotate_left
            · intro w hSw
              go_simp
              try with_reducible rfl
            simp only [Act.put, List.getElem_toArray, List.getElem_cons_zero, List.getElem_cons_succ, List.setIfInBounds_toArray, List.set_cons_zero, List.set_cons_succ]
            refine wpAnyH_take (i := 4) (v := ?_) rfl (by kernel_rfl) (by kernel_rfl) (by kernel_rfl) (fun _ _ _ h => h) (Or.inl ⟨by rfl, ?_⟩) (by assumption) ?_
            rotate_left
            · intro w hSw
              go_simp
              try with_reducible rfl
            simp only [Act.put, List.getElem_toArray, List.getElem_cons_zero, List.getElem_cons_succ, List.setIfInBounds_toArray, List.set_cons_zero, List.set_cons_succ]
            refine wpAnyH_ready (rs := [5]) (by kernel_rfl) (by simp) ?_
            refine AllReadyH.cons rfl (fun K hK => ?_) AllReadyH.nil
            go_simp
            refine (CN.out _).mono ?_
            rintro e w9 ⟨rfl, bb⟩
            refine hK.out _ _ (⟨hHeld.1.trans (bb.mono hHeld.1.size), PCW.out _ (hHeld.1.trans (bb.mono hHeld.1.size))⟩) (fun hHeld => ?_)
            replace HO := aside (own_on HO.out (bthen (Below.refl _ wr).drew bb))
            clear hK K CN bb
            refine wpAnyH_take (i := 6) (v := ?_) rfl (by kernel_rfl) (by kernel_rfl) (by kernel_rfl) (fun _ _ _ h => h) (Or.inl ⟨by rfl, ?_⟩) (by assumption) ?_
            rotate_left
            · intro w hSw
              go_simp
              try with_reducible rfl
            simp only [Act.put, List.getElem_toArray, List.getElem_cons_zero, List.getElem_cons_succ, List.setIfInBounds_toArray, List.set_cons_zero, List.set_cons_succ]
            refine wpAnyH_take (i := 7) (v := ?_) rfl (by kernel_rfl) (by kernel_rfl) (by kernel_rfl) (fun _ _ _ h => h) (Or.inl ⟨by rfl, ?_⟩) (by assumption) ?_
            rotate_left
            · intro w hSw
              go_simp
              try with_reducible rfl
            simp only [Act.put, List.getElem_toArray, List.getElem_cons_zero, List.getElem_cons_succ, List.setIfInBounds_toArray, List.set_cons_zero, List.set_cons_succ]
            refine wpAnyH_take (i := 8) (v := ?_) rfl (by kernel_rfl) (by kernel_rfl) (by kernel_rfl) (fun _ _ _ h => h) (Or.inl ⟨by rfl, ?_⟩) (by assumption) ?_
            rotate_left
            · intro w hSw
              go_simp
              try with_reducible rfl
            simp only [Act.put, List.getElem_toArray, List.getElem_cons_zero, List.getElem_cons_succ, List.setIfInBounds_toArray, List.set_cons_zero, List.set_cons_succ]
            refine wpAnyH_take (i := 9) (v := ?_) rfl (by kernel_rfl) (by kernel_rfl) (by kernel_rfl) (fun _ _ _ h => h) (Or.inl ⟨by rfl, ?_⟩) (by assumption) ?_
            rotate_left
            · intro w hSw
              go_simp
              try with_reducible rfl
            simp only [Act.put, List.getElem_toArray, List.getElem_cons_zero, List.getElem_cons_succ, List.setIfInBounds_toArray, List.set_cons_zero, List.set_cons_succ]
            refine wpAnyH_take (i := 10) (v := ?_) rfl (by kernel_rfl) (by kernel_rfl) (by kernel_rfl) (fun _ _ _ h => h) (Or.inl ⟨by rfl, ?_⟩) (by assumption) ?_
            rotate_left
            · intro w hSw
              go_simp
              try with_reducible rfl
            simp only [Act.put, List.getElem_toArray, List.getElem_cons_zero, List.getElem_cons_succ, List.setIfInBounds_toArray, List.set_cons_zero, List.set_cons_succ]
            refine wpAnyH_take (i := 11) (v := ?_) rfl (by kernel_rfl) (by kernel_rfl) (by kernel_rfl) (fun _ _ _ h => h) (Or.inl ⟨by rfl, ?_⟩) (by assumption) ?_
            rotate_left
            · intro w hSw
              go_simp
              try with_reducible rfl
            simp only [Act.put, List.getElem_toArray, List.getElem_cons_zero, List.getElem_cons_succ, List.setIfInBounds_toArray, List.set_cons_zero, List.set_cons_succ]
            refine wpAnyH_take (i := 12) (v := ?_) rfl (by kernel_rfl) (by kernel_rfl) (by kernel_rfl) (fun _ _ _ h => h) (Or.inl ⟨by rfl, ?_⟩) (by assumption) ?_
            rotate_left
            · intro w hSw
              go_simp
              try with_reducible rfl
            simp only [Act.put, List.getElem_toArray, List.getElem_cons_zero, List.getElem_cons_succ, List.setIfInBounds_toArray, List.set_cons_zero, List.set_cons_succ]
            refine wpAnyH_take (i := 13) (v := ?_) rfl (by kernel_rfl) (by kernel_rfl) (by kernel_rfl) (fun _ _ _ h => h) (Or.inl ⟨by rfl, ?_⟩) (by assumption) ?_
            rotate_left
            · intro w hSw
              go_simp
              try with_reducible rfl
            simp only [Act.put, List.getElem_toArray, List.getElem_cons_zero, List.getElem_cons_succ, List.setIfInBounds_toArray, List.set_cons_zero, List.set_cons_succ]
            refine wpAnyH_take (i := 14) (v := ?_) rfl (by kernel_rfl) (by kernel_rfl) (by kernel_rfl) (fun _ _ _ h => h) (Or.inl ⟨by rfl, ?_⟩) (by assumption) ?_
            rotate_left
            · intro w hSw
              go_simp
              try with_reducible rfl
            simp only [Act.put, List.getElem_toArray, List.getElem_cons_zero, List.getElem_cons_succ, List.setIfInBounds_toArray, List.set_cons_zero, List.set_cons_succ]
            refine wpAnyH_take (i := 15) (v := ?_) rfl (by kernel_rfl) (by kernel_rfl) (by kernel_rfl) (fun _ _ _ h => h) (Or.inl ⟨by rfl, ?_⟩) (by assumption) ?_
            rotate_left
            · intro w hSw
              go_simp
              try with_reducible rfl
            simp only [Act.put, List.getElem_toArray, List.getElem_cons_zero, List.getElem_cons_succ, List.setIfInBounds_toArray, List.set_cons_zero, List.set_cons_succ]
            refine wpAnyH_take (i := 16) (v := ?_) rfl (by kernel_rfl) (by kernel_rfl) (by kernel_rfl) (fun _ _ _ h => h) (Or.inl ⟨by rfl, ?_⟩) (by assumption) ?_
            rotate_left
            · intro w hSw
              go_simp
              try with_reducible rfl
            simp only [Act.put, List.getElem_toArray, List.getElem_cons_zero, List.getElem_cons_succ, List.setIfInBounds_toArray, List.set_cons_zero, List.set_cons_succ]
            refine wpAnyH_take (i := 17) (v := ?_) rfl (by kernel_rfl) (by kernel_rfl) (by kernel_rfl) (fun _ _ _ h => h) (Or.inl ⟨by rfl, ?_⟩) (by assumption) ?_
            rotate_left
            · intro w hSw
              go_simp
              try with_reducible rfl
            simp only [Act.put, List.getElem_toArray, List.getElem_cons_zero, List.getElem_cons_succ, List.setIfInBounds_toArray, List.set_cons_zero, List.set_cons_succ]
            refine wpAnyH_ready (rs := [18]) (by kernel_rfl) (by simp) ?_
            refine AllReadyH.cons rfl (fun K hK => ?_) AllReadyH.nil
            go_simp
            refine (CW.out _).mono ?_
            rintro e w8 ⟨rfl, bb⟩
            refine hK.out _ _ (⟨hHeld.1.trans (bb.mono hHeld.1.size), PCW.out _ (hHeld.1.trans (bb.mono hHeld.1.size))⟩) (fun hHeld => ?_)
            replace HO := aside (own_on HO.out bb)
            clear hK K CW bb
            refine wpAnyH_take (i := 19) (v := ?_) rfl (by kernel_rfl) (by kernel_rfl) (by kernel_rfl) (fun _ _ _ h => h) (Or.inl ⟨by rfl, ?_⟩) (by assumption) ?_
            rotate_left
            · intro w hSw
              go_simp
              try with_reducible rfl
            simp only [Act.put, List.getElem_toArray, List.getElem_cons_zero, List.getElem_cons_succ, List.setIfInBounds_toArray, List.set_cons_zero, List.set_cons_succ]
            refine wpAnyH_done (by kernel_rfl) ?_ _
            replace HB := aside hHeld.1
            clear hHeld c0 c1 c2 c3 c4 c5 c6 c7 c8 c9
            obtain ⟨⟨c0, c1, c2, c3, c4⟩, c5, c6, c7, c8, c9⟩ := PCW.out _ HB.out
            go_wp2_with (at_builtin; go_loud (refine wpList_plain rfl fun K hK => op_append_ent _ _ rfl w3.heap.size _ _ _ (by rfl) (HO.out.alloc _) w8.heap.size 1 x (by rfl) (heap_alloc_new w8 _) (by have := HLN.out; omega) (by have := HB.out.size; simp; omega) ?_); intro g1 cp1 w4 own4 gr4; refine hK _ _ ?_; refine Hid.out ?_)
            refine aside ?_
            have B4 := aside ((HB.out.alloc HB.out.size (.cells #[.string x.k, .int .i64 x.c, .int .i64 x.n, .string x.v, .bool x.d] 33)).grown gr4 (by have := HB.out.size; simp; omega) (fun k e => (HO.out.lt k e).1))
            have O4 := aside own4
            clear own4 gr4
            clear c0 c1 c2 c3 c4 c5 c6 c7 c8 c9
            go_wp2
            go_roundw
            case rel => exact ⟨k + 1, by go_num, by omega, by rw [HSN.out, List.length_append]; exact O4.out, B4.out⟩
            case measure => simp [intOf]; omega
        · have CN := aside (fun W => none_any x W hq)
          have HSN := aside (show lkP (l.take (k + 1)) = lkP (l.take k) from by
            have h1 : x = eZ ∧ 1 ≤ y.c ∧ 0 ≤ y.n := pr_none HTW.out (by simpa using hq)
            rw [HSN0.out, h1.1, (newer_z h1.2).1]; simp)
          clear hq
          go_wp2_with fail
          refine wp_region_held_drew (S := fun W => Below w3.heap.size w3 W ∧ (W.cell? ⟨g, k * 10, none⟩ = some (.string x.k) ∧ W.cell? ⟨g, k * 10 + 1, none⟩ = some (.int .i64 x.c) ∧ W.cell? ⟨g, k * 10 + 2, none⟩ = some (.int .i64 x.n) ∧ W.cell? ⟨g, k * 10 + 3, none⟩ = some (.string x.v) ∧ W.cell? ⟨g, k * 10 + 4, none⟩ = some (.bool x.d)) ∧ W.cell? ⟨g, k * 10 + 5, none⟩ = some (.string y.k) ∧ W.cell? ⟨g, k * 10 + 6, none⟩ = some (.int .i64 y.c) ∧ W.cell? ⟨g, k * 10 + 7, none⟩ = some (.int .i64 y.n) ∧ W.cell? ⟨g, k * 10 + 8, none⟩ = some (.string y.v) ∧ W.cell? ⟨g, k * 10 + 9, none⟩ = some (.bool y.d)) (by kernel_rfl) ⟨HB.out.drew, PCW.out _ HB.out.drew⟩ (fun hHeld => ?_)
          refine wpAnyH_take (i := 0) (v := ?_) rfl (by kernel_rfl) (by kernel_rfl) (by kernel_rfl) (fun _ _ _ h => h) (Or.inl ⟨by rfl, ?_⟩) (by assumption) ?_
          rotate_left
          · intro w hSw
            go_simp
            try with_reducible rfl
          simp only [Act.put, List.getElem_toArray, List.getElem_cons_zero, List.setIfInBounds_toArray, List.set_cons_zero, List.set_cons_succ]
          refine wpAnyH_take (i := 1) (v := ?_) rfl (by kernel_rfl) (by kernel_rfl) (by kernel_rfl) (fun _ _ _ h => h) (Or.inl ⟨by rfl, ?_⟩) (by assumption) ?_
          rotate_left
          · intro w hSw
            go_simp
            try with_reducible rfl
          simp only [Act.put, List.getElem_toArray, List.getElem_cons_zero, List.getElem_cons_succ, List.setIfInBounds_toArray, List.set_cons_zero, List.set_cons_succ]
          refine wpAnyH_take (i := 2) (v := ?_) rfl (by kernel_rfl) (by kernel_rfl) (by kernel_rfl) (fun _ _ _ h => h) (Or.inl ⟨by rfl, ?_⟩) (by assumption) ?_
          rotate_left
          · intro w hSw
            go_simp
            try with_reducible rfl
          simp only [Act.put, List.getElem_toArray, List.getElem_cons_zero, List.getElem_cons_succ, List.setIfInBounds_toArray, List.set_cons_zero, List.set_cons_succ]
          refine wpAnyH_take (i := 3) (v := ?_) rfl (by kernel_rfl) (by kernel_rfl) (by kernel_rfl) (fun _ _ _ h => h) (Or.inl ⟨by rfl, ?_⟩) (by assumption) ?_
          rotate_left
          · intro w hSw
            go_simp
            try with_reducible rfl
          simp only [Act.put, List.getElem_toArray, List.getElem_cons_zero, List.getElem_cons_succ, List.setIfInBounds_toArray, List.set_cons_zero, List.set_cons_succ]
          refine wpAnyH_take (i := 4) (v := ?_) rfl (by kernel_rfl) (by kernel_rfl) (by kernel_rfl) (fun _ _ _ h => h) (Or.inl ⟨by rfl, ?_⟩) (by assumption) ?_
          rotate_left
          · intro w hSw
            go_simp
            try with_reducible rfl
          simp only [Act.put, List.getElem_toArray, List.getElem_cons_zero, List.getElem_cons_succ, List.setIfInBounds_toArray, List.set_cons_zero, List.set_cons_succ]
          refine wpAnyH_ready (rs := [5]) (by kernel_rfl) (by simp) ?_
          refine AllReadyH.cons rfl (fun K hK => ?_) AllReadyH.nil
          go_simp
          refine (CN.out _).mono ?_
          rintro e w9 ⟨rfl, bb⟩
          refine hK.out _ _ (⟨hHeld.1.trans (bb.mono hHeld.1.size), PCW.out _ (hHeld.1.trans (bb.mono hHeld.1.size))⟩) (fun hHeld => ?_)
          replace HO := aside (own_on HO.out (bthen (Below.refl _ wr).drew bb))
          clear hK K CN bb
          refine wpAnyH_take (i := 6) (v := ?_) rfl (by kernel_rfl) (by kernel_rfl) (by kernel_rfl) (fun _ _ _ h => h) (Or.inl ⟨by rfl, ?_⟩) (by assumption) ?_
          rotate_left
          · intro w hSw
            go_simp
            try with_reducible rfl
          simp only [Act.put, List.getElem_toArray, List.getElem_cons_zero, List.getElem_cons_succ, List.setIfInBounds_toArray, List.set_cons_zero, List.set_cons_succ]
          refine wpAnyH_take (i := 7) (v := ?_) rfl (by kernel_rfl) (by kernel_rfl) (by kernel_rfl) (fun _ _ _ h => h) (Or.inl ⟨by rfl, ?_⟩) (by assumption) ?_
          rotate_left
          · intro w hSw
            go_simp
            try with_reducible rfl
          simp only [Act.put, List.getElem_toArray, List.getElem_cons_zero, List.getElem_cons_succ, List.setIfInBounds_toArray, List.set_cons_zero, List.set_cons_succ]
          refine wpAnyH_take (i := 8) (v := undef) rfl (by kernel_rfl) (by kernel_rfl) (by kernel_rfl) (fun _ _ _ h => h) (Or.inr ⟨by rfl, rfl⟩) (by assumption) ?_
          simp only [Act.put, List.getElem_toArray, List.getElem_cons_zero, List.getElem_cons_succ, List.setIfInBounds_toArray, List.set_cons_zero, List.set_cons_succ]
          refine wpAnyH_take (i := 9) (v := undef) rfl (by kernel_rfl) (by kernel_rfl) (by kernel_rfl) (fun _ _ _ h => h) (Or.inr ⟨by rfl, rfl⟩) (by assumption) ?_
          simp only [Act.put, List.getElem_toArray, List.getElem_cons_zero, List.getElem_cons_succ, List.setIfInBounds_toArray, List.set_cons_zero, List.set_cons_succ]
          refine wpAnyH_take (i := 10) (v := undef) rfl (by kernel_rfl) (by kernel_rfl) (by kernel_rfl) (fun _ _ _ h => h) (Or.inr ⟨by rfl, rfl⟩) (by assumption) ?_
          simp only [Act.put, List.getElem_toArray, List.getElem_cons_zero, List.getElem_cons_succ, List.setIfInBounds_toArray, List.set_cons_zero, List.set_cons_succ]
          refine wpAnyH_take (i := 11) (v := undef) rfl (by kernel_rfl) (by kernel_rfl) (by kernel_rfl) (fun _ _ _ h => h) (Or.inr ⟨by rfl, rfl⟩) (by assumption) ?_
          simp only [Act.put, List.getElem_toArray, List.getElem_cons_zero, List.getElem_cons_succ, List.setIfInBounds_toArray, List.set_cons_zero, List.set_cons_succ]
          refine wpAnyH_take (i := 12) (v := undef) rfl (by kernel_rfl) (by kernel_rfl) (by kernel_rfl) (fun _ _ _ h => h) (Or.inr ⟨by rfl, rfl⟩) (by assumption) ?_
          simp only [Act.put, List.getElem_toArray, List.getElem_cons_zero, List.getElem_cons_succ, List.setIfInBounds_toArray, List.set_cons_zero, List.set_cons_succ]
          refine wpAnyH_take (i := 13) (v := undef) rfl (by kernel_rfl) (by kernel_rfl) (by kernel_rfl) (fun _ _ _ h => h) (Or.inr ⟨by rfl, rfl⟩) (by assumption) ?_
          simp only [Act.put, List.getElem_toArray, List.getElem_cons_zero, List.getElem_cons_succ, List.setIfInBounds_toArray, List.set_cons_zero, List.set_cons_succ]
          refine wpAnyH_take (i := 14) (v := undef) rfl (by kernel_rfl) (by kernel_rfl) (by kernel_rfl) (fun _ _ _ h => h) (Or.inr ⟨by rfl, rfl⟩) (by assumption) ?_
          simp only [Act.put, List.getElem_toArray, List.getElem_cons_zero, List.getElem_cons_succ, List.setIfInBounds_toArray, List.set_cons_zero, List.set_cons_succ]
          refine wpAnyH_take (i := 15) (v := undef) rfl (by kernel_rfl) (by kernel_rfl) (by kernel_rfl) (fun _ _ _ h => h) (Or.inr ⟨by rfl, rfl⟩) (by assumption) ?_
          simp only [Act.put, List.getElem_toArray, List.getElem_cons_zero, List.getElem_cons_succ, List.setIfInBounds_toArray, List.set_cons_zero, List.set_cons_succ]
          refine wpAnyH_take (i := 16) (v := undef) rfl (by kernel_rfl) (by kernel_rfl) (by kernel_rfl) (fun _ _ _ h => h) (Or.inr ⟨by rfl, rfl⟩) (by assumption) ?_
          simp only [Act.put, List.getElem_toArray, List.getElem_cons_zero, List.getElem_cons_succ, List.setIfInBounds_toArray, List.set_cons_zero, List.set_cons_succ]
          refine wpAnyH_take (i := 17) (v := undef) rfl (by kernel_rfl) (by kernel_rfl) (by kernel_rfl) (fun _ _ _ h => h) (Or.inr ⟨by rfl, rfl⟩) (by assumption) ?_
          simp only [Act.put, List.getElem_toArray, List.getElem_cons_zero, List.getElem_cons_succ, List.setIfInBounds_toArray, List.set_cons_zero, List.set_cons_succ]
          refine wpAnyH_take (i := 18) (v := undef) rfl (by kernel_rfl) (by kernel_rfl) (by kernel_rfl) (fun _ _ _ h => h) (Or.inr ⟨by rfl, rfl⟩) (by assumption) ?_
          simp only [Act.put, List.getElem_toArray, List.getElem_cons_zero, List.getElem_cons_succ, List.setIfInBounds_toArray, List.set_cons_zero, List.set_cons_succ]
          refine wpAnyH_take (i := 19) (v := ?_) rfl (by kernel_rfl) (by kernel_rfl) (by kernel_rfl) (fun _ _ _ h => h) (Or.inl ⟨by rfl, ?_⟩) (by assumption) ?_
          rotate_left
          · intro w hSw
            go_simp
            try with_reducible rfl
          simp only [Act.put, List.getElem_toArray, List.getElem_cons_zero, List.getElem_cons_succ, List.setIfInBounds_toArray, List.set_cons_zero, List.set_cons_succ]
          refine wpAnyH_done (by kernel_rfl) ?_ _
          replace HB := aside hHeld.1
          clear hHeld c0 c1 c2 c3 c4 c5 c6 c7 c8 c9
          go_wp2
          go_roundw
          case rel => exact ⟨k + 1, by go_num, by omega, by rw [HSN.out]; exact HO.out, HB.out⟩
          case measure => simp [intOf]; omega
      · have hkl : k = n := by omega
        subst hkl
        have hT : l.take k = l := List.take_of_length_le (by rw [HN0.out]; exact Nat.le_refl _)
        rw [hT] at HO
        replace HO := aside (own_low HO.out B3.out.size)
        clear hT
        go_wp2
        go_ret2
        exact ⟨_, rfl, HO.out, bthen B3.out HB.out⟩
  · have h0' : (q == 0) = false := by simpa using h0
    rw [outL_bad _ h0]
    clear h0 CP HMM
    go_enter Tryd.func21, Tryd.ntmps21
    go_wp2_with fail
    refine CK.out.mono ?_
    rintro e w1 ⟨rfl, b1⟩
    have B1 := aside b1
    clear b1 CK
    go_wp2
    go_ret2
    exact ⟨_, rfl, World.ownsRow_nil _ _ _ _, B1.out⟩
end Go.Proofs.YtoflalflacopdaaDoor
namespace Go.Proofs.YtoflalflacopdaaDoor
open Go.RowKit
set_option linter.unusedVariables false
end Go.Proofs.YtoflalflacopdaaDoor
namespace Go.Proofs.YtoflalflacopdaaDoor
open Go.RowKit
set_option linter.unusedVariables false
end Go.Proofs.YtoflalflacopdaaDoor
namespace Go.Proofs.YtoflalflacopdaaDoor
open Go.RowKit
set_option linter.unusedVariables false
theorem rg_ne_same (lo hi : ByteArray) (op : Bool) (w : World) : (binOp .neq 24 (.agg #[.string lo, .string hi, .bool op]) (.agg #[.string lo, .string hi, .bool op])).run Tryd.prog w = .ok (.bool false) w := by
  rw [rg_ne_run]; simp
end Go.Proofs.YtoflalflacopdaaDoor
namespace Go.Proofs.YtoflalflacopdaaDoor
open Go.RowKit
set_option linter.unusedVariables false
theorem bare_in {p : Pm} (w : World) (h1 : p.ea = none) (h2 : p.el = 0) (h3 : p.ec = 0) : p.In w := by
  unfold Pm.In
  rw [h1, h2, h3]
  exact ⟨Nat.le_refl _, by unfold maxLen; omega, .inl rfl⟩
end Go.Proofs.YtoflalflacopdaaDoor
