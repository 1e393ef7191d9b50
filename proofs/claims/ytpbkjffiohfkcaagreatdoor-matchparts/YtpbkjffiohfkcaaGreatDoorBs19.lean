/-
  Pairs, the document's own: two maps side by side, as a list.
-/
import Derived.Test.YtpbkjffiohfkcaaGreatDoorBs1
import Derived.Test.YtpbkjffiohfkcaaGreatDoorBs18
import Derived.Test.YtpbkjffiohfkcaaGreatDoorBs7
import Derived.RangeFuncNested
namespace Go.Proofs.YtpbkjffiohfkcaaGreatDoor
open Go.RowKit
set_option linter.unusedVariables false
theorem ents_five {w : World} {b o len cap : Nat} {T : Nat → En} (h : EntsIn w (some ⟨b, o, none⟩) len cap T) {i : Nat} (hi : i < len) {x : En} (hx : T i = x) :
    w.cell? ⟨b, o + i * 5, none⟩ = some (.string x.k) ∧ w.cell? ⟨b, o + i * 5 + 1, none⟩ = some (.int .i64 x.c) ∧ w.cell? ⟨b, o + i * 5 + 2, none⟩ = some (.int .i64 x.n) ∧ w.cell? ⟨b, o + i * 5 + 3, none⟩ = some (.string x.v) ∧ w.cell? ⟨b, o + i * 5 + 4, none⟩ = some (.bool x.d) := by
 rcases h.2.2 with h0 | ⟨b', o', e, -, hc⟩
 ·omega
 ·cases e
  have := (hc i hi).1
  rw [hx] at this
  exact this
theorem own_baseM {w : World} {B g n cap : Nat} {e : TypeId} {s : Nat} {xs : List Value} (h : w.ownsRow B e s (.slice (some ⟨g, 0, none⟩) n cap) n xs) : B ≤ g := (h.lt g rfl).1
set_option maxHeartbeats 8000000 in
set_option maxRecDepth 100000 in
theorem pairs_ok (a : Option Addr) (la ca : Nat) (A : Nat → En) (b : Option Addr) (lb cb : Nat) (B : Nat → En) (w : World) (hA : EntsIn w a la ca A) (hB : EntsIn w b lb cb B) (h0 : ck2 A la B lb = 0) (hl : la + lb ≤ 2147483648) :
    Calls Tryz.prog 68 #[.slice a la ca, .slice b lb cb] w fun e w' => ∃ g cp, e = .returned (.slice (some ⟨g, 0, none⟩) (prs (firstE A la) (firstE B lb)).length cp) ∧ w'.ownsRow w.heap.size 133 10 (.slice (some ⟨g, 0, none⟩) (prs (firstE A la) (firstE B lb)).length cp) (prs (firstE A la) (firstE B lb)).length (prCells (prs (firstE A la) (firstE B lb))) ∧ Below w.heap.size w w' := by
 have CK := aside (fun W (bb : Below w.heap.size w W) => rchk2_any a la ca A b lb cb B W (hA.keep bb) (hB.keep bb))
 rw [h0] at CK
 have HA := aside hA
 have HBB := aside hB
 clear hA hB h0
 go_enter Tryz.func68, Tryz.ntmps68
 go_wp2_with fail
 refine (CK.out _ (bnew w _)).mono ?_
 rintro e w1 ⟨rfl, b1⟩
 have O1 := aside (own_on (own_emptyPr w w.heap.size (Nat.le_refl _)) b1)
 have B1 := aside (bthen (bnew w _) b1)
 clear b1 CK
 go_wp2
 go_loopw [5, 6, 7] (fun v u t wr => ∃ (g cp i j : Nat) (pre : List (En × En)), v = .slice (some ⟨g, 0, none⟩) pre.length cp ∧ u = .int .i64 (i : Int) ∧ t = .int .i64 (j : Int) ∧ i ≤ la ∧ j ≤ lb ∧ pre.length ≤ i + j ∧ Hid (PS A la B lb pre i j) ∧ wr.ownsRow w.heap.size 133 10 (.slice (some ⟨g, 0, none⟩) pre.length cp) pre.length (prCells pre) ∧ Below w.heap.size w wr) (fun _ u t _ => la + lb - (intOf u).toNat - (intOf t).toNat)
 case atStart => exact ⟨w.heap.size, 0, 0, 0, [], rfl, rfl, rfl, Nat.zero_le _, Nat.zero_le _, Nat.le_refl _, PS.start A la B lb, O1.out, B1.out⟩
 case round =>
  obtain ⟨g, cp, i, j, pre, rfl, rfl, rfl, hi, hj, hp, HP, hO, hB⟩ := hrel
  have HB := aside hB
  have HO := aside hO
  have hi0 : (0 : Int) ≤ (i : Int) := by omega
  have hj0 : (0 : Int) ≤ (j : Int) := by omega
  clear hB hO
  by_cases hla : (i : Int) < (la : Int)
  ·by_cases hlb : (j : Int) < (lb : Int)
   ·have nla : ((i : Int) == (la : Int)) = false := by simp; omega
    have nlb : ((j : Int) == (lb : Int)) = false := by simp; omega
    have hE := HA.out.keep HB.out
    rcases hE.2.2 with h0 | ⟨ba, oa, rfl, hba, hca⟩
    ·omega
    obtain ⟨⟨a0, a1, a2, a3, a4⟩, -⟩ := hca i (by omega)
    obtain ⟨x, hx⟩ : ∃ x, A i = x := ⟨_, rfl⟩
    have HX := aside hx
    rw [hx] at a0 a1 a2 a3 a4
    clear hca hE hx hba
    have hE := HBB.out.keep HB.out
    rcases hE.2.2 with h0 | ⟨bb, ob, rfl, hbb, hcb⟩
    ·omega
    obtain ⟨⟨c0, c1, c2, c3, c4⟩, -⟩ := hcb j (by omega)
    obtain ⟨y, hy⟩ : ∃ y, B j = y := ⟨_, rfl⟩
    have HY := aside hy
    rw [hy] at c0 c1 c2 c3 c4
    clear hcb hE hy hbb
    cases hk : kLt x.k y.k
    ·have hk' : Op.bytesLess x.k.toList y.k.toList = false := hk
     have HK := aside hk
     cases hk2 : kLt y.k x.k
     ·have hk2' : Op.bytesLess y.k.toList x.k.toList = false := hk2
      have HK2 := aside hk2
      clear hk hk2
      go_wp2_with fail
      refine wp_region_held_drew (S := fun W => Below w.heap.size w W ∧ W.cell? ⟨ba, oa + i * 5, none⟩ = some (.string x.k) ∧ W.cell? ⟨bb, ob + j * 5, none⟩ = some (.string y.k)) (by kernel_rfl) ⟨HB.out.drew, a0, c0⟩ (fun hHeld => ?_)
      refine tk 0 rfl _ ?_; refine tk 1 rfl _ ?_; refine tk 2 rfl _ ?_; refine tk 3 rfl _ ?_; refine tk 4 rfl _ ?_; refine tk 5 rfl _ ?_; refine tk 6 rfl _ ?_; refine tk 7 rfl _ ?_; refine tk 8 rfl _ ?_; refine tk 9 rfl _ ?_; refine tk 10 rfl _ ?_; refine tk 11 rfl _ ?_; refine tk 12 rfl _ ?_; refine tk 13 rfl _ ?_; refine tk 14 rfl _ ?_; refine tk 15 rfl _ ?_; refine tk 16 rfl _ ?_; refine tk 17 rfl _ ?_; refine tk 18 rfl _ ?_; refine tk 19 rfl _ ?_; refine tk 20 rfl _ ?_; refine tk 21 rfl _ ?_; refine tk 22 rfl _ ?_; refine tk 23 rfl _ ?_
      refine wpAnyH_done (by kernel_rfl) ?_ _
      have bd := (Below.refl wr.heap.size wr).drew
      replace a0 := cell_in a0 bd
      replace a1 := cell_in a1 bd
      replace a2 := cell_in a2 bd
      replace a3 := cell_in a3 bd
      replace a4 := cell_in a4 bd
      replace c0 := cell_in c0 bd
      replace c1 := cell_in c1 bd
      replace c2 := cell_in c2 bd
      replace c3 := cell_in c3 bd
      replace c4 := cell_in c4 bd
      replace HO := aside (own_on HO.out bd)
      replace HB := aside (HB.out.drew)
      clear bd hHeld
      generalize wr.drew = V1 at *
      go_wp2_with fail
      refine wp_region_held_drew (S := fun W => Below w.heap.size w W ∧ W.cell? ⟨ba, oa + i * 5, none⟩ = some (.string x.k) ∧ W.cell? ⟨bb, ob + j * 5, none⟩ = some (.string y.k)) (by kernel_rfl) ⟨HB.out.drew, a0, c0⟩ (fun hHeld => ?_)
      refine tk 0 rfl _ ?_; refine tk 1 rfl _ ?_; refine tk 2 rfl _ ?_; refine tk 3 rfl _ ?_; refine tk 4 rfl _ ?_; refine tk 5 rfl _ ?_; refine tk 6 rfl _ ?_; refine tk 7 rfl _ ?_; refine tk 8 rfl _ ?_; refine tk 9 rfl _ ?_; refine tk 10 rfl _ ?_; refine tk 11 rfl _ ?_; refine tk 12 rfl _ ?_; refine tk 13 rfl _ ?_; refine tk 14 rfl _ ?_; refine tk 15 rfl _ ?_; refine tk 16 rfl _ ?_; refine tk 17 rfl _ ?_
      refine wpAnyH_done (by kernel_rfl) ?_ _
      have bd := (Below.refl V1.heap.size V1).drew
      replace a0 := cell_in a0 bd
      replace a1 := cell_in a1 bd
      replace a2 := cell_in a2 bd
      replace a3 := cell_in a3 bd
      replace a4 := cell_in a4 bd
      replace c0 := cell_in c0 bd
      replace c1 := cell_in c1 bd
      replace c2 := cell_in c2 bd
      replace c3 := cell_in c3 bd
      replace c4 := cell_in c4 bd
      replace HO := aside (own_on HO.out bd)
      replace HB := aside (HB.out.drew)
      clear bd hHeld
      generalize V1.drew = V2 at *
      go_wp2_with fail
      refine wp_region_held_drew (S := fun W => Below w.heap.size w W ∧ (W.cell? ⟨ba, oa + i * 5, none⟩ = some (.string x.k) ∧ W.cell? ⟨ba, oa + i * 5 + 1, none⟩ = some (.int .i64 x.c) ∧ W.cell? ⟨ba, oa + i * 5 + 2, none⟩ = some (.int .i64 x.n) ∧ W.cell? ⟨ba, oa + i * 5 + 3, none⟩ = some (.string x.v) ∧ W.cell? ⟨ba, oa + i * 5 + 4, none⟩ = some (.bool x.d)) ∧ W.cell? ⟨bb, ob + j * 5, none⟩ = some (.string y.k) ∧ W.cell? ⟨bb, ob + j * 5 + 1, none⟩ = some (.int .i64 y.c) ∧ W.cell? ⟨bb, ob + j * 5 + 2, none⟩ = some (.int .i64 y.n) ∧ W.cell? ⟨bb, ob + j * 5 + 3, none⟩ = some (.string y.v) ∧ W.cell? ⟨bb, ob + j * 5 + 4, none⟩ = some (.bool y.d)) (by kernel_rfl) ⟨HB.out.drew, ⟨cell_in a0 (Below.refl _ V2).drew, cell_in a1 (Below.refl _ V2).drew, cell_in a2 (Below.refl _ V2).drew, cell_in a3 (Below.refl _ V2).drew, cell_in a4 (Below.refl _ V2).drew⟩, cell_in c0 (Below.refl _ V2).drew, cell_in c1 (Below.refl _ V2).drew, cell_in c2 (Below.refl _ V2).drew, cell_in c3 (Below.refl _ V2).drew, cell_in c4 (Below.refl _ V2).drew⟩ (fun hHeld => ?_)
      refine tk 0 rfl _ ?_; refine tk 1 rfl _ ?_; refine tk 2 rfl _ ?_; refine tk 3 rfl _ ?_; refine tk 4 rfl _ ?_; refine tk 5 rfl _ ?_; refine tk 6 rfl _ ?_; refine tk 7 rfl _ ?_; refine tk 8 rfl _ ?_; refine tk 9 rfl _ ?_
      clear a0 a1 a2 a3 a4 c0 c1 c2 c3 c4
      replace HO := aside (own_on HO.out (Below.refl _ V2).drew)
      generalize V2.drew = V3 at *
      refine rd 10 rfl fun K hK => ?_
      go_simp
      have bN := bnew V3 (.cells #[.string x.k, .int .i64 x.c, .int .i64 x.n, .string x.v, .bool x.d, .string y.k, .int .i64 y.c, .int .i64 y.n, .string y.v, .bool y.d] 133)
      have hH2 := aside (show Below w.heap.size w (V3.alloc (.cells #[.string x.k, .int .i64 x.c, .int .i64 x.n, .string x.v, .bool x.d, .string y.k, .int .i64 y.c, .int .i64 y.n, .string y.v, .bool y.d] 133)) from hHeld.1.trans (bN.mono hHeld.1.size))
      refine hK.out _ _ ⟨hH2.out, ⟨cell_in hHeld.2.1.1 bN, cell_in hHeld.2.1.2.1 bN, cell_in hHeld.2.1.2.2.1 bN, cell_in hHeld.2.1.2.2.2.1 bN, cell_in hHeld.2.1.2.2.2.2 bN⟩, cell_in hHeld.2.2.1 bN, cell_in hHeld.2.2.2.1 bN, cell_in hHeld.2.2.2.2.1 bN, cell_in hHeld.2.2.2.2.2.1 bN, cell_in hHeld.2.2.2.2.2.2 bN⟩ (fun hHeld => ?_)
      clear hK K
      refine rd 11 rfl fun K hK => ?_
      refine op_append_pr _ _ rfl w.heap.size pre.length (.slice (some ⟨g, 0, none⟩) pre.length cp) pre (by rfl) (HO.out.alloc (.cells #[.string x.k, .int .i64 x.c, .int .i64 x.n, .string x.v, .bool x.d, .string y.k, .int .i64 y.c, .int .i64 y.n, .string y.v, .bool y.d] 133)) V3.heap.size 1 (x, y) (by rfl) (heap_alloc_new V3 (.cells #[.string x.k, .int .i64 x.c, .int .i64 x.n, .string x.v, .bool x.d, .string y.k, .int .i64 y.c, .int .i64 y.n, .string y.v, .bool y.d] 133)) (by omega) (by have := hH2.out.size; simp at this ⊢; omega) ?_
      intro g1 cp1 w1 own1 gr1
      have B3 := aside (hH2.out.grown gr1 hH2.out.size (fun k e => by cases e; exact own_baseM HO.out))
      refine hK.out _ _ ⟨B3.out, ents_five (HA.out.keep B3.out) (by omega) HX.out, ents_five (HBB.out.keep B3.out) (by omega) HY.out⟩ (fun hHeld => ?_)
      have O3 := aside own1
      clear hK K own1 gr1
      simp only [Act.put, List.getElem_toArray, List.getElem_cons_zero, List.getElem_cons_succ, List.setIfInBounds_toArray, List.set_cons_zero, List.set_cons_succ]
      refine tk 12 rfl _ ?_
      refine wpAnyH_done (by kernel_rfl) ?_ _
      clear hHeld hH2
      go_wp2
      go_roundw
      case rel => exact ⟨g1, cp1, i + 1, j + 1, pre ++ [(x, y)], by rw [List.length_append]; rfl, by first | rfl | go_num, by first | rfl | go_num, by omega, by omega, by rw [List.length_append]; simp; omega, by have := HP.out.eq (by omega) (by omega) (by rw [HX.out, HY.out]; exact HK.out) (by rw [HX.out, HY.out]; exact HK2.out); rw [HX.out, HY.out] at this; exact this, by rw [List.length_append]; exact O3.out, B3.out⟩
      case measure => simp [intOf]; omega
     ·have hk2' : Op.bytesLess y.k.toList x.k.toList = true := hk2
      have HK2 := aside hk2
      clear hk hk2
      go_wp2_with fail
      refine wp_region_held_drew (S := fun W => Below w.heap.size w W ∧ W.cell? ⟨ba, oa + i * 5, none⟩ = some (.string x.k) ∧ W.cell? ⟨bb, ob + j * 5, none⟩ = some (.string y.k)) (by kernel_rfl) ⟨HB.out.drew, a0, c0⟩ (fun hHeld => ?_)
      refine tk 0 rfl _ ?_; refine tk 1 rfl _ ?_; refine tk 2 rfl _ ?_; refine tk 3 rfl _ ?_; refine tk 4 rfl _ ?_; refine tk 5 rfl _ ?_; refine tk 6 rfl _ ?_; refine tk 7 rfl _ ?_; refine tk 8 rfl _ ?_; refine tk 9 rfl _ ?_; refine tk 10 rfl _ ?_; refine tk 11 rfl _ ?_; refine tk 12 rfl _ ?_; refine tk 13 rfl _ ?_; refine tk 14 rfl _ ?_; refine tk 15 rfl _ ?_; refine tk 16 rfl _ ?_; refine tk 17 rfl _ ?_; refine tk 18 rfl _ ?_; refine tk 19 rfl _ ?_; refine tk 20 rfl _ ?_; refine tk 21 rfl _ ?_; refine tk 22 rfl _ ?_; refine tk 23 rfl _ ?_
      refine wpAnyH_done (by kernel_rfl) ?_ _
      have bd := (Below.refl wr.heap.size wr).drew
      replace a0 := cell_in a0 bd
      replace a1 := cell_in a1 bd
      replace a2 := cell_in a2 bd
      replace a3 := cell_in a3 bd
      replace a4 := cell_in a4 bd
      replace c0 := cell_in c0 bd
      replace c1 := cell_in c1 bd
      replace c2 := cell_in c2 bd
      replace c3 := cell_in c3 bd
      replace c4 := cell_in c4 bd
      replace HO := aside (own_on HO.out bd)
      replace HB := aside (HB.out.drew)
      clear bd hHeld
      generalize wr.drew = V1 at *
      go_wp2_with fail
      refine wp_region_held_drew (S := fun W => Below w.heap.size w W ∧ W.cell? ⟨ba, oa + i * 5, none⟩ = some (.string x.k) ∧ W.cell? ⟨bb, ob + j * 5, none⟩ = some (.string y.k)) (by kernel_rfl) ⟨HB.out.drew, a0, c0⟩ (fun hHeld => ?_)
      refine tk 0 rfl _ ?_; refine tk 1 rfl _ ?_; refine tk 2 rfl _ ?_; refine tk 3 rfl _ ?_; refine tk 4 rfl _ ?_; refine tk 5 rfl _ ?_; refine tk 6 rfl _ ?_; refine tk 7 rfl _ ?_; refine tk 8 rfl _ ?_; refine tk 9 rfl _ ?_; refine tk 10 rfl _ ?_; refine tk 11 rfl _ ?_; refine tk 12 rfl _ ?_; refine tk 13 rfl _ ?_; refine tk 14 rfl _ ?_; refine tk 15 rfl _ ?_; refine tk 16 rfl _ ?_; refine tk 17 rfl _ ?_
      refine wpAnyH_done (by kernel_rfl) ?_ _
      have bd := (Below.refl V1.heap.size V1).drew
      replace c0 := cell_in c0 bd
      replace c1 := cell_in c1 bd
      replace c2 := cell_in c2 bd
      replace c3 := cell_in c3 bd
      replace c4 := cell_in c4 bd
      replace HO := aside (own_on HO.out bd)
      replace HB := aside (HB.out.drew)
      clear bd hHeld
      generalize V1.drew = V2 at *
      clear a0 a1 a2 a3 a4
      go_wp2_with (at_builtin; refine wpList_plain rfl fun K hK => op_append_pr _ _ rfl w.heap.size pre.length (.slice (some ⟨g, 0, none⟩) pre.length cp) pre (by rfl) ((HO.out).alloc (.cells #[.string ⟨#[]⟩, .int .i64 0, .int .i64 0, .string ⟨#[]⟩, .bool false, .string y.k, .int .i64 y.c, .int .i64 y.n, .string y.v, .bool y.d] 133)) V2.heap.size 1 (eZ, y) (by rfl) (heap_alloc_new V2 (.cells #[.string ⟨#[]⟩, .int .i64 0, .int .i64 0, .string ⟨#[]⟩, .bool false, .string y.k, .int .i64 y.c, .int .i64 y.n, .string y.v, .bool y.d] 133)) (by omega) (by have := HB.out.size; simp; omega) ?_; intro g1 cp1 w1 own1 gr1; refine hK _ _ ?_; refine Hid.out ?_)
      refine aside ?_
      have B3 := aside ((HB.out.alloc HB.out.size (.cells #[.string ⟨#[]⟩, .int .i64 0, .int .i64 0, .string ⟨#[]⟩, .bool false, .string y.k, .int .i64 y.c, .int .i64 y.n, .string y.v, .bool y.d] 133)).grown gr1 (by have := HB.out.size; simp; omega) (fun k e => by cases e; exact own_baseM (HO.out)))
      have O3 := aside own1
      clear own1 gr1
      go_wp2
      go_roundw
      case rel => exact ⟨g1, cp1, i, j + 1, pre ++ [(eZ, y)], by rw [List.length_append]; rfl, by first | rfl | go_num, by first | rfl | go_num, by omega, by omega, by rw [List.length_append]; simp; omega, by have := HP.out.gt (by omega) (by omega) (by rw [HX.out, HY.out]; exact HK.out) (by rw [HX.out, HY.out]; exact HK2.out); rw [HY.out] at this; exact this, by rw [List.length_append]; exact O3.out, B3.out⟩
      case measure => simp [intOf]; omega
    ·have hk' : Op.bytesLess x.k.toList y.k.toList = true := hk
     have HK := aside hk
     clear hk
     go_wp2_with fail
     refine wp_region_held_drew (S := fun W => Below w.heap.size w W ∧ W.cell? ⟨ba, oa + i * 5, none⟩ = some (.string x.k) ∧ W.cell? ⟨bb, ob + j * 5, none⟩ = some (.string y.k)) (by kernel_rfl) ⟨HB.out.drew, a0, c0⟩ (fun hHeld => ?_)
     refine tk 0 rfl _ ?_; refine tk 1 rfl _ ?_; refine tk 2 rfl _ ?_; refine tk 3 rfl _ ?_; refine tk 4 rfl _ ?_; refine tk 5 rfl _ ?_; refine tk 6 rfl _ ?_; refine tk 7 rfl _ ?_; refine tk 8 rfl _ ?_; refine tk 9 rfl _ ?_; refine tk 10 rfl _ ?_; refine tk 11 rfl _ ?_; refine tk 12 rfl _ ?_; refine tk 13 rfl _ ?_; refine tk 14 rfl _ ?_; refine tk 15 rfl _ ?_; refine tk 16 rfl _ ?_; refine tk 17 rfl _ ?_; refine tk 18 rfl _ ?_; refine tk 19 rfl _ ?_; refine tk 20 rfl _ ?_; refine tk 21 rfl _ ?_; refine tk 22 rfl _ ?_; refine tk 23 rfl _ ?_
     refine wpAnyH_done (by kernel_rfl) ?_ _
     have bd := (Below.refl wr.heap.size wr).drew
     replace a0 := cell_in a0 bd
     replace a1 := cell_in a1 bd
     replace a2 := cell_in a2 bd
     replace a3 := cell_in a3 bd
     replace a4 := cell_in a4 bd
     replace HO := aside (own_on HO.out bd)
     replace HB := aside (HB.out.drew)
     clear bd hHeld
     generalize wr.drew = V1 at *
     clear c0 c1 c2 c3 c4
     go_wp2_with (at_builtin; refine wpList_plain rfl fun K hK => op_append_pr _ _ rfl w.heap.size pre.length (.slice (some ⟨g, 0, none⟩) pre.length cp) pre (by rfl) ((HO.out).alloc (.cells #[.string x.k, .int .i64 x.c, .int .i64 x.n, .string x.v, .bool x.d, .string ⟨#[]⟩, .int .i64 0, .int .i64 0, .string ⟨#[]⟩, .bool false] 133)) V1.heap.size 1 (x, eZ) (by rfl) (heap_alloc_new V1 (.cells #[.string x.k, .int .i64 x.c, .int .i64 x.n, .string x.v, .bool x.d, .string ⟨#[]⟩, .int .i64 0, .int .i64 0, .string ⟨#[]⟩, .bool false] 133)) (by omega) (by have := HB.out.size; simp; omega) ?_; intro g1 cp1 w1 own1 gr1; refine hK _ _ ?_; refine Hid.out ?_)
     refine aside ?_
     have B3 := aside ((HB.out.alloc HB.out.size (.cells #[.string x.k, .int .i64 x.c, .int .i64 x.n, .string x.v, .bool x.d, .string ⟨#[]⟩, .int .i64 0, .int .i64 0, .string ⟨#[]⟩, .bool false] 133)).grown gr1 (by have := HB.out.size; simp; omega) (fun k e => by cases e; exact own_baseM (HO.out)))
     have O3 := aside own1
     clear own1 gr1
     go_wp2
     go_roundw
     case rel => exact ⟨g1, cp1, i + 1, j, pre ++ [(x, eZ)], by rw [List.length_append]; rfl, by first | rfl | go_num, by first | rfl | go_num, by omega, by omega, by rw [List.length_append]; simp; omega, by have := HP.out.lt (by omega) (by omega) (by rw [HX.out, HY.out]; exact HK.out); rw [HX.out] at this; exact this, by rw [List.length_append]; exact O3.out, B3.out⟩
     case measure => simp [intOf]; omega
   ·have hjl : j = lb := by omega
    subst hjl
    have hE := HA.out.keep HB.out
    rcases hE.2.2 with h0 | ⟨ba, oa, rfl, hba, hca⟩
    ·omega
    obtain ⟨⟨a0, a1, a2, a3, a4⟩, -⟩ := hca i (by omega)
    obtain ⟨x, hx⟩ : ∃ x, A i = x := ⟨_, rfl⟩
    have HX := aside hx
    rw [hx] at a0 a1 a2 a3 a4
    clear hca hE hx hba
    go_wp2_with fail
    refine wp_region_held_drew (S := fun W => Below w.heap.size w W) (by kernel_rfl) HB.out.drew (fun hHeld => ?_)
    refine tk 0 rfl _ ?_; refine tk 1 rfl _ ?_; refine tk 2 rfl _ ?_; refine tk 3 rfl _ ?_; refine tk 4 rfl _ ?_; refine tn 5 rfl ?_; refine tn 6 rfl ?_; refine tn 7 rfl ?_; refine tn 8 rfl ?_; refine tn 9 rfl ?_; refine tn 10 rfl ?_; refine tn 11 rfl ?_; refine tn 12 rfl ?_; refine tn 13 rfl ?_; refine tn 14 rfl ?_; refine tn 15 rfl ?_; refine tn 16 rfl ?_; refine tn 17 rfl ?_; refine tn 18 rfl ?_; refine tn 19 rfl ?_; refine tn 20 rfl ?_; refine tn 21 rfl ?_; refine tk 22 rfl _ ?_; refine tk 23 rfl _ ?_
    refine wpAnyH_done (by kernel_rfl) ?_ _
    have bd := (Below.refl wr.heap.size wr).drew
    replace a0 := cell_in a0 bd
    replace a1 := cell_in a1 bd
    replace a2 := cell_in a2 bd
    replace a3 := cell_in a3 bd
    replace a4 := cell_in a4 bd
    replace HO := aside (own_on HO.out bd)
    replace HB := aside (HB.out.drew)
    clear bd hHeld
    generalize wr.drew = V1 at *
    go_wp2_with (at_builtin; refine wpList_plain rfl fun K hK => op_append_pr _ _ rfl w.heap.size pre.length (.slice (some ⟨g, 0, none⟩) pre.length cp) pre (by rfl) ((HO.out).alloc (.cells #[.string x.k, .int .i64 x.c, .int .i64 x.n, .string x.v, .bool x.d, .string ⟨#[]⟩, .int .i64 0, .int .i64 0, .string ⟨#[]⟩, .bool false] 133)) V1.heap.size 1 (x, eZ) (by rfl) (heap_alloc_new V1 (.cells #[.string x.k, .int .i64 x.c, .int .i64 x.n, .string x.v, .bool x.d, .string ⟨#[]⟩, .int .i64 0, .int .i64 0, .string ⟨#[]⟩, .bool false] 133)) (by omega) (by have := HB.out.size; simp; omega) ?_; intro g1 cp1 w1 own1 gr1; refine hK _ _ ?_; refine Hid.out ?_)
    refine aside ?_
    have B3 := aside ((HB.out.alloc HB.out.size (.cells #[.string x.k, .int .i64 x.c, .int .i64 x.n, .string x.v, .bool x.d, .string ⟨#[]⟩, .int .i64 0, .int .i64 0, .string ⟨#[]⟩, .bool false] 133)).grown gr1 (by have := HB.out.size; simp; omega) (fun k e => by cases e; exact own_baseM (HO.out)))
    have O3 := aside own1
    clear own1 gr1
    go_wp2
    go_roundw
    case rel => exact ⟨g1, cp1, i + 1, j, pre ++ [(x, eZ)], by rw [List.length_append]; rfl, by first | rfl | go_num, by first | rfl | go_num, by omega, by omega, by rw [List.length_append]; simp; omega, by have := HP.out.left (by omega) (Nat.le_refl _); rw [HX.out] at this; exact this, by rw [List.length_append]; exact O3.out, B3.out⟩
    case measure => simp [intOf]; omega
  ·have hil : i = la := by omega
   subst hil
   by_cases hlb : (j : Int) < (lb : Int)
   ·have nlb : ((j : Int) == (lb : Int)) = false := by simp; omega
    have hE := HBB.out.keep HB.out
    rcases hE.2.2 with h0 | ⟨bb, ob, rfl, hbb, hcb⟩
    ·omega
    obtain ⟨⟨c0, c1, c2, c3, c4⟩, -⟩ := hcb j (by omega)
    obtain ⟨y, hy⟩ : ∃ y, B j = y := ⟨_, rfl⟩
    have HY := aside hy
    rw [hy] at c0 c1 c2 c3 c4
    clear hcb hE hy hbb
    go_wp2_with fail
    refine wp_region_held_drew (S := fun W => Below w.heap.size w W) (by kernel_rfl) HB.out.drew (fun hHeld => ?_)
    refine tk 0 rfl _ ?_; refine tk 1 rfl _ ?_; refine tk 2 rfl _ ?_; refine tk 3 rfl _ ?_; refine tk 4 rfl _ ?_; refine tk 5 rfl _ ?_; refine tk 6 rfl _ ?_; refine tk 7 rfl _ ?_; refine tk 8 rfl _ ?_; refine tk 9 rfl _ ?_; refine tn 10 rfl ?_; refine tn 11 rfl ?_; refine tn 12 rfl ?_; refine tn 13 rfl ?_; refine tn 14 rfl ?_; refine tn 15 rfl ?_; refine tn 16 rfl ?_; refine tn 17 rfl ?_; refine tn 18 rfl ?_; refine tn 19 rfl ?_; refine tn 20 rfl ?_; refine tk 21 rfl _ ?_; refine tk 22 rfl _ ?_; refine tk 23 rfl _ ?_
    refine wpAnyH_done (by kernel_rfl) ?_ _
    have bd := (Below.refl wr.heap.size wr).drew
    replace c0 := cell_in c0 bd
    replace c1 := cell_in c1 bd
    replace c2 := cell_in c2 bd
    replace c3 := cell_in c3 bd
    replace c4 := cell_in c4 bd
    replace HO := aside (own_on HO.out bd)
    replace HB := aside (HB.out.drew)
    clear bd hHeld
    generalize wr.drew = V1 at *
    go_wp2_with fail
    refine wp_region_held_drew (S := fun W => Below w.heap.size w W) (by kernel_rfl) HB.out.drew (fun hHeld => ?_)
    refine tk 0 rfl _ ?_; refine tk 1 rfl _ ?_; refine tk 2 rfl _ ?_; refine tk 3 rfl _ ?_; refine tk 4 rfl _ ?_; refine tn 5 rfl ?_; refine tn 6 rfl ?_; refine tn 7 rfl ?_; refine tn 8 rfl ?_; refine tn 9 rfl ?_; refine tn 10 rfl ?_; refine tn 11 rfl ?_; refine tn 12 rfl ?_; refine tn 13 rfl ?_; refine tn 14 rfl ?_; refine tn 15 rfl ?_; refine tk 16 rfl _ ?_; refine tk 17 rfl _ ?_
    refine wpAnyH_done (by kernel_rfl) ?_ _
    have bd := (Below.refl V1.heap.size V1).drew
    replace c0 := cell_in c0 bd
    replace c1 := cell_in c1 bd
    replace c2 := cell_in c2 bd
    replace c3 := cell_in c3 bd
    replace c4 := cell_in c4 bd
    replace HO := aside (own_on HO.out bd)
    replace HB := aside (HB.out.drew)
    clear bd hHeld
    generalize V1.drew = V2 at *
    go_wp2_with (at_builtin; refine wpList_plain rfl fun K hK => op_append_pr _ _ rfl w.heap.size pre.length (.slice (some ⟨g, 0, none⟩) pre.length cp) pre (by rfl) ((HO.out).alloc (.cells #[.string ⟨#[]⟩, .int .i64 0, .int .i64 0, .string ⟨#[]⟩, .bool false, .string y.k, .int .i64 y.c, .int .i64 y.n, .string y.v, .bool y.d] 133)) V2.heap.size 1 (eZ, y) (by rfl) (heap_alloc_new V2 (.cells #[.string ⟨#[]⟩, .int .i64 0, .int .i64 0, .string ⟨#[]⟩, .bool false, .string y.k, .int .i64 y.c, .int .i64 y.n, .string y.v, .bool y.d] 133)) (by omega) (by have := HB.out.size; simp; omega) ?_; intro g1 cp1 w1 own1 gr1; refine hK _ _ ?_; refine Hid.out ?_)
    refine aside ?_
    have B3 := aside ((HB.out.alloc HB.out.size (.cells #[.string ⟨#[]⟩, .int .i64 0, .int .i64 0, .string ⟨#[]⟩, .bool false, .string y.k, .int .i64 y.c, .int .i64 y.n, .string y.v, .bool y.d] 133)).grown gr1 (by have := HB.out.size; simp; omega) (fun k e => by cases e; exact own_baseM (HO.out)))
    have O3 := aside own1
    clear own1 gr1
    go_wp2
    go_roundw
    case rel => exact ⟨g1, cp1, i, j + 1, pre ++ [(eZ, y)], by rw [List.length_append]; rfl, by first | rfl | go_num, by first | rfl | go_num, by omega, by omega, by rw [List.length_append]; simp; omega, by have := HP.out.right (Nat.le_refl _) (by omega); rw [HY.out] at this; exact this, by rw [List.length_append]; exact O3.out, B3.out⟩
    case measure => simp [intOf]; omega
   ·have hjl : j = lb := by omega
    subst hjl
    have HD := aside (HP.out.done (Nat.le_refl _) (Nat.le_refl _))
    go_wp2
    go_ret
    exact ⟨g, cp, by rw [← HD.out]; rfl, by rw [← HD.out]; exact HO.out, HB.out⟩
end Go.Proofs.YtpbkjffiohfkcaaGreatDoor
namespace Go.Proofs.YtpbkjffiohfkcaaGreatDoor
open Go.RowKit Go.Shelf
set_option linter.unusedVariables false
def SeqO {α : Type} (P : Program) (g : Nat) (lb : Array Value) (encs : α → Array Value) (Kp : World → World → Prop) (S Sp : List α → Prop) (N : Nat) (w : World) : Prop :=
 ∀ (m l : Nat) (J Jx : List α → World → Prop) (W : World), Below w.heap.size w W → OwnFrom W.heap.size J → OwnFrom W.heap.size Jx →
  (∀ pre x W1, J pre W1 → pre.length < N → YieldAt Fence.wide m P l (encs x) W1 fun e W' =>
   KeepsFrom W.heap.size W1 W' ∧ ((e = .returned (.bool true) ∧ J (pre ++ [x]) W' ∧ Kp W1 W') ∨ (e = .returned (.bool false) ∧ Jx (pre ++ [x]) W'))) →
  J [] W →
  Calls P g (#[.func (.yield l) #[] #[]] ++ lb) W fun e W' => (∃ v, e = .returned v) ∧ ((∃ xs, S xs ∧ J xs W') ∨ (∃ pre, Sp pre ∧ Jx pre W'))
theorem ownFrom_abides {β : Type} {B : Nat} {J : β → World → Prop} (h : OwnFrom B J) : AbidesFrom B J := fun s W W' row hs hg hr =>
 h s W W' row hs hg (fun r e => by obtain ⟨h1, o, h2, h3⟩ := hr r e; exact ⟨h1, o, h2, Obj.not_cells_of_walk h3⟩)
theorem SeqO.of_stops {α : Type} {P : Program} {g : Nat} {lb : Array Value} {encs : α → Array Value} {Kp : World → World → Prop} {S Sp : List α → Prop} {N : Nat} {w : World} (h : ∀ n, SeqStopsK Fence.wide n P g lb encs Kp S Sp N w) : SeqO P g lb encs Kp S Sp N w :=
 fun m l J Jx W hW hJ hJx hY h0 => callsIn_wide.1 (h (m + 1) l J Jx W hW (ownFrom_abides hJ) (ownFrom_abides hJx) (fun pre x W1 hp hl => (hY pre x W1 hp hl).mono (fun _ _ h => h.2)) h0)
structure Bk (B : Nat) (r : Loop) (W : World) : Prop where
 lp : W.heap[B + 1]? = some (.loop r)
 def_ : W.heap[B]? = some (.deferred (some []))
theorem Bk.put {B : Nat} {r : Loop} {W : World} (h : Bk B r W) (r' : Loop) : Bk B r' (W.putObj (B + 1) (.loop r')) :=
 ⟨World.putObj_heap_same (Array.getElem?_eq_some_iff.1 h.lp).1, (World.putObj_heap_other (by omega)).trans h.def_⟩
theorem Bk.kept {B : Nat} {r : Loop} {W W' : World} (h : Bk B r W) (k : KeepsFrom B W W') : Bk B r W' :=
 ⟨k.same _ _ (by omega) h.lp rfl, k.same _ _ (Nat.le_refl _) h.def_ rfl⟩
theorem Bk.grown {B C : Nat} {r : Loop} {W W' : World} {row : Option Nat} (h : Bk B r W) (hC : B + 2 ≤ C) (g : W.grownBy W' row) (hr : ∀ i, row = some i → C ≤ i) : Bk B r W' :=
 ⟨(g.block _ (Array.getElem?_eq_some_iff.1 h.lp).1 (fun e => by have := hr _ e.symm; omega)).trans h.lp, (g.block _ (Array.getElem?_eq_some_iff.1 h.def_).1 (fun e => by have := hr _ e.symm; omega)).trans h.def_⟩
theorem Bk.own {β : Type} {B C : Nat} {r : Loop} {I : β → World → Prop} (hI : OwnFrom B I) (hC : B + 2 ≤ C) : OwnFrom C (fun s W => I s W ∧ Bk B r W) :=
 fun s W W' row hs g hr => ⟨hI s W W' row hs.1 g (fun i e => ⟨by have := (hr i e).1; omega, (hr i e).2⟩), hs.2.grown hC g (fun i e => (hr i e).1)⟩
theorem keepsFrom_up {B C : Nat} {W W' : World} (h : KeepsFrom B W W') (hBC : B ≤ C) : KeepsFrom C W W' := ⟨h.size, fun k o hk => h.same k o (by omega)⟩
theorem keepsFrom_put (B l : Nat) (W : World) (o : Obj) (h : l < B) : KeepsFrom B W (W.putObj l o) := ⟨by simp, fun k o' hk e _ => (World.putObj_heap_other (by omega)).trans e⟩
theorem rangeO {P : Program} {n : Nat} {α : Type} {g : Operand} {ps : Array Tmp} {assign body : Code} {Q : Exit → Act → World → Prop} {a : Act} {w : World}
    {gf : Nat} {lb : Array Value} (hg : a.eval g = .func (.func gf) #[] lb) (eg : ∀ args w, (callFunc gf args).run P w = .ok (.enter gf args) w)
    {encs : α → Array Value} {Kp : World → World → Prop} {S Sp : List α → Prop} {N : Nat} {w0 : World} (hseq : SeqO P gf lb encs Kp S Sp N w0)
    (hKt : ∀ {A B C : World}, Kp A B → Kp B C → Kp A C) (hKb : ∀ (W : World) (l : Nat) (o o' : Obj), w.heap.size ≤ l → W.heap[l]? = some o → o.isCells = false → Kp W (W.putObj l o')) (hb0 : Below w0.heap.size w0 w) (hps : ∀ x, (encs x).size = ps.size)
    (I : List α → World → Prop) (Ix : Code → List α → World → Prop) (hI : OwnFrom w.heap.size I) (hIx : ∀ c, OwnFrom w.heap.size (Ix c)) (h0 : I [] w) (Ax : α → Act → World → Prop) (hAx : ∀ x a', OwnFrom w.heap.size (fun (_ : Unit) W => Ax x a' W))
    (hassign : ∀ (l : Nat) (pre : List α) (x : α) (W : World) (K : Act → World → Prop), I pre W → (∀ a' W', KeepsFrom w.heap.size W W' → Kp W W' → I pre W' → Ax x a' W' → K a' W') →
     assign.wpIn (Fence.wide.inRound l) (n - 1 - 1) P (Exit.then K (fun _ _ _ => False)) { tmps := (ps.zip (encs x)).foldl (fun t (p, v) => t.setIfInBounds p v) a.tmps, defers := [] } W)
    (hbody : ∀ (l : Nat) (pre : List α) (x : α) (a' : Act) (W : World), I pre W → Ax x a' W → pre.length < N → body.wpIn (Fence.wide.inRound l) (n - 1 - 1) P (ownPostG w.heap.size Kp I Ix (pre ++ [x]) W) a' W)
    (hdone : ∀ (D : Nat) (xs : List α) (W : World), w.heap.size ≤ D → S xs → I xs W → W.heap[D]? = some (.deferred (some [])) → Q .normal { a with defers := { target := .collected D, args := #[] } :: a.defers } W)
    (hstop : ∀ (D : Nat) (c : Code) (pre : List α) (W : World), w.heap.size ≤ D → Sp pre → Ix c pre W → W.heap[D]? = some (.deferred (some [])) → c.wpIn Fence.wide n P Q { a with defers := { target := .collected D, args := #[] } :: a.defers } W) :
    (Code.rangeFunc g ps assign body).wpIn Fence.wide n P Q a w := by
 refine wpIn_rangeFunc fun fn hfn => ?_
 obtain ⟨B, hB⟩ : ∃ B, w.heap.size = B := ⟨_, rfl⟩
 obtain ⟨R, hR⟩ : ∃ R : LoopState → Option Code → Loop, R = fun st pe => { state := st, pending := pe, fn, tmps := a.tmps, params := ps, assign, body, defers := B } := ⟨_, rfl⟩
 obtain ⟨V, hV⟩ : ∃ V, (w.alloc (.deferred (some []))).alloc (.loop (R .ready none)) = V := ⟨_, rfl⟩
 have bV : Below w.heap.size w V := by rw [← hV]; exact ((Below.refl _ w).alloc (Nat.le_refl _) _).alloc (by simp) _
 have sV : V.heap.size = B + 2 := by rw [← hV, ← hB]; simp
 have kV : Bk B (R .ready none) V := by
  rw [← hV, ← hB]
  have h2 := heap_alloc_new (w.alloc (.deferred (some []))) (.loop (R .ready none))
  rw [World.size_alloc] at h2
  exact ⟨h2, (Below.heap_alloc _ _ _ (by simp)).trans (heap_alloc_new w _)⟩
 have iV : I [] V := by rw [← hV]; exact hI.alloc _ (hI.alloc _ h0)
 rw [hB] at hI hIx hAx hKb hassign hbody hdone hstop
 refine ⟨B + 1, [{ target := .collected B, args := #[] }], V, { target := .fn (.func gf) lb, args := #[.func (.yield (B + 1)) #[] #[]] }, V, gf, #[.func (.yield (B + 1)) #[] #[]] ++ lb, V, ?_, ?_, fun _ _ => trivial, ?_, fun h => (by cases h), ?_⟩
 ·rw [← hV, hR, ← hB]; exact run_enterLoop_outer _ _ _ _ _
 ·simp only [resolve, hg]
  simp [go_sem]
 ·simp [invoke, go_sem, eg]
 refine callsIn_wide.2 ?_
 -- the iterator is told: the invariant, and the loop's own blocks
 refine (hseq (n - 1 - 1) (B + 1) (fun pre W => I pre W ∧ Bk B (R .ready none) W) (fun pre W => ∃ c, Ix c pre W ∧ Bk B (R .done (some c)) W) V (hb0.trans (bV.mono hb0.size)) (Bk.own hI (by omega))
  (fun s W W' row hs g hr => by
   obtain ⟨c, h1, h2⟩ := hs
   exact ⟨c, Bk.own (hIx c) (Nat.le_of_eq sV.symm) s W W' row ⟨h1, h2⟩ g hr⟩) ?_ ⟨iV, kV⟩).mono ?_
 ·rintro pre x W ⟨hi, hk⟩ hlen
  have hy := run_yield (P := P) (args := encs x) hk.lp (by rw [hR]; exact hps x)
  rw [hR] at hy
  refine ⟨fn, _, assign, body, hy, roundIn_of_wpIn hfn (hassign _ pre x W _ hi ?_)⟩
  intro a' Wa kf kp ia ax
  have ka := hk.kept kf
  refine ⟨_, run_beginRound ka.lp (by rw [hR]), ?_⟩
  have kb := ka.put { R .ready none with state := .busy }
  refine wpIn_mono (hbody _ pre x a' _ (hI.putObj _ ia (by omega) ka.lp rfl) ((hAx x a').putObj (s := ()) _ ax (by omega) ka.lp rfl) hlen) ?_
  have turn : ∀ (j : Option Code) (W3 : World), KeepsFrom B (Wa.putObj (B + 1) (.loop { R .ready none with state := .busy })) W3 →
      ∃ W4, KeepsFrom (B + 2) W W4 ∧ W4 = W3.putObj (B + 1) (.loop (R (if j.isNone then .ready else .done) j)) ∧ (Instr.endRound (B + 1) j).run P W3 = .ok (.bool j.isNone) W4 ∧ Bk B (R (if j.isNone then .ready else .done) j) W4 ∧ (∃ o, W3.heap[B + 1]? = some o ∧ o.isCells = false) := fun j W3 k3 => by
   have k4 := kb.kept k3
   have e := run_endRound (P := P) j k4.lp
   refine ⟨_, (((keepsFrom_up kf (by omega)).trans (keepsFrom_put _ _ _ _ (by omega))).trans (keepsFrom_up k3 (by omega))).trans (keepsFrom_put _ _ _ _ (by omega)), rfl, ?_, k4.put _, _, k4.lp, rfl⟩
   rw [hR] at e ⊢
   exact e
  have leave : ∀ (c : Code) (W3 : World), KeepsFrom B (Wa.putObj (B + 1) (.loop { R .ready none with state := .busy })) W3 → Ix c (pre ++ [x]) W3 →
      ∃ W4, KeepsFrom (B + 2) W W4 ∧ (Instr.endRound (B + 1) (some c)).run P W3 = .ok (.bool false) W4 ∧ ∃ c, Ix c (pre ++ [x]) W4 ∧ Bk B (R .done (some c)) W4 := fun c W3 k3 i3 => by
   obtain ⟨W4, kk, rfl, e, k4, o, h1, h2⟩ := turn (some c) W3 k3
   exact ⟨_, kk, e, c, (hIx c).putObj _ i3 (by omega) h1 h2, k4⟩
  rintro ex a3 W3 hp
  cases ex with
  | normal =>
   obtain ⟨W4, kk, rfl, e, k4, o, h1, h2⟩ := turn none W3 hp.1
   exact ⟨_, _, e, (by rw [sV]; exact kk), .inl ⟨rfl, ⟨hI.putObj _ hp.2.2 (by omega) h1 h2, k4⟩, hKt kp (hKt (hKt (hKb _ _ _ _ (by omega) ka.lp rfl) hp.2.1) (hKb _ _ _ _ (by omega) h1 h2))⟩⟩
  | ret => obtain ⟨W4, kk, e, i4⟩ := leave .ret W3 hp.1 hp.2; exact ⟨_, _, e, (by rw [sV]; exact kk), .inr ⟨rfl, i4⟩⟩
  | exit id => obtain ⟨W4, kk, e, i4⟩ := leave (.exit id) W3 hp.1 hp.2; exact ⟨_, _, e, (by rw [sV]; exact kk), .inr ⟨rfl, i4⟩⟩
  | goto t => obtain ⟨W4, kk, e, i4⟩ := leave (.goto t) W3 hp.1 hp.2; exact ⟨_, _, e, (by rw [sV]; exact kk), .inr ⟨rfl, i4⟩⟩
  | panic c => exact hp.elim
  | outgrown => exact hp.elim
 ·rintro e W2 ⟨⟨v, rfl⟩, ⟨xs, hS, hi, hk⟩ | ⟨pre, hSp, c, hi, hk⟩⟩
  ·refine ⟨none, _, ?_, hdone B xs _ (Nat.le_refl _) hS (hI.putObj (.loop { R .ready none with state := .exhausted }) hi (by omega) hk.lp rfl) (hk.put _).def_⟩
   have e := run_endLoop (P := P) hk.lp (by rw [hR]; simp)
   rw [hR] at e ⊢
   exact e
  ·refine ⟨some c, _, ?_, hstop B c pre _ (Nat.le_refl _) hSp ((hIx c).putObj (.loop { R .done (some c) with state := .exhausted }) hi (by omega) hk.lp rfl) (hk.put _).def_⟩
   have e := run_endLoop (P := P) hk.lp (by rw [hR]; simp)
   rw [hR] at e ⊢
   exact e
end Go.Proofs.YtpbkjffiohfkcaaGreatDoor
