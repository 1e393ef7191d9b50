/-
  The document's turn: what becomes of the ranges that came.
-/
import Derived.Test.YtfkdhambbpkmpaaDoorBv19
import Derived.Deep.CutBlock
import Derived.Deep.DeepCutAuto
namespace Go.Proofs.YtfkdhambbpkmpaaDoor
open Go.RowKit
set_option linter.unusedVariables false
theorem find_at {p : Rg → Bool} {r : Rg} (hr : p r = true) : ∀ {l : List Rg} {j : Nat}, l[j]? = some r → (∀ i, i < j → ∀ s, l[i]? = some s → p s = false) → l.find? p = some r
  | x :: l, 0, hj, _ => by
    simp at hj
    subst hj
    rw [List.find?_cons_of_pos hr]
  | x :: l, j + 1, hj, hb => by
    have h0 := hb 0 (by omega) x (by simp)
    rw [List.find?_cons_of_neg (by simp [h0])]
    exact find_at hr (j := j) (by simpa using hj) (fun i hi s hs => hb (i + 1) (by omega) s (by simpa using hs))
theorem find_none {p : Rg → Bool} {l : List Rg} (h : ∀ i, i < l.length → ∀ s, l[i]? = some s → p s = false) : l.find? p = none := by
  rw [List.find?_eq_none]
  intro x hx
  obtain ⟨i, hi⟩ := List.mem_iff_getElem?.1 hx
  simp [h i (List.getElem?_eq_some_iff.1 hi).1 x hi]
theorem set_three {w : World} {b : Nat} {x y z : Value} {t : TypeId} (h : w.heap[b]? = some (.cells #[x, y, z] t (0, 0))) (u v r : Value) : (((w.setCell ⟨b, 0, none⟩ u).setCell ⟨b, 1, none⟩ v).setCell ⟨b, 2, none⟩ r).heap[b]? = some (.cells #[u, v, r] t (0, 0)) := by
  have h1 := set_one19 (set_one19 (set_one19 h (k := 0) u) (k := 1) v) (k := 2) r
  simpa using h1
theorem bel_three {B : Nat} {w0 w : World} {b : Nat} (h : Below B w0 w) (hb : B ≤ b) (u v r : Value) : Below B w0 (((w.setCell ⟨b, 0, none⟩ u).setCell ⟨b, 1, none⟩ v).setCell ⟨b, 2, none⟩ r) :=
  ((h.setCell hb _).setCell hb _).setCell hb _
theorem own_setG {w : World} {B : Nat} {e : TypeId} {size : Nat} {v : Value} {n : Nat} {xs : List Value} (h : w.ownsRow B e size v n xs) {b : Nat} (hb : b < B) (k : Nat) (u : Value) : (w.setCell ⟨b, k, none⟩ u).ownsRow B e size v n xs := by
  refine ⟨h.1, ?_⟩
  rcases h.2 with h0 | ⟨g, cap, cur, h1, h2, h3, h4⟩
  · exact .inl h0
  · exact .inr ⟨g, cap, cur, h1, h2, by rw [heap_setCell_other _ _ _ _ (by simp; omega)]; exact h3, h4⟩
theorem dfP_pos {M T : List En} {r : Rg} (h : talE (inL r M) (inL r T) = true) : twBad M T r = decide (0 < (dfP (prs (inL r M) (inL r T))).length) := by
  unfold twBad
  rw [h, Bool.true_and]
  cases dfP (prs (inL r M) (inL r T)) <;> simp
/-- What went out for the first j ranges. -/
def outJ (b lf : Nat) (M T : List En) (L : List Rg) (j : Nat) : List Rg := (L.take j).flatMap (twOut b lf M T)
theorem outJ_succ {b lf : Nat} {M T : List En} {L : List Rg} {j : Nat} {r : Rg} (h : L[j]? = some r) : outJ b lf M T L (j + 1) = outJ b lf M T L j ++ twOut b lf M T r := by
  unfold outJ
  rw [List.take_add_one, h, List.flatMap_append]
  simp
theorem outJ_all {b lf : Nat} {M T : List En} {L : List Rg} {j : Nat} (h : L.length ≤ j) : outJ b lf M T L j = L.flatMap (twOut b lf M T) := by
  unfold outJ
  rw [List.take_of_length_le h]
/-- What a turn says. -/
def TurnSay (M T : List En) (b lf : Nat) (L : List Rg) (w : World) (e : Ending) (w' : World) : Prop :=
  Below w.heap.size w w' ∧ ((∃ r, L.find? (twBad M T) = some r ∧ e = .returned (.tuple #[.slice none 0 0, .agg #[.string r.lo, .string r.hi, .bool r.op], .bool true])) ∨
    (L.find? (twBad M T) = none ∧ ∃ a n c, e = .returned (.tuple #[.slice a n c, .agg #[.string ⟨#[]⟩, .string ⟨#[]⟩, .bool false], .bool false]) ∧ RowIn rgF w' a n c (L.flatMap (twOut b lf M T))))
theorem infoRgG : (Tryd.prog.info? 26).map (fun i => (i.zero, i.size, i.bytes)) = some (some (.agg #[.string ⟨#[]⟩, .string ⟨#[]⟩, .bool false]), 3, 40) := by kernel_rfl
theorem own_empty_rg (w : World) (B : Nat) (h : B ≤ w.heap.size) : (w.alloc (.cells #[] 26)).ownsRow B 26 3 (.slice (some ⟨w.heap.size, 0, none⟩) 0 0) 0 (rowC rgF []) := by
  refine ⟨rfl, .inr ⟨w.heap.size, 0, #[], rfl, h, heap_alloc_new w _, Nat.le_refl _, Nat.zero_le _, rfl, rfl⟩⟩
set_option maxHeartbeats 16000000 in
set_option maxRecDepth 100000 in
theorem turn19_any (ma : Option Addr) (mn mc : Nat) (M : List En) (ta : Option Addr) (tn tc : Nat) (T : List En) (la : Option Addr) (ln lc : Nat) (L : List Rg) (b lf : Nat) (w : World)
    (hM : LsIn w ma mn mc M) (hT : LsIn w ta tn tc T) (hL : RowIn rgF w la ln lc L) (mM : MapL M) (mT : MapL T) (lM : mn ≤ 256) (lT : tn ≤ 256) (hmay : ∀ r ∈ L, r.may = true) (hsum : sumIn L M ≤ 256) (hb : 2 ≤ b ∧ b ≤ 16) (hlf : 1 ≤ lf ∧ lf ≤ 32) :
    Calls Tryd.prog 24 #[.slice ma mn mc, .slice ta tn tc, .slice la ln lc, .int .i64 (b : Int), .int .i64 (lf : Int)] w fun e w' => TurnSay M T b lf L w e w' := by
  have HM := aside hM
  have HT := aside hT
  have HL := aside hL
  have MM := aside mM
  have MT := aside mT
  have LM := aside lM
  have LT := aside lT
  have HMAY := aside hmay
  have HSUM := aside hsum
  have HB := aside hb
  have HLF := aside hlf
  have HLN := aside hL.1
  have hlx : (ln : Int) ≤ 9223372036854775807 := by have h1 := hL.2.1; have h2 := hL.2.2.1; unfold maxLen at h2; omega
  have N1 := bnew w (.cells #[.string ⟨#[]⟩, .string ⟨#[]⟩, .bool false] 26)
  have N2 := bnew (w.alloc (.cells #[.string ⟨#[]⟩, .string ⟨#[]⟩, .bool false] 26)) (.cells #[] 26)
  have KR := aside (blk_on (heap_alloc_new w (.cells #[.string ⟨#[]⟩, .string ⟨#[]⟩, .bool false] 26)) N2)
  have HX0 := own_empty_rg (w.alloc (.cells #[.string ⟨#[]⟩, .string ⟨#[]⟩, .bool false] 26)) (w.heap.size + 1) (by rw [World.size_alloc]; exact Nat.le_refl _)
  rw [World.size_alloc] at HX0
  have HX := aside HX0
  have HB0 := aside (bthen N1 N2)
  have HNB := aside (show ∀ i, i < 0 → ∀ s, L[i]? = some s → twBad M T s = false from fun i hi => by omega)
  clear hM hT hL mM mT lM lT hmay hsum hb hlf N1 N2 HX0
  go_enter Tryd.func24, Tryd.ntmps24
  go_wp2_with fail
  go_loopw [13, 14] (fun v i wr => ∃ j : Nat, i = .int .i64 (j : Int) ∧ j ≤ ln ∧ Hid (wr.ownsRow (w.heap.size + 1) 26 3 v (outJ b lf M T L j).length (rowC rgF (outJ b lf M T L j))) ∧ Hid (Below w.heap.size w wr) ∧ Hid (wr.heap[w.heap.size]? = some (.cells #[.string ⟨#[]⟩, .string ⟨#[]⟩, .bool false] 26 (0, 0))) ∧ Hid (∀ i, i < j → ∀ s, L[i]? = some s → twBad M T s = false)) (fun v i _ => ln - (intOf i).toNat)
  case atStart => exact ⟨0, rfl, Nat.zero_le _, HX, HB0, KR, HNB⟩
  case round =>
    clear HX HB0 KR HNB
    obtain ⟨j, rfl, hj, HO, HBW, KR, NB⟩ := hrel
    obtain ⟨a9, c9, rfl, -, -, -⟩ := own_slice HO.out
    by_cases hlt : (j : Int) < (ln : Int)
    · have hj0 : (0 : Int) ≤ (j : Int) := by omega
      have hjm : j < ln := by omega
      obtain ⟨r, hr⟩ : ∃ r, L[j]? = some r := ⟨_, List.getElem?_eq_getElem (by rw [HLN.out]; omega)⟩
      have HR := aside hr
      have HRM := aside (HMAY.out r (List.mem_of_getElem? hr))
      have hLw := HL.out.on HBW.out
      have hlcap := hLw.2.1
      obtain ⟨lb, lo, rfl, hlb⟩ : ∃ lb lo, la = some ⟨lb, lo, none⟩ ∧ lb < wr.heap.size := by
        rcases hLw.2.2.2 with ⟨h1, h2, h3⟩ | ⟨q1, q2, q3, q4, -⟩
        · omega
        · exact ⟨q1, q2, q3, q4⟩
      have HLB := aside hlb
      have CE := aside (show ∀ W, Below wr.heap.size wr W → W.cell? ⟨lb, lo + j * 3, none⟩ = some (.string r.lo) ∧ W.cell? ⟨lb, lo + j * 3 + 1, none⟩ = some (.string r.hi) ∧ W.cell? ⟨lb, lo + j * 3 + 2, none⟩ = some (.bool r.op) from fun W bb =>
        ⟨(hLw.on bb).cellAt rgF_ok (r := 0) hr (by omega) rfl, (hLw.on bb).cellAt rgF_ok (r := 1) hr (by omega) rfl, (hLw.on bb).cellAt rgF_ok (r := 2) hr (by omega) rfl⟩)
      have hwr : IntKind.i64.wrap ((j : Int) + 1) = (((j + 1 : Nat)) : Int) := by rw [IntKind.wrap_i64]; omega
      obtain ⟨c0, c1, c2⟩ := CE.out wr (Below.refl _ _)
      have CX := aside (in19_any r (HM.out.on HBW.out) MM.out LM.out HRM.out)
      clear hLw hr hlb
      go_wp2_with fail
      refine CX.out.mono ?_
      rintro e w1 ⟨xa, xn, xc, rfl, hx, -, b1⟩
      have HXL := aside hx
      have B1 := aside b1
      clear CX hx b1 c0 c1 c2
      obtain ⟨c0, c1, c2⟩ := CE.out w1 B1.out
      have CY := aside (in19_any r (HT.out.on (bthen HBW.out B1.out)) MT.out LT.out HRM.out)
      go_wp2_with fail
      refine CY.out.mono ?_
      rintro e w2 ⟨ya, yn, yc, rfl, hy, -, b2⟩
      obtain ⟨X, hX1, hX2⟩ := HXL.out.on b2
      obtain ⟨Y, hY1, hY2⟩ := hy
      have B2 := aside (bthen B1.out b2)
      clear CY HXL B1 b2 c0 c1 c2
      have hxl : (inL r M).length = xn := by rw [← hX2, firstE_len]
      have hyl : (inL r T).length = yn := by rw [← hY2, firstE_len]
      have hxn : xn ≤ 256 := by have h1 := inL_len r M; have h2 := HM.out.len; have h3 := LM.out; omega
      have hyn : yn ≤ 256 := by have h1 := inL_len r T; have h2 := HT.out.len; have h3 := LT.out; omega
      have hck : ck2 X xn Y yn = 0 := ck2_ok.2 ⟨by rw [hX2]; exact in_mapG MM.out r, by rw [hY2]; exact in_mapG MT.out r⟩
      have CD0 := rdiff_any xa xn xc X ya yn yc Y w2 hX1 hY1 (by omega)
      rw [hck, outL_ok _ rfl, hX2, hY2] at CD0
      have CD := aside CD0
      have EX := aside hX1
      have EY := aside hY1
      have FX := aside hX2
      have FY := aside hY2
      have XL := aside hxl
      have YL := aside hyl
      have hxi : (xn : Int) ≤ 256 := by omega
      have hyi : (yn : Int) ≤ 256 := by omega
      clear CD0 hck hX1 hY1 hX2 hY2 hxl hyl
      go_wp2_with fail
      refine CD.out.mono ?_
      rintro e w3 ⟨v, rfl, ho, b3⟩
      obtain ⟨da, dc, rfl, hd1, hd2, -⟩ := own_slice ho
      obtain ⟨dl, hdl⟩ : ∃ n, (dfP (prs (inL r M) (inL r T))).length = n := ⟨_, rfl⟩
      rw [hdl] at ho hd1 ⊢
      have HDL := aside hdl
      have hdx : (dl : Int) ≤ 9223372036854775807 := by unfold maxLen at hd2; omega
      have B3 := aside (bthen B2.out b3)
      replace EX := aside (EX.out.keep b3)
      replace EY := aside (EY.out.keep b3)
      clear ho hdl b3 B2 CD
      have CA := aside (tallRef_any xa xn xc X w3 EX.out)
      go_wp2_with fail
      refine CA.out.mono ?_
      rintro e w4 ⟨rfl, b4⟩
      have B4 := aside (bthen B3.out b4)
      replace EX := aside (EX.out.keep b4)
      replace EY := aside (EY.out.keep b4)
      clear b4 B3 CA
      have CB := aside (tallRef_any ya yn yc Y w4 EY.out)
      unfold talT at CB ⊢
      rw [FY.out] at CB
      rw [FX.out]
      go_wp2_with fail
      refine CB.out.mono ?_
      rintro e w5 ⟨rfl, b5⟩
      have B5 := aside (bthen B4.out b5)
      replace EX := aside (EX.out.keep b5)
      clear b5 B4 CB EY
      obtain ⟨q, hq⟩ : ∃ q, talE (inL r M) (inL r T) = q := ⟨_, rfl⟩
      have HQ := aside hq
      have hEQ : ∀ W, (binOp .eql 40 (.agg #[.int .i64 (xn : Int), .int .u64 (allI f0 (inL r M)), .int .u64 (allI f1 (inL r M))]) (.agg #[.int .i64 (yn : Int), .int .u64 (allI f0 (inL r T)), .int .u64 (allI f1 (inL r T))])).run Tryd.prog W = .ok (.bool q) W := fun W => by
        rw [tal_run, ← hq]
        unfold talE
        rw [XL.out, YL.out]
      have O5 := aside (own_on HO.out B5.out)
      have K5 := aside (blk_on KR.out B5.out)
      have BW5 := aside (bthen HBW.out B5.out)
      clear hq HBW KR
      cases q
      · have HBAD := aside (show twBad M T r = false from by unfold twBad; rw [HQ.out]; rfl)
        have NB1 := aside (show ∀ i, i < j + 1 → ∀ s, L[i]? = some s → twBad M T s = false from fun i hi s hs => by
          rcases Nat.lt_succ_iff_lt_or_eq.1 hi with h8 | h8
          · exact NB.out i h8 s hs
          · subst h8
            rw [HR.out] at hs
            injection hs with hs
            rw [← hs]
            exact HBAD.out)
        clear NB HBAD
        go_upto_region 11 with fail
        clear hEQ
        by_cases hxl : (lf : Int) < (xn : Int)
        · have CK := aside (fun W (bb : Below w5.heap.size w5 W) => keys19_any xa xn xc X W (EX.out.keep bb) (by omega))
          go_upto_region 12 with fail
          refine wp_region_held_drew (S := fun W => Below w5.heap.size w5 W ∧ (W.cell? ⟨lb, lo + j * 3, none⟩ = some (.string r.lo) ∧ W.cell? ⟨lb, lo + j * 3 + 1, none⟩ = some (.string r.hi) ∧ W.cell? ⟨lb, lo + j * 3 + 2, none⟩ = some (.bool r.op))) (by kernel_rfl) ⟨(Below.refl _ w5).drew, CE.out _ B5.out.drew⟩ (fun hHeld => ?_)
          refine wpAnyH_take (i := 0) (v := ?_) rfl (by kernel_rfl) (by kernel_rfl) (by kernel_rfl) (fun _ _ _ h => h) (Or.inl ⟨by rfl, ?_⟩) (by assumption) ?_
          rotate_left
          · intro w hSw
            go_simp
            try with_reducible rfl
          simp only [Act.put, List.getElem_toArray, List.getElem_cons_zero, List.setIfInBounds_toArray, List.set_cons_zero, List.set_cons_succ]
          refine wpAnyH_take (i := 1) (v := ?_) rfl (by kernel_rfl) (by kernel_rfl) (by kernel_rfl) (fun _ _ _ h => h) (Or.inl ⟨by rfl, ?_⟩) (by assumption) ?_
          rotate_left
          · intro w hSw
            go_simp
            try with_reducible rfl
          simp only [Act.put, List.getElem_toArray, List.getElem_cons_zero, List.getElem_cons_succ, List.setIfInBounds_toArray, List.set_cons_zero, List.set_cons_succ]
          refine wpAnyH_take (i := 2) (v := ?_) rfl (by kernel_rfl) (by kernel_rfl) (by kernel_rfl) (fun _ _ _ h => h) (Or.inl ⟨by rfl, ?_⟩) (by assumption) ?_
          rotate_left
          · intro w hSw
            go_simp
            try with_reducible rfl
          simp only [Act.put, List.getElem_toArray, List.getElem_cons_zero, List.getElem_cons_succ, List.setIfInBounds_toArray, List.set_cons_zero, List.set_cons_succ]
          refine wpAnyH_take (i := 3) (v := ?_) rfl (by kernel_rfl) (by kernel_rfl) (by kernel_rfl) (fun _ _ _ h => h) (Or.inl ⟨by rfl, ?_⟩) (by assumption) ?_
          rotate_left
          · intro w hSw
            go_simp
            try with_reducible rfl
          simp only [Act.put, List.getElem_toArray, List.getElem_cons_zero, List.getElem_cons_succ, List.setIfInBounds_toArray, List.set_cons_zero, List.set_cons_succ]
          refine wpAnyH_take (i := 4) (v := ?_) rfl (by kernel_rfl) (by kernel_rfl) (by kernel_rfl) (fun _ _ _ h => h) (Or.inl ⟨by rfl, ?_⟩) (by assumption) ?_
          rotate_left
          · intro w hSw
            go_simp
            try with_reducible rfl
          simp only [Act.put, List.getElem_toArray, List.getElem_cons_zero, List.getElem_cons_succ, List.setIfInBounds_toArray, List.set_cons_zero, List.set_cons_succ]
          refine wpAnyH_take (i := 6) (v := ?_) rfl (by kernel_rfl) (by kernel_rfl) (by kernel_rfl) (fun _ _ _ h => h) (Or.inl ⟨by rfl, ?_⟩) (by assumption) ?_
          rotate_left
          · intro w hSw
            go_simp
            try with_reducible rfl
          simp only [Act.put, List.getElem_toArray, List.getElem_cons_zero, List.getElem_cons_succ, List.setIfInBounds_toArray, List.set_cons_zero, List.set_cons_succ]
          refine wpAnyH_take (i := 7) (v := ?_) rfl (by kernel_rfl) (by kernel_rfl) (by kernel_rfl) (fun _ _ _ h => h) (Or.inl ⟨by rfl, ?_⟩) (by assumption) ?_
          rotate_left
          · intro w hSw
            go_simp
            try with_reducible rfl
          simp only [Act.put, List.getElem_toArray, List.getElem_cons_zero, List.getElem_cons_succ, List.setIfInBounds_toArray, List.set_cons_zero, List.set_cons_succ]
          refine wpAnyH_take (i := 8) (v := ?_) rfl (by kernel_rfl) (by kernel_rfl) (by kernel_rfl) (fun _ _ _ h => h) (Or.inl ⟨by rfl, ?_⟩) (by assumption) ?_
          rotate_left
          · intro w hSw
            go_simp
            try with_reducible rfl
          simp only [Act.put, List.getElem_toArray, List.getElem_cons_zero, List.getElem_cons_succ, List.setIfInBounds_toArray, List.set_cons_zero, List.set_cons_succ]
          refine wpAnyH_take (i := 9) (v := .int .i64 ((min b xn : Nat) : Int)) rfl (by kernel_rfl) (by kernel_rfl) (by kernel_rfl) (fun _ _ _ h => h) (Or.inl ⟨by rfl, ?_⟩) (by assumption) ?_
          · intro w hSw
            go_simp
            try (split <;> omega)
          simp only [Act.put, List.getElem_toArray, List.getElem_cons_zero, List.getElem_cons_succ, List.setIfInBounds_toArray, List.set_cons_zero, List.set_cons_succ]
          refine wpAnyH_ready (rs := [5]) (by kernel_rfl) (by simp) ?_
          refine AllReadyH.cons rfl (fun K hK => ?_) AllReadyH.nil
          go_simp
          refine (CK.out _ hHeld.1).mono ?_
          rintro e w6 ⟨ka, kc, rfl, ko, b6⟩
          refine hK.out _ _ (⟨bthen hHeld.1 b6, CE.out _ (bthen B5.out (bthen hHeld.1 b6))⟩) (fun hHeld => ?_)
          clear hK K
          rw [FX.out] at ko
          have CC := aside (rcuts_any b r ko XL.out (by omega) HRM.out MM.out (by have := HB.out; have := HLF.out; omega))
          have B6 := aside hHeld.1
          clear ko b6
          refine wpAnyH_ready (rs := [10]) (by kernel_rfl) (by simp) ?_
          refine AllReadyH.cons rfl (fun K hK => ?_) AllReadyH.nil
          go_simp
          refine (CC.out).mono ?_
          rintro e w7 ⟨g7, m7, p7, rfl, hr7, -, b7⟩
          refine hK.out _ _ (⟨bthen hHeld.1 b7, CE.out _ (bthen B5.out (bthen hHeld.1 b7))⟩) (fun hHeld => ?_)
          clear hK K
          have H7 := aside hr7
          have B7 := aside (bthen B6.out b7)
          clear hr7 b7 CC B6
          refine wpAnyH_take (i := 11) (v := ?_) rfl (by kernel_rfl) (by kernel_rfl) (by kernel_rfl) (fun _ _ _ h => h) (Or.inl ⟨by rfl, ?_⟩) (by assumption) ?_
          rotate_left
          · intro w hSw
            go_simp
            try with_reducible rfl
          simp only [Act.put, List.getElem_toArray, List.getElem_cons_zero, List.getElem_cons_succ, List.setIfInBounds_toArray, List.set_cons_zero, List.set_cons_succ]
          refine wpAnyH_take (i := 12) (v := ?_) rfl (by kernel_rfl) (by kernel_rfl) (by kernel_rfl) (fun _ _ _ h => h) (Or.inl ⟨by rfl, ?_⟩) (by assumption) ?_
          rotate_left
          · intro w hSw
            go_simp
            try with_reducible rfl
          simp only [Act.put, List.getElem_toArray, List.getElem_cons_zero, List.getElem_cons_succ, List.setIfInBounds_toArray, List.set_cons_zero, List.set_cons_succ]
          refine wpAnyH_take (i := 13) (v := ?_) rfl (by kernel_rfl) (by kernel_rfl) (by kernel_rfl) (fun _ _ _ h => h) (Or.inl ⟨by rfl, ?_⟩) (by assumption) ?_
          rotate_left
          · intro w hSw
            go_simp
            try with_reducible rfl
          simp only [Act.put, List.getElem_toArray, List.getElem_cons_zero, List.getElem_cons_succ, List.setIfInBounds_toArray, List.set_cons_zero, List.set_cons_succ]
          refine wpAnyH_take (i := 14) (v := ?_) rfl (by kernel_rfl) (by kernel_rfl) (by kernel_rfl) (fun _ _ _ h => h) (Or.inl ⟨by rfl, ?_⟩) (by assumption) ?_
          rotate_left
          · intro w hSw
            go_simp
            try with_reducible rfl
          simp only [Act.put, List.getElem_toArray, List.getElem_cons_zero, List.getElem_cons_succ, List.setIfInBounds_toArray, List.set_cons_zero, List.set_cons_succ]
          refine wpAnyH_take (i := 15) (v := ?_) rfl (by kernel_rfl) (by kernel_rfl) (by kernel_rfl) (fun _ _ _ h => h) (Or.inl ⟨by rfl, ?_⟩) (by assumption) ?_
          rotate_left
          · intro w hSw
            go_simp
            try with_reducible rfl
          simp only [Act.put, List.getElem_toArray, List.getElem_cons_zero, List.getElem_cons_succ, List.setIfInBounds_toArray, List.set_cons_zero, List.set_cons_succ]
          refine wpAnyH_done (by kernel_rfl) ?_ _
          clear hHeld CK CE
          have hm7 : m7 ≤ 16 := by have h1 := H7.out.1; rw [cuts_len] at h1; have := HB.out; omega
          have ho7 : (outJ b lf M T L j).length ≤ 256 := Nat.le_trans (out_take j) HSUM.out
          have O7 := aside (own_on O5.out B7.out)
          have K7 := aside (blk_on K5.out B7.out)
          have HSZ := aside (show w.heap.size + 1 ≤ w7.heap.size from (Array.getElem?_eq_some_iff.1 K7.out).1)
          go_wp2_with (at_builtin; go_loud (refine wpList_plain rfl fun K hK => op_append_rowC rgF_ok Tryd.underlying61 infoRgG rfl _ _ rfl (w.heap.size + 1) (outJ b lf M T L j).length m7 _ _ _ (by rfl) O7.out _ p7 (by rfl) H7.out (by omega) (by unfold maxLen; omega) HSZ.out ?_); intro v8 w8 own8 gr8 hv8; refine hK _ _ ?_; refine Hid.out ?_)
          refine aside ?_
          have B8 := aside ((bthen BW5.out B7.out).grown gr8 (by have := HSZ.out; omega) (fun k e => by have := (O7.out.lt k e).1; omega))
          have K8 := aside (show w8.heap[w.heap.size]? = some (.cells #[.string ⟨#[]⟩, .string ⟨#[]⟩, .bool false] 26 (0, 0)) from by
            rw [gr8.block w.heap.size HSZ.out (fun e => by have := (O7.out.lt _ e.symm).1; omega)]
            exact K7.out)
          have E1 := aside (show outJ b lf M T L (j + 1) = outJ b lf M T L j ++ cutsL b r (inL r M) from by
            rw [outJ_succ HR.out]
            unfold twOut
            rw [HQ.out, if_neg (by simp), if_neg (by rw [XL.out]; omega)])
          have O8 := aside (show w8.ownsRow (w.heap.size + 1) 26 3 v8 (outJ b lf M T L (j + 1)).length (rowC rgF (outJ b lf M T L (j + 1))) from by
            rw [E1.out, List.length_append, H7.out.1]
            exact own8)
          clear own8 gr8 hv8 O7 O5 B7 K7 HO H7
          go_wp2
          go_roundw
          case rel => exact ⟨j + 1, by go_num, by omega, O8, B8, K8, NB1⟩
          case measure => simp [intOf]; omega
        · have E1 := aside (show outJ b lf M T L (j + 1) = outJ b lf M T L j from by
            rw [outJ_succ HR.out]
            unfold twOut
            rw [HQ.out, if_neg (by simp), if_pos (by rw [XL.out]; omega), List.append_nil])
          clear CE HO
          go_wp2
          go_roundw
          case rel => exact ⟨j + 1, by go_num, by omega, aside (by rw [E1.out]; exact O5.out), BW5, K5, NB1⟩
          case measure => simp [intOf]; omega
      · have HPOS := aside (dfP_pos HQ.out)
        rw [HDL.out] at HPOS
        go_upto_region 9 with fail
        clear hEQ
        by_cases hd : (0 : Int) < (dl : Int)
        · have HF := aside (find_at (p := twBad M T) (by rw [HPOS.out]; simp; omega) HR.out NB.out)
          go_upto_region 10 with fail
          have KD := K5.out
          obtain ⟨d0, d1, d2⟩ := box3r KD
          have f0 := frozen_of_row w5 w.heap.size 0 _ _ KD
          have f1 := frozen_of_row w5 w.heap.size 1 _ _ KD
          have f2 := frozen_of_row w5 w.heap.size 2 _ _ KD
          have K9 := aside (set_three KD (.string r.lo) (.string r.hi) (.bool r.op))
          have B9 := aside ((bel_three BW5.out (Nat.le_refl _) (.string r.lo) (.string r.hi) (.bool r.op)).drew)
          obtain ⟨r0, r1, r2⟩ := box3r K9.out
          have CE5 := aside (CE.out w5 B5.out)
          have CE9 := aside (CE.out w5.drew B5.out.drew)
          have HLW := aside (show lb ≠ w.heap.size from fun e => by
            have h0 := HL.out.2.2.2
            rcases h0 with ⟨h1, -, -⟩ | ⟨q1, q2, h1, h2, -⟩
            · cases h1
            · injection h1 with h1
              injection h1 with h1
              omega)
          have SK := aside (show ∀ W : World, (W.cell? ⟨lb, lo + j * 3, none⟩ = some (.string r.lo) ∧ W.cell? ⟨lb, lo + j * 3 + 1, none⟩ = some (.string r.hi) ∧ W.cell? ⟨lb, lo + j * 3 + 2, none⟩ = some (.bool r.op)) → ∀ k u, ((W.setCell ⟨w.heap.size, k, none⟩ u).cell? ⟨lb, lo + j * 3, none⟩ = some (.string r.lo) ∧ (W.setCell ⟨w.heap.size, k, none⟩ u).cell? ⟨lb, lo + j * 3 + 1, none⟩ = some (.string r.hi) ∧ (W.setCell ⟨w.heap.size, k, none⟩ u).cell? ⟨lb, lo + j * 3 + 2, none⟩ = some (.bool r.op)) from fun W h k u =>
            ⟨cell_apart h.1 HLW.out, cell_apart h.2.1 HLW.out, cell_apart h.2.2 HLW.out⟩)
          clear KD
          refine wp_region_held_drew (S := fun W => W.cell? ⟨lb, lo + j * 3, none⟩ = some (.string r.lo) ∧ W.cell? ⟨lb, lo + j * 3 + 1, none⟩ = some (.string r.hi) ∧ W.cell? ⟨lb, lo + j * 3 + 2, none⟩ = some (.bool r.op)) (by kernel_rfl) CE9.out (fun hHeld => ?_)
          refine wpAnyH_take (i := 0) (v := ?_) rfl (by kernel_rfl) (by kernel_rfl) (by kernel_rfl) (fun _ _ _ h => h) (Or.inl ⟨by rfl, ?_⟩) (by assumption) ?_
          rotate_left
          · intro w hSw
            go_simp
            try with_reducible rfl
          simp only [Act.put, List.getElem_toArray, List.getElem_cons_zero, List.setIfInBounds_toArray, List.set_cons_zero, List.set_cons_succ]
          refine wpAnyH_take (i := 1) (v := ?_) rfl (by kernel_rfl) (by kernel_rfl) (by kernel_rfl) (fun _ _ _ h => h) (Or.inl ⟨by rfl, ?_⟩) (by assumption) ?_
          rotate_left
          · intro w hSw
            go_simp
            try with_reducible rfl
          simp only [Act.put, List.getElem_toArray, List.getElem_cons_zero, List.getElem_cons_succ, List.setIfInBounds_toArray, List.set_cons_zero, List.set_cons_succ]
          refine wpAnyH_take (i := 2) (v := ?_) rfl (by kernel_rfl) (by kernel_rfl) (by kernel_rfl) (fun _ _ _ h => h) (Or.inl ⟨by rfl, ?_⟩) (by assumption) ?_
          rotate_left
          · intro w hSw
            go_simp
            try with_reducible rfl
          simp only [Act.put, List.getElem_toArray, List.getElem_cons_zero, List.getElem_cons_succ, List.setIfInBounds_toArray, List.set_cons_zero, List.set_cons_succ]
          refine wpAnyH_take (i := 3) (v := ?_) rfl (by kernel_rfl) (by kernel_rfl) (by kernel_rfl) (fun _ _ _ h => h) (Or.inl ⟨by rfl, ?_⟩) (by assumption) ?_
          rotate_left
          · intro w hSw
            go_simp
            try with_reducible rfl
          simp only [Act.put, List.getElem_toArray, List.getElem_cons_zero, List.getElem_cons_succ, List.setIfInBounds_toArray, List.set_cons_zero, List.set_cons_succ]
          refine wpAnyH_take (i := 4) (v := ?_) rfl (by kernel_rfl) (by kernel_rfl) (by kernel_rfl) (fun _ _ _ h => h) (Or.inl ⟨by rfl, ?_⟩) (by assumption) ?_
          rotate_left
          · intro w hSw
            go_simp
            try with_reducible rfl
          simp only [Act.put, List.getElem_toArray, List.getElem_cons_zero, List.getElem_cons_succ, List.setIfInBounds_toArray, List.set_cons_zero, List.set_cons_succ]
          refine wpAnyH_ready (rs := [5]) (by kernel_rfl) (by simp) ?_
          refine AllReadyH.cons rfl (fun K hK => ?_) AllReadyH.nil
          go_simp
          refine hK.out _ _ (SK.out _ (SK.out _ (SK.out w5 CE5.out _ _) _ _) _ _) (fun hHeld => ?_)
          clear hK K 
          refine wpAnyH_take (i := 6) (v := ?_) rfl (by kernel_rfl) (by kernel_rfl) (by kernel_rfl) (fun _ _ _ h => h) (Or.inl ⟨by rfl, ?_⟩) (by assumption) ?_
          rotate_left
          · intro w hSw
            go_simp
            try with_reducible rfl
          simp only [Act.put, List.getElem_toArray, List.getElem_cons_zero, List.getElem_cons_succ, List.setIfInBounds_toArray, List.set_cons_zero, List.set_cons_succ]
          refine wpAnyH_done (by kernel_rfl) ?_ _
          clear hHeld
          go_wp2
          try simp only [Exit.inBlock, Exit.then]
          exact bodyPost_ret (v := .tuple #[.slice none 0 0, .agg #[.string r.lo, .string r.hi, .bool r.op], .bool true]) (by simp [results, Tryd.results24, go_sem, r0, r1, r2]) rfl ⟨B9.out, .inl ⟨r, HF.out, rfl⟩⟩
        · have HBAD := aside (show twBad M T r = false from by rw [HPOS.out]; simp; omega)
          have NB1 := aside (show ∀ i, i < j + 1 → ∀ s, L[i]? = some s → twBad M T s = false from fun i hi s hs => by
            rcases Nat.lt_succ_iff_lt_or_eq.1 hi with h8 | h8
            · exact NB.out i h8 s hs
            · subst h8
              rw [HR.out] at hs
              injection hs with hs
              rw [← hs]
              exact HBAD.out)
          have E1 := aside (show outJ b lf M T L (j + 1) = outJ b lf M T L j from by
            rw [outJ_succ HR.out]
            unfold twOut
            rw [HQ.out, if_pos rfl, List.append_nil])
          clear CE HO NB HBAD HPOS
          go_wp2
          go_roundw
          case rel => exact ⟨j + 1, by go_num, by omega, aside (by rw [E1.out]; exact O5.out), BW5, K5, NB1⟩
          case measure => simp [intOf]; omega
    · obtain rfl : j = ln := by omega
      have HF := aside (find_none (p := twBad M T) (l := L) (fun i hi => NB.out i (by rw [HLN.out] at hi; exact hi)))
      have HALL := aside (outJ_all (b := b) (lf := lf) (M := M) (T := T) (L := L) (j := j) (by rw [HLN.out]; exact Nat.le_refl _))
      obtain ⟨z0, z1, z2⟩ := box3r KR.out
      have f0 := frozen_of_row wr w.heap.size 0 _ _ KR.out
      have f1 := frozen_of_row wr w.heap.size 1 _ _ KR.out
      have f2 := frozen_of_row wr w.heap.size 2 _ _ KR.out
      obtain ⟨r0, r1, r2⟩ := box3r (set_three KR.out (.string ⟨#[]⟩) (.string ⟨#[]⟩) (.bool false))
      have OF := aside (own_setG (b := w.heap.size) (B := w.heap.size + 1) (own_setG (b := w.heap.size) (B := w.heap.size + 1) (own_setG (b := w.heap.size) (B := w.heap.size + 1) HO.out (by omega) 0 (.string ⟨#[]⟩)) (by omega) 1 (.string ⟨#[]⟩)) (by omega) 2 (.bool false))
      have BF := aside (bel_three HBW.out (Nat.le_refl _) (.string ⟨#[]⟩) (.string ⟨#[]⟩) (.bool false))
      go_wp2
      try simp only [Exit.inBlock, Exit.then]
      exact bodyPost_ret (v := .tuple #[.slice a9 (outJ b lf M T L j).length c9, .agg #[.string ⟨#[]⟩, .string ⟨#[]⟩, .bool false], .bool false]) (by simp [results, Tryd.results24, go_sem, r0, r1, r2]) rfl ⟨BF.out, .inr ⟨HF.out, _, _, _, rfl, by rw [← HALL.out]; exact RowIn.of_own rgF_ok OF.out⟩⟩
end Go.Proofs.YtfkdhambbpkmpaaDoor
