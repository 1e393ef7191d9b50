/-
  The document's Max.
-/
import Derived.Test.YtfkdhambbpkmpaaDoorMgIn
import Derived.Test.YtfkdhambbpkmpaaDoorMgMax
import Derived.Test.YtfkdhambbpkmpaaDoorMgPairs
namespace Go.Proofs.YtfkdhambbpkmpaaDoor
open Go.RowKit
set_option linter.unusedVariables false
/-- What a pair of two maps is: two of one key, or one alone. -/
theorem pr_two {a b : List En} (ha : MapL a) (hb : MapL b) {p : En × En} (h : p ∈ prs a b) : (1 ≤ p.1.c ∧ 1 ≤ p.2.c ∧ 0 ≤ p.1.n ∧ 0 ≤ p.2.n ∧ p.1.k = p.2.k) ∨ (1 ≤ p.1.c ∧ 0 ≤ p.1.n ∧ p.2 = eZ) ∨ (p.1 = eZ ∧ 1 ≤ p.2.c ∧ 0 ≤ p.2.n) := by
  rcases (mem_prs a b ha.rises hb.rises p).1 h with ⟨h1, h2, h3⟩ | ⟨h1, h2, h3⟩ | ⟨h1, h2, h3⟩
  · exact .inl ⟨(ha.pos h1).1, (hb.pos h2).1, (ha.pos h1).2, (hb.pos h2).2, h3⟩
  · exact .inr (.inl ⟨(ha.pos h1).1, (ha.pos h1).2, h2⟩)
  · exact .inr (.inr ⟨h1, (hb.pos h2).1, (hb.pos h2).2⟩)
theorem pr_none {x y : En} (h : (1 ≤ x.c ∧ 1 ≤ y.c ∧ 0 ≤ x.n ∧ 0 ≤ y.n ∧ x.k = y.k) ∨ (1 ≤ x.c ∧ 0 ≤ x.n ∧ y = eZ) ∨ (x = eZ ∧ 1 ≤ y.c ∧ 0 ≤ y.n)) (h0 : x.c = 0) : x = eZ ∧ 1 ≤ y.c ∧ 0 ≤ y.n := by
  rcases h with h | h | h
  · omega
  · omega
  · exact h
set_option maxHeartbeats 800000 in
theorem none_any (x : En) (w : World) {q : Bool} (hq : (x.c == 0) = q) : Calls Tryd.prog 37 #[.agg #[.string x.k, .int .i64 x.c, .int .i64 x.n, .string x.v, .bool x.d]] w fun e w' => e = .returned (.bool q) ∧ Below w.heap.size w w' := by
  subst hq
  go_enter Tryd.func37, Tryd.ntmps37
  go_wp2
  go_ret
  exact ⟨rfl, bnew _ _⟩
theorem bestRef_en (x y z : En) (w : World) (h : En.best x y = z) : Calls Tryd.prog 38 #[.agg #[.string x.k, .int .i64 x.c, .int .i64 x.n, .string x.v, .bool x.d], .agg #[.string y.k, .int .i64 y.c, .int .i64 y.n, .string y.v, .bool y.d]] w fun e w' => e = .returned (.agg #[.string z.k, .int .i64 z.c, .int .i64 z.n, .string z.v, .bool z.d]) ∧ Below w.heap.size w w' := bestRef_any _ _ _ _ _ _ _ _ _ _ _ _ _ _ _ w h
set_option maxHeartbeats 8000000 in
set_option maxRecDepth 100000 in
theorem rmax_any (a : Option Addr) (la ca : Nat) (A : Nat → En) (b : Option Addr) (lb cb : Nat) (B : Nat → En) (w : World) (hA : EntsIn w a la ca A) (hB : EntsIn w b lb cb B) (hl : la + lb ≤ 2147483648) :
    Calls Tryd.prog 17 #[.slice a la ca, .slice b lb cb] w fun e w' => Says w (ck2 A la B lb) (outL (ck2 A la B lb) (mxP (prs (firstE A la) (firstE B lb)))) e w' := by
  obtain ⟨q, hq⟩ : ∃ q, ck2 A la B lb = q := ⟨_, rfl⟩
  have CK := aside (rchk2_any a la ca A b lb cb B w hA hB)
  rw [hq] at CK ⊢
  have CP := aside (fun W (bb : Below w.heap.size w W) (h0 : q = 0) => pairs_ok a la ca A b lb cb B W (hA.keep bb) (hB.keep bb) (hq.trans h0) hl)
  have HLN0 := aside (show (prs (firstE A la) (firstE B lb)).length ≤ 2147483648 from by have := prs_len (firstE A la) (firstE B lb); rw [firstE_len, firstE_len] at this; omega)
  have HMM := aside (fun (h0 : q = 0) => ck2_ok.1 (hq.trans h0))
  clear hA hB hl hq
  by_cases h0 : q = 0
  · subst h0
    rw [outL_ok _ rfl]
    have HPR := aside (fun p (hp : p ∈ prs (firstE A la) (firstE B lb)) => pr_two (HMM.out rfl).1 (HMM.out rfl).2 hp)
    generalize prs (firstE A la) (firstE B lb) = l at *
    go_enter Tryd.func17, Tryd.ntmps17
    go_wp2_with fail
    refine CK.out.mono ?_
    rintro e w1 ⟨rfl, b1⟩
    have B1 := aside b1
    clear b1
    go_wp2_with fail
    refine (CP.out _ B1.out (by first | rfl | trivial)).mono ?_
    rintro e w3 ⟨g, cp, rfl, own3, b3⟩
    have B3 := aside (bthen B1.out b3)
    have O3 := aside own3
    clear own3 b3 CK CP B1 HMM
    obtain ⟨n, hn⟩ : ∃ n, l.length = n := ⟨_, rfl⟩
    have HN0 := aside hn
    rw [hn] at O3 HLN0 ⊢
    clear hn
    have hln : (n : Int) ≤ 2147483648 := by have := HLN0.out; omega
    have BE := aside (bnew w3 (.cells #[] 55))
    have OE := aside (own_emptyE w3 w3.heap.size (Nat.le_refl _))
    go_wp2
    go_loopw [8, 9] (fun v i wr => ∃ k : Nat, i = .int .i64 (k : Int) ∧ k ≤ n ∧ wr.ownsRow w3.heap.size 55 5 v (mxP (l.take k)).length (entCells (mxP (l.take k))) ∧ Below w3.heap.size w3 wr) (fun _ i _ => n - (intOf i).toNat)
    case atStart => exact ⟨0, rfl, Nat.zero_le _, OE.out, BE.out⟩
    case round =>
      obtain ⟨k, rfl, hk, hO, hB⟩ := hrel
      have HB := aside hB
      have HO := aside hO
      clear hB hO
      by_cases hlt : (k : Int) < (n : Int)
      · have hk0 : (0 : Int) ≤ (k : Int) := by omega
        obtain ⟨⟨x, y⟩, hp⟩ : ∃ p, l[k]? = some p := ⟨_, List.getElem?_eq_getElem (by rw [HN0.out]; omega)⟩
        have PCW := aside (fun W (bb : Below w3.heap.size w3 W) => pr_cells (own_on O3.out bb) hp)
        have HTW := aside (HPR.out _ (List.mem_of_getElem? hp))
        have HLN := aside (show (mxP (l.take k)).length ≤ 2147483648 from by have h1 := mxP_len (l.take k); have h2 := List.length_take_le k l; omega)
        have HTK := aside (show l.take (k + 1) = l.take k ++ [(x, y)] from by rw [List.take_add_one, hp]; rfl)
        clear hp
        obtain ⟨⟨c0, c1, c2, c3, c4⟩, c5, c6, c7, c8, c9⟩ := PCW.out _ HB.out
        cases hq : (x.c == 0)
        · have CN := aside (fun W => none_any x W hq)
          obtain ⟨z, hz⟩ : ∃ z, En.best x y = z := ⟨_, rfl⟩
          have CB := aside (fun W => bestRef_en x y z W hz)
          have HSN := aside (show mxP (l.take (k + 1)) = mxP (l.take k) ++ [z] from by rw [HTK.out]; simp [mxP, hz])
          clear hq hz
          go_wp2_with fail
          refine (CN.out _).mono ?_
          rintro e w9 ⟨rfl, bb⟩
          replace HO := aside (own_on HO.out bb)
          replace HB := aside (bthen HB.out bb)
          clear bb c0 c1 c2 c3 c4 c5 c6 c7 c8 c9 CN
          obtain ⟨⟨c0, c1, c2, c3, c4⟩, c5, c6, c7, c8, c9⟩ := PCW.out _ HB.out
          go_wp2_with fail
          refine wp_region_held_drew (S := fun W => Below w3.heap.size w3 W ∧ (W.cell? ⟨g, k * 10, none⟩ = some (.string x.k) ∧ W.cell? ⟨g, k * 10 + 1, none⟩ = some (.int .i64 x.c) ∧ W.cell? ⟨g, k * 10 + 2, none⟩ = some (.int .i64 x.n) ∧ W.cell? ⟨g, k * 10 + 3, none⟩ = some (.string x.v) ∧ W.cell? ⟨g, k * 10 + 4, none⟩ = some (.bool x.d)) ∧ W.cell? ⟨g, k * 10 + 5, none⟩ = some (.string y.k) ∧ W.cell? ⟨g, k * 10 + 6, none⟩ = some (.int .i64 y.c) ∧ W.cell? ⟨g, k * 10 + 7, none⟩ = some (.int .i64 y.n) ∧ W.cell? ⟨g, k * 10 + 8, none⟩ = some (.string y.v) ∧ W.cell? ⟨g, k * 10 + 9, none⟩ = some (.bool y.d)) (by kernel_rfl) ⟨HB.out.drew, PCW.out _ HB.out.drew⟩ (fun hHeld => ?_)
          refine wpAnyH_take (i := 0) (v := ?_) rfl (by kernel_rfl) (by kernel_rfl) (by kernel_rfl) (fun _ _ _ h => h) (Or.inl ⟨by rfl, ?_⟩) (by assumption) ?_
          rotate_left
          · intro w hSw
            go_simp
            try with_reducible rfl
          simp only [Act.put, List.getElem_toArray, List.getElem_cons_zero, List.setIfInBounds_toArray, List.set_cons_zero, List.set_cons_succ]
          refine wpAnyH_take (i := 1) (v := ?_) rfl (by kernel_rfl) (by kernel_rfl) (by kernel_rfl) (fun _ _ _ h => h) (Or.inl ⟨by rfl, ?_⟩) (by assumption) ?_
          rotate_left
          · intro w hSw
            go_simp
            try with_reducible rfl
          simp only [Act.put, List.getElem_toArray, List.getElem_cons_zero, List.getElem_cons_succ, List.setIfInBounds_toArray, List.set_cons_zero, List.set_cons_succ]
          refine wpAnyH_take (i := 2) (v := ?_) rfl (by kernel_rfl) (by kernel_rfl) (by kernel_rfl) (fun _ _ _ h => h) (Or.inl ⟨by rfl, ?_⟩) (by assumption) ?_
          rotate_left
          · intro w hSw
            go_simp
            try with_reducible rfl
          simp only [Act.put, List.getElem_toArray, List.getElem_cons_zero, List.getElem_cons_succ, List.setIfInBounds_toArray, List.set_cons_zero, List.set_cons_succ]
          refine wpAnyH_take (i := 3) (v := ?_) rfl (by kernel_rfl) (by kernel_rfl) (by kernel_rfl) (fun _ _ _ h => h) (Or.inl ⟨by rfl, ?_⟩) (by assumption) ?_
          rotate_left
          · intro w hSw
            go_simp
            try with_reducible rfl
          simp only [Act.put, List.getElem_toArray, List.getElem_cons_zero, List.getElem_cons_succ, List.setIfInBounds_toArray, List.set_cons_zero, List.set_cons_succ]
          refine wpAnyH_take (i := 4) (v := ?_) rfl (by kernel_rfl) (by kernel_rfl) (by kernel_rfl) (fun _ _ _ h => h) (Or.inl ⟨by rfl, ?_⟩) (by assumption) ?_
          rotate_left
          · intro w hSw
            go_simp
            try with_reducible rfl
          simp only [Act.put, List.getElem_toArray, List.getElem_cons_zero, List.getElem_cons_succ, List.setIfInBounds_toArray, List.set_cons_zero, List.set_cons_succ]
          refine wpAnyH_take (i := 5) (v := ?_) rfl (by kernel_rfl) (by kernel_rfl) (by kernel_rfl) (fun _ _ _ h => h) (Or.inl ⟨by rfl, ?_⟩) (by assumption) ?_
          rotate_left
          · intro w hSw
            go_simp
            try with_reducible rfl
          simp only [Act.put, List.getElem_toArray, List.getElem_cons_zero, List.getElem_cons_succ, List.setIfInBounds_toArray, List.set_cons_zero, List.set_cons_succ]
          refine wpAnyH_take (i := 6) (v := ?_) rfl (by kernel_rfl) (by kernel_rfl) (by kernel_rfl) (fun _ _ _ h => h) (Or.inl ⟨by rfl, ?_⟩) (by assumption) ?_
          rotate_left
          · intro w hSw
            go_simp
            try with_reducible rfl
          simp only [Act.put, List.getElem_toArray, List.getElem_cons_zero, List.getElem_cons_succ, List.setIfInBounds_toArray, List.set_cons_zero, List.set_cons_succ]
          refine wpAnyH_take (i := 7) (v := ?_) rfl (by kernel_rfl) (by kernel_rfl) (by kernel_rfl) (fun _ _ _ h => h) (Or.inl ⟨by rfl, ?_⟩) (by assumption) ?_
          rotate_left
          · intro w hSw
            go_simp
            try with_reducible rfl
          simp only [Act.put, List.getElem_toArray, List.getElem_cons_zero, List.getElem_cons_succ, List.setIfInBounds_toArray, List.set_cons_zero, List.set_cons_succ]
          refine wpAnyH_take (i := 8) (v := ?_) rfl (by kernel_rfl) (by kernel_rfl) (by kernel_rfl) (fun _ _ _ h => h) (Or.inl ⟨by rfl, ?_⟩) (by assumption) ?_
          rotate_left
          · intro w hSw
            go_simp
            try with_reducible rfl
          simp only [Act.put, List.getElem_toArray, List.getElem_cons_zero, List.getElem_cons_succ, List.setIfInBounds_toArray, List.set_cons_zero, List.set_cons_succ]
          refine wpAnyH_take (i := 9) (v := ?_) rfl (by kernel_rfl) (by kernel_rfl) (by kernel_rfl) (fun _ _ _ h => h) (Or.inl ⟨by rfl, ?_⟩) (by assumption) ?_
          rotate_left
          · intro w hSw
            go_simp
            try with_reducible rfl
          simp only [Act.put, List.getElem_toArray, List.getElem_cons_zero, List.getElem_cons_succ, List.setIfInBounds_toArray, List.set_cons_zero, List.set_cons_succ]
          refine wpAnyH_take (i := 10) (v := ?_) rfl (by kernel_rfl) (by kernel_rfl) (by kernel_rfl) (fun _ _ _ h => h) (Or.inl ⟨by rfl, ?_⟩) (by assumption) ?_
          rotate_left
          · intro w hSw
            go_simp
            try with_reducible rfl
          simp only [Act.put, List.getElem_toArray, List.getElem_cons_zero, List.getElem_cons_succ, List.setIfInBounds_toArray, List.set_cons_zero, List.set_cons_succ]
          replace HO := aside (own_on HO.out (Below.refl _ w9).drew)
          clear c0 c1 c2 c3 c4 c5 c6 c7 c8 c9
          refine wpAnyH_ready (rs := [11]) (by kernel_rfl) (by simp) ?_
          refine AllReadyH.cons rfl (fun K hK => ?_) AllReadyH.nil
          go_simp
          refine (CB.out _).mono ?_
          rintro e w8 ⟨rfl, bb⟩
          have B8 := aside (hHeld.1.trans (bb.mono hHeld.1.size))
          refine hK.out _ _ ⟨B8.out, PCW.out _ B8.out⟩ (fun hHeld => ?_)
          replace HO := aside (own_on HO.out bb)
          clear hK K bb B8 HB
          refine wpAnyH_ready (rs := [12]) (by kernel_rfl) (by simp) ?_
          refine AllReadyH.cons rfl (fun K hK => ?_) AllReadyH.nil
          go_simp
          have bN := bnew w8 (.cells #[.string z.k, .int .i64 z.c, .int .i64 z.n, .string z.v, .bool z.d] 55)
          have hH2 := aside (show Below w3.heap.size w3 (w8.alloc (.cells #[.string z.k, .int .i64 z.c, .int .i64 z.n, .string z.v, .bool z.d] 55)) from hHeld.1.trans (bN.mono hHeld.1.size))
          refine hK.out _ _ ⟨hH2.out, PCW.out _ hH2.out⟩ (fun hHeld => ?_)
          clear hK K
          refine wpAnyH_ready (rs := [13]) (by kernel_rfl) (by simp) ?_
          refine AllReadyH.cons rfl (fun K hK => ?_) AllReadyH.nil
          refine op_append_ent _ _ rfl w3.heap.size _ _ _ (by rfl) (HO.out.alloc (.cells #[.string z.k, .int .i64 z.c, .int .i64 z.n, .string z.v, .bool z.d] 55)) w8.heap.size 1 z (by rfl) (heap_alloc_new w8 (.cells #[.string z.k, .int .i64 z.c, .int .i64 z.n, .string z.v, .bool z.d] 55)) (by have := HLN.out; omega) (by have := hH2.out.size; simp at this ⊢; omega) ?_
          intro g1 cp1 w4 own4 gr4
          have B4 := aside (hH2.out.grown gr4 hH2.out.size (fun k e => (HO.out.lt k e).1))
          refine hK.out _ _ ⟨B4.out, PCW.out _ B4.out⟩ (fun hHeld => ?_)
          have O4 := aside own4
          clear hK K own4 gr4
          simp only [Act.put, List.getElem_toArray, List.getElem_cons_zero, List.getElem_cons_succ, List.setIfInBounds_toArray, List.set_cons_zero, List.set_cons_succ]
          refine wpAnyH_take (i := 14) (v := ?_) rfl (by kernel_rfl) (by kernel_rfl) (by kernel_rfl) (fun _ _ _ h => h) (Or.inl ⟨by rfl, ?_⟩) (by assumption) ?_
          rotate_left
          · intro w hSw
            go_simp
            try with_reducible rfl
          simp only [Act.put, List.getElem_toArray, List.getElem_cons_zero, List.getElem_cons_succ, List.setIfInBounds_toArray, List.set_cons_zero, List.set_cons_succ]
          refine wpAnyH_done (by kernel_rfl) ?_ _
          clear hHeld hH2 HO
          go_wp2
          go_roundw
          case rel => exact ⟨k + 1, by go_num, by omega, by rw [HSN.out, List.length_append]; exact O4.out, B4.out⟩
          case measure => simp [intOf]; omega
        · have CN := aside (fun W => none_any x W hq)
          have HSN := aside (show mxP (l.take (k + 1)) = mxP (l.take k) ++ [y] from by
            rw [HTK.out]
            have h1 : x = eZ ∧ 1 ≤ y.c ∧ 0 ≤ y.n := pr_none HTW.out (by simpa using hq)
            unfold mxP
            rw [List.map_append]
            show _ ++ [En.best x y] = _
            rw [h1.1, best_zl h1.2])
          clear hq
          go_wp2_with fail
          refine (CN.out _).mono ?_
          rintro e w9 ⟨rfl, bb⟩
          replace HO := aside (own_on HO.out bb)
          replace HB := aside (bthen HB.out bb)
          clear bb c0 c1 c2 c3 c4 c5 c6 c7 c8 c9 CN
          obtain ⟨⟨c0, c1, c2, c3, c4⟩, c5, c6, c7, c8, c9⟩ := PCW.out _ HB.out
          go_wp2_with (at_builtin; go_loud (refine wpList_plain rfl fun K hK => op_append_ent _ _ rfl w3.heap.size _ _ _ (by rfl) (HO.out.alloc _) w9.heap.size 1 y (by rfl) (heap_alloc_new w9 _) (by have := HLN.out; omega) (by have := HB.out.size; simp; omega) ?_); intro g1 cp1 w4 own4 gr4; refine hK _ _ ?_; refine Hid.out ?_)
          refine aside ?_
          have B4 := aside ((HB.out.alloc HB.out.size (.cells #[.string y.k, .int .i64 y.c, .int .i64 y.n, .string y.v, .bool y.d] 55)).grown gr4 (by have := HB.out.size; simp; omega) (fun k e => (HO.out.lt k e).1))
          have O4 := aside own4
          clear own4 gr4
          clear c0 c1 c2 c3 c4 c5 c6 c7 c8 c9
          go_wp2
          go_roundw
          case rel => exact ⟨k + 1, by go_num, by omega, by rw [HSN.out, List.length_append]; exact O4.out, B4.out⟩
          case measure => simp [intOf]; omega
      · have hkl : k = n := by omega
        subst hkl
        have hT : l.take k = l := List.take_of_length_le (by rw [HN0.out]; exact Nat.le_refl _)
        rw [hT] at HO
        replace HO := aside (own_low HO.out B3.out.size)
        clear hT
        go_wp2
        go_ret2
        exact ⟨_, rfl, HO.out, bthen B3.out HB.out⟩
  · have h0' : (q == 0) = false := by simpa using h0
    rw [outL_bad _ h0]
    clear h0 CP HMM
    go_enter Tryd.func17, Tryd.ntmps17
    go_wp2_with fail
    refine CK.out.mono ?_
    rintro e w1 ⟨rfl, b1⟩
    have B1 := aside b1
    clear b1 CK
    go_wp2
    go_ret2
    exact ⟨_, rfl, World.ownsRow_nil _ _ _ _, B1.out⟩
end Go.Proofs.YtfkdhambbpkmpaaDoor
