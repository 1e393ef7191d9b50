/-
  The document's Max.
  Differ, the code's.
-/
import Derived.Test.YtfkdhambbpkmpaaDoorBv9
import Derived.Test.YtfkdhambbpkmpaaDoorBv5
import Derived.Test.YtfkdhambbpkmpaaDoorBv8
namespace Go.Proofs.YtfkdhambbpkmpaaDoor
open Go.RowKit
set_option linter.unusedVariables false
/-- What a pair of two maps is: two of one key, or one alone. -/
theorem pr_two {a b : List En} (ha : MapL a) (hb : MapL b) {p : En × En} (h : p ∈ prs a b) : (1 ≤ p.1.c ∧ 1 ≤ p.2.c ∧ 0 ≤ p.1.n ∧ 0 ≤ p.2.n ∧ p.1.k = p.2.k) ∨ (1 ≤ p.1.c ∧ 0 ≤ p.1.n ∧ p.2 = eZ) ∨ (p.1 = eZ ∧ 1 ≤ p.2.c ∧ 0 ≤ p.2.n) := by
  rcases (mem_prs a b ha.rises hb.rises p).1 h with ⟨h1, h2, h3⟩ | ⟨h1, h2, h3⟩ | ⟨h1, h2, h3⟩
  · exact .inl ⟨(ha.pos h1).1, (hb.pos h2).1, (ha.pos h1).2, (hb.pos h2).2, h3⟩
  · exact .inr (.inl ⟨(ha.pos h1).1, (ha.pos h1).2, h2⟩)
  · exact .inr (.inr ⟨h1, (hb.pos h2).1, (hb.pos h2).2⟩)
theorem pr_none {x y : En} (h : (1 ≤ x.c ∧ 1 ≤ y.c ∧ 0 ≤ x.n ∧ 0 ≤ y.n ∧ x.k = y.k) ∨ (1 ≤ x.c ∧ 0 ≤ x.n ∧ y = eZ) ∨ (x = eZ ∧ 1 ≤ y.c ∧ 0 ≤ y.n)) (h0 : x.c = 0) : x = eZ ∧ 1 ≤ y.c ∧ 0 ≤ y.n := by
  rcases h with h | h | h
  · omega
  · omega
  · exact h
set_option maxHeartbeats 800000 in
theorem none_any (x : En) (w : World) {q : Bool} (hq : (x.c == 0) = q) : Calls Tryd.prog 37 #[.agg #[.string x.k, .int .i64 x.c, .int .i64 x.n, .string x.v, .bool x.d]] w fun e w' => e = .returned (.bool q) ∧ Below w.heap.size w w' := by
  subst hq
  go_enter Tryd.func37, Tryd.ntmps37
  go_wp2
  go_ret
  exact ⟨rfl, bnew _ _⟩
theorem bestRef_en (x y z : En) (w : World) (h : En.best x y = z) : Calls Tryd.prog 38 #[.agg #[.string x.k, .int .i64 x.c, .int .i64 x.n, .string x.v, .bool x.d], .agg #[.string y.k, .int .i64 y.c, .int .i64 y.n, .string y.v, .bool y.d]] w fun e w' => e = .returned (.agg #[.string z.k, .int .i64 z.c, .int .i64 z.n, .string z.v, .bool z.d]) ∧ Below w.heap.size w w' := bestRef_any _ _ _ _ _ _ _ _ _ _ _ _ _ _ _ w h
set_option maxHeartbeats 8000000 in
set_option maxRecDepth 100000 in
theorem rmax_any (a : Option Addr) (la ca : Nat) (A : Nat → En) (b : Option Addr) (lb cb : Nat) (B : Nat → En) (w : World) (hA : EntsIn w a la ca A) (hB : EntsIn w b lb cb B) (hl : la + lb ≤ 2147483648) :
    Calls Tryd.prog 17 #[.slice a la ca, .slice b lb cb] w fun e w' => Says w (ck2 A la B lb) (outL (ck2 A la B lb) (mxP (prs (firstE A la) (firstE B lb)))) e w' := by
  obtain ⟨q, hq⟩ : ∃ q, ck2 A la B lb = q := ⟨_, rfl⟩
  have CK := aside (rchk2_any a la ca A b lb cb B w hA hB)
  rw [hq] at CK ⊢
  have CP := aside (fun W (bb : Below w.heap.size w W) (h0 : q = 0) => pairs_ok a la ca A b lb cb B W (hA.keep bb) (hB.keep bb) (hq.trans h0) hl)
  have HLN0 := aside (show (prs (firstE A la) (firstE B lb)).length ≤ 2147483648 from by have := prs_len (firstE A la) (firstE B lb); rw [firstE_len, firstE_len] at this; omega)
  have HMM := aside (fun (h0 : q = 0) => ck2_ok.1 (hq.trans h0))
  clear hA hB hl hq
  by_cases h0 : q = 0
  · subst h0
    rw [outL_ok _ rfl]
    have HPR := aside (fun p (hp : p ∈ prs (firstE A la) (firstE B lb)) => pr_two (HMM.out rfl).1 (HMM.out rfl).2 hp)
    generalize prs (firstE A la) (firstE B lb) = l at *
    go_enter Tryd.func17, Tryd.ntmps17
    go_wp2_with fail
    refine CK.out.mono ?_
    rintro e w1 ⟨rfl, b1⟩
    have B1 := aside b1
    clear b1
    go_wp2_with fail
    refine (CP.out _ B1.out (by first | rfl | trivial)).mono ?_
    rintro e w3 ⟨g, cp, rfl, own3, b3⟩
    have B3 := aside (bthen B1.out b3)
    have O3 := aside own3
    clear own3 b3 CK CP B1 HMM
    obtain ⟨n, hn⟩ : ∃ n, l.length = n := ⟨_, rfl⟩
    have HN0 := aside hn
    rw [hn] at O3 HLN0 ⊢
    clear hn
    have hln : (n : Int) ≤ 2147483648 := by have := HLN0.out; omega
    have BE := aside (bnew w3 (.cells #[] 55))
    have OE := aside (own_emptyE w3 w3.heap.size (Nat.le_refl _))
    go_wp2
    go_loopw [8, 9] (fun v i wr => ∃ k : Nat, i = .int .i64 (k : Int) ∧ k ≤ n ∧ wr.ownsRow w3.heap.size 55 5 v (mxP (l.take k)).length (entCells (mxP (l.take k))) ∧ Below w3.heap.size w3 wr) (fun _ i _ => n - (intOf i).toNat)
    case atStart => exact ⟨0, rfl, Nat.zero_le _, OE.out, BE.out⟩
    case round =>
      obtain ⟨k, rfl, hk, hO, hB⟩ := hrel
      have HB := aside hB
      have HO := aside hO
      clear hB hO
      by_cases hlt : (k : Int) < (n : Int)
      · have hk0 : (0 : Int) ≤ (k : Int) := by omega
        obtain ⟨⟨x, y⟩, hp⟩ : ∃ p, l[k]? = some p := ⟨_, List.getElem?_eq_getElem (by rw [HN0.out]; omega)⟩
        have PCW := aside (fun W (bb : Below w3.heap.size w3 W) => pr_cells (own_on O3.out bb) hp)
        have HTW := aside (HPR.out _ (List.mem_of_getElem? hp))
        have HLN := aside (show (mxP (l.take k)).length ≤ 2147483648 from by have h1 := mxP_len (l.take k); have h2 := List.length_take_le k l; omega)
        have HTK := aside (show l.take (k + 1) = l.take k ++ [(x, y)] from by rw [List.take_add_one, hp]; rfl)
        clear hp
        obtain ⟨⟨c0, c1, c2, c3, c4⟩, c5, c6, c7, c8, c9⟩ := PCW.out _ HB.out
        cases hq : (x.c == 0)
        · have CN := aside (fun W => none_any x W hq)
          obtain ⟨z, hz⟩ : ∃ z, En.best x y = z := ⟨_, rfl⟩
          have CB := aside (fun W => bestRef_en x y z W hz)
          have HSN := aside (show mxP (l.take (k + 1)) = mxP (l.take k) ++ [z] from by rw [HTK.out]; simp [mxP, hz])
          clear hq hz
          go_wp2_with fail
          refine (CN.out _).mono ?_
          rintro e w9 ⟨rfl, bb⟩
          replace HO := aside (own_on HO.out bb)
          replace HB := aside (bthen HB.out bb)
          clear bb c0 c1 c2 c3 c4 c5 c6 c7 c8 c9 CN
          obtain ⟨⟨c0, c1, c2, c3, c4⟩, c5, c6, c7, c8, c9⟩ := PCW.out _ HB.out
          go_wp2_with fail
          refine wp_region_held_drew (S := fun W => Below w3.heap.size w3 W ∧ (W.cell? ⟨g, k * 10, none⟩ = some (.string x.k) ∧ W.cell? ⟨g, k * 10 + 1, none⟩ = some (.int .i64 x.c) ∧ W.cell? ⟨g, k * 10 + 2, none⟩ = some (.int .i64 x.n) ∧ W.cell? ⟨g, k * 10 + 3, none⟩ = some (.string x.v) ∧ W.cell? ⟨g, k * 10 + 4, none⟩ = some (.bool x.d)) ∧ W.cell? ⟨g, k * 10 + 5, none⟩ = some (.string y.k) ∧ W.cell? ⟨g, k * 10 + 6, none⟩ = some (.int .i64 y.c) ∧ W.cell? ⟨g, k * 10 + 7, none⟩ = some (.int .i64 y.n) ∧ W.cell? ⟨g, k * 10 + 8, none⟩ = some (.string y.v) ∧ W.cell? ⟨g, k * 10 + 9, none⟩ = some (.bool y.d)) (by kernel_rfl) ⟨HB.out.drew, PCW.out _ HB.out.drew⟩ (fun hHeld => ?_)
          refine wpAnyH_take (i := 0) (v := ?_) rfl (by kernel_rfl) (by kernel_rfl) (by kernel_rfl) (fun _ _ _ h => h) (Or.inl ⟨by rfl, ?_⟩) (by assumption) ?_
          rotate_left
          · intro w hSw
            go_simp
            try with_reducible rfl
          simp only [Act.put, List.getElem_toArray, List.getElem_cons_zero, List.setIfInBounds_toArray, List.set_cons_zero, List.set_cons_succ]
          refine wpAnyH_take (i := 1) (v := ?_) rfl (by kernel_rfl) (by kernel_rfl) (by kernel_rfl) (fun _ _ _ h => h) (Or.inl ⟨by rfl, ?_⟩) (by assumption) ?_
          rotate_left
          · intro w hSw
            go_simp
            try with_reducible rfl
          simp only [Act.put, List.getElem_toArray, List.getElem_cons_zero, List.getElem_cons_succ, List.setIfInBounds_toArray, List.set_cons_zero, List.set_cons_succ]
          refine wpAnyH_take (i := 2) (v := ?_) rfl (by kernel_rfl) (by kernel_rfl) (by kernel_rfl) (fun _ _ _ h => h) (Or.inl ⟨by rfl, ?_⟩) (by assumption) ?_
          rotate_left
          · intro w hSw
            go_simp
            try with_reducible rfl
          simp only [Act.put, List.getElem_toArray, List.getElem_cons_zero, List.getElem_cons_succ, List.setIfInBounds_toArray, List.set_cons_zero, List.set_cons_succ]
          refine wpAnyH_take (i := 3) (v := ?_) rfl (by kernel_rfl) (by kernel_rfl) (by kernel_rfl) (fun _ _ _ h => h) (Or.inl ⟨by rfl, ?_⟩) (by assumption) ?_
          rotate_left
          · intro w hSw
            go_simp
            try with_reducible rfl
          simp only [Act.put, List.getElem_toArray, List.getElem_cons_zero, List.getElem_cons_succ, List.setIfInBounds_toArray, List.set_cons_zero, List.set_cons_succ]
          refine wpAnyH_take (i := 4) (v := ?_) rfl (by kernel_rfl) (by kernel_rfl) (by kernel_rfl) (fun _ _ _ h => h) (Or.inl ⟨by rfl, ?_⟩) (by assumption) ?_
          rotate_left
          · intro w hSw
            go_simp
            try with_reducible rfl
          simp only [Act.put, List.getElem_toArray, List.getElem_cons_zero, List.getElem_cons_succ, List.setIfInBounds_toArray, List.set_cons_zero, List.set_cons_succ]
          refine wpAnyH_take (i := 5) (v := ?_) rfl (by kernel_rfl) (by kernel_rfl) (by kernel_rfl) (fun _ _ _ h => h) (Or.inl ⟨by rfl, ?_⟩) (by assumption) ?_
          rotate_left
          · intro w hSw
            go_simp
            try with_reducible rfl
          simp only [Act.put, List.getElem_toArray, List.getElem_cons_zero, List.getElem_cons_succ, List.setIfInBounds_toArray, List.set_cons_zero, List.set_cons_succ]
          refine wpAnyH_take (i := 6) (v := ?_) rfl (by kernel_rfl) (by kernel_rfl) (by kernel_rfl) (fun _ _ _ h => h) (Or.inl ⟨by rfl, ?_⟩) (by assumption) ?_
          rotate_left
          · intro w hSw
            go_simp
            try with_reducible rfl
          simp only [Act.put, List.getElem_toArray, List.getElem_cons_zero, List.getElem_cons_succ, List.setIfInBounds_toArray, List.set_cons_zero, List.set_cons_succ]
          refine wpAnyH_take (i := 7) (v := ?_) rfl (by kernel_rfl) (by kernel_rfl) (by kernel_rfl) (fun _ _ _ h => h) (Or.inl ⟨by rfl, ?_⟩) (by assumption) ?_
          rotate_left
          · intro w hSw
            go_simp
            try with_reducible rfl
          simp only [Act.put, List.getElem_toArray, List.getElem_cons_zero, List.getElem_cons_succ, List.setIfInBounds_toArray, List.set_cons_zero, List.set_cons_succ]
          refine wpAnyH_take (i := 8) (v := ?_) rfl (by kernel_rfl) (by kernel_rfl) (by kernel_rfl) (fun _ _ _ h => h) (Or.inl ⟨by rfl, ?_⟩) (by assumption) ?_
          rotate_left
          · intro w hSw
            go_simp
            try with_reducible rfl
          simp only [Act.put, List.getElem_toArray, List.getElem_cons_zero, List.getElem_cons_succ, List.setIfInBounds_toArray, List.set_cons_zero, List.set_cons_succ]
          refine wpAnyH_take (i := 9) (v := ?_) rfl (by kernel_rfl) (by kernel_rfl) (by kernel_rfl) (fun _ _ _ h => h) (Or.inl ⟨by rfl, ?_⟩) (by assumption) ?_
          rotate_left
          · intro w hSw
            go_simp
            try with_reducible rfl
          simp only [Act.put, List.getElem_toArray, List.getElem_cons_zero, List.getElem_cons_succ, List.setIfInBounds_toArray, List.set_cons_zero, List.set_cons_succ]
          refine wpAnyH_take (i := 10) (v := ?_) rfl (by kernel_rfl) (by kernel_rfl) (by kernel_rfl) (fun _ _ _ h => h) (Or.inl ⟨by rfl, ?_⟩) (by assumption) ?_
          rotate_left
          · intro w hSw
            go_simp
            try with_reducible rfl
          simp only [Act.put, List.getElem_toArray, List.getElem_cons_zero, List.getElem_cons_succ, List.setIfInBounds_toArray, List.set_cons_zero, List.set_cons_succ]
          replace HO := aside (own_on HO.out (Below.refl _ w9).drew)
          clear c0 c1 c2 c3 c4 c5 c6 c7 c8 c9
          refine wpAnyH_ready (rs := [11]) (by kernel_rfl) (by simp) ?_
          refine AllReadyH.cons rfl (fun K hK => ?_) AllReadyH.nil
          go_simp
          refine (CB.out _).mono ?_
          rintro e w8 ⟨rfl, bb⟩
          have B8 := aside (hHeld.1.trans (bb.mono hHeld.1.size))
          refine hK.out _ _ ⟨B8.out, PCW.out _ B8.out⟩ (fun hHeld => ?_)
          replace HO := aside (own_on HO.out bb)
          clear hK K bb B8 HB
          refine wpAnyH_ready (rs := [12]) (by kernel_rfl) (by simp) ?_
          refine AllReadyH.cons rfl (fun K hK => ?_) AllReadyH.nil
          go_simp
          have bN := bnew w8 (.cells #[.string z.k, .int .i64 z.c, .int .i64 z.n, .string z.v, .bool z.d] 55)
          have hH2 := aside (show Below w3.heap.size w3 (w8.alloc (.cells #[.string z.k, .int .i64 z.c, .int .i64 z.n, .string z.v, .bool z.d] 55)) from hHeld.1.trans (bN.mono hHeld.1.size))
          refine hK.out _ _ ⟨hH2.out, PCW.out _ hH2.out⟩ (fun hHeld => ?_)
          clear hK K
          refine wpAnyH_ready (rs := [13]) (by kernel_rfl) (by simp) ?_
          refine AllReadyH.cons rfl (fun K hK => ?_) AllReadyH.nil
          refine op_append_ent _ _ rfl w3.heap.size _ _ _ (by rfl) (HO.out.alloc (.cells #[.string z.k, .int .i64 z.c, .int .i64 z.n, .string z.v, .bool z.d] 55)) w8.heap.size 1 z (by rfl) (heap_alloc_new w8 (.cells #[.string z.k, .int .i64 z.c, .int .i64 z.n, .string z.v, .bool z.d] 55)) (by have := HLN.out; omega) (by have := hH2.out.size; simp at this ⊢; omega) ?_
          intro g1 cp1 w4 own4 gr4
          have B4 := aside (hH2.out.grown gr4 hH2.out.size (fun k e => (HO.out.lt k e).1))
          refine hK.out _ _ ⟨B4.out, PCW.out _ B4.out⟩ (fun hHeld => ?_)
          have O4 := aside own4
          clear hK K own4 gr4
          simp only [Act.put, List.getElem_toArray, List.getElem_cons_zero, List.getElem_cons_succ, List.setIfInBounds_toArray, List.set_cons_zero, List.set_cons_succ]
          refine wpAnyH_take (i := 14) (v := ?_) rfl (by kernel_rfl) (by kernel_rfl) (by kernel_rfl) (fun _ _ _ h => h) (Or.inl ⟨by rfl, ?_⟩) (by assumption) ?_
          rotate_left
          · intro w hSw
            go_simp
            try with_reducible rfl
          simp only [Act.put, List.getElem_toArray, List.getElem_cons_zero, List.getElem_cons_succ, List.setIfInBounds_toArray, List.set_cons_zero, List.set_cons_succ]
          refine wpAnyH_done (by kernel_rfl) ?_ _
          clear hHeld hH2 HO
          go_wp2
          go_roundw
          case rel => exact ⟨k + 1, by go_num, by omega, by rw [HSN.out, List.length_append]; exact O4.out, B4.out⟩
          case measure => simp [intOf]; omega
        · have CN := aside (fun W => none_any x W hq)
          have HSN := aside (show mxP (l.take (k + 1)) = mxP (l.take k) ++ [y] from by
            rw [HTK.out]
            have h1 : x = eZ ∧ 1 ≤ y.c ∧ 0 ≤ y.n := pr_none HTW.out (by simpa using hq)
            unfold mxP
            rw [List.map_append]
            show _ ++ [En.best x y] = _
            rw [h1.1, best_zl h1.2])
          clear hq
          go_wp2_with fail
          refine (CN.out _).mono ?_
          rintro e w9 ⟨rfl, bb⟩
          replace HO := aside (own_on HO.out bb)
          replace HB := aside (bthen HB.out bb)
          clear bb c0 c1 c2 c3 c4 c5 c6 c7 c8 c9 CN
          obtain ⟨⟨c0, c1, c2, c3, c4⟩, c5, c6, c7, c8, c9⟩ := PCW.out _ HB.out
          go_wp2_with (at_builtin; go_loud (refine wpList_plain rfl fun K hK => op_append_ent _ _ rfl w3.heap.size _ _ _ (by rfl) (HO.out.alloc _) w9.heap.size 1 y (by rfl) (heap_alloc_new w9 _) (by have := HLN.out; omega) (by have := HB.out.size; simp; omega) ?_); intro g1 cp1 w4 own4 gr4; refine hK _ _ ?_; refine Hid.out ?_)
          refine aside ?_
          have B4 := aside ((HB.out.alloc HB.out.size (.cells #[.string y.k, .int .i64 y.c, .int .i64 y.n, .string y.v, .bool y.d] 55)).grown gr4 (by have := HB.out.size; simp; omega) (fun k e => (HO.out.lt k e).1))
          have O4 := aside own4
          clear own4 gr4
          clear c0 c1 c2 c3 c4 c5 c6 c7 c8 c9
          go_wp2
          go_roundw
          case rel => exact ⟨k + 1, by go_num, by omega, by rw [HSN.out, List.length_append]; exact O4.out, B4.out⟩
          case measure => simp [intOf]; omega
      · have hkl : k = n := by omega
        subst hkl
        have hT : l.take k = l := List.take_of_length_le (by rw [HN0.out]; exact Nat.le_refl _)
        rw [hT] at HO
        replace HO := aside (own_low HO.out B3.out.size)
        clear hT
        go_wp2
        go_ret2
        exact ⟨_, rfl, HO.out, bthen B3.out HB.out⟩
  · have h0' : (q == 0) = false := by simpa using h0
    rw [outL_bad _ h0]
    clear h0 CP HMM
    go_enter Tryd.func17, Tryd.ntmps17
    go_wp2_with fail
    refine CK.out.mono ?_
    rintro e w1 ⟨rfl, b1⟩
    have B1 := aside b1
    clear b1 CK
    go_wp2
    go_ret2
    exact ⟨_, rfl, World.ownsRow_nil _ _ _ _, B1.out⟩
end Go.Proofs.YtfkdhambbpkmpaaDoor
namespace Go.Proofs.YtfkdhambbpkmpaaDoor
open Go.RowKit Go.Shelf
set_option linter.unusedVariables false
attribute [local go_sem] Oper.semAt_some
/-- The keys at which the pairs so far differ. -/
def dfP (l : List (En × En)) : List ByteArray := (l.filter vNe).map (fun p => (En.best p.1 p.2).k)
theorem dfP_snoc (l : List (En × En)) (p : En × En) : dfP (l ++ [p]) = dfP l ++ (if vNe p then [(En.best p.1 p.2).k] else []) := by
  unfold dfP
  rw [List.filter_append, List.map_append]
  congr 1
  cases h : vNe p <;> simp [h]
theorem dfP_len (l : List (En × En)) : (dfP l).length ≤ l.length := by unfold dfP; rw [List.length_map]; exact List.length_filter_le _ _
/-- Texts as cells. -/
def strC (l : List ByteArray) : List Value := l.map Value.string
theorem strC_append (l : List ByteArray) (s : ByteArray) : strC (l ++ [s]) = strC l ++ [.string s] := by simp [strC]
/-- What a call answers: texts of its own, and the error. -/
def SaysT (w : World) (q : Int) (l : List ByteArray) (e : Ending) (w' : World) : Prop := ∃ v, e = .returned (.tuple #[v, .int .i64 q]) ∧ w'.ownsRow w.heap.size 9 1 v l.length (strC l) ∧ Below w.heap.size w w'
theorem infoStr : (Tryd.prog.info? 9).map (fun i => (i.zero, i.size, i.bytes)) = some (some (.string ⟨#[]⟩), 1, 16) := by kernel_rfl
/-- One text appended to an owned row, as one operation. -/
theorem op_append_str {w : World} {o : Oper} {act : Act} {K : Act → World → Prop} {Q : Exit → Act → World → Prop} (s x : Operand)
    (ho : o.op = .call { callee := .builtin .append, args := #[s, x], argTypes := #[33, 33] })
    (B n : Nat) (v : Value) (l : List ByteArray) (hs : act.eval s = v) (hown : w.ownsRow B 9 1 v n (strC l)) (b c : Nat) (t : ByteArray) (hx : act.eval x = .slice (some ⟨b, 0, none⟩) 1 c)
    (hb : w.heap[b]? = some (.cells #[.string t] 9 (0, 0))) (hlen : n * 16 ≤ 140737488351232) (hB : B ≤ w.heap.size)
    (h : ∀ g cap w', w'.ownsRow B 9 1 (.slice (some ⟨g, 0, none⟩) (n + 1) cap) (n + 1) (strC (l ++ [t])) → w.grownBy w' v.ownBlock → K (act.put o.dst (.slice (some ⟨g, 0, none⟩) (n + 1) cap)) w') : o.wp Tryd.prog act w K Q := by
  obtain ⟨i0, hi, hz0, hz1, hz2⟩ := info_parts infoStr
  refine wp_append_own w s x _ ho B 9 i0 _ 1 16 Tryd.underlying33 hi hz0 hz1 hz2 rfl (by decide) _ _ _ hs hown ⟨b, 0, none⟩ 1 c [.string t] hx rfl ?_ (fun u hu => by rw [List.mem_singleton] at hu; subst hu; rfl) (by unfold maxLen; omega) (by omega) hB ?_
  · exact World.news_of_block (cs := #[.string t]) (t := 9) (fr := (0, 0)) hb
  · intro v' w' ho' hg _
    rw [← strC_append] at ho'
    rcases ho'.2 with ⟨h1, h2⟩ | ⟨g, cap', cur, rfl, _⟩
    · omega
    · exact h g cap' w' ho' hg
set_option maxHeartbeats 8000000 in
set_option maxRecDepth 100000 in
theorem mdiff_any (a : Option Addr) (la ca : Nat) (A : Nat → En) (b : Option Addr) (lb cb : Nat) (B : Nat → En) (w : World) (hA : EntsIn w a la ca A) (hB : EntsIn w b lb cb B) (hl : la + lb ≤ 2147483648) :
    Calls Tryd.prog 12 #[.slice a la ca, .slice b lb cb] w fun r w' => SaysT w (ck2 A la B lb) (outL (ck2 A la B lb) (dfP (prs (firstE A la) (firstE B lb)))) r w' := by
  obtain ⟨q, hq⟩ : ∃ q, ck2 A la B lb = q := ⟨_, rfl⟩
  have CK := aside (mchk2_any a la ca A b lb cb B w hA hB)
  rw [hq] at CK ⊢
  have HA := aside hA
  have HBB := aside hB
  have HL := aside hl
  clear hA hB hl hq
  by_cases h0 : q = 0
  · subst h0
    rw [outL_ok _ rfl]
    refine (callsIn_wide (n := 5)).1 ?_
    refine callsIn_of_wp_marks Tryd.func12 rfl trivial ?_ rfl
    simp only [Tryd.ntmps12, List.size_toArray, List.length_cons, List.length_nil, Nat.reduceAdd, Nat.reduceSub, Array.replicate_succ, Array.replicate_zero, List.push_toArray, List.append_toArray, List.nil_append, List.cons_append]
    gi_wp2_with fail
    refine ⟨trivial, ?_⟩
    refine (callsIn_wide.2 CK.out).mono ?_
    rintro e w1 ⟨rfl, b1⟩
    have B1 := aside b1
    clear b1 CK
    gi_wp2_with fail
    refine ⟨trivial, ?_⟩
    refine (callsIn_wide.2 (side_any _ _ _ _ _ _ _)).mono ?_
    rintro e w2 ⟨rfl, rfl⟩
    gi_wp2_with fail
    have B2 := aside (bthen B1.out (bnew w1 (.cells #[.slice none 0 0] 33)))
    have KV := aside (heap_alloc_new w1 (.cells #[.slice none 0 0] 33))
    have SD2 := aside (side_sd (HA.out.keep B2.out) (HBB.out.keep B2.out))
    have B3 := aside (bthen B2.out (bthen (bnew (w1.alloc (.cells #[.slice none 0 0] 33)) (.cells #[.slice a la ca] 22)) (bnew _ (.cells #[.slice b lb cb] 22))))
    have KV3 := aside (blk_on KV.out (bthen (bnew (w1.alloc (.cells #[.slice none 0 0] 33)) (.cells #[.slice a la ca] 22)) (bnew _ (.cells #[.slice b lb cb] 22))))
    obtain ⟨vb, hvb⟩ : ∃ vb, w1.heap.size = vb := ⟨_, rfl⟩
    obtain ⟨ba, hba⟩ : ∃ ba, (w1.alloc (.cells #[.slice none 0 0] 33)).heap.size = ba := ⟨_, rfl⟩
    have hbv : ba = vb + 1 := by rw [← hba, ← hvb]; simp
    have HVB := aside (show w.heap.size ≤ vb from by rw [← hvb]; exact B1.out.size)
    rw [World.size_alloc] at hba
    rw [World.size_alloc, hba] at SD2
    rw [hba]
    rw [hvb] at KV3 ⊢
    clear KV hvb hba B1
    generalize ((w1.alloc (.cells #[.slice none 0 0] 33)).alloc (.cells #[.slice a la ca] 22)).alloc (.cells #[.slice b lb cb] 22) = V at *
    have I0 := aside (show LpC w vb 33 9 1 (dfP (([] : List (En × En)))).length (strC (dfP (([] : List (En × En))))) ba (ba + 1) a la ca A b lb cb B V from ⟨⟨.slice none 0 0, KV3.out, ⟨rfl, .inl ⟨rfl, rfl⟩⟩⟩, B3.out, SD2.out⟩)
    have HVV := aside (show w.heap.size ≤ V.heap.size from B3.out.size)
    have HNE := aside (show ba ≠ vb ∧ ba + 1 ≠ vb from by omega)
    clear KV3 B3 B2 hbv
    have ownI : OwnFrom V.heap.size (fun (pre : List (En × En)) X => LpC w vb 33 9 1 (dfP (pre)).length (strC (dfP (pre))) ba (ba + 1) a la ca A b lb cb B X) := fun s A Y row hs hg hr => hs.own HVV.out hg hr
    refine rangeO rfl (enters_of Tryd.func49 (by kernel_rfl) rfl) (side_seq SD2.out) KpS.t (fun W l o o' _ h ho => KpS.b W l o o' h ho) (Below.refl _ _) (fun _ => rfl)
      (fun (pre : List (En × En)) X => LpC w vb 33 9 1 (dfP (pre)).length (strC (dfP (pre))) ba (ba + 1) a la ca A b lb cb B X) (fun _ _ _ => False) ownI (fun _ _ _ _ _ h => h.elim) I0.out
      (fun x a' X => ∃ eb : Nat, a' = ⟨#[.slice a la ca, .slice b lb cb, undef, undef, .slice none 0 0, .int .i64 0, .int .i64 0, .pointer (some ⟨vb, 0, none⟩), .pointer (some ⟨eb, 0, none⟩), .pointer (some ⟨eb + 1, 0, none⟩), .slice a la ca, .slice b lb cb, .int .i64 0, .int .i64 0, .bool false, undef, .slice a la ca, .slice b lb cb, .func (.func 49) #[] #[.pointer (some ⟨ba, 0, none⟩), .pointer (some ⟨ba + 1, 0, none⟩)], .agg #[.string x.1.k, .int .i64 x.1.c, .int .i64 x.1.n, .string x.1.v, .bool x.1.d], .agg #[.string x.2.k, .int .i64 x.2.c, .int .i64 x.2.n, .string x.2.v, .bool x.2.d], undef, undef, undef, undef, undef, undef, undef, undef, undef, undef, undef, undef, undef], []⟩ ∧ X.heap[eb]? = some (.cells #[.string x.1.k, .int .i64 x.1.c, .int .i64 x.1.n, .string x.1.v, .bool x.1.d] 55 (0, 0)) ∧ X.heap[eb + 1]? = some (.cells #[.string x.2.k, .int .i64 x.2.c, .int .i64 x.2.n, .string x.2.v, .bool x.2.d] 55 (0, 0)))
      (fun x a' _ A Y row hs hg hr => by
        obtain ⟨eb, h1, h2, h3⟩ := hs
        exact ⟨eb, h1, cells_ownM h2 hg (fun r e => (hr r e).2), cells_ownM h3 hg (fun r e => (hr r e).2)⟩) ?assign ?body ?done ?stop
    case assign =>
      intro l' pre x X K hi hK
      dsimp only [encP]
      gi_wp2
      have bb := bthen (bnew X (.cells #[.string x.1.k, .int .i64 x.1.c, .int .i64 x.1.n, .string x.1.v, .bool x.1.d] 55)) (bnew _ (.cells #[.string x.2.k, .int .i64 x.2.c, .int .i64 x.2.n, .string x.2.v, .bool x.2.d] 55))
      have k2 := heap_alloc_new (X.alloc (.cells #[.string x.1.k, .int .i64 x.1.c, .int .i64 x.1.n, .string x.1.v, .bool x.1.d] 55)) (.cells #[.string x.2.k, .int .i64 x.2.c, .int .i64 x.2.n, .string x.2.v, .bool x.2.d] 55)
      rw [World.size_alloc] at k2
      exact hK _ _ (kf_below bb) (fun s => s.keep bb) (hi.keep bb) ⟨X.heap.size, rfl, blk_on (heap_alloc_new X _) (bnew _ _), k2⟩
    case body =>
      rintro l' pre ⟨x, y⟩ a' X hlp ⟨eb, rfl, he, hf⟩ hlen
      dsimp only at he hf ⊢
      have HLP := aside hlp
      have HE := aside he
      have HF := aside hf
      have HLN := aside (show (dfP (pre)).length ≤ 2147483648 from by have h1 := prs_len (firstE A la) (firstE B lb); rw [firstE_len, firstE_len] at h1; have h2 := HL.out; have h3 : (dfP (pre)).length ≤ pre.length := dfP_len pre; omega)
      clear hlp he hf hlen
      obtain ⟨⟨e0, e1, e2, e3, e4⟩, -⟩ := box5 HE.out
      obtain ⟨⟨f0, f1, f2, f3, f4⟩, -⟩ := box5 HF.out
      have hVN : ∀ w, (binOp .neq 53 (.agg #[.int .i64 x.c, .int .i64 x.n]) (.agg #[.int .i64 y.c, .int .i64 y.n])).run Tryd.prog w = .ok (.bool (vNe (x, y))) w := fun w => by rw [verne_run]; rfl
      cases hq : vNe (x, y)
      · rw [hq] at hVN
        have HSN := aside (show dfP (pre ++ [(x, y)]) = dfP pre from by rw [dfP_snoc, hq]; simp)
        clear hq
        gi_wp2
        exact ⟨KeepsFrom.refl _ _, fun s => s, by dsimp only; rw [HSN.out]; exact HLP.out⟩
      · rw [hq] at hVN
        obtain ⟨v, hv, ho⟩ := HLP.out.lst.ex
        have HV := aside hv
        have HO := aside ho
        obtain ⟨t, ht⟩ : ∃ t, En.best x y = t := ⟨_, rfl⟩
        have CN := aside (fun W => best_en x y t W ht)
        have HSN := aside (show dfP (pre ++ [(x, y)]) = dfP pre ++ [t.k] from by rw [dfP_snoc, hq]; dsimp only; rw [ht]; simp)
        clear hq
        clear hv ho ht
        gi_wp2_with fail
        clear e0 e1 e2 e3 e4 f0 f1 f2 f3 f4 hVN
        have bd := (Below.refl X.heap.size X).drew
        have BX := aside bd
        replace HLP := aside (HLP.out.keep bd)
        replace HE := aside (blk_on HE.out bd)
        replace HF := aside (blk_on HF.out bd)
        replace HV := aside (blk_on HV.out bd)
        replace HO := aside (own_on HO.out bd)
        clear bd
        refine wpIn_region_until (z := 6) (S := fun Y => Y.cell? ⟨vb, 0, none⟩ = some v ∧ (Y.cell? ⟨eb, 0, none⟩ = some (.string x.k) ∧ Y.cell? ⟨eb, 1, none⟩ = some (.int .i64 x.c) ∧ Y.cell? ⟨eb, 2, none⟩ = some (.int .i64 x.n) ∧ Y.cell? ⟨eb, 3, none⟩ = some (.string x.v) ∧ Y.cell? ⟨eb, 4, none⟩ = some (.bool x.d)) ∧ Y.cell? ⟨(eb + 1), 0, none⟩ = some (.string y.k) ∧ Y.cell? ⟨(eb + 1), 1, none⟩ = some (.int .i64 y.c) ∧ Y.cell? ⟨(eb + 1), 2, none⟩ = some (.int .i64 y.n) ∧ Y.cell? ⟨(eb + 1), 3, none⟩ = some (.string y.v) ∧ Y.cell? ⟨(eb + 1), 4, none⟩ = some (.bool y.d)) (by kernel_rfl) (by kernel_rfl) (fun ⟨_, _, h⟩ => h) ⟨cell_one HV.out, (box5 HE.out).1, (box5 HF.out).1⟩ (fun hHeld => ?_)
        generalize X.drew = X0 at *
        refine Until.take (i := 0) (v := ?_) [6] rfl (by kernel_rfl) (by kernel_rfl) (by kernel_rfl) (by kernel_rfl) (by rfl) (by rfl) (by kernel_rfl) (fun _ _ _ h => h) (Or.inl ⟨by rfl, ?_⟩) (by assumption) ?_
        rotate_left
        · intro w hSw
          go_simp
          try with_reducible rfl
        simp only [Act.put, List.getElem_toArray, List.getElem_cons_zero, List.setIfInBounds_toArray, List.set_cons_zero, List.set_cons_succ]
        refine Until.take (i := 1) (v := ?_) [3, 4, 5, 6] rfl (by kernel_rfl) (by kernel_rfl) (by kernel_rfl) (by kernel_rfl) (by rfl) (by rfl) (by kernel_rfl) (fun _ _ _ h => h) (Or.inl ⟨by rfl, ?_⟩) (by assumption) ?_
        rotate_left
        · intro w hSw
          go_simp
          try with_reducible rfl
        simp only [Act.put, List.getElem_toArray, List.getElem_cons_zero, List.getElem_cons_succ, List.setIfInBounds_toArray, List.set_cons_zero, List.set_cons_succ]
        refine Until.take (i := 2) (v := ?_) [3, 4, 5, 6] rfl (by kernel_rfl) (by kernel_rfl) (by kernel_rfl) (by kernel_rfl) (by rfl) (by rfl) (by kernel_rfl) (fun _ _ _ h => h) (Or.inl ⟨by rfl, ?_⟩) (by assumption) ?_
        rotate_left
        · intro w hSw
          go_simp
          try with_reducible rfl
        simp only [Act.put, List.getElem_toArray, List.getElem_cons_zero, List.getElem_cons_succ, List.setIfInBounds_toArray, List.set_cons_zero, List.set_cons_succ]
        refine Until.step (i := 3) (by kernel_rfl) rfl (by rfl) (fun K' hK' => ?_)
        go_simp
        refine (CN.out _).mono ?_
        rintro e X1 ⟨rfl, b1⟩
        replace BX := aside (bthen BX.out b1)
        replace HLP := aside (HLP.out.keep b1)
        replace HE := aside (blk_on HE.out b1)
        replace HF := aside (blk_on HF.out b1)
        replace HV := aside (blk_on HV.out b1)
        replace HO := aside (own_on HO.out b1)
        clear b1 CN
        refine hK'.out _ _ ⟨cell_one HV.out, (box5 HE.out).1, (box5 HF.out).1⟩ (fun hHeld => ?_)
        clear hK' K'
        refine Until.take (i := 4) (v := .string t.k) [5, 6] rfl (by kernel_rfl) (by kernel_rfl) (by kernel_rfl) (by kernel_rfl) (by rfl) (by rfl) (by kernel_rfl) (fun _ _ _ h => h) (Or.inl ⟨by rfl, fun _ _ => by kernel_rfl⟩) (by assumption) ?_
        simp only [Act.put, List.getElem_toArray, List.getElem_cons_zero, List.getElem_cons_succ, List.setIfInBounds_toArray, List.set_cons_zero, List.set_cons_succ]
        refine Until.step (i := 5) (by kernel_rfl) rfl (by rfl) (fun K' hK' => ?_)
        go_simp
        have bN := bnew X1 (.cells #[.string t.k] 9)
        refine hK'.out _ _ ⟨cell_one (blk_on HV.out bN), (box5 (blk_on HE.out bN)).1, (box5 (blk_on HF.out bN)).1⟩ (fun hHeld => ?_)
        clear hK' K' bN
        refine Until.last (by kernel_rfl) rfl (fun K' hK' => ?_)
        rw [if_pos (by kernel_rfl)]
        refine op_append_str _ _ rfl w.heap.size (dfP pre).length v (dfP pre) (by rfl) (HO.out.alloc _) X1.heap.size 1 t.k (by rfl) (heap_alloc_new X1 _) (by have := HLN.out; omega) (by have := HLP.out.below.size; simp; omega) ?_
        intro g1 cp1 X2 own1 gr1
        refine hK'.out _ _ ?_
        have HBX := aside HLP.out.below
        have ST := aside (LpC.add (C := V.heap.size) HA.out HBB.out (by decide) (by decide) HVB.out HNE.out.1 HNE.out.2 HBX.out HLP.out.sd HV.out HO.out (by rw [strC_append] at own1; exact own1) gr1)
        have v1 := cell_one ST.out.1
        have z1 := frozen_one ST.out.1
        clear hK' K' own1 gr1 hHeld
        refine wpAny_of_held (S := fun _ => True) _ _ _ _ ?_
        have hHeld : True := trivial
        refine wpAnyH_ready (rs := [7]) (by kernel_rfl) (by simp) ?_
        refine AllReadyH.cons rfl (fun K hK => ?_) AllReadyH.nil
        go_simp
        refine hK.out _ _ (trivial) (fun hHeld => ?_)
        clear hK K 
        refine wpAnyH_done (by kernel_rfl) ?_ _
        gi_wp2
        exact ⟨(kf_below BX.out).trans ST.out.2.2, fun _ => ST.out.2.1.sd, by dsimp only; rw [HSN.out, List.length_append, strC_append]; exact ST.out.2.1⟩
    case done =>
      rintro D xs X hD rfl hlp hK
      obtain ⟨v, hv, ho⟩ := hlp.lst.ex
      have v0 := cell_one hv
      have FO := aside (ownsRow_ownM ho (grownBy_putObj' X D (.deferred none)) (fun r e => by cases e; exact ⟨_, hK, rfl⟩))
      have FB := aside (ownFrom_below (β := Unit) (Nat.le_refl w.heap.size) HVV.out () X _ (some D) hlp.below (grownBy_putObj' X D (.deferred none)) (fun r e => by cases e; exact ⟨hD, _, hK, rfl⟩))
      clear hlp hv ho
      gi_wp2
      refine ⟨by simp, .inl ⟨_, _, rfl, run_takeDeferred hK, ?_⟩⟩
      exact ⟨.tuple #[v, .int .i64 0], by simp [results, Tryd.f12, go_sem], ⟨v, rfl, FO.out, FB.out⟩⟩
    case stop =>
      rintro D c pre X hD _ h
      exact h.elim
  · rw [outL_bad _ h0]
    have hqb : (q == 0) = false := by simpa using h0
    have H0 := aside h0
    clear h0
    refine (callsIn_wide (n := 5)).1 ?_
    refine callsIn_of_wp_marks Tryd.func12 rfl trivial ?_ rfl
    simp only [Tryd.ntmps12, List.size_toArray, List.length_cons, List.length_nil, Nat.reduceAdd, Nat.reduceSub, Array.replicate_succ, Array.replicate_zero, List.push_toArray, List.append_toArray, List.nil_append, List.cons_append]
    gi_wp2_with fail
    refine ⟨trivial, ?_⟩
    refine (callsIn_wide.2 CK.out).mono ?_
    rintro e w1 ⟨rfl, b1⟩
    have B1 := aside b1
    clear b1 CK
    gi_wp2
    exact ⟨.tuple #[.slice none 0 0, .int .i64 q], by simp [results, Tryd.f12, go_sem], ⟨_, rfl, ⟨rfl, .inl ⟨rfl, rfl⟩⟩, B1.out⟩⟩
end Go.Proofs.YtfkdhambbpkmpaaDoor
