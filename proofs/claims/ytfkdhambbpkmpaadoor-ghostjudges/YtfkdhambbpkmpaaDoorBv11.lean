/-
  The document's Differ.
  Plain laws of maps: the newest of both hangs on no order and on no grouping, and is above both.
  Plain laws of maps: lacking nothing goes through; two that lack nothing of each other differ nowhere.
  Lists compared, of the ghost's laws.
-/
import Derived.Test.YtfkdhambbpkmpaaDoorBv10
import Derived.Test.YtfkdhambbpkmpaaDoorBv8
import Derived.Laws.Concat
import Derived.Test.YtfkdhambbpkmpaaDoorBv2
import Derived.Test.YtfkdhambbpkmpaaDoorBv5
namespace Go.Proofs.YtfkdhambbpkmpaaDoor
open Go.RowKit
set_option linter.unusedVariables false
theorem pr_size {a b : List En} (ha : MapL a) (hb : MapL b) {p : En × En} (h : p ∈ prs a b) : p.1.k.size ≤ 16 ∧ p.2.k.size ≤ 16 := by
  rcases (mem_prs a b ha.rises hb.rises p).1 h with ⟨h1, h2, h3⟩ | ⟨h1, h2, h3⟩ | ⟨h1, h2, h3⟩
  · exact ⟨(chk_pos (ha.chk _ h1)).2.1, (chk_pos (hb.chk _ h2)).2.1⟩
  · exact ⟨(chk_pos (ha.chk _ h1)).2.1, by rw [h2]; decide⟩
  · exact ⟨by rw [h1]; decide, (chk_pos (hb.chk _ h2)).2.1⟩
theorem ba_nil_l (s : ByteArray) : (⟨#[]⟩ : ByteArray) ++ s = s := ByteArray.empty_append
theorem ba_nil_r (s : ByteArray) : s ++ (⟨#[]⟩ : ByteArray) = s := ByteArray.append_empty
theorem own_emptyS (w : World) (B : Nat) (h : B ≤ w.heap.size) : (w.alloc (.cells #[] 9)).ownsRow B 9 1 (.slice (some ⟨w.heap.size, 0, none⟩) 0 0) 0 (strC []) := by
  refine ⟨rfl, .inr ⟨w.heap.size, 0, #[], rfl, h, heap_alloc_new w _, Nat.le_refl _, Nat.zero_le _, rfl, rfl⟩⟩
/-- The last text of a row, turned. -/
theorem own_last {w : World} {B g n cap : Nat} {l : List ByteArray} {s t : ByteArray} (h : w.ownsRow B 9 1 (.slice (some ⟨g, 0, none⟩) (n + 1) cap) (n + 1) (strC (l ++ [s]))) (hn : l.length = n) :
    w.cell? ⟨g, n, none⟩ = some (.string s) ∧ w.frozen? ⟨g, n, none⟩ = false ∧ (w.setCell ⟨g, n, none⟩ (.string t)).ownsRow B 9 1 (.slice (some ⟨g, 0, none⟩) (n + 1) cap) (n + 1) (strC (l ++ [t])) := by
  refine ⟨?_, ?_, ?_⟩
  · rw [h.cellAt n (by omega), strC_append, List.getElem?_append_right (by simp [strC, hn])]
    simp [strC, hn]
  · exact h.frozenAt n
  · have h1 := (h.stored n (.string t)).1
    rw [strC_append, List.set_append_right _ _ (by simp [strC, hn])] at h1
    rw [strC_append]
    simpa [strC, hn] using h1
set_option maxHeartbeats 8000000 in
set_option maxRecDepth 100000 in
theorem rdiff_any (a : Option Addr) (la ca : Nat) (A : Nat → En) (b : Option Addr) (lb cb : Nat) (B : Nat → En) (w : World) (hA : EntsIn w a la ca A) (hB : EntsIn w b lb cb B) (hl : la + lb ≤ 2147483648) :
    Calls Tryd.prog 43 #[.slice a la ca, .slice b lb cb] w fun e w' => SaysT w (ck2 A la B lb) (outL (ck2 A la B lb) (dfP (prs (firstE A la) (firstE B lb)))) e w' := by
  obtain ⟨q, hq⟩ : ∃ q, ck2 A la B lb = q := ⟨_, rfl⟩
  have CK := aside (rchk2_any a la ca A b lb cb B w hA hB)
  rw [hq] at CK ⊢
  have CP := aside (fun W (bb : Below w.heap.size w W) (h0 : q = 0) => pairs_ok a la ca A b lb cb B W (hA.keep bb) (hB.keep bb) (hq.trans h0) hl)
  have HLN0 := aside (show (prs (firstE A la) (firstE B lb)).length ≤ 2147483648 from by have := prs_len (firstE A la) (firstE B lb); rw [firstE_len, firstE_len] at this; omega)
  have HMM := aside (fun (h0 : q = 0) => ck2_ok.1 (hq.trans h0))
  clear hA hB hl hq
  by_cases h0 : q = 0
  · subst h0
    rw [outL_ok _ rfl]
    have HPR := aside (fun p (hp : p ∈ prs (firstE A la) (firstE B lb)) => pr_two (HMM.out rfl).1 (HMM.out rfl).2 hp)
    have HPZ := aside (fun p (hp : p ∈ prs (firstE A la) (firstE B lb)) => pr_size (HMM.out rfl).1 (HMM.out rfl).2 hp)
    generalize prs (firstE A la) (firstE B lb) = l at *
    go_enter Tryd.func43, Tryd.ntmps43
    go_wp2_with fail
    refine CK.out.mono ?_
    rintro e w1 ⟨rfl, b1⟩
    have B1 := aside b1
    clear b1
    go_wp2_with fail
    refine (CP.out _ B1.out (by first | rfl | trivial)).mono ?_
    rintro e w3 ⟨g, cp, rfl, own3, b3⟩
    have B3 := aside (bthen B1.out b3)
    have O3 := aside own3
    clear own3 b3 CK CP B1 HMM
    obtain ⟨n, hn⟩ : ∃ n, l.length = n := ⟨_, rfl⟩
    have HN0 := aside hn
    rw [hn] at O3 HLN0 ⊢
    clear hn
    have hln : (n : Int) ≤ 2147483648 := by have := HLN0.out; omega
    have BE := aside (bnew w3 (.cells #[] 9))
    have OE := aside (own_emptyS w3 w3.heap.size (Nat.le_refl _))
    go_wp2
    go_loopw [8, 9] (fun v i wr => ∃ k : Nat, i = .int .i64 (k : Int) ∧ k ≤ n ∧ wr.ownsRow w3.heap.size 9 1 v (dfP (l.take k)).length (strC (dfP (l.take k))) ∧ Below w3.heap.size w3 wr) (fun _ i _ => n - (intOf i).toNat)
    case atStart => exact ⟨0, rfl, Nat.zero_le _, OE.out, BE.out⟩
    case round =>
      obtain ⟨k, rfl, hk, hO, hB⟩ := hrel
      have HB := aside hB
      have HO := aside hO
      clear hB hO
      by_cases hlt : (k : Int) < (n : Int)
      · have hk0 : (0 : Int) ≤ (k : Int) := by omega
        obtain ⟨⟨x, y⟩, hp⟩ : ∃ p, l[k]? = some p := ⟨_, List.getElem?_eq_getElem (by rw [HN0.out]; omega)⟩
        have PCW := aside (fun W (bb : Below w3.heap.size w3 W) => pr_cells (own_on O3.out bb) hp)
        have HTW := aside (HPR.out _ (List.mem_of_getElem? hp))
        have HSZ := aside (show x.k.size ≤ 16 ∧ y.k.size ≤ 16 from HPZ.out _ (List.mem_of_getElem? hp))
        have HLN := aside (show (dfP (l.take k)).length ≤ 2147483648 from by have h1 := dfP_len (l.take k); have h2 := List.length_take_le k l; omega)
        have HTK := aside (show l.take (k + 1) = l.take k ++ [(x, y)] from by rw [List.take_add_one, hp]; rfl)
        clear hp
        obtain ⟨⟨c0, c1, c2, c3, c4⟩, c5, c6, c7, c8, c9⟩ := PCW.out _ HB.out
        have HSN0 := aside (show dfP (l.take (k + 1)) = dfP (l.take k) ++ (if vNe (x, y) then [(En.best x y).k] else []) from by rw [HTK.out, dfP_snoc])
        cases hv : vNe (x, y)
        · have hVN : ∀ w, (binOp .neq 53 (.agg #[.int .i64 x.c, .int .i64 x.n]) (.agg #[.int .i64 y.c, .int .i64 y.n])).run Tryd.prog w = .ok (.bool false) w := fun w => by
            rw [verne_run]
            have h1 : (!(x.c == y.c && x.n == y.n)) = vNe (x, y) := rfl
            rw [h1, hv]
          have HSN := aside (show dfP (l.take (k + 1)) = dfP (l.take k) from by rw [HSN0.out, hv]; simp)
          clear hv
          go_wp2_with fail
          refine wp_region_held_drew (S := fun W => Below w3.heap.size w3 W ∧ (W.cell? ⟨g, k * 10, none⟩ = some (.string x.k) ∧ W.cell? ⟨g, k * 10 + 1, none⟩ = some (.int .i64 x.c) ∧ W.cell? ⟨g, k * 10 + 2, none⟩ = some (.int .i64 x.n) ∧ W.cell? ⟨g, k * 10 + 3, none⟩ = some (.string x.v) ∧ W.cell? ⟨g, k * 10 + 4, none⟩ = some (.bool x.d)) ∧ W.cell? ⟨g, k * 10 + 5, none⟩ = some (.string y.k) ∧ W.cell? ⟨g, k * 10 + 6, none⟩ = some (.int .i64 y.c) ∧ W.cell? ⟨g, k * 10 + 7, none⟩ = some (.int .i64 y.n) ∧ W.cell? ⟨g, k * 10 + 8, none⟩ = some (.string y.v) ∧ W.cell? ⟨g, k * 10 + 9, none⟩ = some (.bool y.d)) (by kernel_rfl) ⟨HB.out.drew, PCW.out _ HB.out.drew⟩ (fun hHeld => ?_)
          refine wpAnyH_take (i := 0) (v := ?_) rfl (by kernel_rfl) (by kernel_rfl) (by kernel_rfl) (fun _ _ _ h => h) (Or.inl ⟨by rfl, ?_⟩) (by assumption) ?_
          rotate_left
          · intro w hSw
            go_simp
            try with_reducible rfl
          simp only [Act.put, List.getElem_toArray, List.getElem_cons_zero, List.setIfInBounds_toArray, List.set_cons_zero, List.set_cons_succ]
          refine wpAnyH_take (i := 1) (v := ?_) rfl (by kernel_rfl) (by kernel_rfl) (by kernel_rfl) (fun _ _ _ h => h) (Or.inl ⟨by rfl, ?_⟩) (by assumption) ?_
          rotate_left
          · intro w hSw
            go_simp
            try with_reducible rfl
          simp only [Act.put, List.getElem_toArray, List.getElem_cons_zero, List.getElem_cons_succ, List.setIfInBounds_toArray, List.set_cons_zero, List.set_cons_succ]
          refine wpAnyH_take (i := 2) (v := ?_) rfl (by kernel_rfl) (by kernel_rfl) (by kernel_rfl) (fun _ _ _ h => h) (Or.inl ⟨by rfl, ?_⟩) (by assumption) ?_
          rotate_left
          · intro w hSw
            go_simp
            try with_reducible rfl
          simp only [Act.put, List.getElem_toArray, List.getElem_cons_zero, List.getElem_cons_succ, List.setIfInBounds_toArray, List.set_cons_zero, List.set_cons_succ]
          refine wpAnyH_take (i := 3) (v := ?_) rfl (by kernel_rfl) (by kernel_rfl) (by kernel_rfl) (fun _ _ _ h => h) (Or.inl ⟨by rfl, ?_⟩) (by assumption) ?_
          rotate_left
          · intro w hSw
            go_simp
            try with_reducible rfl
          simp only [Act.put, List.getElem_toArray, List.getElem_cons_zero, List.getElem_cons_succ, List.setIfInBounds_toArray, List.set_cons_zero, List.set_cons_succ]
          refine wpAnyH_take (i := 4) (v := ?_) rfl (by kernel_rfl) (by kernel_rfl) (by kernel_rfl) (fun _ _ _ h => h) (Or.inl ⟨by rfl, ?_⟩) (by assumption) ?_
          rotate_left
          · intro w hSw
            go_simp
            try with_reducible rfl
          simp only [Act.put, List.getElem_toArray, List.getElem_cons_zero, List.getElem_cons_succ, List.setIfInBounds_toArray, List.set_cons_zero, List.set_cons_succ]
          refine wpAnyH_take (i := 5) (v := ?_) rfl (by kernel_rfl) (by kernel_rfl) (by kernel_rfl) (fun _ _ _ h => h) (Or.inl ⟨by rfl, ?_⟩) (by assumption) ?_
          rotate_left
          · intro w hSw
            go_simp
            try with_reducible rfl
          simp only [Act.put, List.getElem_toArray, List.getElem_cons_zero, List.getElem_cons_succ, List.setIfInBounds_toArray, List.set_cons_zero, List.set_cons_succ]
          refine wpAnyH_take (i := 6) (v := ?_) rfl (by kernel_rfl) (by kernel_rfl) (by kernel_rfl) (fun _ _ _ h => h) (Or.inl ⟨by rfl, ?_⟩) (by assumption) ?_
          rotate_left
          · intro w hSw
            go_simp
            try with_reducible rfl
          simp only [Act.put, List.getElem_toArray, List.getElem_cons_zero, List.getElem_cons_succ, List.setIfInBounds_toArray, List.set_cons_zero, List.set_cons_succ]
          refine wpAnyH_take (i := 7) (v := ?_) rfl (by kernel_rfl) (by kernel_rfl) (by kernel_rfl) (fun _ _ _ h => h) (Or.inl ⟨by rfl, ?_⟩) (by assumption) ?_
          rotate_left
          · intro w hSw
            go_simp
            try with_reducible rfl
          simp only [Act.put, List.getElem_toArray, List.getElem_cons_zero, List.getElem_cons_succ, List.setIfInBounds_toArray, List.set_cons_zero, List.set_cons_succ]
          refine wpAnyH_take (i := 8) (v := ?_) rfl (by kernel_rfl) (by kernel_rfl) (by kernel_rfl) (fun _ _ _ h => h) (Or.inl ⟨by rfl, ?_⟩) (by assumption) ?_
          rotate_left
          · intro w hSw
            go_simp
            try with_reducible rfl
          simp only [Act.put, List.getElem_toArray, List.getElem_cons_zero, List.getElem_cons_succ, List.setIfInBounds_toArray, List.set_cons_zero, List.set_cons_succ]
          refine wpAnyH_take (i := 9) (v := ?_) rfl (by kernel_rfl) (by kernel_rfl) (by kernel_rfl) (fun _ _ _ h => h) (Or.inl ⟨by rfl, ?_⟩) (by assumption) ?_
          rotate_left
          · intro w hSw
            go_simp
            try with_reducible rfl
          simp only [Act.put, List.getElem_toArray, List.getElem_cons_zero, List.getElem_cons_succ, List.setIfInBounds_toArray, List.set_cons_zero, List.set_cons_succ]
          refine wpAnyH_take (i := 10) (v := ?_) rfl (by kernel_rfl) (by kernel_rfl) (by kernel_rfl) (fun _ _ _ h => h) (Or.inl ⟨by rfl, ?_⟩) (by assumption) ?_
          rotate_left
          · intro w hSw
            go_simp
            try with_reducible rfl
          simp only [Act.put, List.getElem_toArray, List.getElem_cons_zero, List.getElem_cons_succ, List.setIfInBounds_toArray, List.set_cons_zero, List.set_cons_succ]
          refine wpAnyH_take (i := 11) (v := ?_) rfl (by kernel_rfl) (by kernel_rfl) (by kernel_rfl) (fun _ _ _ h => h) (Or.inl ⟨by rfl, ?_⟩) (by assumption) ?_
          rotate_left
          · intro w hSw
            go_simp
            try with_reducible rfl
          simp only [Act.put, List.getElem_toArray, List.getElem_cons_zero, List.getElem_cons_succ, List.setIfInBounds_toArray, List.set_cons_zero, List.set_cons_succ]
          refine wpAnyH_take (i := 12) (v := .bool false) rfl (by kernel_rfl) (by kernel_rfl) (by kernel_rfl) (fun _ _ _ h => h) (Or.inl ⟨by rfl, ?_⟩) (by assumption) ?_
          · intro w hSw
            go_simp
          simp only [Act.put, List.getElem_toArray, List.getElem_cons_zero, List.getElem_cons_succ, List.setIfInBounds_toArray, List.set_cons_zero, List.set_cons_succ]
          refine wpAnyH_done (by kernel_rfl) ?_ _
          replace HO := aside (own_on HO.out (Below.refl _ wr).drew)
          replace HB := aside hHeld.1
          clear hHeld c0 c1 c2 c3 c4 c5 c6 c7 c8 c9 hVN
          go_wp2
          go_roundw
          case rel => exact ⟨k + 1, by go_num, by omega, by rw [HSN.out]; exact HO.out, HB.out⟩
          case measure => simp [intOf]; omega
        · have hVN : ∀ w, (binOp .neq 53 (.agg #[.int .i64 x.c, .int .i64 x.n]) (.agg #[.int .i64 y.c, .int .i64 y.n])).run Tryd.prog w = .ok (.bool true) w := fun w => by
            rw [verne_run]
            have h1 : (!(x.c == y.c && x.n == y.n)) = vNe (x, y) := rfl
            rw [h1, hv]
          obtain ⟨s, hs⟩ : ∃ s, x.k ++ y.k = s := ⟨_, rfl⟩
          have HSS := aside hs
          have hadd : ∀ wx, (Op.stringOp .add x.k y.k).run Tryd.prog wx = .ok (.string s) wx := fun wx => by
            rw [← hs]
            exact run_string_add_sum wx x.k y.k (by have h1 := HSZ.out; omega)
          have HSN1 := aside (show dfP (l.take (k + 1)) = dfP (l.take k) ++ [(En.best x y).k] from by rw [HSN0.out, hv]; simp)
          clear hv hs
          go_wp2_with fail
          refine wp_region_held_drew (S := fun W => Below w3.heap.size w3 W ∧ (W.cell? ⟨g, k * 10, none⟩ = some (.string x.k) ∧ W.cell? ⟨g, k * 10 + 1, none⟩ = some (.int .i64 x.c) ∧ W.cell? ⟨g, k * 10 + 2, none⟩ = some (.int .i64 x.n) ∧ W.cell? ⟨g, k * 10 + 3, none⟩ = some (.string x.v) ∧ W.cell? ⟨g, k * 10 + 4, none⟩ = some (.bool x.d)) ∧ W.cell? ⟨g, k * 10 + 5, none⟩ = some (.string y.k) ∧ W.cell? ⟨g, k * 10 + 6, none⟩ = some (.int .i64 y.c) ∧ W.cell? ⟨g, k * 10 + 7, none⟩ = some (.int .i64 y.n) ∧ W.cell? ⟨g, k * 10 + 8, none⟩ = some (.string y.v) ∧ W.cell? ⟨g, k * 10 + 9, none⟩ = some (.bool y.d)) (by kernel_rfl) ⟨HB.out.drew, PCW.out _ HB.out.drew⟩ (fun hHeld => ?_)
          refine wpAnyH_take (i := 0) (v := ?_) rfl (by kernel_rfl) (by kernel_rfl) (by kernel_rfl) (fun _ _ _ h => h) (Or.inl ⟨by rfl, ?_⟩) (by assumption) ?_
          rotate_left
          · intro w hSw
            go_simp
            try with_reducible rfl
          simp only [Act.put, List.getElem_toArray, List.getElem_cons_zero, List.setIfInBounds_toArray, List.set_cons_zero, List.set_cons_succ]
          refine wpAnyH_take (i := 1) (v := ?_) rfl (by kernel_rfl) (by kernel_rfl) (by kernel_rfl) (fun _ _ _ h => h) (Or.inl ⟨by rfl, ?_⟩) (by assumption) ?_
          rotate_left
          · intro w hSw
            go_simp
            try with_reducible rfl
          simp only [Act.put, List.getElem_toArray, List.getElem_cons_zero, List.getElem_cons_succ, List.setIfInBounds_toArray, List.set_cons_zero, List.set_cons_succ]
          refine wpAnyH_take (i := 2) (v := ?_) rfl (by kernel_rfl) (by kernel_rfl) (by kernel_rfl) (fun _ _ _ h => h) (Or.inl ⟨by rfl, ?_⟩) (by assumption) ?_
          rotate_left
          · intro w hSw
            go_simp
            try with_reducible rfl
          simp only [Act.put, List.getElem_toArray, List.getElem_cons_zero, List.getElem_cons_succ, List.setIfInBounds_toArray, List.set_cons_zero, List.set_cons_succ]
          refine wpAnyH_take (i := 3) (v := ?_) rfl (by kernel_rfl) (by kernel_rfl) (by kernel_rfl) (fun _ _ _ h => h) (Or.inl ⟨by rfl, ?_⟩) (by assumption) ?_
          rotate_left
          · intro w hSw
            go_simp
            try with_reducible rfl
          simp only [Act.put, List.getElem_toArray, List.getElem_cons_zero, List.getElem_cons_succ, List.setIfInBounds_toArray, List.set_cons_zero, List.set_cons_succ]
          refine wpAnyH_take (i := 4) (v := ?_) rfl (by kernel_rfl) (by kernel_rfl) (by kernel_rfl) (fun _ _ _ h => h) (Or.inl ⟨by rfl, ?_⟩) (by assumption) ?_
          rotate_left
          · intro w hSw
            go_simp
            try with_reducible rfl
          simp only [Act.put, List.getElem_toArray, List.getElem_cons_zero, List.getElem_cons_succ, List.setIfInBounds_toArray, List.set_cons_zero, List.set_cons_succ]
          refine wpAnyH_take (i := 5) (v := ?_) rfl (by kernel_rfl) (by kernel_rfl) (by kernel_rfl) (fun _ _ _ h => h) (Or.inl ⟨by rfl, ?_⟩) (by assumption) ?_
          rotate_left
          · intro w hSw
            go_simp
            try with_reducible rfl
          simp only [Act.put, List.getElem_toArray, List.getElem_cons_zero, List.getElem_cons_succ, List.setIfInBounds_toArray, List.set_cons_zero, List.set_cons_succ]
          refine wpAnyH_take (i := 6) (v := ?_) rfl (by kernel_rfl) (by kernel_rfl) (by kernel_rfl) (fun _ _ _ h => h) (Or.inl ⟨by rfl, ?_⟩) (by assumption) ?_
          rotate_left
          · intro w hSw
            go_simp
            try with_reducible rfl
          simp only [Act.put, List.getElem_toArray, List.getElem_cons_zero, List.getElem_cons_succ, List.setIfInBounds_toArray, List.set_cons_zero, List.set_cons_succ]
          refine wpAnyH_take (i := 7) (v := ?_) rfl (by kernel_rfl) (by kernel_rfl) (by kernel_rfl) (fun _ _ _ h => h) (Or.inl ⟨by rfl, ?_⟩) (by assumption) ?_
          rotate_left
          · intro w hSw
            go_simp
            try with_reducible rfl
          simp only [Act.put, List.getElem_toArray, List.getElem_cons_zero, List.getElem_cons_succ, List.setIfInBounds_toArray, List.set_cons_zero, List.set_cons_succ]
          refine wpAnyH_take (i := 8) (v := ?_) rfl (by kernel_rfl) (by kernel_rfl) (by kernel_rfl) (fun _ _ _ h => h) (Or.inl ⟨by rfl, ?_⟩) (by assumption) ?_
          rotate_left
          · intro w hSw
            go_simp
            try with_reducible rfl
          simp only [Act.put, List.getElem_toArray, List.getElem_cons_zero, List.getElem_cons_succ, List.setIfInBounds_toArray, List.set_cons_zero, List.set_cons_succ]
          refine wpAnyH_take (i := 9) (v := ?_) rfl (by kernel_rfl) (by kernel_rfl) (by kernel_rfl) (fun _ _ _ h => h) (Or.inl ⟨by rfl, ?_⟩) (by assumption) ?_
          rotate_left
          · intro w hSw
            go_simp
            try with_reducible rfl
          simp only [Act.put, List.getElem_toArray, List.getElem_cons_zero, List.getElem_cons_succ, List.setIfInBounds_toArray, List.set_cons_zero, List.set_cons_succ]
          refine wpAnyH_take (i := 10) (v := ?_) rfl (by kernel_rfl) (by kernel_rfl) (by kernel_rfl) (fun _ _ _ h => h) (Or.inl ⟨by rfl, ?_⟩) (by assumption) ?_
          rotate_left
          · intro w hSw
            go_simp
            try with_reducible rfl
          simp only [Act.put, List.getElem_toArray, List.getElem_cons_zero, List.getElem_cons_succ, List.setIfInBounds_toArray, List.set_cons_zero, List.set_cons_succ]
          refine wpAnyH_take (i := 11) (v := ?_) rfl (by kernel_rfl) (by kernel_rfl) (by kernel_rfl) (fun _ _ _ h => h) (Or.inl ⟨by rfl, ?_⟩) (by assumption) ?_
          rotate_left
          · intro w hSw
            go_simp
            try with_reducible rfl
          simp only [Act.put, List.getElem_toArray, List.getElem_cons_zero, List.getElem_cons_succ, List.setIfInBounds_toArray, List.set_cons_zero, List.set_cons_succ]
          refine wpAnyH_take (i := 12) (v := .bool true) rfl (by kernel_rfl) (by kernel_rfl) (by kernel_rfl) (fun _ _ _ h => h) (Or.inl ⟨by rfl, ?_⟩) (by assumption) ?_
          · intro w hSw
            go_simp
          simp only [Act.put, List.getElem_toArray, List.getElem_cons_zero, List.getElem_cons_succ, List.setIfInBounds_toArray, List.set_cons_zero, List.set_cons_succ]
          refine wpAnyH_done (by kernel_rfl) ?_ _
          replace HO := aside (own_on HO.out (Below.refl _ wr).drew)
          replace HB := aside hHeld.1
          clear hHeld c0 c1 c2 c3 c4 c5 c6 c7 c8 c9 hVN
          generalize wr.drew = w8 at *
          obtain ⟨nk, hnk⟩ : ∃ n, (dfP (l.take k)).length = n := ⟨_, rfl⟩
          have HNK := aside hnk
          rw [hnk] at HO HLN
          clear hnk
          go_wp2_with fail
          refine wp_region_held_drew (S := fun W => Below w3.heap.size w3 W ∧ (W.cell? ⟨g, k * 10, none⟩ = some (.string x.k) ∧ W.cell? ⟨g, k * 10 + 1, none⟩ = some (.int .i64 x.c) ∧ W.cell? ⟨g, k * 10 + 2, none⟩ = some (.int .i64 x.n) ∧ W.cell? ⟨g, k * 10 + 3, none⟩ = some (.string x.v) ∧ W.cell? ⟨g, k * 10 + 4, none⟩ = some (.bool x.d)) ∧ W.cell? ⟨g, k * 10 + 5, none⟩ = some (.string y.k) ∧ W.cell? ⟨g, k * 10 + 6, none⟩ = some (.int .i64 y.c) ∧ W.cell? ⟨g, k * 10 + 7, none⟩ = some (.int .i64 y.n) ∧ W.cell? ⟨g, k * 10 + 8, none⟩ = some (.string y.v) ∧ W.cell? ⟨g, k * 10 + 9, none⟩ = some (.bool y.d)) (by kernel_rfl) ⟨HB.out.drew, PCW.out _ HB.out.drew⟩ (fun hHeld => ?_)
          refine wpAnyH_take (i := 0) (v := ?_) rfl (by kernel_rfl) (by kernel_rfl) (by kernel_rfl) (fun _ _ _ h => h) (Or.inl ⟨by rfl, ?_⟩) (by assumption) ?_
          rotate_left
          · intro w hSw
            go_simp
            try with_reducible rfl
          simp only [Act.put, List.getElem_toArray, List.getElem_cons_zero, List.setIfInBounds_toArray, List.set_cons_zero, List.set_cons_succ]
          refine wpAnyH_take (i := 1) (v := ?_) rfl (by kernel_rfl) (by kernel_rfl) (by kernel_rfl) (fun _ _ _ h => h) (Or.inl ⟨by rfl, ?_⟩) (by assumption) ?_
          rotate_left
          · intro w hSw
            go_simp
            try with_reducible rfl
          simp only [Act.put, List.getElem_toArray, List.getElem_cons_zero, List.getElem_cons_succ, List.setIfInBounds_toArray, List.set_cons_zero, List.set_cons_succ]
          refine wpAnyH_take (i := 2) (v := ?_) rfl (by kernel_rfl) (by kernel_rfl) (by kernel_rfl) (fun _ _ _ h => h) (Or.inl ⟨by rfl, ?_⟩) (by assumption) ?_
          rotate_left
          · intro w hSw
            go_simp
            try with_reducible rfl
          simp only [Act.put, List.getElem_toArray, List.getElem_cons_zero, List.getElem_cons_succ, List.setIfInBounds_toArray, List.set_cons_zero, List.set_cons_succ]
          refine wpAnyH_take (i := 3) (v := ?_) rfl (by kernel_rfl) (by kernel_rfl) (by kernel_rfl) (fun _ _ _ h => h) (Or.inl ⟨by rfl, ?_⟩) (by assumption) ?_
          rotate_left
          · intro w hSw
            go_simp
            try with_reducible rfl
          simp only [Act.put, List.getElem_toArray, List.getElem_cons_zero, List.getElem_cons_succ, List.setIfInBounds_toArray, List.set_cons_zero, List.set_cons_succ]
          refine wpAnyH_take (i := 4) (v := ?_) rfl (by kernel_rfl) (by kernel_rfl) (by kernel_rfl) (fun _ _ _ h => h) (Or.inl ⟨by rfl, ?_⟩) (by assumption) ?_
          rotate_left
          · intro w hSw
            go_simp
            try with_reducible rfl
          simp only [Act.put, List.getElem_toArray, List.getElem_cons_zero, List.getElem_cons_succ, List.setIfInBounds_toArray, List.set_cons_zero, List.set_cons_succ]
          refine wpAnyH_take (i := 5) (v := ?_) rfl (by kernel_rfl) (by kernel_rfl) (by kernel_rfl) (fun _ _ _ h => h) (Or.inl ⟨by rfl, ?_⟩) (by assumption) ?_
          rotate_left
          · intro w hSw
            go_simp
            try with_reducible rfl
          simp only [Act.put, List.getElem_toArray, List.getElem_cons_zero, List.getElem_cons_succ, List.setIfInBounds_toArray, List.set_cons_zero, List.set_cons_succ]
          refine wpAnyH_take (i := 6) (v := ?_) rfl (by kernel_rfl) (by kernel_rfl) (by kernel_rfl) (fun _ _ _ h => h) (Or.inl ⟨by rfl, ?_⟩) (by assumption) ?_
          rotate_left
          · intro w hSw
            go_simp
            try with_reducible rfl
          simp only [Act.put, List.getElem_toArray, List.getElem_cons_zero, List.getElem_cons_succ, List.setIfInBounds_toArray, List.set_cons_zero, List.set_cons_succ]
          refine wpAnyH_take (i := 7) (v := ?_) rfl (by kernel_rfl) (by kernel_rfl) (by kernel_rfl) (fun _ _ _ h => h) (Or.inl ⟨by rfl, ?_⟩) (by assumption) ?_
          rotate_left
          · intro w hSw
            go_simp
            try with_reducible rfl
          simp only [Act.put, List.getElem_toArray, List.getElem_cons_zero, List.getElem_cons_succ, List.setIfInBounds_toArray, List.set_cons_zero, List.set_cons_succ]
          refine wpAnyH_take (i := 8) (v := ?_) rfl (by kernel_rfl) (by kernel_rfl) (by kernel_rfl) (fun _ _ _ h => h) (Or.inl ⟨by rfl, ?_⟩) (by assumption) ?_
          rotate_left
          · intro w hSw
            go_simp
            try with_reducible rfl
          simp only [Act.put, List.getElem_toArray, List.getElem_cons_zero, List.getElem_cons_succ, List.setIfInBounds_toArray, List.set_cons_zero, List.set_cons_succ]
          refine wpAnyH_take (i := 9) (v := ?_) rfl (by kernel_rfl) (by kernel_rfl) (by kernel_rfl) (fun _ _ _ h => h) (Or.inl ⟨by rfl, ?_⟩) (by assumption) ?_
          rotate_left
          · intro w hSw
            go_simp
            try with_reducible rfl
          simp only [Act.put, List.getElem_toArray, List.getElem_cons_zero, List.getElem_cons_succ, List.setIfInBounds_toArray, List.set_cons_zero, List.set_cons_succ]
          refine wpAnyH_take (i := 10) (v := ?_) rfl (by kernel_rfl) (by kernel_rfl) (by kernel_rfl) (fun _ _ _ h => h) (Or.inl ⟨by rfl, ?_⟩) (by assumption) ?_
          rotate_left
          · intro w hSw
            go_simp
            try with_reducible rfl
          simp only [Act.put, List.getElem_toArray, List.getElem_cons_zero, List.getElem_cons_succ, List.setIfInBounds_toArray, List.set_cons_zero, List.set_cons_succ]
          refine wpAnyH_take (i := 11) (v := ?_) rfl (by kernel_rfl) (by kernel_rfl) (by kernel_rfl) (fun _ _ _ h => h) (Or.inl ⟨by rfl, ?_⟩) (by assumption) ?_
          rotate_left
          · intro w hSw
            go_simp
            try with_reducible rfl
          simp only [Act.put, List.getElem_toArray, List.getElem_cons_zero, List.getElem_cons_succ, List.setIfInBounds_toArray, List.set_cons_zero, List.set_cons_succ]
          refine wpAnyH_take (i := 12) (v := ?_) rfl (by kernel_rfl) (by kernel_rfl) (by kernel_rfl) (fun _ _ _ h => h) (Or.inl ⟨by rfl, ?_⟩) (by assumption) ?_
          rotate_left
          · intro w hSw
            go_simp
            try with_reducible rfl
          simp only [Act.put, List.getElem_toArray, List.getElem_cons_zero, List.getElem_cons_succ, List.setIfInBounds_toArray, List.set_cons_zero, List.set_cons_succ]
          refine wpAnyH_take (i := 13) (v := .string s) rfl (by kernel_rfl) (by kernel_rfl) (by kernel_rfl) (fun _ _ _ h => h) (Or.inl ⟨by rfl, ?_⟩) (by assumption) ?_
          · intro w hSw
            go_simp
          simp only [Act.put, List.getElem_toArray, List.getElem_cons_zero, List.getElem_cons_succ, List.setIfInBounds_toArray, List.set_cons_zero, List.set_cons_succ]
          replace HO := aside (own_on HO.out (Below.refl _ w8).drew)
          clear hadd
          generalize w8.drew = w9 at *
          refine wpAnyH_ready (rs := [14]) (by kernel_rfl) (by simp) ?_
          refine AllReadyH.cons rfl (fun K hK => ?_) AllReadyH.nil
          go_simp
          have bN := bnew w9 (.cells #[.string s] 9)
          have hH2 := aside (show Below w3.heap.size w3 (w9.alloc (.cells #[.string s] 9)) from hHeld.1.trans (bN.mono hHeld.1.size))
          refine hK.out _ _ ⟨hH2.out, PCW.out _ hH2.out⟩ (fun hHeld => ?_)
          clear hK K
          refine wpAnyH_ready (rs := [15]) (by kernel_rfl) (by simp) ?_
          refine AllReadyH.cons rfl (fun K hK => ?_) AllReadyH.nil
          refine op_append_str _ _ rfl w3.heap.size _ _ _ (by rfl) (HO.out.alloc (.cells #[.string s] 9)) w9.heap.size 1 s (by rfl) (heap_alloc_new w9 (.cells #[.string s] 9)) (by have := HLN.out; omega) (by have := hH2.out.size; simp at this ⊢; omega) ?_
          intro g1 cp1 w4 own4 gr4
          have B4 := aside (hH2.out.grown gr4 hH2.out.size (fun k e => (HO.out.lt k e).1))
          refine hK.out _ _ ⟨B4.out, PCW.out _ B4.out⟩ (fun hHeld => ?_)
          have O4 := aside own4
          clear hK K own4 gr4
          simp only [Act.put, List.getElem_toArray, List.getElem_cons_zero, List.getElem_cons_succ, List.setIfInBounds_toArray, List.set_cons_zero, List.set_cons_succ]
          refine wpAnyH_take (i := 16) (v := ?_) rfl (by kernel_rfl) (by kernel_rfl) (by kernel_rfl) (fun _ _ _ h => h) (Or.inl ⟨by rfl, ?_⟩) (by assumption) ?_
          rotate_left
          · intro w hSw
            go_simp
            try with_reducible rfl
          simp only [Act.put, List.getElem_toArray, List.getElem_cons_zero, List.getElem_cons_succ, List.setIfInBounds_toArray, List.set_cons_zero, List.set_cons_succ]
          refine wpAnyH_done (by kernel_rfl) ?_ _
          clear hHeld hH2 HO HB
          obtain ⟨⟨c0, c1, c2, c3, c4⟩, c5, c6, c7, c8, c9⟩ := PCW.out _ B4.out
          rcases HTW.out with ⟨h1, h2, -, -, hk2⟩ | ⟨h1, h2, hy⟩ | ⟨hx, h1, h2⟩
          · have CNx := aside (fun W => none_any x W (q := false) (by simp; omega))
            have CNy := aside (fun W => none_any y W (q := false) (by simp; omega))
            have HSN := aside (show dfP (l.take (k + 1)) = dfP (l.take k) ++ [x.k] from by
              rw [HSN1.out]
              rcases best_pick x y with ⟨e, _⟩ | ⟨e, _⟩ <;> rw [e]
              rw [show y.k = x.k from hk2.symm])
            clear h1 h2 hk2
            go_wp2_with fail
            refine (CNx.out _).mono ?_
            rintro e w5 ⟨rfl, bb⟩
            replace O4 := aside (own_on O4.out bb)
            replace B4 := aside (bthen B4.out bb)
            clear bb c0 c1 c2 c3 c4 c5 c6 c7 c8 c9 CNx
            obtain ⟨⟨c0, c1, c2, c3, c4⟩, c5, c6, c7, c8, c9⟩ := PCW.out _ B4.out
            go_wp2_with fail
            refine (CNy.out _).mono ?_
            rintro e w6 ⟨rfl, bb⟩
            replace O4 := aside (own_on O4.out bb)
            replace B4 := aside (bthen B4.out bb)
            clear bb c0 c1 c2 c3 c4 c5 c6 c7 c8 c9 CNy
            obtain ⟨⟨c0, c1, c2, c3, c4⟩, c5, c6, c7, c8, c9⟩ := PCW.out _ B4.out
            obtain ⟨oc, fz, oo⟩ := own_last (t := x.k) O4.out HNK.out
            have OO := aside oo
            have hwn : IntKind.i64.wrap ((nk : Int) + 1 - 1) = (nk : Int) := by have := HLN.out; rw [IntKind.wrap_i64]; omega
            have hwn2 : IntKind.i64.wrap (nk : Int) = (nk : Int) := by have := HLN.out; rw [IntKind.wrap_i64]; omega
            have hn0 : (0 : Int) ≤ (nk : Int) := by omega
            have hn1 : (nk : Int) < (nk : Int) + 1 := by omega
            have B5 := aside (B4.out.setCell (p := ⟨g1, nk, none⟩) (O4.out.lt g1 rfl).1 (.string x.k))
            clear oo
            go_wp2
            go_roundw
            case rel => exact ⟨k + 1, by go_num, by omega, by rw [HSN.out, List.length_append, HNK.out]; exact OO.out, B5.out⟩
            case measure => simp [intOf]; omega
          · have CNx := aside (fun W => none_any x W (q := false) (by simp; omega))
            have CNy := aside (fun W => none_any y W (q := true) (by rw [hy]; rfl))
            have HSN := aside (show dfP (l.take (k + 1)) = dfP (l.take k) ++ [s] from by
              rw [HSN1.out, ← HSS.out, hy, best_zr ⟨h1, h2⟩]
              show _ ++ [x.k] = _ ++ [x.k ++ (⟨#[]⟩ : ByteArray)]
              rw [ba_nil_r])
            clear h1 h2 hy
            go_wp2_with fail
            refine (CNx.out _).mono ?_
            rintro e w5 ⟨rfl, bb⟩
            replace O4 := aside (own_on O4.out bb)
            replace B4 := aside (bthen B4.out bb)
            clear bb c0 c1 c2 c3 c4 c5 c6 c7 c8 c9 CNx
            obtain ⟨⟨c0, c1, c2, c3, c4⟩, c5, c6, c7, c8, c9⟩ := PCW.out _ B4.out
            go_wp2_with fail
            refine (CNy.out _).mono ?_
            rintro e w6 ⟨rfl, bb⟩
            replace O4 := aside (own_on O4.out bb)
            replace B4 := aside (bthen B4.out bb)
            clear bb c0 c1 c2 c3 c4 c5 c6 c7 c8 c9 CNy
            obtain ⟨⟨c0, c1, c2, c3, c4⟩, c5, c6, c7, c8, c9⟩ := PCW.out _ B4.out
            clear c0 c1 c2 c3 c4 c5 c6 c7 c8 c9
            go_wp2
            go_roundw
            case rel => exact ⟨k + 1, by go_num, by omega, by rw [HSN.out, List.length_append, HNK.out]; exact O4.out, B4.out⟩
            case measure => simp [intOf]; omega
          · have CNx := aside (fun W => none_any x W (q := true) (by rw [hx]; rfl))
            have HSN := aside (show dfP (l.take (k + 1)) = dfP (l.take k) ++ [s] from by
              rw [HSN1.out, ← HSS.out, hx, best_zl ⟨h1, h2⟩]
              show _ ++ [y.k] = _ ++ [(⟨#[]⟩ : ByteArray) ++ y.k]
              rw [ba_nil_l])
            clear h1 h2 hx
            go_wp2_with fail
            refine (CNx.out _).mono ?_
            rintro e w5 ⟨rfl, bb⟩
            replace O4 := aside (own_on O4.out bb)
            replace B4 := aside (bthen B4.out bb)
            clear bb c0 c1 c2 c3 c4 c5 c6 c7 c8 c9 CNx
            obtain ⟨⟨c0, c1, c2, c3, c4⟩, c5, c6, c7, c8, c9⟩ := PCW.out _ B4.out
            clear c0 c1 c2 c3 c4 c5 c6 c7 c8 c9
            go_wp2
            go_roundw
            case rel => exact ⟨k + 1, by go_num, by omega, by rw [HSN.out, List.length_append, HNK.out]; exact O4.out, B4.out⟩
            case measure => simp [intOf]; omega
      · have hkl : k = n := by omega
        subst hkl
        have hT : l.take k = l := List.take_of_length_le (by rw [HN0.out]; exact Nat.le_refl _)
        rw [hT] at HO
        replace HO := aside (own_low HO.out B3.out.size)
        clear hT
        go_wp2
        go_ret2
        exact ⟨_, rfl, HO.out, bthen B3.out HB.out⟩
  · have h0' : (q == 0) = false := by simpa using h0
    rw [outL_bad _ h0]
    clear h0 CP HMM
    go_enter Tryd.func43, Tryd.ntmps43
    go_wp2_with fail
    refine CK.out.mono ?_
    rintro e w1 ⟨rfl, b1⟩
    have B1 := aside b1
    clear b1 CK
    go_wp2
    go_ret2
    exact ⟨_, rfl, World.ownsRow_nil _ _ _ _, B1.out⟩
end Go.Proofs.YtfkdhambbpkmpaaDoor
namespace Go.Proofs.YtfkdhambbpkmpaaDoor
open Go.RowKit
set_option linter.unusedVariables false
end Go.Proofs.YtfkdhambbpkmpaaDoor
namespace Go.Proofs.YtfkdhambbpkmpaaDoor
open Go.RowKit
set_option linter.unusedVariables false
end Go.Proofs.YtfkdhambbpkmpaaDoor
namespace Go.Proofs.YtfkdhambbpkmpaaDoor
open Go.RowKit
set_option linter.unusedVariables false
end Go.Proofs.YtfkdhambbpkmpaaDoor
