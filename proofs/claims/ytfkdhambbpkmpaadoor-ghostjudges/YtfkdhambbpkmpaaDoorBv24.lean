/-
  A session between two maps: the code's.
-/
import Derived.Test.YtfkdhambbpkmpaaDoorBv22
import Derived.Test.YtfkdhambbpkmpaaDoorBv23
namespace Go.Proofs.YtfkdhambbpkmpaaDoor
open Go.RowKit
set_option linter.unusedVariables false
theorem noGoto_retG {Q : Exit → Act → World → Prop} {a : Act} {w : World} (h : Q .ret a w) : Exit.noGoto Q .ret a w := h
theorem vNe_turn (p : En × En) : vNe (p.2, p.1) = vNe p := by
  unfold vNe
  rw [@BEq.comm _ _ _ p.2.c p.1.c, @BEq.comm _ _ _ p.2.n p.1.n]
theorem dfP_turn (a b : List En) : (dfP (prs b a)).length = (dfP (prs a b)).length := by
  rw [prs_swap19 a b]
  unfold dfP
  rw [List.length_map, List.length_map, List.filter_map, List.length_map]
  congr 1
  exact List.filter_congr (fun p _ => vNe_turn p)
/-- Where a session stands, by its maps alone. -/
structure TwPl (b lf n : Nat) (ans : Option Rg) (P Q : List En) (L : List Rg) : Prop where
  mp : MapL P
  mq : MapL Q
  np : P.length ≤ 256
  nq : Q.length ≤ 256
  sp : sumIn L P ≤ 256
  sq : sumIn L Q ≤ 256
  ok : ∀ r ∈ L, TwOk P Q n r
  ans : twGo b lf n P Q L = ans
theorem TwPl.turn {b lf n : Nat} {ans : Option Rg} {P Q : List En} {L : List Rg} (h : TwPl b lf (n + 1) ans P Q L) (hb : 2 ≤ b) (hlf : 1 ≤ lf) (hL : L ≠ []) (hf : L.find? (twBad P Q) = none) : TwPl b lf n ans Q P (L.flatMap (twOut b lf P Q)) :=
  ⟨h.mq, h.mp, h.nq, h.np, Nat.le_trans (out_sum h.mp hb Q (fun r hr => (h.ok r hr).may)) h.sq, Nat.le_trans (out_sum h.mp hb P (fun r hr => (h.ok r hr).may)) h.sp, tw_turn h.mp hb hlf h.ok, by rw [← twGo_on hL hf]; exact h.ans⟩
theorem TwPl.first {b lf : Nat} {A B : List En} (mA : MapL A) (mB : MapL B) (lA : A.length ≤ 256) (lB : B.length ≤ 256) : TwPl b lf (A.length + B.length + 1) (twGo b lf (A.length + B.length + 1) B A [wholeR]) B A [wholeR] :=
  ⟨mB, mA, lB, lA, by rw [sum_whole mB]; exact lB, by rw [sum_whole mA]; exact lA, tw_first mA mB, rfl⟩
set_option maxHeartbeats 400000 in
theorem whole19_any (w : World) : Calls Tryd.prog 39 #[] w fun e w' => e = .returned (.agg #[.string ⟨#[]⟩, .string ⟨#[]⟩, .bool true]) ∧ Below w.heap.size w w' := by
  go_enter Tryd.func39, Tryd.ntmps39
  go_wp2
  obtain ⟨s0, s1, s2⟩ := box3r (heap_alloc_new w (.cells #[.string ⟨#[]⟩, .string ⟨#[]⟩, .bool true] 26))
  exact bodyPost_ret (v := .agg #[.string ⟨#[]⟩, .string ⟨#[]⟩, .bool true]) (by simp [results, Tryd.results39, go_sem, s0, s1, s2]) rfl ⟨rfl, bnew w _⟩
/-- What a list comes to, by what is in it. -/
theorem tall_ls {w : World} {a : Option Addr} {n c : Nat} {l : List En} (L : Lanes w) (h : LsIn w a n c l) : Calls Tryd.prog 13 #[.slice a n c] w fun e w' => e = .returned (.agg #[.int .i64 (l.length : Int), .int .u64 (allI f0 l), .int .u64 (allI f1 l)]) ∧ Below w.heap.size w w' := by
  obtain ⟨T, hE, rfl⟩ := h
  rw [firstE_len]
  exact tall_any a n c T w L hE
theorem unlike_ls {w : World} {a : Option Addr} {n c : Nat} {l : List En} {b : Option Addr} {m d : Nat} {k : List En} (hA : LsIn w a n c l) (hB : LsIn w b m d k) (ml : MapL l) (mk : MapL k) (hn : n + m ≤ 2147483648) : Calls Tryd.prog 33 #[.slice a n c, .slice b m d] w fun e w' => e = .returned (.bool (decide (0 < (dfP (prs l k)).length))) ∧ Below w.heap.size w w' := by
  obtain ⟨T, hE, rfl⟩ := hA
  obtain ⟨U, hF, rfl⟩ := hB
  have h := unlike_any a n c T b m d U w hE hF hn
  rwa [ck2_ok.2 ⟨ml, mk⟩, outL_ok _ rfl] at h
set_option maxHeartbeats 16000000 in
set_option maxRecDepth 100000 in
theorem first_any (a : Option Addr) (la ca : Nat) (A : List En) (b : Option Addr) (lb cb : Nat) (B : List En) (bn fn : Nat) (w : World) (hA : LsIn w a la ca A) (hB : LsIn w b lb cb B) (mA : MapL A) (mB : MapL B) (lA : la ≤ 256) (lB : lb ≤ 256) (hok : (2 ≤ bn ∧ bn ≤ 16) ∧ (1 ≤ fn ∧ fn ≤ 32)) (L : Lanes w) :
    Calls Tryd.prog 21 #[.slice a la ca, .slice b lb cb, .int .i64 (bn : Int), .int .i64 (fn : Int)] w fun e w' => e = .returned (.tuple #[rgV (twGo bn fn (A.length + B.length + 1) B A [wholeR]), .bool (twGo bn fn (A.length + B.length + 1) B A [wholeR]).isSome]) ∧ Below w.heap.size w w' := by
  have T0 := aside (TwPl.first (b := bn) (lf := fn) mA mB (by rw [hA.len]; exact lA) (by rw [hB.len]; exact lB))
  obtain ⟨ans, hans⟩ : ∃ x, twGo bn fn (A.length + B.length + 1) B A [wholeR] = x := ⟨_, rfl⟩
  rw [hans] at T0 ⊢
  obtain ⟨N0, hN0⟩ : ∃ n, A.length + B.length + 1 = n := ⟨_, rfl⟩
  rw [hN0] at T0
  have HOK := aside hok
  have LL := aside L
  have N1 := bnew w (.cells #[.string ⟨#[]⟩, .string ⟨#[]⟩, .bool false] 26)
  have KR := aside (heap_alloc_new w (.cells #[.string ⟨#[]⟩, .string ⟨#[]⟩, .bool false] 26))
  have BW := aside N1
  have HG0 := aside (show PtIn (w.alloc (.cells #[.string ⟨#[]⟩, .string ⟨#[]⟩, .bool false] 26)) B A ⟨wholeR, a, la, ca, b, lb, cb⟩ from ⟨by rw [whole_in mA]; exact hA.on N1, by rw [whole_in mB]; exact hB.on N1⟩)
  have CW := aside (fun W => whole19_any W)
  clear hA hB mA mB lA lB hok L N1 hans hN0
  go_enter Tryd.func21, Tryd.ntmps21
  go_wp2_with fail
  refine (CW.out _).mono ?_
  rintro e w1 ⟨rfl, b1⟩
  have NP := bnew w1 (.cells #[.string ⟨#[]⟩, .string ⟨#[]⟩, .bool true, .slice a la ca, .slice b lb cb] 81)
  have KP := heap_alloc_new w1 (.cells #[.string ⟨#[]⟩, .string ⟨#[]⟩, .bool true, .slice a la ca, .slice b lb cb] 81)
  replace KR := aside (blk_on (blk_on KR.out b1) NP)
  replace BW := aside (bthen (bthen BW.out b1) NP)
  replace HG0 := aside ((HG0.out.on b1).on NP)
  have R0 := aside (show RowIn ptF (w1.alloc (.cells #[.string ⟨#[]⟩, .string ⟨#[]⟩, .bool true, .slice a la ca, .slice b lb cb] 81)) (some ⟨w1.heap.size, 0, none⟩) 1 1 [⟨wholeR, a, la, ca, b, lb, cb⟩] from
    ⟨rfl, Nat.le_refl _, by unfold maxLen; omega, .inr ⟨w1.heap.size, 0, rfl, by rw [World.size_alloc]; omega, fun i u hi => by
      have hu : (#[.string ⟨#[]⟩, .string ⟨#[]⟩, .bool true, .slice a la ca, .slice b lb cb] : Array Value)[i]? = some u := by simpa [rowC, ptF, wholeR] using hi
      rw [Nat.zero_add, cell_of_row _ _ i _ _ _ KP]
      exact hu⟩⟩)
  clear b1 NP KP CW
  go_wp2_with fail
  go_loopg [10] N0 (fun n t wr => ∃ tn ta tc P Q G, t = .slice ta tn tc ∧ Hid (RowIn ptF wr ta tn tc G) ∧ Hid (∀ g ∈ G, PtIn wr P Q g) ∧ Hid (TwPl bn fn n ans P Q (G.map (fun g => g.r))) ∧ Hid (Below w.heap.size w wr) ∧ Hid (wr.heap[w.heap.size]? = some (.cells #[.string ⟨#[]⟩, .string ⟨#[]⟩, .bool false] 26 (0, 0))))
  case atStart => exact ⟨1, _, 1, B, A, [⟨wholeR, a, la, ca, b, lb, cb⟩], rfl, R0, aside (fun g hg => by rw [List.mem_singleton.1 hg]; exact HG0.out), T0, BW, KR⟩
  case round =>
    clear R0 HG0 T0 BW KR
    obtain ⟨tn, ta, tc, P, Q, G, rfl, RG, PG, TT, BW, KR⟩ := hrel
    obtain ⟨wo, rfl⟩ : ∃ x, x = wr := ⟨_, rfl⟩
    have htn : G.length = tn := RG.out.1
    have htx : (tn : Int) ≤ 9223372036854775807 := by have h1 := RG.out.2.1; have h2 := RG.out.2.2.1; unfold maxLen at h2; omega
    by_cases h0 : 0 < tn
    · have h0b : decide (0 < tn) = true := decide_eq_true h0
      cases gk with
      | zero =>
        obtain ⟨g, hg⟩ := List.exists_mem_of_ne_nil G (by rintro rfl; simp at htn; omega)
        exact absurd (TT.out.ok g.r (List.mem_map.2 ⟨g, hg, rfl⟩)).few (by omega)
      | succ n =>
      have HTN := aside htn
      have HNE := aside (show G.map (fun g => g.r) ≠ [] from fun e => by
        have h1 := congrArg List.length e
        rw [List.length_map, htn] at h1
        simp at h1
        omega)
      clear htn
      obtain ⟨Lr, hLr⟩ : ∃ l, G.map (fun g => g.r) = l := ⟨_, rfl⟩
      rw [hLr] at TT HNE
      have HLR := aside hLr
      clear hLr
      go_wp2_with fail
      refine wp_scope_straight ?_
      go_wp2_with fail
      refine wp_label ?_
      go_wp2_with fail
      go_loopg [11, 24] tn (fun m v i wi => ∃ (j : Nat) (N : List GP), i = .int .i64 (j : Int) ∧ m + j = tn ∧ Hid (N.map (fun g => g.r) = outJ bn fn P Q Lr j) ∧ Hid (wi.ownsRow wo.heap.size 81 5 v N.length (rowC ptF N)) ∧ Hid (PtsIn wi Q P v.ownBlock N) ∧ Hid (Below wo.heap.size wo wi) ∧ Hid (∀ i, i < j → ∀ s, Lr[i]? = some s → twBad P Q s = false))
      case atStart => exact ⟨0, [], rfl, Nat.add_zero _, aside rfl, aside ⟨rfl, .inl ⟨rfl, rfl⟩⟩, aside (fun g hg => by cases hg), aside (Below.refl _ _), aside (fun i hi => by omega)⟩
      case round =>
        obtain ⟨j, N, rfl, hj, HN, HO, HP, HBW, NB⟩ := hrel
        obtain ⟨wi, rfl⟩ : ∃ x, x = wr := ⟨_, rfl⟩
        obtain ⟨a9, c9, rfl, -, -, -⟩ := own_slice HO.out
        by_cases hlt : (j : Int) < (tn : Int)
        · have hj0 : (0 : Int) ≤ (j : Int) := by omega
          have hjm : j < tn := by omega
          obtain ⟨g, hg⟩ : ∃ g, G[j]? = some g := ⟨_, List.getElem?_eq_getElem (by rw [HTN.out]; exact hjm)⟩
          have HR := aside (show Lr[j]? = some g.r from by rw [← HLR.out, List.getElem?_map, hg]; rfl)
          have HOKR := aside (TT.out.ok g.r (List.mem_of_getElem? HR.out))
          have hLw := RG.out.on HBW.out
          have hlcap := hLw.2.1
          obtain ⟨tb, tz, rfl, htb⟩ : ∃ tb tz, ta = some ⟨tb, tz, none⟩ ∧ tb < wi.heap.size := by
            rcases hLw.2.2.2 with ⟨h1, h2, h3⟩ | ⟨q1, q2, q3, q4, -⟩
            · omega
            · exact ⟨q1, q2, q3, q4⟩
          have e0 : wi.cell? ⟨tb, tz + j * 5, none⟩ = some (.string g.r.lo) := hLw.cellAt ptF_ok (r := 0) hg (by omega) rfl
          have e1 : wi.cell? ⟨tb, tz + j * 5 + 1, none⟩ = some (.string g.r.hi) := hLw.cellAt ptF_ok (r := 1) hg (by omega) rfl
          have e2 : wi.cell? ⟨tb, tz + j * 5 + 2, none⟩ = some (.bool g.r.op) := hLw.cellAt ptF_ok (r := 2) hg (by omega) rfl
          have e3 : wi.cell? ⟨tb, tz + j * 5 + 3, none⟩ = some (.slice g.sa g.sn g.sc) := hLw.cellAt ptF_ok (r := 3) hg (by omega) rfl
          have e4 : wi.cell? ⟨tb, tz + j * 5 + 4, none⟩ = some (.slice g.ha g.hn g.hc) := hLw.cellAt ptF_ok (r := 4) hg (by omega) rfl
          have hwr : IntKind.i64.wrap ((j : Int) + 1) = (((j + 1 : Nat)) : Int) := by rw [IntKind.wrap_i64]; omega
          have NG := bnew wi (.cells #[.string g.r.lo, .string g.r.hi, .bool g.r.op, .slice g.sa g.sn g.sc, .slice g.ha g.hn g.hc] 81)
          have KG0 := heap_alloc_new wi (.cells #[.string g.r.lo, .string g.r.hi, .bool g.r.op, .slice g.sa g.sn g.sc, .slice g.ha g.hn g.hc] 81)
          have B1 := aside (bthen HBW.out NG)
          have PTG := aside ((PG.out g (List.mem_of_getElem? hg)).on B1.out)
          obtain ⟨gb, hgb⟩ : ∃ gb, wi.heap.size = gb := ⟨_, rfl⟩
          have HGB := aside hgb
          obtain ⟨W1, hW1⟩ : ∃ W1, wi.alloc (.cells #[.string g.r.lo, .string g.r.hi, .bool g.r.op, .slice g.sa g.sn g.sc, .slice g.ha g.hn g.hc] 81) = W1 := ⟨_, rfl⟩
          have HW1 := aside hW1
          rw [hW1] at NG KG0 B1 PTG
          rw [hgb] at KG0
          have NG1 := aside NG
          have CE := aside (show ∀ W, Below W1.heap.size W1 W → W.cell? ⟨gb, 0, none⟩ = some (.string g.r.lo) ∧ W.cell? ⟨gb, 1, none⟩ = some (.string g.r.hi) ∧ W.cell? ⟨gb, 2, none⟩ = some (.bool g.r.op) ∧ W.cell? ⟨gb, 3, none⟩ = some (.slice g.sa g.sn g.sc) ∧ W.cell? ⟨gb, 4, none⟩ = some (.slice g.ha g.hn g.hc) from fun W bb => by
            have h := blk_on KG0 bb
            exact ⟨by rw [cell_of_row _ _ 0 _ _ _ h]; rfl, by rw [cell_of_row _ _ 1 _ _ _ h]; rfl, by rw [cell_of_row _ _ 2 _ _ _ h]; rfl, by rw [cell_of_row _ _ 3 _ _ _ h]; rfl, by rw [cell_of_row _ _ 4 _ _ _ h]; rfl⟩)
          have LW := aside (LL.out.keep (bthen BW.out B1.out))
          have CTS := aside (fun W (bb : Below W1.heap.size W1 W) => tall_ls (LW.out.keep bb) (PTG.out.on bb).s)
          have CTH := aside (fun W (bb : Below W1.heap.size W1 W) => tall_ls (LW.out.keep bb) (PTG.out.on bb).h)
          obtain ⟨q, hq⟩ : ∃ q, talE (inL g.r P) (inL g.r Q) = q := ⟨_, rfl⟩
          have HQ := aside hq
          have hEQ : ∀ W, (binOp .eql 40 (.agg #[.int .i64 ((inL g.r Q).length : Int), .int .u64 (allI f0 (inL g.r Q)), .int .u64 (allI f1 (inL g.r Q))]) (.agg #[.int .i64 ((inL g.r P).length : Int), .int .u64 (allI f0 (inL g.r P)), .int .u64 (allI f1 (inL g.r P))])).run Tryd.prog W = .ok (.bool q) W := fun W => by
            rw [tal_run, ← hq, talE_turn]
            rfl
          clear hg hLw NG KG0 hgb hW1 htb hq
          go_upto_region 7 with fail
          rw [HW1.out, HGB.out]
          clear e0 e1 e2 e3 e4
          refine wp_region_held_drew (S := fun W => Below W1.heap.size W1 W ∧ (W.cell? ⟨gb, 0, none⟩ = some (.string g.r.lo) ∧ W.cell? ⟨gb, 1, none⟩ = some (.string g.r.hi) ∧ W.cell? ⟨gb, 2, none⟩ = some (.bool g.r.op) ∧ W.cell? ⟨gb, 3, none⟩ = some (.slice g.sa g.sn g.sc) ∧ W.cell? ⟨gb, 4, none⟩ = some (.slice g.ha g.hn g.hc))) (by kernel_rfl) ⟨(Below.refl _ W1).drew, CE.out _ (Below.refl _ W1).drew⟩ (fun hHeld => ?_)
          refine wpAnyH_take (i := 0) (v := ?_) rfl (by kernel_rfl) (by kernel_rfl) (by kernel_rfl) (fun _ _ _ h => h) (Or.inl ⟨by rfl, ?_⟩) (by assumption) ?_
          rotate_left
          · intro w hSw
            go_simp
            try with_reducible rfl
          simp only [Act.put, List.getElem_toArray, List.getElem_cons_zero, List.setIfInBounds_toArray, List.set_cons_zero, List.set_cons_succ]
          refine wpAnyH_take (i := 1) (v := ?_) rfl (by kernel_rfl) (by kernel_rfl) (by kernel_rfl) (fun _ _ _ h => h) (Or.inl ⟨by rfl, ?_⟩) (by assumption) ?_
          rotate_left
          · intro w hSw
            go_simp
            try with_reducible rfl
          simp only [Act.put, List.getElem_toArray, List.getElem_cons_zero, List.getElem_cons_succ, List.setIfInBounds_toArray, List.set_cons_zero, List.set_cons_succ]
          refine wpAnyH_take (i := 3) (v := ?_) rfl (by kernel_rfl) (by kernel_rfl) (by kernel_rfl) (fun _ _ _ h => h) (Or.inl ⟨by rfl, ?_⟩) (by assumption) ?_
          rotate_left
          · intro w hSw
            go_simp
            try with_reducible rfl
          simp only [Act.put, List.getElem_toArray, List.getElem_cons_zero, List.getElem_cons_succ, List.setIfInBounds_toArray, List.set_cons_zero, List.set_cons_succ]
          refine wpAnyH_take (i := 4) (v := ?_) rfl (by kernel_rfl) (by kernel_rfl) (by kernel_rfl) (fun _ _ _ h => h) (Or.inl ⟨by rfl, ?_⟩) (by assumption) ?_
          rotate_left
          · intro w hSw
            go_simp
            try with_reducible rfl
          simp only [Act.put, List.getElem_toArray, List.getElem_cons_zero, List.getElem_cons_succ, List.setIfInBounds_toArray, List.set_cons_zero, List.set_cons_succ]
          refine wpAnyH_ready (rs := [2]) (by kernel_rfl) (by simp) ?_
          refine AllReadyH.cons rfl (fun K hK => ?_) AllReadyH.nil
          go_simp
          refine (CTS.out _ hHeld.1).mono ?_
          rintro e w6 ⟨rfl, b6⟩
          refine hK.out _ _ (⟨bthen hHeld.1 b6, CE.out _ (bthen hHeld.1 b6)⟩) (fun hHeld => ?_)
          clear hK K
          clear b6
          refine wpAnyH_ready (rs := [5]) (by kernel_rfl) (by simp) ?_
          refine AllReadyH.cons rfl (fun K hK => ?_) AllReadyH.nil
          go_simp
          refine (CTH.out _ hHeld.1).mono ?_
          rintro e w7 ⟨rfl, b7⟩
          refine hK.out _ _ (⟨bthen hHeld.1 b7, CE.out _ (bthen hHeld.1 b7)⟩) (fun hHeld => ?_)
          clear hK K
          have B7 := aside hHeld.1
          clear b7
          refine wpAnyH_take (i := 6) (v := .bool q) rfl (by kernel_rfl) (by kernel_rfl) (by kernel_rfl) (fun _ _ _ h => h) (Or.inl ⟨by rfl, ?_⟩) (by assumption) ?_
          · intro w hSw
            go_simp
            try exact hEQ _
          simp only [Act.put, List.getElem_toArray, List.getElem_cons_zero, List.getElem_cons_succ, List.setIfInBounds_toArray, List.set_cons_zero, List.set_cons_succ]
          refine wpAnyH_take (i := 7) (v := ?_) rfl (by kernel_rfl) (by kernel_rfl) (by kernel_rfl) (fun _ _ _ h => h) (Or.inl ⟨by rfl, ?_⟩) (by assumption) ?_
          rotate_left
          · intro w hSw
            go_simp
            try with_reducible rfl
          simp only [Act.put, List.getElem_toArray, List.getElem_cons_zero, List.getElem_cons_succ, List.setIfInBounds_toArray, List.set_cons_zero, List.set_cons_succ]
          refine wpAnyH_done (by kernel_rfl) ?_ _
          clear hHeld CTS CTH hEQ
          have NW7 := aside (bthen NG1.out B7.out)
          have O7 := aside (own_on HO.out NW7.out)
          have P7 := aside (HP.out.on NW7.out)
          have BW7 := aside (bthen HBW.out NW7.out)
          have PG7 := aside (PTG.out.on B7.out)
          have HLEN := aside PTG.out.h.len
          obtain ⟨e0, e1, e2, e3, e4⟩ := CE.out w7 B7.out
          clear CE HO HP HBW PTG NG1
          cases q
          · have HBAD := aside (show twBad P Q g.r = false from by unfold twBad; rw [HQ.out]; rfl)
            have NB1 := aside (show ∀ i, i < j + 1 → ∀ s, Lr[i]? = some s → twBad P Q s = false from fun i hi s hs => by
              rcases Nat.lt_succ_iff_lt_or_eq.1 hi with h8 | h8
              · exact NB.out i h8 s hs
              · subst h8
                rw [HR.out] at hs
                injection hs with hs
                rw [← hs]
                exact HBAD.out)
            clear NB HBAD
            by_cases hxl : (g.hn : Int) ≤ (fn : Int)
            · have E1 := aside (show outJ bn fn P Q Lr (j + 1) = outJ bn fn P Q Lr j from by
                rw [outJ_succ HR.out]
                unfold twOut
                rw [HQ.out, if_neg (by simp), if_pos (by rw [HLEN.out]; omega), List.append_nil])
              go_wp2
              go_roundg (gk - 1)
              case rel => exact ⟨j + 1, N, by go_num, by omega, aside (by rw [E1.out]; exact HN.out), O7, P7, BW7, NB1⟩
              case measure => omega
            · have CS := aside (split_any g bn P Q w7 PG7.out TT.out.mp TT.out.mq TT.out.np TT.out.nq HOKR.out.may HOK.out.1 (by have := HOK.out.2; omega))
              have hsp := TT.out.sp
              go_wp2_with fail
              refine CS.out.mono ?_
              rintro e w8 ⟨a8, n8, c8, rfl, G2, hr8, hm8, hg8, b8⟩
              have E1 := aside (show outJ bn fn P Q Lr (j + 1) = outJ bn fn P Q Lr j ++ cutsL bn g.r (inL g.r P) from by
                rw [outJ_succ HR.out]
                unfold twOut
                rw [HQ.out, if_neg (by simp), if_neg (by rw [HLEN.out]; omega)])
              have hn8 : n8 ≤ 16 := by
                have h1 := hr8.1
                have h2 := congrArg List.length hm8
                rw [List.length_map, cuts_len] at h2
                have := HOK.out
                omega
              have hNl : N.length ≤ 256 := by
                have h1 := congrArg List.length HN.out
                rw [List.length_map] at h1
                rw [h1]
                exact Nat.le_trans (out_take j) hsp
              have O8 := aside (own_on O7.out b8)
              have P8 := aside ((P7.out.on b8).app (H := G2) (fun x hx => by
                obtain ⟨h1, h2, h3⟩ := hg8 x hx
                refine ⟨h1, fun y hy => ⟨fun e => ?_, (h2 y hy).2⟩, fun y hy => ⟨fun e => ?_, (h3 y hy).2⟩⟩
                · have h4 := (O7.out.lt _ e.symm).2
                  have h5 := (h2 y hy).1
                  omega
                · have h4 := (O7.out.lt _ e.symm).2
                  have h5 := (h3 y hy).1
                  omega))
              have R8 := aside hr8
              have HN8 := aside (show (N ++ G2).map (fun g => g.r) = outJ bn fn P Q Lr (j + 1) from by rw [List.map_append, HN.out, hm8, E1.out])
              have HL8 := aside hr8.1
              have HSZ := aside (show wo.heap.size ≤ w8.heap.size from (bthen BW7.out b8).size)
              have BW8 := aside (bthen BW7.out b8)
              clear hr8 hm8 hg8 b8 CS O7 P7 BW7 PG7 e0 e1 e2 e3 e4 hsp
              go_wp2_with (at_builtin; go_loud (refine wpList_plain rfl fun K hK => op_append_rowC ptF_ok Tryd.underlying82 infoPt rfl _ _ rfl wo.heap.size N.length n8 _ N G2 (by rfl) O8.out a8 c8 (by rfl) R8.out (by omega) (by unfold maxLen; omega) HSZ.out ?_); intro v9 w9 own9 gr9 hv9; refine hK _ _ ?_; refine Hid.out ?_)
              refine aside ?_
              have B9 := aside (BW8.out.grown gr9 HSZ.out (fun k e => (O8.out.lt k e).1))
              have P9 := aside (P8.out.grown gr9 hv9)
              have O9 := aside (show w9.ownsRow wo.heap.size 81 5 v9 (N ++ G2).length (rowC ptF (N ++ G2)) from by rw [List.length_append, HL8.out]; exact own9)
              clear own9 gr9 hv9 O8 P8 R8 BW8 HSZ
              go_wp2
              go_roundg (gk - 1)
              case rel => exact ⟨j + 1, N ++ G2, by go_num, by omega, HN8, O9, P9, B9, NB1⟩
              case measure => omega
          · have HPOS := aside (dfP_pos HQ.out)
            have CU := aside (unlike_ls PG7.out.s PG7.out.h (in_mapG TT.out.mq g.r) (in_mapG TT.out.mp g.r) (by
              have h1 := PG7.out.s.len; have h2 := PG7.out.h.len; have h3 := inL_len g.r P; have h4 := inL_len g.r Q; have h5 := TT.out.np; have h6 := TT.out.nq; omega))
            rw [dfP_turn (inL g.r P) (inL g.r Q)] at CU
            obtain ⟨dl, hdl⟩ : ∃ n, (dfP (prs (inL g.r P) (inL g.r Q))).length = n := ⟨_, rfl⟩
            rw [hdl] at CU HPOS
            clear hdl
            go_wp2_with fail
            refine CU.out.mono ?_
            rintro e w8 ⟨rfl, b8⟩
            replace O7 := aside (own_on O7.out b8)
            replace P7 := aside (P7.out.on b8)
            replace BW7 := aside (bthen BW7.out b8)
            have H5 := aside (And.intro e0 (And.intro e1 e2))
            have GLT := aside (World.block_lt_of_cell? w7 _ e0)
            have c0 : w8.cell? ⟨gb, 0, none⟩ = some (.string g.r.lo) := by rw [← H5.out.1]; exact b8.cell GLT.out
            have c1 : w8.cell? ⟨gb, 1, none⟩ = some (.string g.r.hi) := by rw [← H5.out.2.1]; exact b8.cell GLT.out
            have c2 : w8.cell? ⟨gb, 2, none⟩ = some (.bool g.r.op) := by rw [← H5.out.2.2]; exact b8.cell GLT.out
            clear e0 e1 e2 e3 e4 b8 CU H5 GLT PG7
            by_cases hd : 0 < dl
            · have hdb : decide (0 < dl) = true := decide_eq_true hd
              have HF := aside (find_at (p := twBad P Q) (by rw [HPOS.out]; exact hdb) HR.out NB.out)
              have HA := aside (show ans = some g.r from by rw [← TT.out.ans]; exact twGo_bad HF.out)
              have K8 := aside (blk_on KR.out BW7.out)
              obtain ⟨z0, z1, z2⟩ := box3r K8.out
              have f0 := frozen_of_row w8 w.heap.size 0 _ _ K8.out
              have f1 := frozen_of_row w8 w.heap.size 1 _ _ K8.out
              have f2 := frozen_of_row w8 w.heap.size 2 _ _ K8.out
              obtain ⟨r0, r1, r2⟩ := box3r (set_three K8.out (.string g.r.lo) (.string g.r.hi) (.bool g.r.op))
              have BF := aside (bel_three (bthen BW.out BW7.out) (Nat.le_refl _) (.string g.r.lo) (.string g.r.hi) (.bool g.r.op))
              rw [hdb]
              go_wp2
              try simp only [Exit.inBlock, Exit.then]
              refine noGoto_retG ?_
              simp only [Exit.inBlock, Exit.then]
              exact bodyPost_ret (v := .tuple #[.agg #[.string g.r.lo, .string g.r.hi, .bool g.r.op], .bool true]) (by simp [results, Tryd.results21, go_sem, r0, r1, r2]) rfl ⟨by rw [HA.out]; rfl, BF.out⟩
            · have hdb : decide (0 < dl) = false := decide_eq_false hd
              have HBAD := aside (show twBad P Q g.r = false from by rw [HPOS.out]; exact hdb)
              have NB1 := aside (show ∀ i, i < j + 1 → ∀ s, Lr[i]? = some s → twBad P Q s = false from fun i hi s hs => by
                rcases Nat.lt_succ_iff_lt_or_eq.1 hi with h8 | h8
                · exact NB.out i h8 s hs
                · subst h8
                  rw [HR.out] at hs
                  injection hs with hs
                  rw [← hs]
                  exact HBAD.out)
              have E1 := aside (show outJ bn fn P Q Lr (j + 1) = outJ bn fn P Q Lr j from by
                rw [outJ_succ HR.out]
                unfold twOut
                rw [HQ.out, if_pos rfl, List.append_nil])
              clear NB HBAD HPOS c0 c1 c2
              rw [hdb]
              go_wp2
              go_roundg (gk - 1)
              case rel => exact ⟨j + 1, N, by go_num, by omega, aside (by rw [E1.out]; exact HN.out), O7, P7, BW7, NB1⟩
              case measure => omega
        · obtain rfl : j = tn := by omega
          have hLl : Lr.length = j := by rw [← HLR.out, List.length_map, HTN.out]
          have HF := find_none (p := twBad P Q) (l := Lr) (fun i hi => NB.out i (by omega))
          have hall := outJ_all (b := bn) (lf := fn) (M := P) (T := Q) (L := Lr) (j := j) (by omega)
          have TN := aside (show TwPl bn fn n ans Q P (N.map (fun g => g.r)) from by
            rw [HN.out, hall]
            exact TT.out.turn HOK.out.1.1 HOK.out.2.1 HNE.out HF)
          have RN := aside (RowIn.of_own ptF_ok HO.out)
          have PN := aside (show ∀ g ∈ N, PtIn wi Q P g from fun g hg => (HP.out g hg).1)
          have BN := aside (bthen BW.out HBW.out)
          have KN := aside (blk_on KR.out HBW.out)
          clear hLl HF hall HO HP HBW NB HN
          go_wp2
          go_roundg n
          case measure => omega
          case rel => exact ⟨N.length, a9, c9, Q, P, N, rfl, RN, PN, TN, BN, KN⟩
    · obtain rfl : tn = 0 := by omega
      obtain rfl : G = [] := List.length_eq_zero_iff.1 htn
      have HA := aside (show ans = none from by rw [← TT.out.ans]; exact twGo_nil _ _ _ _ _)
      obtain ⟨z0, z1, z2⟩ := box3r KR.out
      have f0 := frozen_of_row _ w.heap.size 0 _ _ KR.out
      have f1 := frozen_of_row _ w.heap.size 1 _ _ KR.out
      have f2 := frozen_of_row _ w.heap.size 2 _ _ KR.out
      obtain ⟨r0, r1, r2⟩ := box3r (set_three KR.out (.string ⟨#[]⟩) (.string ⟨#[]⟩) (.bool false))
      have BF := aside (bel_three BW.out (Nat.le_refl _) (.string ⟨#[]⟩) (.string ⟨#[]⟩) (.bool false))
      go_wp2
      try simp only [Exit.inBlock, Exit.then]
      exact bodyPost_ret (v := .tuple #[.agg #[.string ⟨#[]⟩, .string ⟨#[]⟩, .bool false], .bool false]) (by simp [results, Tryd.results21, go_sem, r0, r1, r2]) rfl ⟨by rw [HA.out]; rfl, BF.out⟩
end Go.Proofs.YtfkdhambbpkmpaaDoor
