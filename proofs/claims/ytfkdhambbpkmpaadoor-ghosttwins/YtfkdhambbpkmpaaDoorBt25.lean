/-
  GhostTwins, walked.
-/
import Derived.Test.YtfkdhambbpkmpaaDoorBt24
namespace Go.Proofs.YtfkdhambbpkmpaaDoor
open Go.RowKit
set_option linter.unusedVariables false
set_option maxHeartbeats 16000000 in
set_option maxRecDepth 100000 in
theorem gtwins_walk (a : Option Addr) (la ca : Nat) (A : Nat → En) (b : Option Addr) (lb cb : Nat) (B : Nat → En) (br lf : Int) (w : World) (hA : EntsIn w a la ca A) (fA : (a = none ∧ la = 0 ∧ ca = 0) ∨ ∃ y, a = some y) (hB : EntsIn w b lb cb B) (fB : (b = none ∧ lb = 0 ∧ cb = 0) ∨ ∃ y, b = some y) (L : Lanes w) :
    Calls Tryd.prog 3 #[.slice a la ca, .slice b lb cb, .int .i64 br, .int .i64 lf] w fun e w' => e = .returned (.bool true) ∧ Below w.heap.size w w' := by
  have HA := aside hA
  have HB := aside hB
  have FA := aside fA
  have FB := aside fB
  have LL := aside L
  obtain ⟨O, hO⟩ : ∃ O, twOpt (chkH A la) (chkH B lb) (firstE A la) (firstE B lb) br lf = O := ⟨_, rfl⟩
  obtain ⟨er, her⟩ : ∃ er, twErr (chkH A la) (chkH B lb) br lf = er := ⟨_, rfl⟩
  obtain ⟨x0, x1, x2, hx⟩ := rgV_form O
  have HO := aside hO
  have HE := aside her
  have HX := aside hx
  have TwC := aside (fun (a' : Option Addr) (ca' : Nat) (b' : Option Addr) (cb' : Nat) (W : World) (h1 : EntsIn W a' la ca' A) (h2 : EntsIn W b' lb cb' B) (h3 : Lanes W) => gtwins_any a' la ca' A b' lb cb' B br lf W h1 h2 h3)
  have TwD := aside (fun (W : World) (h1 : EntsIn W a la ca A) (h2 : EntsIn W b lb cb B) => twins19_any a la ca A b lb cb B br lf W h1 h2)
  rw [hO, her, hx] at TwC TwD
  clear hA hB fA fB L hO her hx
  go_enter Tryd.func3, Tryd.ntmps3
  go_wp2_with fail
  refine (weigh19_any a la ca A _ HA.out).mono ?_
  rintro e w1 ⟨n1, rfl, -, hn1, b1⟩
  have B1 := aside b1
  clear b1
  obtain ⟨zz1, hz1⟩ : ∃ z : Int, (n1 : Int) = z := ⟨_, rfl⟩
  rw [hz1]
  by_cases hw1 : (1073741824 : Int) ≤ zz1
  · go_wp2
    go_ret
    exact ⟨rfl, B1.out⟩
  have HL1 := aside (show la ≤ 1073741823 from by have := hn1 (by omega); omega)
  clear hn1 hz1
  go_wp2_with fail
  refine (weigh19_any b lb cb B _ (HB.out.keep B1.out)).mono ?_
  rintro e w1' ⟨n2, rfl, -, hn2, b2⟩
  have B2 := aside (bthen B1.out b2)
  clear b2 B1
  obtain ⟨zz2, hz2⟩ : ∃ z : Int, (n2 : Int) = z := ⟨_, rfl⟩
  rw [hz2]
  by_cases hw2 : (1073741824 : Int) ≤ zz2
  · go_wp2
    go_ret
    exact ⟨rfl, B2.out⟩
  have HL2 := aside (show lb ≤ 1073741823 from by have := hn2 (by omega); omega)
  clear hn2 hz2
  have C1 := aside (lent19_any a la ca A w1' (HA.out.keep B2.out) FA.out (by have := HL1.out; omega))
  go_wp2_with fail
  refine C1.out.mono ?_
  rintro e w0 ⟨g1, cp1, rfl, o1, b1⟩
  have O1 := aside o1
  have G1 := aside (show w.heap.size ≤ g1 ∧ g1 < w0.heap.size from ⟨Nat.le_trans B2.out.size (o1.lt g1 rfl).1, (o1.lt g1 rfl).2⟩)
  have B3 := aside (bthen B2.out b1)
  clear o1 b1 C1 B2
  have C2 := aside (lent19_any b lb cb B w0 (HB.out.keep B3.out) FB.out (by have := HL2.out; omega))
  go_wp2_with fail
  refine C2.out.mono ?_
  rintro e w2 ⟨g2, cp2, rfl, o2, b2⟩
  replace O1 := aside (own_on O1.out b2)
  have O2 := aside o2
  have G2 := aside (show w0.heap.size ≤ g2 ∧ g2 < w2.heap.size from o2.lt g2 rfl)
  have B4 := aside (bthen B3.out b2)
  clear o2 b2 C2 B3
  obtain ⟨hc1, hc1m⟩ := row_max O1.out
  obtain ⟨hc2, hc2m⟩ := row_max O2.out
  unfold maxLen at hc1m hc2m
  have hl1 : (la : Int) ≤ 1073741823 := by have := HL1.out; omega
  have hl2 : (lb : Int) ≤ 1073741823 := by have := HL2.out; omega
  have CT := aside (fun W (bb : Below w2.heap.size w2 W) => TwC.out (some ⟨g1, 0, none⟩) cp1 (some ⟨g2, 0, none⟩) cp2 W (lent_front (own_on O1.out bb) (HA.out.keep (bthen B4.out bb))) (lent_front (own_on O2.out bb) (HB.out.keep (bthen B4.out bb))) (LL.out.keep (bthen B4.out bb)))
  go_upto_region 5 with fail
  go_cut [11, 12, 13] (fun t11 t12 t13 wx => ∃ nb, t11 = .pointer (some ⟨nb, 0, none⟩) ∧ t12 = .bool O.isSome ∧ t13 = .int .i64 er ∧ Hid (Below w2.heap.size w2 wx) ∧ Hid (w2.heap.size ≤ nb) ∧ Hid (wx.heap[nb]? = some (.cells #[.string x0, .string x1, .bool x2] 26 (0, 0))))
  case first =>
    refine wp_region_held_drew (S := fun W => Below w2.heap.size w2 W) (by kernel_rfl) (Below.refl _ w2).drew (fun hHeld => ?_)
    refine wpAnyH_take (i := 0) (v := ?_) rfl (by kernel_rfl) (by kernel_rfl) (by kernel_rfl) (fun _ _ _ h => h) (Or.inl ⟨by rfl, ?_⟩) (by assumption) ?_
    rotate_left
    · intro w hSw
      go_simp
      try with_reducible rfl
    simp only [Act.put, List.getElem_toArray, List.getElem_cons_zero, List.setIfInBounds_toArray, List.set_cons_zero, List.set_cons_succ]
    refine wpAnyH_take (i := 1) (v := ?_) rfl (by kernel_rfl) (by kernel_rfl) (by kernel_rfl) (fun _ _ _ h => h) (Or.inl ⟨by rfl, ?_⟩) (by assumption) ?_
    rotate_left
    · intro w hSw
      go_simp
      try with_reducible rfl
    simp only [Act.put, List.getElem_toArray, List.getElem_cons_zero, List.getElem_cons_succ, List.setIfInBounds_toArray, List.set_cons_zero, List.set_cons_succ]
    refine wpAnyH_take (i := 2) (v := ?_) rfl (by kernel_rfl) (by kernel_rfl) (by kernel_rfl) (fun _ _ _ h => h) (Or.inl ⟨by rfl, ?_⟩) (by assumption) ?_
    rotate_left
    · intro w hSw
      go_simp
      try with_reducible rfl
    simp only [Act.put, List.getElem_toArray, List.getElem_cons_zero, List.getElem_cons_succ, List.setIfInBounds_toArray, List.set_cons_zero, List.set_cons_succ]
    refine wpAnyH_take (i := 3) (v := .slice (some ⟨g1, 0, none⟩) la cp1) rfl (by kernel_rfl) (by kernel_rfl) (by kernel_rfl) (fun _ _ _ h => h) (Or.inl ⟨by rfl, ?_⟩) (by assumption) ?_
    · intro w hSw
      go_simp
      intro h
      exact absurd h (by omega)
    simp only [Act.put, List.getElem_toArray, List.getElem_cons_zero, List.getElem_cons_succ, List.setIfInBounds_toArray, List.set_cons_zero, List.set_cons_succ]
    refine wpAnyH_take (i := 4) (v := ?_) rfl (by kernel_rfl) (by kernel_rfl) (by kernel_rfl) (fun _ _ _ h => h) (Or.inl ⟨by rfl, ?_⟩) (by assumption) ?_
    rotate_left
    · intro w hSw
      go_simp
      try with_reducible rfl
    simp only [Act.put, List.getElem_toArray, List.getElem_cons_zero, List.getElem_cons_succ, List.setIfInBounds_toArray, List.set_cons_zero, List.set_cons_succ]
    refine wpAnyH_take (i := 5) (v := ?_) rfl (by kernel_rfl) (by kernel_rfl) (by kernel_rfl) (fun _ _ _ h => h) (Or.inl ⟨by rfl, ?_⟩) (by assumption) ?_
    rotate_left
    · intro w hSw
      go_simp
      try with_reducible rfl
    simp only [Act.put, List.getElem_toArray, List.getElem_cons_zero, List.getElem_cons_succ, List.setIfInBounds_toArray, List.set_cons_zero, List.set_cons_succ]
    refine wpAnyH_take (i := 6) (v := ?_) rfl (by kernel_rfl) (by kernel_rfl) (by kernel_rfl) (fun _ _ _ h => h) (Or.inl ⟨by rfl, ?_⟩) (by assumption) ?_
    rotate_left
    · intro w hSw
      go_simp
      try with_reducible rfl
    simp only [Act.put, List.getElem_toArray, List.getElem_cons_zero, List.getElem_cons_succ, List.setIfInBounds_toArray, List.set_cons_zero, List.set_cons_succ]
    refine wpAnyH_take (i := 7) (v := .slice (some ⟨g2, 0, none⟩) lb cp2) rfl (by kernel_rfl) (by kernel_rfl) (by kernel_rfl) (fun _ _ _ h => h) (Or.inl ⟨by rfl, ?_⟩) (by assumption) ?_
    · intro w hSw
      go_simp
      intro h
      exact absurd h (by omega)
    simp only [Act.put, List.getElem_toArray, List.getElem_cons_zero, List.getElem_cons_succ, List.setIfInBounds_toArray, List.set_cons_zero, List.set_cons_succ]
    refine wpAnyH_take (i := 8) (v := ?_) rfl (by kernel_rfl) (by kernel_rfl) (by kernel_rfl) (fun _ _ _ h => h) (Or.inl ⟨by rfl, ?_⟩) (by assumption) ?_
    rotate_left
    · intro w hSw
      go_simp
      try with_reducible rfl
    simp only [Act.put, List.getElem_toArray, List.getElem_cons_zero, List.getElem_cons_succ, List.setIfInBounds_toArray, List.set_cons_zero, List.set_cons_succ]
    refine wpAnyH_take (i := 9) (v := ?_) rfl (by kernel_rfl) (by kernel_rfl) (by kernel_rfl) (fun _ _ _ h => h) (Or.inl ⟨by rfl, ?_⟩) (by assumption) ?_
    rotate_left
    · intro w hSw
      go_simp
      try with_reducible rfl
    simp only [Act.put, List.getElem_toArray, List.getElem_cons_zero, List.getElem_cons_succ, List.setIfInBounds_toArray, List.set_cons_zero, List.set_cons_succ]
    refine wpAnyH_ready (rs := [10, 15]) (by kernel_rfl) (by simp) ?_
    refine AllReadyH.cons rfl (fun K hK => ?_) (AllReadyH.cons rfl (fun K hK => ?_) AllReadyH.nil)
    · as_aux_lemma =>
        go_simp
        refine (CT.out _ hHeld).mono ?_
        rintro e w9 ⟨rfl, b9⟩
        refine hK.out _ _ (bthen hHeld b9) (fun hHeld => ?_)
        clear hK K b9
        refine wpAnyH_take (i := 11) (v := ?_) rfl (by kernel_rfl) (by kernel_rfl) (by kernel_rfl) (fun _ _ _ h => h) (Or.inl ⟨by rfl, ?_⟩) (by assumption) ?_
        rotate_left
        · intro w hSw
          go_simp
          try with_reducible rfl
        simp only [Act.put, List.getElem_toArray, List.getElem_cons_zero, List.getElem_cons_succ, List.setIfInBounds_toArray, List.set_cons_zero, List.set_cons_succ]
        refine wpAnyH_take (i := 12) (v := ?_) rfl (by kernel_rfl) (by kernel_rfl) (by kernel_rfl) (fun _ _ _ h => h) (Or.inl ⟨by rfl, ?_⟩) (by assumption) ?_
        rotate_left
        · intro w hSw
          go_simp
          try with_reducible rfl
        simp only [Act.put, List.getElem_toArray, List.getElem_cons_zero, List.getElem_cons_succ, List.setIfInBounds_toArray, List.set_cons_zero, List.set_cons_succ]
        refine wpAnyH_take (i := 13) (v := ?_) rfl (by kernel_rfl) (by kernel_rfl) (by kernel_rfl) (fun _ _ _ h => h) (Or.inl ⟨by rfl, ?_⟩) (by assumption) ?_
        rotate_left
        · intro w hSw
          go_simp
          try with_reducible rfl
        simp only [Act.put, List.getElem_toArray, List.getElem_cons_zero, List.getElem_cons_succ, List.setIfInBounds_toArray, List.set_cons_zero, List.set_cons_succ]
        refine wpAnyH_take (i := 14) (v := ?_) rfl (by kernel_rfl) (by kernel_rfl) (by kernel_rfl) (fun _ _ _ h => h) (Or.inl ⟨by rfl, ?_⟩) (by assumption) ?_
        rotate_left
        · intro w hSw
          go_simp
          try with_reducible rfl
        simp only [Act.put, List.getElem_toArray, List.getElem_cons_zero, List.getElem_cons_succ, List.setIfInBounds_toArray, List.set_cons_zero, List.set_cons_succ]
        refine wpAnyH_ready (rs := [15]) (by kernel_rfl) (by simp) ?_
        refine AllReadyH.cons rfl (fun K hK => ?_) AllReadyH.nil
        go_simp
        have hsz9 := (hHeld).size
        have hbN := bthen hHeld (bnew w9 (.cells #[.string ⟨#[]⟩, .string ⟨#[]⟩, .bool false] 26))
        have KN0 := heap_alloc_new w9 (.cells #[.string ⟨#[]⟩, .string ⟨#[]⟩, .bool false] 26)
        refine hK.out _ _ hbN (fun hHeld => ?_)
        clear hK K
        obtain ⟨nb, hnb⟩ : ∃ nb, w9.heap.size = nb := ⟨_, rfl⟩
        have HNB := aside (show w2.heap.size ≤ nb from by rw [← hnb]; exact hsz9)
        rw [hnb] at KN0 ⊢
        obtain ⟨Y, hY⟩ : ∃ Y, w9.alloc (.cells #[.string ⟨#[]⟩, .string ⟨#[]⟩, .bool false] 26) = Y := ⟨_, rfl⟩
        rw [hY] at KN0 hbN hHeld ⊢
        have KN := aside KN0
        clear hnb hY KN0 hbN hsz9
        obtain ⟨z0, z1, z2⟩ := box3r KN.out
        have f0 := frozen_of_row Y nb 0 _ _ KN.out
        have f1 := frozen_of_row Y nb 1 _ _ KN.out
        have f2 := frozen_of_row Y nb 2 _ _ KN.out
        have KS := aside (set_three KN.out (.string x0) (.string x1) (.bool x2))
        have BS := aside (bel_three hHeld HNB.out (.string x0) (.string x1) (.bool x2))
        refine wpAnyH_ready (rs := [16]) (by kernel_rfl) (by simp) ?_
        refine AllReadyH.cons rfl (fun K hK => ?_) AllReadyH.nil
        go_simp
        refine hK.out _ _ BS.out (fun hHeld => ?_)
        clear hK K z0 z1 z2 f0 f1 f2
        refine wpAnyH_take (i := 17) (v := ?_) rfl (by kernel_rfl) (by kernel_rfl) (by kernel_rfl) (fun _ _ _ h => h) (Or.inl ⟨by rfl, ?_⟩) (by assumption) ?_
        rotate_left
        · intro w hSw
          go_simp
          try with_reducible rfl
        simp only [Act.put, List.getElem_toArray, List.getElem_cons_zero, List.getElem_cons_succ, List.setIfInBounds_toArray, List.set_cons_zero, List.set_cons_succ]
        refine wpAnyH_take (i := 18) (v := ?_) rfl (by kernel_rfl) (by kernel_rfl) (by kernel_rfl) (fun _ _ _ h => h) (Or.inl ⟨by rfl, ?_⟩) (by assumption) ?_
        rotate_left
        · intro w hSw
          go_simp
          try with_reducible rfl
        simp only [Act.put, List.getElem_toArray, List.getElem_cons_zero, List.getElem_cons_succ, List.setIfInBounds_toArray, List.set_cons_zero, List.set_cons_succ]
        refine wpAnyH_done (by kernel_rfl) ?_ _
        clear hHeld
        go_wp2
        go_meet
        exact ⟨nb, rfl, rfl, rfl, BS, HNB, KS⟩
    · as_aux_lemma =>
        go_simp
        have hbN : Below w2.heap.size w2 (w2.alloc (.cells #[.string ⟨#[]⟩, .string ⟨#[]⟩, .bool false] 26)).drew := (bnew w2 (.cells #[.string ⟨#[]⟩, .string ⟨#[]⟩, .bool false] 26)).drew
        have KN0 : (w2.alloc (.cells #[.string ⟨#[]⟩, .string ⟨#[]⟩, .bool false] 26)).drew.heap[w2.heap.size]? = some (.cells #[.string ⟨#[]⟩, .string ⟨#[]⟩, .bool false] 26 (0, 0)) := heap_alloc_new w2 (.cells #[.string ⟨#[]⟩, .string ⟨#[]⟩, .bool false] 26)
        refine hK.out _ _ hbN (fun hHeld => ?_)
        clear hK K
        have HNB := aside (Nat.le_refl w2.heap.size)
        obtain ⟨Y, hY⟩ : ∃ Y, (w2.alloc (.cells #[.string ⟨#[]⟩, .string ⟨#[]⟩, .bool false] 26)).drew = Y := ⟨_, rfl⟩
        rw [hY] at KN0 hbN hHeld ⊢
        have KN := aside KN0
        clear hY KN0 hbN
        refine wpAnyH_ready (rs := [10]) (by kernel_rfl) (by simp) ?_
        refine AllReadyH.cons rfl (fun K hK => ?_) AllReadyH.nil
        go_simp
        refine (CT.out _ hHeld).mono ?_
        rintro e w9 ⟨rfl, b9⟩
        replace KN := aside (blk_on KN.out b9)
        refine hK.out _ _ (bthen hHeld b9) (fun hHeld => ?_)
        clear hK K b9
        refine wpAnyH_take (i := 11) (v := ?_) rfl (by kernel_rfl) (by kernel_rfl) (by kernel_rfl) (fun _ _ _ h => h) (Or.inl ⟨by rfl, ?_⟩) (by assumption) ?_
        rotate_left
        · intro w hSw
          go_simp
          try with_reducible rfl
        simp only [Act.put, List.getElem_toArray, List.getElem_cons_zero, List.getElem_cons_succ, List.setIfInBounds_toArray, List.set_cons_zero, List.set_cons_succ]
        refine wpAnyH_take (i := 12) (v := ?_) rfl (by kernel_rfl) (by kernel_rfl) (by kernel_rfl) (fun _ _ _ h => h) (Or.inl ⟨by rfl, ?_⟩) (by assumption) ?_
        rotate_left
        · intro w hSw
          go_simp
          try with_reducible rfl
        simp only [Act.put, List.getElem_toArray, List.getElem_cons_zero, List.getElem_cons_succ, List.setIfInBounds_toArray, List.set_cons_zero, List.set_cons_succ]
        refine wpAnyH_take (i := 13) (v := ?_) rfl (by kernel_rfl) (by kernel_rfl) (by kernel_rfl) (fun _ _ _ h => h) (Or.inl ⟨by rfl, ?_⟩) (by assumption) ?_
        rotate_left
        · intro w hSw
          go_simp
          try with_reducible rfl
        simp only [Act.put, List.getElem_toArray, List.getElem_cons_zero, List.getElem_cons_succ, List.setIfInBounds_toArray, List.set_cons_zero, List.set_cons_succ]
        refine wpAnyH_take (i := 14) (v := ?_) rfl (by kernel_rfl) (by kernel_rfl) (by kernel_rfl) (fun _ _ _ h => h) (Or.inl ⟨by rfl, ?_⟩) (by assumption) ?_
        rotate_left
        · intro w hSw
          go_simp
          try with_reducible rfl
        simp only [Act.put, List.getElem_toArray, List.getElem_cons_zero, List.getElem_cons_succ, List.setIfInBounds_toArray, List.set_cons_zero, List.set_cons_succ]
        obtain ⟨z0, z1, z2⟩ := box3r KN.out
        have f0 := frozen_of_row w9 w2.heap.size 0 _ _ KN.out
        have f1 := frozen_of_row w9 w2.heap.size 1 _ _ KN.out
        have f2 := frozen_of_row w9 w2.heap.size 2 _ _ KN.out
        have KS := aside (set_three KN.out (.string x0) (.string x1) (.bool x2))
        have BS := aside (bel_three hHeld HNB.out (.string x0) (.string x1) (.bool x2))
        refine wpAnyH_ready (rs := [16]) (by kernel_rfl) (by simp) ?_
        refine AllReadyH.cons rfl (fun K hK => ?_) AllReadyH.nil
        go_simp
        refine hK.out _ _ BS.out (fun hHeld => ?_)
        clear hK K z0 z1 z2 f0 f1 f2
        refine wpAnyH_take (i := 17) (v := ?_) rfl (by kernel_rfl) (by kernel_rfl) (by kernel_rfl) (fun _ _ _ h => h) (Or.inl ⟨by rfl, ?_⟩) (by assumption) ?_
        rotate_left
        · intro w hSw
          go_simp
          try with_reducible rfl
        simp only [Act.put, List.getElem_toArray, List.getElem_cons_zero, List.getElem_cons_succ, List.setIfInBounds_toArray, List.set_cons_zero, List.set_cons_succ]
        refine wpAnyH_take (i := 18) (v := ?_) rfl (by kernel_rfl) (by kernel_rfl) (by kernel_rfl) (fun _ _ _ h => h) (Or.inl ⟨by rfl, ?_⟩) (by assumption) ?_
        rotate_left
        · intro w hSw
          go_simp
          try with_reducible rfl
        simp only [Act.put, List.getElem_toArray, List.getElem_cons_zero, List.getElem_cons_succ, List.setIfInBounds_toArray, List.set_cons_zero, List.set_cons_succ]
        refine wpAnyH_done (by kernel_rfl) ?_ _
        clear hHeld
        go_wp2
        go_meet
        exact ⟨_, rfl, rfl, rfl, BS, HNB, KS⟩
  case rest =>
    obtain ⟨nb, rfl, rfl, rfl, B5, HNB, KB⟩ := hcut
    obtain ⟨w5, rfl⟩ : ∃ x, x = wc := ⟨_, rfl⟩
    have NLT := aside (show g1 < nb ∧ g2 < nb ∧ g1 ≠ g2 from by have h1 := G1.out; have h2 := G2.out; have h3 := HNB.out; omega)
    have P1 := aside (own_on O1.out B5.out)
    have P2 := aside (own_on O2.out B5.out)
    have B6 := aside (bthen B4.out B5.out)
    have CD := aside (TwD.out w5 (HA.out.keep B6.out) (HB.out.keep B6.out))
    have hNE := rg_neG x0 x1 x2
    clear O1 O2 B4 B5 CT TwC TwD
    obtain ⟨k0, k1, k2⟩ := box3r KB.out
    clear k0 k1 k2
    go_wp2_with fail
    refine CD.out.mono ?_
    rintro e w6 ⟨rfl, b6⟩
    have NX := bnew w6 (.cells #[.string x0, .string x1, .bool x2] 26)
    have KX := heap_alloc_new w6 (.cells #[.string x0, .string x1, .bool x2] 26)
    have PB := bthen b6 NX
    have P3 := aside (own_on P1.out PB)
    have P4 := aside (own_on P2.out PB)
    have KB2 := aside (blk_on KB.out PB)
    have B7 := aside (bthen B6.out PB)
    obtain ⟨k0, k1, k2⟩ := box3r KB2.out
    obtain ⟨y0, y1, y2⟩ := box3r KX
    have CS1 := aside (still19_any w1'.heap.size g1 la cp1 a ca A (w6.alloc (.cells #[.string x0, .string x1, .bool x2] 26)) P3.out (HA.out.keep B7.out) (by have := HL1.out; omega))
    clear b6 NX PB P1 P2 B6 KB CD KX
    go_wp2_with fail
    refine CS1.out.mono ?_
    rintro e w8 ⟨rfl, k8⟩
    have P5 := aside (own_keepG P4.out k8 (fun j hj e => by
      have h1 : g2 = j := by simpa [Value.ownBlock] using hj
      have h2 := NLT.out
      omega))
    have B8 := aside (B7.out.trans (k8.below B7.out.size (fun j hj e => by have h1 := G1.out; omega)))
    have KB3 := aside (blk_keep KB2.out k8 (fun e => by have h1 := NLT.out; omega))
    clear k8 CS1 P3 P4 KB2 B7 k0 k1 k2 y0 y1 y2
    have CS2 := aside (still19_any w0.heap.size g2 lb cp2 b cb B w8 P5.out (HB.out.keep B8.out) (by have := HL2.out; omega))
    go_wp2_with fail
    refine CS2.out.mono ?_
    rintro e w9 ⟨rfl, k9⟩
    have B9 := aside (B8.out.trans (k9.below B8.out.size (fun j hj e => by have h1 := G1.out; have h2 := G2.out; omega)))
    have KB4 := aside (blk_keep KB3.out k9 (fun e => by have h1 := NLT.out; omega))
    clear k9 CS2 P5 KB3 B8
    cases O with
    | none =>
      clear hNE
      go_wp2
      go_ret
      exact ⟨rfl, B9.out⟩
    | some r =>
      have hx := HX.out
      unfold rgV at hx
      simp at hx
      obtain ⟨rfl, rfl, rfl⟩ := hx
      obtain ⟨mA, mB, lA, lB, hm, ht, hd⟩ := opt_found rfl rfl HO.out
      have CP := aside (gin_any r (⟨A, HA.out.keep B9.out, rfl⟩ : LsIn w9 a la ca (firstE A la)) mA lA hm)
      obtain ⟨k0, k1, k2⟩ := box3r KB4.out
      have MA := aside mA
      have MB := aside mB
      have LB := aside lB
      have LA := aside lA
      have HM := aside hm
      have HT := aside ht
      have HD := aside hd
      clear mA mB lA lB hm ht hd hNE
      go_wp2_with fail
      refine CP.out.mono ?_
      rintro e w10 ⟨pa, pn, pc, rfl, hp, -, b10⟩
      have KP := aside hp
      have KB5 := aside (blk_on KB4.out b10)
      have B10 := aside (bthen B9.out b10)
      clear hp b10 CP k0 k1 k2 KB4
      have CQ := aside (gin_any r (⟨B, HB.out.keep B10.out, rfl⟩ : LsIn w10 b lb cb (firstE B lb)) MB.out LB.out HM.out)
      obtain ⟨k0, k1, k2⟩ := box3r KB5.out
      go_wp2_with fail
      refine CQ.out.mono ?_
      rintro e w11 ⟨qa, qn, qc, rfl, hq, -, b11⟩
      have KQ := aside hq
      replace KP := aside (KP.out.on b11)
      have B11 := aside (bthen B10.out b11)
      clear hq b11 CQ k0 k1 k2 KB5
      obtain ⟨P, hP1, hP2⟩ := KP.out
      obtain ⟨Q, hQ1, hQ2⟩ := KQ.out
      have hpl : pn ≤ 256 := by have h1 := KP.out.len; have h2 := inL_len r (firstE A la); rw [firstE_len] at h2; have := LA.out; omega
      have hql : qn ≤ 256 := by have h1 := KQ.out.len; have h2 := inL_len r (firstE B lb); rw [firstE_len] at h2; have := LB.out; omega
      have CM0 := mdiff_any pa pn pc P qa qn qc Q w11 hP1 hQ1 (by omega)
      rw [ck2_ok.2 ⟨by rw [hP2]; exact in_mapG MA.out r, by rw [hQ2]; exact in_mapG MB.out r⟩, outL_ok _ rfl, hP2, hQ2] at CM0
      have CM := aside CM0
      clear hP1 hP2 hQ1 hQ2 hpl hql CM0
      go_wp2_with fail
      refine CM.out.mono ?_
      rintro e w12 ⟨v, rfl, ho, b12⟩
      obtain ⟨da, dc, rfl, hd1, hd2, -⟩ := own_slice ho
      obtain ⟨dl, hdl⟩ : ∃ n, (dfP (prs (inL r (firstE A la)) (inL r (firstE B lb)))).length = n := ⟨_, rfl⟩
      rw [hdl] at ho hd1 HD ⊢
      have hdp : 0 < dl := HD.out
      have hdx : (dl : Int) ≤ 9223372036854775807 := by unfold maxLen at hd2; omega
      have hdi : (0 : Int) < (dl : Int) := by omega
      have B12 := aside (bthen B11.out b12)
      replace KP := aside (KP.out.on b12)
      replace KQ := aside (KQ.out.on b12)
      clear ho hdl b12 CM
      have CA := aside (tall_ls (LL.out.keep B12.out) KP.out)
      go_wp2_with fail
      refine CA.out.mono ?_
      rintro e w13 ⟨rfl, b13⟩
      have B13 := aside (bthen B12.out b13)
      replace KQ := aside (KQ.out.on b13)
      clear b13 CA KP
      have CB := aside (tall_ls (LL.out.keep B13.out) KQ.out)
      have hEQ : ∀ W, (binOp .eql 40 (.agg #[.int .i64 ((inL r (firstE A la)).length : Int), .int .u64 (allI f0 (inL r (firstE A la))), .int .u64 (allI f1 (inL r (firstE A la)))]) (.agg #[.int .i64 ((inL r (firstE B lb)).length : Int), .int .u64 (allI f0 (inL r (firstE B lb))), .int .u64 (allI f1 (inL r (firstE B lb)))])).run Tryd.prog W = .ok (.bool true) W := fun W => by
        have h := HT.out
        unfold talE at h
        rw [tal_run, h]
      go_wp2_with fail
      refine CB.out.mono ?_
      rintro e w14 ⟨rfl, b14⟩
      have B14 := aside (bthen B13.out b14)
      clear b14 CB KQ
      go_wp2
      go_ret
      exact ⟨rfl, B14.out⟩
end Go.Proofs.YtfkdhambbpkmpaaDoor
