/-
  The law StoreFills, walked.
-/
import Derived.Test.YtlgcdcjhflihiaaDoorBstorefills38
import Derived.Deep.LoopGhost
namespace Go.Proofs.YtlgcdcjhflihiaaDoor
open Go.RowKit
set_option linter.unusedVariables false

theorem node1fb : nodeB 1 = true := by decide
theorem ebxfb {e : En} {X : World} {b : Nat} (h : EBx e X b) : X.cell? ⟨b, 0, none⟩ = some (.string e.k) ∧ X.cell? ⟨b, 1, none⟩ = some (.int .i64 e.c) ∧ X.cell? ⟨b, 2, none⟩ = some (.int .i64 e.n) ∧ X.cell? ⟨b, 3, none⟩ = some (.string e.v) ∧ X.cell? ⟨b, 4, none⟩ = some (.bool e.d) := quint h

set_option maxHeartbeats 32000000 in
set_option maxRecDepth 100000 in
theorem lstfills_fb (less : Int) (a : Option Addr) (len cap : Nat) (D : Nat → Bool) (key value : ByteArray) (e : En) (w : World) (L : Lanes w) (hD : BoolsIn w a len cap D) (hks : ¬ (16 : Int) < key.size) (hrm : ¬ 0 < amg less 3) (hvs : (32 : Int) < value.size) :
    Calls Tryd.prog 5 #[.int .i64 less, .slice a len cap, .string key, .string value, .agg #[.string e.k, .int .i64 e.c, .int .i64 e.n, .string e.v, .bool e.d]] w fun r w' => r = .returned (.bool true) ∧ Below w.heap.size w w' := by
  have HD := aside hD
  have HKS := aside hks
  have HVS := aside hvs
  clear hks hvs
  have hmx : (len : Int) ≤ 9223372036854775807 := by have := hD.1; have := hD.2.1; unfold maxLen at *; omega
  have B0 := aside (bnew w (.cells #[.string e.k, .int .i64 e.c, .int .i64 e.n, .string e.v, .bool e.d] 39))
  have X0 := aside (heap_alloc_new w (.cells #[.string e.k, .int .i64 e.c, .int .i64 e.n, .string e.v, .bool e.d] 39))
  have L0 := aside (L.keep B0.out)
  have C0 := aside (shown_any _ L0.out)
  have CN := aside (fun (W : World) => qnew 1 W)
  have CA := aside (fun (W : World) => among9 less 3 W (by decide) (by decide))
  obtain ⟨k, hk1, hk⟩ := amg_lt less (m := 3) (by decide)
  rw [show ((3 : Nat) : Int) = 3 from rfl] at CA hk1
  rw [hk1] at CA hrm
  clear hk1
  clear hD L
  go_enter Tryd.func5, Tryd.ntmps5
  go_wp2_with fail
  refine C0.out.mono ?_
  rintro r w0 ⟨rfl, b0⟩
  have B1 := aside (bthen B0.out b0)
  have X1 := aside (blk_on X0.out b0)
  have L1 := aside (L0.out.keep b0)
  clear b0 C0 B0 X0 L0
  go_wp2_with fail
  refine (CN.out _).mono ?_
  rintro r w1 ⟨b1, ⟨hn, -⟩ | ⟨hn, sb, g, tb, rfl, hs, l1, l2, l3⟩⟩
  · rw [node1fb] at hn; cases hn
  have G0 := aside (⟨hs, Filled.nil, L1.out.keep b1, bthen B1.out b1, by have := B1.out.size; omega, blk_on X1.out b1⟩ : FI w w1 sb g tb w.heap.size e 0 [])
  generalize w.heap.size = eb at G0 ⊢
  clear b1 hn hs l1 l2 l3 CN B1 X1 L1
  go_wp2_with fail
  refine (CA.out _).mono ?_
  rintro r w2 ⟨rfl, rfl⟩
  clear CA
  obtain ⟨N, hN⟩ : ∃ N, 256 - k = N := ⟨_, rfl⟩
  have hw : IntKind.i64.wrap (256 - (k : Int)) = (N : Int) := by rw [IntKind.wrap_i64]; omega
  have HN := aside (show N ≤ 256 ∧ (N < 256 ↔ 0 < k) from by omega)
  clear hN hk
  go_wp2
  go_loopw [14] (fun i X => ∃ (j : Nat) (Ls : List En), i = .int .i64 (j : Int) ∧ j ≤ N ∧ FI w X sb g tb eb e j Ls) (fun i _ => N - (intOf i).toNat)
  case atStart => exact ⟨0, [], rfl, Nat.zero_le _, G0.out⟩
  case round =>
    obtain ⟨j, Ls, rfl, hj, hfi⟩ := hrel
    clear G0
    have G := aside hfi
    by_cases hlt : (j : Int) < (N : Int)
    · have JL := aside (show j + 1 ≤ N from by omega)
      have JB := aside (show j < 256 from by have := HN.out; omega)
      have hj0 : (0 : Int) ≤ (j : Int) := by omega
      have hjw : IntKind.i64.wrap ((j : Int) + 1) = (j : Int) + 1 := by rw [IntKind.wrap_i64]; have := JB.out; omega
      have CM := aside (name_any j JB.out wr)
      by_cases hld : (j : Int) < (len : Int)
      · rcases HD.out.2.2 with h0 | ⟨b, off, rfl, hb, hc⟩
        · omega
        · have c0 := cell_in (hc j (by omega)) hfi.below
          clear hc hb hfi hj
          cases hdj : D j
          · rw [hdj] at c0
            go_wp2_with fail
            refine CM.out.mono ?_
            rintro r w3 ⟨rfl, b3⟩
            have G1 := aside (G.out.on b3)
            clear b3 CM G
            go_wp2_with fail
            refine (fput G1.out JB.out).mono ?_
            rintro r w4 ⟨c, m, Ls', rfl, h4⟩
            have G2 := aside h4
            clear h4 G1
            go_wp2
            go_roundw
            case rel => exact ⟨j + 1, Ls', by go_num, JL.out, G2.out⟩
            case measure => simp [intOf]; have := JL.out; omega
          · rw [hdj] at c0
            go_wp2_with fail
            refine CM.out.mono ?_
            rintro r w3 ⟨rfl, b3⟩
            have G1 := aside (G.out.on b3)
            clear b3 CM G
            go_wp2_with fail
            refine (fdel G1.out JB.out).mono ?_
            rintro r w4 ⟨c, m, Ls', rfl, h4⟩
            have G2 := aside h4
            clear h4 G1
            go_wp2
            go_roundw
            case rel => exact ⟨j + 1, Ls', by go_num, JL.out, G2.out⟩
            case measure => simp [intOf]; have := JL.out; omega
      · clear hfi hj
        go_wp2_with fail
        refine CM.out.mono ?_
        rintro r w3 ⟨rfl, b3⟩
        have G1 := aside (G.out.on b3)
        clear b3 CM G
        go_wp2_with fail
        refine (fput G1.out JB.out).mono ?_
        rintro r w4 ⟨c, m, Ls', rfl, h4⟩
        have G2 := aside h4
        clear h4 G1
        go_wp2
        go_roundw
        case rel => exact ⟨j + 1, Ls', by go_num, JL.out, G2.out⟩
        case measure => simp [intOf]; have := JL.out; omega
    · obtain rfl : N = j := by omega
      clear hfi hj HD
      go_wp2_with fail
      refine (fget key G.out HN.out.1).mono ?_
      rintro r w3 ⟨x, er, rfl, h3⟩
      have G1 := aside (h3.on (bnew w3 (.cells #[.string x.k, .int .i64 x.c, .int .i64 x.n, .string x.v, .bool x.d] 39)))
      clear h3 G
      obtain ⟨d0, -, -, -, -⟩ := ebxfb G1.out.box
      go_wp2_with fail
      clear d0
      generalize w3.alloc (.cells #[.string x.k, .int .i64 x.c, .int .i64 x.n, .string x.v, .bool x.d] 39) = V1 at *
      refine (fget e.k G1.out HN.out.1).mono ?_
      rintro r w4 ⟨y, er2, rfl, h3⟩
      have G2 := aside (h3.on (bnew w4 (.cells #[.string y.k, .int .i64 y.c, .int .i64 y.n, .string y.v, .bool y.d] 39)))
      clear h3 G1
      go_wp2_with fail
      generalize w4.alloc (.cells #[.string y.k, .int .i64 y.c, .int .i64 y.n, .string y.v, .bool y.d] 39) = V2 at *
      refine (fclone G2.out HN.out.1).mono ?_
      rintro r w5 ⟨sc, gc, tc, rfl, h3, hc, ap, ge⟩
      have G3 := aside h3
      have CP := aside (cput key value h3 HN.out.1 hc ap ge)
      clear h3 hc ap ge G2
      go_wp2_with fail
      refine CP.out.mono ?_
      rintro r w6 ⟨c1, m1, rfl, h3⟩
      have G4 := aside (h3.on (bnew w6 (.cells #[.int .i64 c1, .int .i64 m1] 37)))
      clear h3 CP G3
      go_wp2_with fail
      generalize w6.alloc (.cells #[.int .i64 c1, .int .i64 m1] 37) = V4 at *
      refine (fclone G4.out HN.out.1).mono ?_
      rintro r w7 ⟨sd, gd, td, rfl, h3, hc, ap, ge⟩
      have CP := aside (cdel key h3 HN.out.1 hc ap ge)
      clear h3 hc ap ge G4
      go_wp2_with fail
      refine CP.out.mono ?_
      rintro r w8 ⟨c2, m2, rfl, h3⟩
      have G5 := aside (h3.on (bnew w8 (.cells #[.int .i64 c2, .int .i64 m2] 37))).drew
      clear h3 CP
      go_wp2_with fail
      refine wp_region_held_drew (S := fun W => W.cell? ⟨eb, 0, none⟩ = some (.string e.k) ∧ W.cell? ⟨eb, 1, none⟩ = some (.int .i64 e.c) ∧ W.cell? ⟨eb, 2, none⟩ = some (.int .i64 e.n) ∧ W.cell? ⟨eb, 3, none⟩ = some (.string e.v) ∧ W.cell? ⟨eb, 4, none⟩ = some (.bool e.d)) (by kernel_rfl) (ebxfb G5.out.box) (fun hHeld => ?_)
      refine wpAnyH_take (i := 0) (v := ?_) rfl (by kernel_rfl) (by kernel_rfl) (by kernel_rfl) (fun _ _ _ h => h) (Or.inl ⟨by rfl, ?_⟩) (by assumption) ?_
      rotate_left
      · intro w hSw
        go_simp
        try with_reducible rfl
      simp only [Act.put, List.getElem_toArray, List.getElem_cons_zero, List.setIfInBounds_toArray, List.set_cons_zero, List.set_cons_succ]
      refine wpAnyH_take (i := 2) (v := ?_) rfl (by kernel_rfl) (by kernel_rfl) (by kernel_rfl) (fun _ _ _ h => h) (Or.inl ⟨by rfl, ?_⟩) (by assumption) ?_
      rotate_left
      · intro w hSw
        go_simp
        try with_reducible rfl
      simp only [Act.put, List.getElem_toArray, List.getElem_cons_zero, List.getElem_cons_succ, List.setIfInBounds_toArray, List.set_cons_zero, List.set_cons_succ]
      generalize World.drew _ = V5 at *
      refine wpAnyH_ready (rs := [1]) (by kernel_rfl) (by simp) ?_
      refine AllReadyH.cons rfl (fun K hK => ?_) AllReadyH.nil
      go_simp
      refine (fclone G5.out HN.out.1).mono ?_
      rintro r wA ⟨se, ge1, te, rfl, h3, hc, ap, ge⟩
      refine hK.out _ _ (ebxfb h3.box) (fun hHeld => ?_)
      have CP := aside (ctake h3 HN.out.1 hc ap ge)
      clear hK K h3 hc ap ge G5
      refine wpAnyH_ready (rs := [3]) (by kernel_rfl) (by simp) ?_
      refine AllReadyH.cons rfl (fun K hK => ?_) AllReadyH.nil
      go_simp
      refine CP.out.mono ?_
      rintro r wB ⟨rfl, h3⟩
      refine hK.out _ _ (ebxfb h3.box) (fun hHeld => ?_)
      have G8 := aside h3
      clear hK K h3 CP
      refine wpAnyH_take (i := 4) (v := ?_) rfl (by kernel_rfl) (by kernel_rfl) (by kernel_rfl) (fun _ _ _ h => h) (Or.inl ⟨by rfl, ?_⟩) (by assumption) ?_
      rotate_left
      · intro w hSw
        go_simp
        try with_reducible rfl
      simp only [Act.put, List.getElem_toArray, List.getElem_cons_zero, List.getElem_cons_succ, List.setIfInBounds_toArray, List.set_cons_zero, List.set_cons_succ]
      refine wpAnyH_take (i := 5) (v := ?_) rfl (by kernel_rfl) (by kernel_rfl) (by kernel_rfl) (fun _ _ _ h => h) (Or.inl ⟨by rfl, ?_⟩) (by assumption) ?_
      rotate_left
      · intro w hSw
        go_simp
        try with_reducible rfl
      simp only [Act.put, List.getElem_toArray, List.getElem_cons_zero, List.getElem_cons_succ, List.setIfInBounds_toArray, List.set_cons_zero, List.set_cons_succ]
      refine wpAnyH_take (i := 6) (v := ?_) rfl (by kernel_rfl) (by kernel_rfl) (by kernel_rfl) (fun _ _ _ h => h) (Or.inl ⟨by rfl, ?_⟩) (by assumption) ?_
      rotate_left
      · intro w hSw
        go_simp
        try with_reducible rfl
      simp only [Act.put, List.getElem_toArray, List.getElem_cons_zero, List.getElem_cons_succ, List.setIfInBounds_toArray, List.set_cons_zero, List.set_cons_succ]
      refine wpAnyH_take (i := 7) (v := ?_) rfl (by kernel_rfl) (by kernel_rfl) (by kernel_rfl) (fun _ _ _ h => h) (Or.inl ⟨by rfl, ?_⟩) (by assumption) ?_
      rotate_left
      · intro w hSw
        go_simp
        try with_reducible rfl
      simp only [Act.put, List.getElem_toArray, List.getElem_cons_zero, List.getElem_cons_succ, List.setIfInBounds_toArray, List.set_cons_zero, List.set_cons_succ]
      refine wpAnyH_take (i := 8) (v := ?_) rfl (by kernel_rfl) (by kernel_rfl) (by kernel_rfl) (fun _ _ _ h => h) (Or.inl ⟨by rfl, ?_⟩) (by assumption) ?_
      rotate_left
      · intro w hSw
        go_simp
        try with_reducible rfl
      simp only [Act.put, List.getElem_toArray, List.getElem_cons_zero, List.getElem_cons_succ, List.setIfInBounds_toArray, List.set_cons_zero, List.set_cons_succ]
      refine wpAnyH_done (by kernel_rfl) ?_ _
      clear hHeld
      have hks : ¬ (16 : Int) < key.size := by have := HKS.out; omega
      have hvs : (32 : Int) < value.size := by have := HVS.out; omega
      rw [show decide (0 < k) = false from by simp; omega]
      have CH := aside (held_any G8.out.st (by have := HN.out.1; rw [G8.out.fill.len]; omega))
      have E2 := wr_room (v := ⟨#[]⟩) G8.out.fill HN.out.1 hks (by decide)
      have hvn : ¬ (value.size : Int) ≤ 32 := by omega
      rw [wr_val hks hvs, E2]
      rw [show decide (N < 256) = false from by have := HN.out; simp; omega]
      clear E2
      cases his : getB key Ls
      · rw [show (if (false || false) = true then (0 : Int) else 80) = 80 from rfl]
        rcases tk_say (e := e) G8.out.fill with ⟨t1, t2, t3, t4⟩ | ⟨t1, t2⟩ | ⟨t1, t2⟩
        · rw [t1, t2, t3]
          go_wp2_with fail
          refine CH.out.mono ?_
          rintro r w9 ⟨v, rfl, own1, b9⟩
          have G9 := aside (G8.out.on b9)
          obtain ⟨aA, cA, rfl, -, -, -⟩ := own_slc own1
          rw [G8.out.fill.len]
          have CC := aside (qclock G9.out.st)
          clear own1 b9 CH G8
          go_wp2_with fail
          refine CC.out.mono ?_
          rintro r w10 ⟨rfl, rfl⟩
          clear CC
          go_wp2
          go_ret
          exact ⟨rfl, G9.out.below⟩
        · rw [t1]
          generalize (tkSay e Ls).2 = tk at *
          have t3 : getB e.k Ls = true := t2.resolve_right (fun h => by have := HN.out.2.1 h; omega)
          rw [t3]
          clear t1 t2 t3
          go_wp2_with fail
          refine CH.out.mono ?_
          rintro r w9 ⟨v, rfl, own1, b9⟩
          have G9 := aside (G8.out.on b9)
          obtain ⟨aA, cA, rfl, -, -, -⟩ := own_slc own1
          rw [G8.out.fill.len]
          have CC := aside (qclock G9.out.st)
          clear own1 b9 CH G8
          go_wp2_with fail
          refine CC.out.mono ?_
          rintro r w10 ⟨rfl, rfl⟩
          clear CC
          go_wp2
          go_ret
          exact ⟨rfl, G9.out.below⟩
        · have hb1 : ((tkSay e Ls).1 == 80) = false := by simpa using t1
          have hb2 : ((tkSay e Ls).1 == 0) = false := by simpa using t2
          generalize (tkSay e Ls).1 = gi at *
          generalize (tkSay e Ls).2 = tk at *
          generalize getB e.k Ls = hs at *
          clear t1 t2
          go_wp2_with fail
          refine CH.out.mono ?_
          rintro r w9 ⟨v, rfl, own1, b9⟩
          have G9 := aside (G8.out.on b9)
          obtain ⟨aA, cA, rfl, -, -, -⟩ := own_slc own1
          rw [G8.out.fill.len]
          have CC := aside (qclock G9.out.st)
          clear own1 b9 CH G8
          go_wp2_with fail
          refine CC.out.mono ?_
          rintro r w10 ⟨rfl, rfl⟩
          clear CC
          go_wp2
          go_ret
          exact ⟨rfl, G9.out.below⟩
      · rw [show (if (true || false) = true then (0 : Int) else 80) = 0 from rfl]
        rcases tk_say (e := e) G8.out.fill with ⟨t1, t2, t3, t4⟩ | ⟨t1, t2⟩ | ⟨t1, t2⟩
        · rw [t1, t2, t3]
          go_wp2_with fail
          refine CH.out.mono ?_
          rintro r w9 ⟨v, rfl, own1, b9⟩
          have G9 := aside (G8.out.on b9)
          obtain ⟨aA, cA, rfl, -, -, -⟩ := own_slc own1
          rw [G8.out.fill.len]
          have CC := aside (qclock G9.out.st)
          clear own1 b9 CH G8
          go_wp2_with fail
          refine CC.out.mono ?_
          rintro r w10 ⟨rfl, rfl⟩
          clear CC
          go_wp2
          go_ret
          exact ⟨rfl, G9.out.below⟩
        · rw [t1]
          generalize (tkSay e Ls).2 = tk at *
          have t3 : getB e.k Ls = true := t2.resolve_right (fun h => by have := HN.out.2.1 h; omega)
          rw [t3]
          clear t1 t2 t3
          go_wp2_with fail
          refine CH.out.mono ?_
          rintro r w9 ⟨v, rfl, own1, b9⟩
          have G9 := aside (G8.out.on b9)
          obtain ⟨aA, cA, rfl, -, -, -⟩ := own_slc own1
          rw [G8.out.fill.len]
          have CC := aside (qclock G9.out.st)
          clear own1 b9 CH G8
          go_wp2_with fail
          refine CC.out.mono ?_
          rintro r w10 ⟨rfl, rfl⟩
          clear CC
          go_wp2
          go_ret
          exact ⟨rfl, G9.out.below⟩
        · have hb1 : ((tkSay e Ls).1 == 80) = false := by simpa using t1
          have hb2 : ((tkSay e Ls).1 == 0) = false := by simpa using t2
          generalize (tkSay e Ls).1 = gi at *
          generalize (tkSay e Ls).2 = tk at *
          generalize getB e.k Ls = hs at *
          clear t1 t2
          go_wp2_with fail
          refine CH.out.mono ?_
          rintro r w9 ⟨v, rfl, own1, b9⟩
          have G9 := aside (G8.out.on b9)
          obtain ⟨aA, cA, rfl, -, -, -⟩ := own_slc own1
          rw [G8.out.fill.len]
          have CC := aside (qclock G9.out.st)
          clear own1 b9 CH G8
          go_wp2_with fail
          refine CC.out.mono ?_
          rintro r w10 ⟨rfl, rfl⟩
          clear CC
          go_wp2
          go_ret
          exact ⟨rfl, G9.out.below⟩

end Go.Proofs.YtlgcdcjhflihiaaDoor
