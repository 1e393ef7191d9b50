/-
  Proved: for every number, every list of bools, every two texts and every entry the law StoreFills returns true and leaves its arguments as they were: a store that is full takes what it holds already and refuses every other key, and one with room takes one more. The card ties the listed table of lanes to the text of the program (a pruned copy: see the seat), and says nothing of other packages. No condition of its own.
  The law StoreFills, walked.
  The law StoreFills, walked: all cases.
-/
import Derived.Test.YtlgcdcjhflihiaaDoorBstorefills38
import Derived.Deep.LoopGhost
import Derived.Test.YtlgcdcjhflihiaaDoorBstorefills39
import Derived.Test.YtlgcdcjhflihiaaDoorBstorefills40
import Derived.Test.YtlgcdcjhflihiaaDoorBstorefills41
import Derived.Test.YtlgcdcjhflihiaaDoorCards
import Derived.Test.YtlgcdcjhflihiaaDoorTie
import Derived.Test.YtlgcdcjhflihiaaDoorBstorefills2
import Derived.LaidMore
import Derived.MakeChecks
import Derived.Stop.Joined
import Derived.ChangeMaps5
import Derived.Lay
namespace Go.Proofs.YtlgcdcjhflihiaaDoor
open Go.RowKit
set_option linter.unusedVariables false

theorem node1fs : nodeB 1 = true := by decide
theorem ebxfs {e : En} {X : World} {b : Nat} (h : EBx e X b) : X.cell? ⟨b, 0, none⟩ = some (.string e.k) ∧ X.cell? ⟨b, 1, none⟩ = some (.int .i64 e.c) ∧ X.cell? ⟨b, 2, none⟩ = some (.int .i64 e.n) ∧ X.cell? ⟨b, 3, none⟩ = some (.string e.v) ∧ X.cell? ⟨b, 4, none⟩ = some (.bool e.d) := quint h

set_option maxHeartbeats 32000000 in
set_option maxRecDepth 100000 in
theorem lstfills_fs (less : Int) (a : Option Addr) (len cap : Nat) (D : Nat → Bool) (key value : ByteArray) (e : En) (w : World) (L : Lanes w) (hD : BoolsIn w a len cap D) (hks : ¬ (16 : Int) < key.size) (hrm : ¬ 0 < amg less 3) (hvs : ¬ (32 : Int) < value.size) :
    Calls Tryd.prog 5 #[.int .i64 less, .slice a len cap, .string key, .string value, .agg #[.string e.k, .int .i64 e.c, .int .i64 e.n, .string e.v, .bool e.d]] w fun r w' => r = .returned (.bool true) ∧ Below w.heap.size w w' := by
  have HD := aside hD
  have HKS := aside hks
  have HVS := aside hvs
  clear hks hvs
  have hmx : (len : Int) ≤ 9223372036854775807 := by have := hD.1; have := hD.2.1; unfold maxLen at *; omega
  have B0 := aside (bnew w (.cells #[.string e.k, .int .i64 e.c, .int .i64 e.n, .string e.v, .bool e.d] 39))
  have X0 := aside (heap_alloc_new w (.cells #[.string e.k, .int .i64 e.c, .int .i64 e.n, .string e.v, .bool e.d] 39))
  have L0 := aside (L.keep B0.out)
  have C0 := aside (shown_any _ L0.out)
  have CN := aside (fun (W : World) => qnew 1 W)
  have CA := aside (fun (W : World) => among9 less 3 W (by decide) (by decide))
  obtain ⟨k, hk1, hk⟩ := amg_lt less (m := 3) (by decide)
  rw [show ((3 : Nat) : Int) = 3 from rfl] at CA hk1
  rw [hk1] at CA hrm
  clear hk1
  clear hD L
  go_enter Tryd.func5, Tryd.ntmps5
  go_wp2_with fail
  refine C0.out.mono ?_
  rintro r w0 ⟨rfl, b0⟩
  have B1 := aside (bthen B0.out b0)
  have X1 := aside (blk_on X0.out b0)
  have L1 := aside (L0.out.keep b0)
  clear b0 C0 B0 X0 L0
  go_wp2_with fail
  refine (CN.out _).mono ?_
  rintro r w1 ⟨b1, ⟨hn, -⟩ | ⟨hn, sb, g, tb, rfl, hs, l1, l2, l3⟩⟩
  · rw [node1fs] at hn; cases hn
  have G0 := aside (⟨hs, Filled.nil, L1.out.keep b1, bthen B1.out b1, by have := B1.out.size; omega, blk_on X1.out b1⟩ : FI w w1 sb g tb w.heap.size e 0 [])
  generalize w.heap.size = eb at G0 ⊢
  clear b1 hn hs l1 l2 l3 CN B1 X1 L1
  go_wp2_with fail
  refine (CA.out _).mono ?_
  rintro r w2 ⟨rfl, rfl⟩
  clear CA
  obtain ⟨N, hN⟩ : ∃ N, 256 - k = N := ⟨_, rfl⟩
  have hw : IntKind.i64.wrap (256 - (k : Int)) = (N : Int) := by rw [IntKind.wrap_i64]; omega
  have HN := aside (show N ≤ 256 ∧ (N < 256 ↔ 0 < k) from by omega)
  clear hN hk
  go_wp2
  go_loopw [14] (fun i X => ∃ (j : Nat) (Ls : List En), i = .int .i64 (j : Int) ∧ j ≤ N ∧ FI w X sb g tb eb e j Ls) (fun i _ => N - (intOf i).toNat)
  case atStart => exact ⟨0, [], rfl, Nat.zero_le _, G0.out⟩
  case round =>
    obtain ⟨j, Ls, rfl, hj, hfi⟩ := hrel
    clear G0
    have G := aside hfi
    by_cases hlt : (j : Int) < (N : Int)
    · have JL := aside (show j + 1 ≤ N from by omega)
      have JB := aside (show j < 256 from by have := HN.out; omega)
      have hj0 : (0 : Int) ≤ (j : Int) := by omega
      have hjw : IntKind.i64.wrap ((j : Int) + 1) = (j : Int) + 1 := by rw [IntKind.wrap_i64]; have := JB.out; omega
      have CM := aside (name_any j JB.out wr)
      by_cases hld : (j : Int) < (len : Int)
      · rcases HD.out.2.2 with h0 | ⟨b, off, rfl, hb, hc⟩
        · omega
        · have c0 := cell_in (hc j (by omega)) hfi.below
          clear hc hb hfi hj
          cases hdj : D j
          · rw [hdj] at c0
            go_wp2_with fail
            refine CM.out.mono ?_
            rintro r w3 ⟨rfl, b3⟩
            have G1 := aside (G.out.on b3)
            clear b3 CM G
            go_wp2_with fail
            refine (fput G1.out JB.out).mono ?_
            rintro r w4 ⟨c, m, Ls', rfl, h4⟩
            have G2 := aside h4
            clear h4 G1
            go_wp2
            go_roundw
            case rel => exact ⟨j + 1, Ls', by go_num, JL.out, G2.out⟩
            case measure => simp [intOf]; have := JL.out; omega
          · rw [hdj] at c0
            go_wp2_with fail
            refine CM.out.mono ?_
            rintro r w3 ⟨rfl, b3⟩
            have G1 := aside (G.out.on b3)
            clear b3 CM G
            go_wp2_with fail
            refine (fdel G1.out JB.out).mono ?_
            rintro r w4 ⟨c, m, Ls', rfl, h4⟩
            have G2 := aside h4
            clear h4 G1
            go_wp2
            go_roundw
            case rel => exact ⟨j + 1, Ls', by go_num, JL.out, G2.out⟩
            case measure => simp [intOf]; have := JL.out; omega
      · clear hfi hj
        go_wp2_with fail
        refine CM.out.mono ?_
        rintro r w3 ⟨rfl, b3⟩
        have G1 := aside (G.out.on b3)
        clear b3 CM G
        go_wp2_with fail
        refine (fput G1.out JB.out).mono ?_
        rintro r w4 ⟨c, m, Ls', rfl, h4⟩
        have G2 := aside h4
        clear h4 G1
        go_wp2
        go_roundw
        case rel => exact ⟨j + 1, Ls', by go_num, JL.out, G2.out⟩
        case measure => simp [intOf]; have := JL.out; omega
    · obtain rfl : N = j := by omega
      clear hfi hj HD
      go_wp2_with fail
      refine (fget key G.out HN.out.1).mono ?_
      rintro r w3 ⟨x, er, rfl, h3⟩
      have G1 := aside (h3.on (bnew w3 (.cells #[.string x.k, .int .i64 x.c, .int .i64 x.n, .string x.v, .bool x.d] 39)))
      clear h3 G
      obtain ⟨d0, -, -, -, -⟩ := ebxfs G1.out.box
      go_wp2_with fail
      clear d0
      generalize w3.alloc (.cells #[.string x.k, .int .i64 x.c, .int .i64 x.n, .string x.v, .bool x.d] 39) = V1 at *
      refine (fget e.k G1.out HN.out.1).mono ?_
      rintro r w4 ⟨y, er2, rfl, h3⟩
      have G2 := aside (h3.on (bnew w4 (.cells #[.string y.k, .int .i64 y.c, .int .i64 y.n, .string y.v, .bool y.d] 39)))
      clear h3 G1
      go_wp2_with fail
      generalize w4.alloc (.cells #[.string y.k, .int .i64 y.c, .int .i64 y.n, .string y.v, .bool y.d] 39) = V2 at *
      refine (fclone G2.out HN.out.1).mono ?_
      rintro r w5 ⟨sc, gc, tc, rfl, h3, hc, ap, ge⟩
      have G3 := aside h3
      have CP := aside (cput key value h3 HN.out.1 hc ap ge)
      clear h3 hc ap ge G2
      go_wp2_with fail
      refine CP.out.mono ?_
      rintro r w6 ⟨c1, m1, rfl, h3⟩
      have G4 := aside (h3.on (bnew w6 (.cells #[.int .i64 c1, .int .i64 m1] 37)))
      clear h3 CP G3
      go_wp2_with fail
      generalize w6.alloc (.cells #[.int .i64 c1, .int .i64 m1] 37) = V4 at *
      refine (fclone G4.out HN.out.1).mono ?_
      rintro r w7 ⟨sd, gd, td, rfl, h3, hc, ap, ge⟩
      have CP := aside (cdel key h3 HN.out.1 hc ap ge)
      clear h3 hc ap ge G4
      go_wp2_with fail
      refine CP.out.mono ?_
      rintro r w8 ⟨c2, m2, rfl, h3⟩
      have G5 := aside (h3.on (bnew w8 (.cells #[.int .i64 c2, .int .i64 m2] 37))).drew
      clear h3 CP
      go_wp2_with fail
      refine wp_region_held_drew (S := fun W => W.cell? ⟨eb, 0, none⟩ = some (.string e.k) ∧ W.cell? ⟨eb, 1, none⟩ = some (.int .i64 e.c) ∧ W.cell? ⟨eb, 2, none⟩ = some (.int .i64 e.n) ∧ W.cell? ⟨eb, 3, none⟩ = some (.string e.v) ∧ W.cell? ⟨eb, 4, none⟩ = some (.bool e.d)) (by kernel_rfl) (ebxfs G5.out.box) (fun hHeld => ?_)
      refine wpAnyH_take (i := 0) (v := ?_) rfl (by kernel_rfl) (by kernel_rfl) (by kernel_rfl) (fun _ _ _ h => h) (Or.inl ⟨by rfl, ?_⟩) (by assumption) ?_
      rotate_left
      · intro w hSw
        go_simp
        try with_reducible rfl
      simp only [Act.put, List.getElem_toArray, List.getElem_cons_zero, List.setIfInBounds_toArray, List.set_cons_zero, List.set_cons_succ]
      refine wpAnyH_take (i := 2) (v := ?_) rfl (by kernel_rfl) (by kernel_rfl) (by kernel_rfl) (fun _ _ _ h => h) (Or.inl ⟨by rfl, ?_⟩) (by assumption) ?_
      rotate_left
      · intro w hSw
        go_simp
        try with_reducible rfl
      simp only [Act.put, List.getElem_toArray, List.getElem_cons_zero, List.getElem_cons_succ, List.setIfInBounds_toArray, List.set_cons_zero, List.set_cons_succ]
      generalize World.drew _ = V5 at *
      refine wpAnyH_ready (rs := [1]) (by kernel_rfl) (by simp) ?_
      refine AllReadyH.cons rfl (fun K hK => ?_) AllReadyH.nil
      go_simp
      refine (fclone G5.out HN.out.1).mono ?_
      rintro r wA ⟨se, ge1, te, rfl, h3, hc, ap, ge⟩
      refine hK.out _ _ (ebxfs h3.box) (fun hHeld => ?_)
      have CP := aside (ctake h3 HN.out.1 hc ap ge)
      clear hK K h3 hc ap ge G5
      refine wpAnyH_ready (rs := [3]) (by kernel_rfl) (by simp) ?_
      refine AllReadyH.cons rfl (fun K hK => ?_) AllReadyH.nil
      go_simp
      refine CP.out.mono ?_
      rintro r wB ⟨rfl, h3⟩
      refine hK.out _ _ (ebxfs h3.box) (fun hHeld => ?_)
      have G8 := aside h3
      clear hK K h3 CP
      refine wpAnyH_take (i := 4) (v := ?_) rfl (by kernel_rfl) (by kernel_rfl) (by kernel_rfl) (fun _ _ _ h => h) (Or.inl ⟨by rfl, ?_⟩) (by assumption) ?_
      rotate_left
      · intro w hSw
        go_simp
        try with_reducible rfl
      simp only [Act.put, List.getElem_toArray, List.getElem_cons_zero, List.getElem_cons_succ, List.setIfInBounds_toArray, List.set_cons_zero, List.set_cons_succ]
      refine wpAnyH_take (i := 5) (v := ?_) rfl (by kernel_rfl) (by kernel_rfl) (by kernel_rfl) (fun _ _ _ h => h) (Or.inl ⟨by rfl, ?_⟩) (by assumption) ?_
      rotate_left
      · intro w hSw
        go_simp
        try with_reducible rfl
      simp only [Act.put, List.getElem_toArray, List.getElem_cons_zero, List.getElem_cons_succ, List.setIfInBounds_toArray, List.set_cons_zero, List.set_cons_succ]
      refine wpAnyH_take (i := 6) (v := ?_) rfl (by kernel_rfl) (by kernel_rfl) (by kernel_rfl) (fun _ _ _ h => h) (Or.inl ⟨by rfl, ?_⟩) (by assumption) ?_
      rotate_left
      · intro w hSw
        go_simp
        try with_reducible rfl
      simp only [Act.put, List.getElem_toArray, List.getElem_cons_zero, List.getElem_cons_succ, List.setIfInBounds_toArray, List.set_cons_zero, List.set_cons_succ]
      refine wpAnyH_take (i := 7) (v := ?_) rfl (by kernel_rfl) (by kernel_rfl) (by kernel_rfl) (fun _ _ _ h => h) (Or.inl ⟨by rfl, ?_⟩) (by assumption) ?_
      rotate_left
      · intro w hSw
        go_simp
        try with_reducible rfl
      simp only [Act.put, List.getElem_toArray, List.getElem_cons_zero, List.getElem_cons_succ, List.setIfInBounds_toArray, List.set_cons_zero, List.set_cons_succ]
      refine wpAnyH_take (i := 8) (v := ?_) rfl (by kernel_rfl) (by kernel_rfl) (by kernel_rfl) (fun _ _ _ h => h) (Or.inl ⟨by rfl, ?_⟩) (by assumption) ?_
      rotate_left
      · intro w hSw
        go_simp
        try with_reducible rfl
      simp only [Act.put, List.getElem_toArray, List.getElem_cons_zero, List.getElem_cons_succ, List.setIfInBounds_toArray, List.set_cons_zero, List.set_cons_succ]
      refine wpAnyH_done (by kernel_rfl) ?_ _
      clear hHeld
      have hks : ¬ (16 : Int) < key.size := by have := HKS.out; omega
      have hvs : ¬ (32 : Int) < value.size := by have := HVS.out; omega
      rw [show decide (0 < k) = false from by simp; omega]
      have CH := aside (held_any G8.out.st (by have := HN.out.1; rw [G8.out.fill.len]; omega))
      have E2 := wr_room (v := ⟨#[]⟩) G8.out.fill HN.out.1 hks (by decide)
      have hvl : (value.size : Int) ≤ 32 := by omega
      rw [wr_room G8.out.fill HN.out.1 hks hvs, E2]
      rw [show decide (N < 256) = false from by have := HN.out; simp; omega]
      clear E2
      cases his : getB key Ls
      · rw [show (if (false || false) = true then (0 : Int) else 80) = 80 from rfl]
        rcases tk_say (e := e) G8.out.fill with ⟨t1, t2, t3, t4⟩ | ⟨t1, t2⟩ | ⟨t1, t2⟩
        · rw [t1, t2, t3]
          go_wp2_with fail
          refine CH.out.mono ?_
          rintro r w9 ⟨v, rfl, own1, b9⟩
          have G9 := aside (G8.out.on b9)
          obtain ⟨aA, cA, rfl, -, -, -⟩ := own_slc own1
          rw [G8.out.fill.len]
          have CC := aside (qclock G9.out.st)
          clear own1 b9 CH G8
          go_wp2_with fail
          refine CC.out.mono ?_
          rintro r w10 ⟨rfl, rfl⟩
          clear CC
          go_wp2
          go_ret
          exact ⟨rfl, G9.out.below⟩
        · rw [t1]
          generalize (tkSay e Ls).2 = tk at *
          have t3 : getB e.k Ls = true := t2.resolve_right (fun h => by have := HN.out.2.1 h; omega)
          rw [t3]
          clear t1 t2 t3
          go_wp2_with fail
          refine CH.out.mono ?_
          rintro r w9 ⟨v, rfl, own1, b9⟩
          have G9 := aside (G8.out.on b9)
          obtain ⟨aA, cA, rfl, -, -, -⟩ := own_slc own1
          rw [G8.out.fill.len]
          have CC := aside (qclock G9.out.st)
          clear own1 b9 CH G8
          go_wp2_with fail
          refine CC.out.mono ?_
          rintro r w10 ⟨rfl, rfl⟩
          clear CC
          go_wp2
          go_ret
          exact ⟨rfl, G9.out.below⟩
        · have hb1 : ((tkSay e Ls).1 == 80) = false := by simpa using t1
          have hb2 : ((tkSay e Ls).1 == 0) = false := by simpa using t2
          generalize (tkSay e Ls).1 = gi at *
          generalize (tkSay e Ls).2 = tk at *
          generalize getB e.k Ls = hs at *
          clear t1 t2
          go_wp2_with fail
          refine CH.out.mono ?_
          rintro r w9 ⟨v, rfl, own1, b9⟩
          have G9 := aside (G8.out.on b9)
          obtain ⟨aA, cA, rfl, -, -, -⟩ := own_slc own1
          rw [G8.out.fill.len]
          have CC := aside (qclock G9.out.st)
          clear own1 b9 CH G8
          go_wp2_with fail
          refine CC.out.mono ?_
          rintro r w10 ⟨rfl, rfl⟩
          clear CC
          go_wp2
          go_ret
          exact ⟨rfl, G9.out.below⟩
      · rw [show (if (true || false) = true then (0 : Int) else 80) = 0 from rfl]
        rcases tk_say (e := e) G8.out.fill with ⟨t1, t2, t3, t4⟩ | ⟨t1, t2⟩ | ⟨t1, t2⟩
        · rw [t1, t2, t3]
          go_wp2_with fail
          refine CH.out.mono ?_
          rintro r w9 ⟨v, rfl, own1, b9⟩
          have G9 := aside (G8.out.on b9)
          obtain ⟨aA, cA, rfl, -, -, -⟩ := own_slc own1
          rw [G8.out.fill.len]
          have CC := aside (qclock G9.out.st)
          clear own1 b9 CH G8
          go_wp2_with fail
          refine CC.out.mono ?_
          rintro r w10 ⟨rfl, rfl⟩
          clear CC
          go_wp2
          go_ret
          exact ⟨rfl, G9.out.below⟩
        · rw [t1]
          generalize (tkSay e Ls).2 = tk at *
          have t3 : getB e.k Ls = true := t2.resolve_right (fun h => by have := HN.out.2.1 h; omega)
          rw [t3]
          clear t1 t2 t3
          go_wp2_with fail
          refine CH.out.mono ?_
          rintro r w9 ⟨v, rfl, own1, b9⟩
          have G9 := aside (G8.out.on b9)
          obtain ⟨aA, cA, rfl, -, -, -⟩ := own_slc own1
          rw [G8.out.fill.len]
          have CC := aside (qclock G9.out.st)
          clear own1 b9 CH G8
          go_wp2_with fail
          refine CC.out.mono ?_
          rintro r w10 ⟨rfl, rfl⟩
          clear CC
          go_wp2
          go_ret
          exact ⟨rfl, G9.out.below⟩
        · have hb1 : ((tkSay e Ls).1 == 80) = false := by simpa using t1
          have hb2 : ((tkSay e Ls).1 == 0) = false := by simpa using t2
          generalize (tkSay e Ls).1 = gi at *
          generalize (tkSay e Ls).2 = tk at *
          generalize getB e.k Ls = hs at *
          clear t1 t2
          go_wp2_with fail
          refine CH.out.mono ?_
          rintro r w9 ⟨v, rfl, own1, b9⟩
          have G9 := aside (G8.out.on b9)
          obtain ⟨aA, cA, rfl, -, -, -⟩ := own_slc own1
          rw [G8.out.fill.len]
          have CC := aside (qclock G9.out.st)
          clear own1 b9 CH G8
          go_wp2_with fail
          refine CC.out.mono ?_
          rintro r w10 ⟨rfl, rfl⟩
          clear CC
          go_wp2
          go_ret
          exact ⟨rfl, G9.out.below⟩

end Go.Proofs.YtlgcdcjhflihiaaDoor
namespace Go.Proofs.YtlgcdcjhflihiaaDoor
open Go.RowKit
set_option linter.unusedVariables false

theorem lstfills_walk (less : Int) (a : Option Addr) (len cap : Nat) (D : Nat → Bool) (key value : ByteArray) (e : En) (w : World) (L : Lanes w) (hD : BoolsIn w a len cap D) :
    Calls Tryd.prog 5 #[.int .i64 less, .slice a len cap, .string key, .string value, .agg #[.string e.k, .int .i64 e.c, .int .i64 e.n, .string e.v, .bool e.d]] w fun r w' => r = .returned (.bool true) ∧ Below w.heap.size w w' := by
  by_cases hks : (16 : Int) < key.size
  · exact lstfills_K less a len cap D key value e w L hD hks
  · by_cases hrm : 0 < amg less 3 <;> by_cases hvs : (32 : Int) < value.size
    · exact lstfills_tb less a len cap D key value e w L hD hks hrm hvs
    · exact lstfills_ts less a len cap D key value e w L hD hks hrm hvs
    · exact lstfills_fb less a len cap D key value e w L hD hks hrm hvs
    · exact lstfills_fs less a len cap D key value e w L hD hks hrm hvs

end Go.Proofs.YtlgcdcjhflihiaaDoor
namespace Go.Proofs.YtlgcdcjhflihiaaDoor.storeFills
open Go.ChangeShapes Go.WideShapes Go.ChangeAt Go.RowKit
open Go.ChangeMaps (open_string shut_string)
set_option linter.unusedVariables false

/-- What the row's list gives. -/
theorem env_of {W : World} (h : laidMetH Tryd.prog Rows.storeFillsRow.laid W) : Lanes W := by
  rw [MakeChecks.laidMetH_plain _ _ _ (by kernel_rfl)] at h
  exact lanes_of h

set_option maxRecDepth 100000 in
theorem lifted (os : Os) (started : os.Started) (H : Type) (enc : TypeId × Value → H) :
    ReturnsInHanded {} Tryd.checked os 5 .any (fun w args => (Rows.storeFillsSpec.pre enc Tryd.prog Tryd.f5 Rows.storeFillsRow.domain false w args ∧ laidMetH Tryd.prog Rows.storeFillsRow.laid w) ∧ sizedMet enc Tryd.prog Tryd.f5 (OpenSpec.ofChange Rows.storeFillsSpec) false w args)
      (Rows.storeFillsSpec.post enc Tryd.prog Tryd.f5 false true false false) := by
  refine returnsInHanded_of_calls own started (by kernel_rfl)
    (ChangeSpec.witness_shaped (enc := enc) (C := Tryd.checked) (os := os) (X := fun w _ => laidMetH Tryd.prog Rows.storeFillsRow.laid w) false (World.laidAll Tryd.prog os Rows.storeFillsRow.laid) #[.int .i64 0, .slice none 0 0, .string ⟨#[]⟩, .string ⟨#[]⟩, .agg #[.string ⟨#[]⟩, .int .i64 0, .int .i64 0, .string ⟨#[]⟩, .bool false]] 8 (World.laidAll_os _ _ _)
      (World.shaped_of_ZipB (by kernel_rfl) (by kernel_rfl)) (by kernel_rfl) (by kernel_rfl) (by kernel_rfl)
      (by rw [MakeChecks.laidMetH_plain _ _ _ (by kernel_rfl)]; exact laidMet_laidAll _ (by kernel_rfl) (by kernel_rfl))) ?_
  intro w tape i _ hsh _ hok hpre hholds
  obtain ⟨_, _, _, fn', hfn', _, _, _, _, hval0⟩ := hok
  obtain rfl : fn' = Tryd.f5 := Option.some.inj (hfn'.symm.trans Tryd.func5)
  obtain ⟨⟨⟨ds, gs, before, hw, hc⟩, hL0⟩, hz⟩ := hpre
  have hsz : (DataW.weightsEach Tryd.prog (Tryd.f5.params.toList ++ Rows.storeFillsSpec.plain.varTypes Tryd.prog) (ds ++ gs)).all (· ≤ reachBytes) = true := hz.weights hw
  have hW := DataW.Whole.of_heap (w' := w.forCall tape i) (by rfl) hw
  have hL : laidMetH Tryd.prog Rows.storeFillsRow.laid (w.forCall tape i) := hL0.of_heap (by rfl)
  suffices hmain : Calls Tryd.prog 5 i.args (w.forCall tape i) fun e W' => ∃ v, e = .returned v ∧ Rows.storeFillsSpec.post enc Tryd.prog Tryd.f5 false true false false (w.forCall tape i) i.args v W' from
    hmain.mono fun e W' ⟨v, he, hp⟩ => by subst he; exact ChangeSpec.post_blind hp
  generalize w.forCall tape i = W at *
  generalize i.args = args at *
  generalize w.heap.size = base at *
  have hval : ∀ (j : Nat) t v, Tryd.f5.params[j]? = some t → args[j]? = some v → Value.okWide Tryd.prog W .any base t v := hval0
  have hW' := hW
  obtain ⟨p, q, hA0, hV, rfl, hfz, hnd⟩ := hW
  have hA : DataW.TrodAll enc Tryd.prog W 0 (fun _ => true) true Tryd.f5.params.toList args.toList ds p := hA0
  rw [Tryd.params5] at hA hval hsz
  obtain ⟨v0, vs0, d0, ds0, p0, q0, hargs0, rfl, rfl, h0, r0⟩ := trodAll_cons hA
  obtain ⟨v1, vs1, d1, ds1, p1, q1, hargs1, rfl, rfl, h1, r1⟩ := trodAll_cons r0
  obtain ⟨v2, vs2, d2, ds2, p2, q2, hargs2, rfl, rfl, h2, r2⟩ := trodAll_cons r1
  obtain ⟨v3, vs3, d3, ds3, p3, q3, hargs3, rfl, rfl, h3, r3⟩ := trodAll_cons r2
  obtain ⟨v4, vs4, d4, ds4, p4, q4, hargs4, rfl, rfl, h4, r4⟩ := trodAll_cons r3
  obtain ⟨rfl, rfl, rfl⟩ := trodAll_nil r4
  subst hargs4
  subst hargs3
  subst hargs2
  subst hargs1
  obtain rfl : args = #[v0, v1, v2, v3, v4] := by cases args; simp_all
  obtain ⟨rfl, rfl⟩ := trodVars_none hV
  obtain ⟨z0, rfl, rfl, rfl, wz0⟩ := open_int Tryd.underlying3 (hval 0 3 v0 rfl rfl) h0
  have b0 := bounds_i64 wz0
  obtain ⟨a1, len1, cap1, rfl⟩ := okWide_slice Tryd.underlying55 (hval 1 55 v1 rfl rfl)
  have k1 := h1
  have lt1 : ∀ x ∈ p1, x.block < W.heap.size := by obtain ⟨m, hm⟩ := k1; exact DataW.trod_lt m _ _ _ hm
  obtain ⟨T1, g1⟩ : ∃ T, BoolsIn W a1 len1 cap1 T := by
    obtain ⟨fuel, hf⟩ := h1
    exact bools_open (enc := enc) (d := d1) (ps := p1) (fuel := fuel) (by simpa [Value.cells] using hf)
  have wz2 : ∀ n ∈ d2.weights Tryd.prog 9, n ≤ reachBytes := fun n hn => by
    have := List.all_eq_true.1 hsz n (DataW.weights_mem_each (j := 2) (t := 9) rfl rfl n hn)
    simpa using this
  obtain ⟨s2, rfl, rfl, rfl, ws2⟩ := open_string Tryd.underlying9 (hval 2 9 v2 rfl rfl) h2
  have z2 : s2.size ≤ 140737488351232 := str_size wz2
  have wz3 : ∀ n ∈ d3.weights Tryd.prog 9, n ≤ reachBytes := fun n hn => by
    have := List.all_eq_true.1 hsz n (DataW.weights_mem_each (j := 3) (t := 9) rfl rfl n hn)
    simpa using this
  obtain ⟨s3, rfl, rfl, rfl, ws3⟩ := open_string Tryd.underlying9 (hval 3 9 v3 rfl rfl) h3
  have z3 : s3.size ≤ 140737488351232 := str_size wz3
  have k4 := h4
  have lt4 : ∀ x ∈ p4, x.block < W.heap.size := by obtain ⟨m, hm⟩ := k4; exact DataW.trod_lt m _ _ _ hm
  have wz4 : ∀ n ∈ d4.weights Tryd.prog 39, n ≤ reachBytes := fun n hn => by
    have := List.all_eq_true.1 hsz n (DataW.weights_mem_each (j := 4) (t := 39) rfl rfl n hn)
    simpa using this
  obtain ⟨e4k, e4c, e4n, e4v, e4d, rfl, be4, wk4, wv4, hd4⟩ := open_ent (hval 4 39 v4 rfl rfl) h4
  have z4 : e4k.size ≤ 140737488351232 := ent_size hd4 wz4
  clear hA0 hval0
  refine (lstfills_walk z0 a1 len1 cap1 T1 s2 s3 ⟨e4k, e4c, e4n, e4v, e4d⟩ W (env_of hL) g1).mono fun e W' ⟨he, bel⟩ => ?_
  subst he
  exact ⟨_, rfl, _, _, _, [], _, [], hW', trodAll_mk1 (shut_bool Tryd.underlying4 _), (trodAll_cons_mk (shut_int Tryd.underlying3 wz0) (trodAll_cons_mk (Below.trod laidOut (by kernel_rfl) (of_decide_eq_true (by kernel_rfl)) k1 bel lt1) (trodAll_cons_mk (shut_string Tryd.underlying9 ws2) (trodAll_cons_mk (shut_string Tryd.underlying9 ws3) (trodAll_cons_mk (Below.trod laidOut (by kernel_rfl) (of_decide_eq_true (by kernel_rfl)) k4 bel lt4) trodAll_mk0))))), rfl, bel.frame _, fun h => by cases h⟩

theorem said : Rows.StoreFillsSaid :=
  OpenClaim.holds_of_wide 5 Tryd.f5 rfl rfl rfl rfl rfl rfl rfl ⟨rfl, rfl, rfl, rfl, rfl⟩ rfl rfl rfl rfl rfl (by kernel_rfl) Tryd.func5 (by kernel_rfl)
    (of_decide_eq_true (by kernel_rfl)) (by unfold Func.isWrapper; first | (rw [if_pos (by decide +kernel)]; kernel_rfl) | (rw [if_neg (by decide +kernel)]; exact ⟨rfl, rfl⟩))
    (fun os started H enc _ => lifted os started H enc)

theorem card : Rows.StoreFillsCardSaid :=
  Claim7.holds_tied_plain_at .later [] _ _ _ _ said (fun _ h => by cases h) (by kernel_rfl) (fun _ h => by cases h) storeFills_row_tie rfl ⟨rfl, rfl⟩ (by kernel_rfl) rfl
    (fun f fn hf hfn => by
      obtain rfl : f = 5 := Option.some.inj ((show Tryd.prog.funcNamed "tideline/tidelinelaw08.StoreFills" = some 5 by kernel_rfl).symm.trans hf) |>.symm
      obtain rfl : fn = Tryd.f5 := (Option.some.inj (Tryd.func5.symm.trans hfn)).symm
      refine ⟨by kernel_rfl, fun j t ht => ?_⟩
      rw [Tryd.params5] at ht
      have hm : t ∈ [3, 55, 9, 9, 39] := by simpa using Array.mem_of_getElem? ht
      have hall : ([3, 55, 9, 9, 39].all fun u => !Tryd.prog.wantsStandIn u) = true := by kernel_rfl
      exact (show Tryd.prog.wantsStandIn t = false by simpa using List.all_eq_true.1 hall t hm)) (by kernel_rfl)

end Go.Proofs.YtlgcdcjhflihiaaDoor.storeFills
namespace Go.Proofs.YtlgcdcjhflihiaaDoor
theorem storeFills_holds : Rows.StoreFillsCardSaid := storeFills.card
end Go.Proofs.YtlgcdcjhflihiaaDoor
