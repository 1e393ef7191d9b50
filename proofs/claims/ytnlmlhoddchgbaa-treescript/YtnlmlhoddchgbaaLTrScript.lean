/-
  The law TreeScript, walked.
-/
import Derived.Test.YtnlmlhoddchgbaaTrBegun
import Derived.Test.YtnlmlhoddchgbaaTrShown
namespace Go.Proofs.Ytnlmlhoddchgbaa
open Go.RowKit
set_option linter.unusedVariables false

set_option maxHeartbeats 12800000 in
set_option maxRecDepth 100000 in
theorem script_walk (a : Option Addr) (len cap : Nat) (T : Nat → OpR) (w : World) (h : OpsIn w a len cap T) :
    Calls Try.prog 3 #[.slice a len cap] w fun e w' => e = .returned (.bool true) ∧ Below w.heap.size w w' := by
  have HO := aside h
  have HSZ := aside h.2.2.1
  have hmx : (len : Int) ≤ 9223372036854775807 := by have := h.2.2.1; omega
  clear h
  go_enter Try.func3, Try.ntmps3
  go_wp2_with fail
  refine (shown_any _).mono ?_
  rintro e w1 ⟨rfl, b1⟩
  have B1 := aside b1
  clear b1
  go_wp2_with fail
  refine (begun_any w1).mono ?_
  rintro e w2 ⟨wb, ga0, gb0, P0, rfl, s2⟩
  have S0 := aside (show WS w w2 wb ga0 1 gb0 1 P0 1 0 from ⟨bthen B1.out s2.below, s2.blk, own_low s2.rowA B1.out.size, own_low s2.rowB B1.out.size, Nat.le_trans B1.out.size s2.lo, fun j hj => ⟨(s2.prs j hj).1, Nat.le_trans B1.out.size (s2.prs j hj).2.1, Nat.le_trans B1.out.size (s2.prs j hj).2.2⟩, s2.ne, s2.n1, s2.n4⟩)
  clear s2 B1
  go_wp2
  go_loopw [14] (fun i wr => ∃ (j ga ca gb cb n : Nat) (P : Nat → Pairs), i = .int .i64 (j : Int) ∧ j ≤ len ∧ WS w wr wb ga ca gb cb P n j) (fun i _ => len - (intOf i).toNat)
  case atStart => exact ⟨0, _, _, _, _, _, _, rfl, Nat.zero_le _, S0.out⟩
  case round =>
    obtain ⟨j, ga, ca, gb, cb, n, P, rfl, hj, hci⟩ := hrel
    have G := aside hci
    clear hci S0
    by_cases hlt : (j : Int) < (len : Int)
    · have hE := HO.out.keep G.out.below
      rcases hE.2.2.2 with h0 | ⟨b, off, rfl, hb, hc⟩
      · omega
      obtain ⟨⟨c0, c1, c2, c3, c4, c5, c6, c7⟩, hok⟩ := hc j (by omega)
      generalize T j = x at *
      have OK := aside hok
      have HM := aside (show (j + 1) * 40 ≤ 140737488351232 from by have := HSZ.out; omega)
      have hj0 : (0 : Int) ≤ (j : Int) := by omega
      have hjw : IntKind.i64.wrap ((j : Int) + 1) = (j : Int) + 1 := by rw [IntKind.wrap_i64]; omega
      have JL := aside (show j + 1 ≤ len from by omega)
      have G1 := aside (G.out.on (bnew wr (.cells #[.int .i64 x.kind, .int .i64 x.tree, .int .i64 x.i, .int .i64 x.j, .int .i64 x.v, .string x.key, .int .u64 x.s.a, .int .u64 x.s.b] 30)))
      clear hc hE hok hj
      go_wp2_with fail
      refine (does_any G1.out x OK.out HM.out).mono ?_
      rintro e w5 ⟨rfl, ga', ca', gb', cb', P', n', s5⟩
      have S5 := aside s5
      clear s5 c0 c1 c2 c3 c4 c5 c6 c7 hb
      go_wp2
      go_roundw
      case rel => exact ⟨j + 1, _, _, _, _, _, _, by go_num, JL.out, S5.out⟩
      case measure => simp [intOf]; have := JL.out; omega
    · obtain rfl : len = j := by omega
      have q0 := (G.out.cells (k := 0) G.out.n1).1
      have HMS := aside (show len ≤ 281474976710655 from by have := HSZ.out; omega)
      have hn4 := G.out.n4
      have hca := (row_blk G.out.rowA).1
      have hcb := (row_blk G.out.rowB).1
      have G0 := aside G.out
      clear hlt
      go_wp2
      clear q0
      generalize wr = Y at *
      go_loopw [28] (fun i wr => ∃ k : Nat, i = .int .i64 (k : Int) ∧ k ≤ n ∧ WS w wr wb ga ca gb cb P n len) (fun i _ => n - (intOf i).toNat)
      case atStart => exact ⟨0, rfl, Nat.zero_le _, G0.out⟩
      case round =>
        obtain ⟨k, rfl, hk, hci⟩ := hrel
        have G := aside hci
        clear hci
        by_cases hlt : (k : Int) < (n : Int)
        · have HK := aside (show k < n from by omega)
          have hk0 : (0 : Int) ≤ (k : Int) := by omega
          have hk2 : k < n := by omega
          have hkw : IntKind.i64.wrap ((k : Int) + 1) = (k : Int) + 1 := by rw [IntKind.wrap_i64]; omega
          go_wp2_with fail
          refine wp_region_held_drew (S := fun X => X.cell? ⟨wb, 0, none⟩ = some (.slice (some ⟨ga, 0, none⟩) n ca) ∧ X.cell? ⟨wb, 1, none⟩ = some (.slice (some ⟨gb, 0, none⟩) n cb) ∧ X.cell? ⟨ga, k, none⟩ = some (.pointer (some ⟨(P k).tb, 0, none⟩)) ∧ X.cell? ⟨gb, k, none⟩ = some (.pointer (some ⟨(P k).rb, 0, none⟩)) ∧ Hid (WS w X wb ga ca gb cb P n len)) (by kernel_rfl) ⟨((G.out.on ((Below.refl _ wr).drew)).cells HK.out).1, ((G.out.on ((Below.refl _ wr).drew)).cells HK.out).2.1, ((G.out.on ((Below.refl _ wr).drew)).cells HK.out).2.2.1, ((G.out.on ((Below.refl _ wr).drew)).cells HK.out).2.2.2, aside (G.out.on ((Below.refl _ wr).drew))⟩ (fun hHeld => ?_)
          refine wpAnyH_take (i := 0) (v := ?_) rfl (by kernel_rfl) (by kernel_rfl) (by kernel_rfl) (fun _ _ _ h => h) (Or.inl ⟨by rfl, ?_⟩) (by assumption) ?_
          rotate_left
          · intro w hSw
            go_simp
            try with_reducible rfl
          simp only [Act.put, List.getElem_toArray, List.getElem_cons_zero, List.setIfInBounds_toArray, List.set_cons_zero, List.set_cons_succ]
          refine wpAnyH_take (i := 1) (v := ?_) rfl (by kernel_rfl) (by kernel_rfl) (by kernel_rfl) (fun _ _ _ h => h) (Or.inl ⟨by rfl, ?_⟩) (by assumption) ?_
          rotate_left
          · intro w hSw
            go_simp
            try with_reducible rfl
          simp only [Act.put, List.getElem_toArray, List.getElem_cons_zero, List.getElem_cons_succ, List.setIfInBounds_toArray, List.set_cons_zero, List.set_cons_succ]
          refine wpAnyH_take (i := 2) (v := ?_) rfl (by kernel_rfl) (by kernel_rfl) (by kernel_rfl) (fun _ _ _ h => h) (Or.inl ⟨by rfl, ?_⟩) (by assumption) ?_
          rotate_left
          · intro w hSw
            go_simp
            try with_reducible rfl
          simp only [Act.put, List.getElem_toArray, List.getElem_cons_zero, List.getElem_cons_succ, List.setIfInBounds_toArray, List.set_cons_zero, List.set_cons_succ]
          refine wpAnyH_take (i := 3) (v := ?_) rfl (by kernel_rfl) (by kernel_rfl) (by kernel_rfl) (fun _ _ _ h => h) (Or.inl ⟨by rfl, ?_⟩) (by assumption) ?_
          rotate_left
          · intro w hSw
            go_simp
            try with_reducible rfl
          simp only [Act.put, List.getElem_toArray, List.getElem_cons_zero, List.getElem_cons_succ, List.setIfInBounds_toArray, List.set_cons_zero, List.set_cons_succ]
          refine wpAnyH_take (i := 4) (v := ?_) rfl (by kernel_rfl) (by kernel_rfl) (by kernel_rfl) (fun _ _ _ h => h) (Or.inl ⟨by rfl, ?_⟩) (by assumption) ?_
          rotate_left
          · intro w hSw
            go_simp
            try with_reducible rfl
          simp only [Act.put, List.getElem_toArray, List.getElem_cons_zero, List.getElem_cons_succ, List.setIfInBounds_toArray, List.set_cons_zero, List.set_cons_succ]
          refine wpAnyH_take (i := 5) (v := ?_) rfl (by kernel_rfl) (by kernel_rfl) (by kernel_rfl) (fun _ _ _ h => h) (Or.inl ⟨by rfl, ?_⟩) (by assumption) ?_
          rotate_left
          · intro w hSw
            go_simp
            try with_reducible rfl
          simp only [Act.put, List.getElem_toArray, List.getElem_cons_zero, List.getElem_cons_succ, List.setIfInBounds_toArray, List.set_cons_zero, List.set_cons_succ]
          refine wpAnyH_take (i := 6) (v := ?_) rfl (by kernel_rfl) (by kernel_rfl) (by kernel_rfl) (fun _ _ _ h => h) (Or.inl ⟨by rfl, ?_⟩) (by assumption) ?_
          rotate_left
          · intro w hSw
            go_simp
            try with_reducible rfl
          simp only [Act.put, List.getElem_toArray, List.getElem_cons_zero, List.getElem_cons_succ, List.setIfInBounds_toArray, List.set_cons_zero, List.set_cons_succ]
          refine wpAnyH_take (i := 7) (v := ?_) rfl (by kernel_rfl) (by kernel_rfl) (by kernel_rfl) (fun _ _ _ h => h) (Or.inl ⟨by rfl, ?_⟩) (by assumption) ?_
          rotate_left
          · intro w hSw
            go_simp
            try with_reducible rfl
          simp only [Act.put, List.getElem_toArray, List.getElem_cons_zero, List.getElem_cons_succ, List.setIfInBounds_toArray, List.set_cons_zero, List.set_cons_succ]
          refine wpAnyH_take (i := 8) (v := ?_) rfl (by kernel_rfl) (by kernel_rfl) (by kernel_rfl) (fun _ _ _ h => h) (Or.inl ⟨by rfl, ?_⟩) (by assumption) ?_
          rotate_left
          · intro w hSw
            go_simp
            try with_reducible rfl
          simp only [Act.put, List.getElem_toArray, List.getElem_cons_zero, List.getElem_cons_succ, List.setIfInBounds_toArray, List.set_cons_zero, List.set_cons_succ]
          refine wpAnyH_take (i := 9) (v := ?_) rfl (by kernel_rfl) (by kernel_rfl) (by kernel_rfl) (fun _ _ _ h => h) (Or.inl ⟨by rfl, ?_⟩) (by assumption) ?_
          rotate_left
          · intro w hSw
            go_simp
            try with_reducible rfl
          simp only [Act.put, List.getElem_toArray, List.getElem_cons_zero, List.getElem_cons_succ, List.setIfInBounds_toArray, List.set_cons_zero, List.set_cons_succ]
          refine wpAnyH_take (i := 10) (v := ?_) rfl (by kernel_rfl) (by kernel_rfl) (by kernel_rfl) (fun _ _ _ h => h) (Or.inl ⟨by rfl, ?_⟩) (by assumption) ?_
          rotate_left
          · intro w hSw
            go_simp
            try with_reducible rfl
          simp only [Act.put, List.getElem_toArray, List.getElem_cons_zero, List.getElem_cons_succ, List.setIfInBounds_toArray, List.set_cons_zero, List.set_cons_succ]
          refine wpAnyH_take (i := 11) (v := ?_) rfl (by kernel_rfl) (by kernel_rfl) (by kernel_rfl) (fun _ _ _ h => h) (Or.inl ⟨by rfl, ?_⟩) (by assumption) ?_
          rotate_left
          · intro w hSw
            go_simp
            try with_reducible rfl
          simp only [Act.put, List.getElem_toArray, List.getElem_cons_zero, List.getElem_cons_succ, List.setIfInBounds_toArray, List.set_cons_zero, List.set_cons_succ]
          refine wpAnyH_take (i := 12) (v := ?_) rfl (by kernel_rfl) (by kernel_rfl) (by kernel_rfl) (fun _ _ _ h => h) (Or.inl ⟨by rfl, ?_⟩) (by assumption) ?_
          rotate_left
          · intro w hSw
            go_simp
            try with_reducible rfl
          simp only [Act.put, List.getElem_toArray, List.getElem_cons_zero, List.getElem_cons_succ, List.setIfInBounds_toArray, List.set_cons_zero, List.set_cons_succ]
          refine wpAnyH_take (i := 13) (v := ?_) rfl (by kernel_rfl) (by kernel_rfl) (by kernel_rfl) (fun _ _ _ h => h) (Or.inl ⟨by rfl, ?_⟩) (by assumption) ?_
          rotate_left
          · intro w hSw
            go_simp
            try with_reducible rfl
          simp only [Act.put, List.getElem_toArray, List.getElem_cons_zero, List.getElem_cons_succ, List.setIfInBounds_toArray, List.set_cons_zero, List.set_cons_succ]
          refine wpAnyH_ready (rs := [14]) (by kernel_rfl) (by simp) ?_
          refine AllReadyH.cons rfl (fun K hK => ?_) AllReadyH.nil
          go_simp
          refine (same_any (hHeld.2.2.2.2.out.prs k HK.out).1 HMS.out).mono ?_
          rintro e w9 ⟨rfl, bb⟩
          refine hK.out _ _ (⟨((hHeld.2.2.2.2.out.on bb).cells HK.out).1, ((hHeld.2.2.2.2.out.on bb).cells HK.out).2.1, ((hHeld.2.2.2.2.out.on bb).cells HK.out).2.2.1, ((hHeld.2.2.2.2.out.on bb).cells HK.out).2.2.2, aside (hHeld.2.2.2.2.out.on bb)⟩) (fun hHeld => ?_)
          clear hK K 
          refine wpAnyH_take (i := 15) (v := ?_) rfl (by kernel_rfl) (by kernel_rfl) (by kernel_rfl) (fun _ _ _ h => h) (Or.inl ⟨by rfl, ?_⟩) (by assumption) ?_
          rotate_left
          · intro w hSw
            go_simp
            try with_reducible rfl
          simp only [Act.put, List.getElem_toArray, List.getElem_cons_zero, List.getElem_cons_succ, List.setIfInBounds_toArray, List.set_cons_zero, List.set_cons_succ]
          refine wpAnyH_done (by kernel_rfl) ?_ _
          have D6 := aside hHeld.2.2.2.2.out
          clear hHeld
          go_wp2
          go_roundw
          case rel => exact ⟨k + 1, by go_num, by omega, D6.out⟩
          case measure => simp [intOf]; omega
        · go_wp2
          go_ret
          exact ⟨rfl, G.out.below⟩

end Go.Proofs.Ytnlmlhoddchgbaa
