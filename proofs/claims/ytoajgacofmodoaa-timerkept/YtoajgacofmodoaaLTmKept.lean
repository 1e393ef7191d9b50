/-
  The law TimerKept, walked.
-/
import Derived.Test.YtoajgacofmodoaaTmK
import Derived.Laws.EntriesVeiled
namespace Go.Proofs.Ytoajgacofmodoaa
open Go.RowKit Go.Shelf
set_option linter.unusedVariables false

attribute [local go_sem] Oper.semAt_some
theorem func_nilT (fn : Fn) (first cap : Array Value) (w : World) : (binOp .eql 48 (.func fn first cap) .nilFunc).run Try.prog w = .ok (.bool false) w := by kernel_rfl
set_option maxHeartbeats 32000000 in
set_option maxRecDepth 100000 in
theorem tkept_walk (a0 : Option Addr) (len cap : Nat) (R : Nat → Sop) (a1 : Option Addr) (len1 cap1 : Nat) (R1 : Nat → Sop) (z : Int) (w : World) (g0 : Sops w a0 len cap R) (ok0 : ∀ i, i < len → SopOk (R i)) (g1 : Sops w a1 len1 cap1 R1) (ok1 : ∀ i, i < len1 → SopOk (R1 i)) :
    Calls Try.prog 5 #[.slice a0 len cap, .slice a1 len1 cap1, .int .i64 z] w fun e w' => e = .returned (.bool true) ∧ Below w.heap.size w w' := by
  have G0 := aside g0
  have OK0 := aside ok0
  have G1 := aside g1
  have OK1 := aside ok1
  have hmx : (len : Int) ≤ 9223372036854775807 := by have h1 := g0.1; have h2 := g0.2.1; unfold maxLen at h2; omega
  have hmy : (len1 : Int) ≤ 9223372036854775807 := by have h1 := g1.1; have h2 := g1.2.1; unfold maxLen at h2; omega
  clear g0 ok0 g1 ok1
  have K6 := aside (heap_alloc_new w (.cells #[.bool false] 4))
  have B6 := aside (bnew w (.cells #[.bool false] 4))
  obtain ⟨q6, hq6⟩ : ∃ q, w.heap.size = q := ⟨_, rfl⟩
  by_cases hlong : (4096 : Int) < (len : Int)
  · skip
    refine (callsIn_wide (n := 5)).1 ?_
    refine callsIn_of_wp_marks Try.func5 rfl trivial ?_ rfl
    simp only [Try.ntmps5, List.size_toArray, List.length_cons, List.length_nil, Nat.reduceAdd, Nat.reduceSub, Array.replicate_succ, Array.replicate_zero, List.push_toArray, List.append_toArray, List.nil_append, List.cons_append]
    refine wpIn_wide.2 ?_
    go_wp2
    have k9 := heap_alloc_new w (.cells #[.bool true] 4)
    rw [hq6] at k9
    have d0 := cell_one k9
    exact ⟨.bool true, by simp [results, Try.f5, go_sem, d0], rfl, by first | exact bnew w _ | (rw [← hq6]; exact bnew w _)⟩
  · by_cases hlong1 : (4096 : Int) < (len1 : Int)
    · skip
      refine (callsIn_wide (n := 5)).1 ?_
      refine callsIn_of_wp_marks Try.func5 rfl trivial ?_ rfl
      simp only [Try.ntmps5, List.size_toArray, List.length_cons, List.length_nil, Nat.reduceAdd, Nat.reduceSub, Array.replicate_succ, Array.replicate_zero, List.push_toArray, List.append_toArray, List.nil_append, List.cons_append]
      refine wpIn_wide.2 ?_
      go_wp2
      have k9 := heap_alloc_new w (.cells #[.bool true] 4)
      rw [hq6] at k9
      have d0 := cell_one k9
      exact ⟨.bool true, by simp [results, Try.f5, go_sem, d0], rfl, by first | exact bnew w _ | (rw [← hq6]; exact bnew w _)⟩
    · have HL := aside (show len ≤ 4096 from by omega)
      have HL1 := aside (show len1 ≤ 4096 from by omega)
      have HQ6 := aside hq6
      refine (callsIn_wide (n := 5)).1 ?_
      refine callsIn_of_wp_marks Try.func5 rfl trivial ?_ rfl
      simp only [Try.ntmps5, List.size_toArray, List.length_cons, List.length_nil, Nat.reduceAdd, Nat.reduceSub, Array.replicate_succ, Array.replicate_zero, List.push_toArray, List.append_toArray, List.nil_append, List.cons_append]
      refine wpIn_wide.2 ?_
      go_wp2_with fail
      refine (fresh_any _).mono ?_
      rintro e w1 ⟨pt, bt, pd, rfl, hpt, hbt, hpd, hpr, b1⟩
      obtain ⟨V, hV⟩ : ∃ V, w1.alloc (.cells #[.pointer (some ⟨pt, 0, none⟩), .pointer (some ⟨pd, 0, none⟩)] 40) = V := ⟨_, rfl⟩
      obtain ⟨qb, hqb⟩ : ∃ q, w1.heap.size = q := ⟨_, rfl⟩
      have D0 := aside (show DrI w qb pt bt pd [] V ∧ V.heap[q6]? = some (.cells #[.bool false] 4 (0, 0)) from by
        have k6 := K6.out
        rw [hq6] at k6
        have hs : (w.alloc (.cells #[.bool false] 4)).heap.size = w.heap.size + 1 := by simp
        rw [← hV, ← hqb]
        exact ⟨⟨heap_alloc_new w1 _, hpr.below (bnew w1 _), bthen (bthen B6.out b1) (bnew w1 _), by omega, by omega, by omega⟩, blk_on (blk_on k6 b1) (bnew w1 _)⟩)
      clear hpt hbt hpd hpr b1 hq6 K6 B6
      go_wp2
      try rw [hV]
      clear hV hqb
      obtain ⟨L0, hL0⟩ : ∃ L, ([] : List Alm) = L := ⟨_, rfl⟩
      have HL0 := aside (show L0.length = 0 from by rw [← hL0]; rfl)
      rw [hL0] at D0
      clear hL0
      go_loopw [8] (fun i wr => ∃ k : Nat, i = .int .i64 (k : Int) ∧ k ≤ len ∧ Hid (DrI w qb pt bt pd (runF R L0 k) wr ∧ wr.heap[q6]? = some (.cells #[.bool false] 4 (0, 0)))) (fun i _ => len - (intOf i).toNat)
      case atStart => exact ⟨0, rfl, Nat.zero_le _, D0.out⟩
      case round =>
        clear D0
        obtain ⟨k, rfl, hk, HT⟩ := hrel
        have DRR := aside HT.out.1
        have HB := aside HT.out.1.bel
        by_cases hlk : (k : Int) < (len : Int)
        · have hk0 : (0 : Int) ≤ (k : Int) := by omega
          have LENF := aside (show (runF R L0 k).length ≤ 800000 from by have := runF_len R L0 k; have := HL0.out; have := HL.out; omega)
          rcases (G0.out.keep HB.out).2.2.2 with h0 | ⟨x, off, rfl, hx, hc⟩
          · omega
          have hxw : x < w.heap.size := by
            rcases G0.out.2.2.2 with h0 | ⟨x9, off9, e9, hx9, -⟩
            · omega
            · injection e9 with e9; injection e9 with e9; omega
          obtain ⟨kd, hkd⟩ : ∃ y, (R k).kind = y := ⟨_, rfl⟩
          obtain ⟨o, ho⟩ : ∃ y, (R k).o = y := ⟨_, rfl⟩
          obtain ⟨l, hl⟩ : ∃ y, (R k).l = y := ⟨_, rfl⟩
          obtain ⟨k9, hk9⟩ : ∃ y, (R k).n = y := ⟨_, rfl⟩
          obtain ⟨z9, hz⟩ : ∃ y, (R k).at_ = y := ⟨_, rfl⟩
          obtain ⟨sp, hsp⟩ : ∃ y, (R k).stop = y := ⟨_, rfl⟩
          obtain ⟨sc, hsc⟩ : ∃ y, (R k).sec = y := ⟨_, rfl⟩
          have m0 := hc k (by omega)
          unfold SopAt at m0
          rw [hkd, ho, hl, hk9, hz, hsp, hsc] at m0
          have M0 := aside m0
          have WF := aside (show wfN (o, l, k9) from by rw [← ho, ← hl, ← hk9]; exact ⟨(OK0.out k (by omega)).2.1, (OK0.out k (by omega)).2.2.1, (OK0.out k (by omega)).2.2.2.1⟩)
          have RS := aside (show runF R L0 (k + 1) = stepL kd o l k9 z9 (runF R L0 k) from by
            show stepL (R k).kind (R k).o (R k).l (R k).n (R k).at_ (runF R L0 k) = _
            rw [hkd, ho, hl, hk9, hz])
          have SX := aside (fun W (kk : Keeps (OnP bt pd) wr W) => (show (W.cell? ⟨qb, 0, none⟩ = some (.pointer (some ⟨pt, 0, none⟩)) ∧ W.cell? ⟨qb, 1, none⟩ = some (.pointer (some ⟨pd, 0, none⟩))) ∧ (W.cell? ⟨x, off + k * 7, none⟩ = some (.int .i64 kd) ∧ W.cell? ⟨x, off + k * 7 + 1, none⟩ = some (.int .i64 o) ∧ W.cell? ⟨x, off + k * 7 + 2, none⟩ = some (.int .i64 l) ∧ W.cell? ⟨x, off + k * 7 + 3, none⟩ = some (.int .i64 k9) ∧ W.cell? ⟨x, off + k * 7 + 4, none⟩ = some (.int .i64 z9) ∧ W.cell? ⟨x, off + k * 7 + 5, none⟩ = some (.int .i64 sp) ∧ W.cell? ⟨x, off + k * 7 + 6, none⟩ = some (.bool sc)) from by
            have nx : ¬ OnP bt pd x := fun e => by have h1 := DRR.out.ge; rcases e with e | e <;> omega
            have hxr : x < wr.heap.size := by have := HB.out.size; omega
            obtain ⟨c0, c1, c2, c3, c4, c5, c6⟩ := M0.out
            exact ⟨DRR.out.cells kk, by rw [kk.cell hxr nx]; exact c0, by rw [kk.cell hxr nx]; exact c1, by rw [kk.cell hxr nx]; exact c2, by rw [kk.cell hxr nx]; exact c3, by rw [kk.cell hxr nx]; exact c4, by rw [kk.cell hxr nx]; exact c5, by rw [kk.cell hxr nx]; exact c6⟩))
          clear m0 M0 hkd ho hl hk9 hz hsp hsc hc
          go_wp2_with fail
          rename_i K0 hK0
          refine (wpIn_wide (n := 5)).1 ?_
          refine wpIn_mono (Q := Exit.then K0 (fun _ _ _ => False)) (wpIn_wide.2 ?_) (fun e a w h => by cases e <;> first | exact h | exact h.elim)
          refine wp_region_held_drew (S := fun W => ((W.cell? ⟨qb, 0, none⟩ = some (.pointer (some ⟨pt, 0, none⟩)) ∧ W.cell? ⟨qb, 1, none⟩ = some (.pointer (some ⟨pd, 0, none⟩))) ∧ (W.cell? ⟨x, off + k * 7, none⟩ = some (.int .i64 kd) ∧ W.cell? ⟨x, off + k * 7 + 1, none⟩ = some (.int .i64 o) ∧ W.cell? ⟨x, off + k * 7 + 2, none⟩ = some (.int .i64 l) ∧ W.cell? ⟨x, off + k * 7 + 3, none⟩ = some (.int .i64 k9) ∧ W.cell? ⟨x, off + k * 7 + 4, none⟩ = some (.int .i64 z9) ∧ W.cell? ⟨x, off + k * 7 + 5, none⟩ = some (.int .i64 sp) ∧ W.cell? ⟨x, off + k * 7 + 6, none⟩ = some (.bool sc))) ∧ Hid (Keeps (OnP bt pd) wr W)) (by kernel_rfl) ⟨SX.out _ (Keeps.refl _ wr).drew, aside (Keeps.refl _ wr).drew⟩ (fun hHeld => ?_)
          refine wpAnyH_take (i := 0) (v := ?_) rfl (by kernel_rfl) (by kernel_rfl) (by kernel_rfl) (fun _ _ _ h => h) (Or.inl ⟨by rfl, ?_⟩) (by assumption) ?_
          rotate_left
          · intro w hSw
            go_simp
            try with_reducible rfl
          simp only [Act.put, List.getElem_toArray, List.getElem_cons_zero, List.setIfInBounds_toArray, List.set_cons_zero, List.set_cons_succ]
          refine wpAnyH_take (i := 1) (v := ?_) rfl (by kernel_rfl) (by kernel_rfl) (by kernel_rfl) (fun _ _ _ h => h) (Or.inl ⟨by rfl, ?_⟩) (by assumption) ?_
          rotate_left
          · intro w hSw
            go_simp
            try with_reducible rfl
          simp only [Act.put, List.getElem_toArray, List.getElem_cons_zero, List.getElem_cons_succ, List.setIfInBounds_toArray, List.set_cons_zero, List.set_cons_succ]
          refine wpAnyH_take (i := 2) (v := ?_) rfl (by kernel_rfl) (by kernel_rfl) (by kernel_rfl) (fun _ _ _ h => h) (Or.inl ⟨by rfl, ?_⟩) (by assumption) ?_
          rotate_left
          · intro w hSw
            go_simp
            try with_reducible rfl
          simp only [Act.put, List.getElem_toArray, List.getElem_cons_zero, List.getElem_cons_succ, List.setIfInBounds_toArray, List.set_cons_zero, List.set_cons_succ]
          refine wpAnyH_take (i := 3) (v := ?_) rfl (by kernel_rfl) (by kernel_rfl) (by kernel_rfl) (fun _ _ _ h => h) (Or.inl ⟨by rfl, ?_⟩) (by assumption) ?_
          rotate_left
          · intro w hSw
            go_simp
            try with_reducible rfl
          simp only [Act.put, List.getElem_toArray, List.getElem_cons_zero, List.getElem_cons_succ, List.setIfInBounds_toArray, List.set_cons_zero, List.set_cons_succ]
          refine wpAnyH_take (i := 4) (v := ?_) rfl (by kernel_rfl) (by kernel_rfl) (by kernel_rfl) (fun _ _ _ h => h) (Or.inl ⟨by rfl, ?_⟩) (by assumption) ?_
          rotate_left
          · intro w hSw
            go_simp
            try with_reducible rfl
          simp only [Act.put, List.getElem_toArray, List.getElem_cons_zero, List.getElem_cons_succ, List.setIfInBounds_toArray, List.set_cons_zero, List.set_cons_succ]
          refine wpAnyH_ready (rs := [5]) (by kernel_rfl) (by simp) ?_
          refine AllReadyH.cons rfl (fun K hK => ?_) AllReadyH.nil
          go_simp
          refine (step_any kd o l k9 z9 sp sc (DRR.out.pr.below (Below.refl _ wr).drew) WF.out LENF.out).mono ?_
          rintro e w9 ⟨rfl, pr9, kk9⟩
          refine hK.out _ _ (⟨SX.out _ ((Keeps.refl _ wr).drew.trans kk9), aside ((Keeps.refl _ wr).drew.trans kk9)⟩) (fun hHeld => ?_)
          clear hK K 
          refine wpAnyH_take (i := 6) (v := ?_) rfl (by kernel_rfl) (by kernel_rfl) (by kernel_rfl) (fun _ _ _ h => h) (Or.inl ⟨by rfl, ?_⟩) (by assumption) ?_
          rotate_left
          · intro w hSw
            go_simp
            try with_reducible rfl
          simp only [Act.put, List.getElem_toArray, List.getElem_cons_zero, List.getElem_cons_succ, List.setIfInBounds_toArray, List.set_cons_zero, List.set_cons_succ]
          refine wpAnyH_done (by kernel_rfl) ?_ _
          refine hK0 _ _ ?_
          have PN := aside pr9
          have KN := aside ((Keeps.refl _ wr).drew.trans kk9)
          clear hHeld SX pr9 kk9 hK0
          have HT9 := aside (show DrI w qb pt bt pd (runF R L0 (k + 1)) w9 ∧ w9.heap[q6]? = some (.cells #[.bool false] 4 (0, 0)) from ⟨by rw [RS.out]; exact DRR.out.step PN.out KN.out, blk_keep HT.out.2 KN.out (DRR.out.pr.off HT.out.2 (by decide))⟩)
          go_wp2
          go_roundw
          case rel => exact ⟨k + 1, by go_num, by omega, HT9.out⟩
          case measure => simp [intOf] <;> omega
        · obtain ⟨L1, hL1⟩ : ∃ L, runF R L0 k = L := ⟨_, rfl⟩
          have HLL := aside (show L1.length ≤ 4096 from by rw [← hL1]; have := runF_len R L0 k; have := HL0.out; have := HL.out; omega)
          rw [hL1] at HT DRR
          clear hL1
          obtain ⟨d0, d1⟩ := DRR.out.cells (Keeps.refl _ wr)
          have CR := aside (rdueT_any z DRR.out.pr.d (by have := HLL.out; omega))
          go_wp2_with fail
          refine CR.out.mono ?_
          rintro e w2 ⟨v2, rfl, own2, b2⟩
          obtain ⟨a2, c2, rfl, hain⟩ := al_in own2
          obtain ⟨l, hl⟩ : ∃ l, dueL z L1 = l := ⟨_, rfl⟩
          have HDL := aside hl
          rw [hl] at hain ⊢
          obtain ⟨V2, hV2⟩ : ∃ V, w2.alloc (.cells #[.slice a2 l.length c2] 50) = V := ⟨_, rfl⟩
          obtain ⟨q9, hq9⟩ : ∃ q, w2.heap.size = q := ⟨_, rfl⟩
          have BV2 := aside (show Below wr.heap.size wr V2 from by rw [← hV2]; exact bthen b2 (bnew w2 _))
          have K9 := aside (show V2.heap[q9]? = some (.cells #[.slice a2 l.length c2] 50 (0, 0)) from by rw [← hV2, ← hq9]; exact heap_alloc_new w2 _)
          have W2 := aside (show AlIn 57 V2 a2 l.length c2 l from by rw [← hV2]; exact hain.on (bnew w2 _))
          have DR2 := aside (DRR.out.below BV2.out)
          have K62 := aside (blk_on HT.out.2 BV2.out)
          obtain ⟨f0, f1⟩ := DR2.out.cells (Keeps.refl _ V2)
          have CD := aside (due_any z DR2.out.pr.t (by have := HLL.out; omega))
          clear own2 b2 hain hl CR d0 d1
          go_wp2_with fail
          refine CD.out.mono ?_
          rintro e w3 ⟨d, a, c, rfl, hbx, hal, b3⟩
          rw [HDL.out] at hbx hal
          obtain ⟨V3, hV3⟩ : ∃ V, w3.alloc (.cells #[.func (.func 27) #[] #[.pointer (some ⟨d, 0, none⟩)]] 48) = V := ⟨_, rfl⟩
          obtain ⟨q10, hq10⟩ : ∃ q, w3.heap.size = q := ⟨_, rfl⟩
          have S3 := aside (show KeS w q6 qb q9 q10 pt bt pd L1 a2 c2 d a l.length c l V3 from by
            have b4 := bthen b3 (bnew w3 (.cells #[.func (.func 27) #[] #[.pointer (some ⟨d, 0, none⟩)]] 48))
            rw [← hV3, ← hq10]
            exact ⟨DR2.out.below b4, blk_on K62.out b4, blk_on K9.out b4, heap_alloc_new w3 _, W2.out.on b4, (show DD d a l.length c l w3 from ⟨hbx, hal⟩).keep (bnew w3 _)⟩)
          have LNL := aside (show l.length ≤ 4096 from by rw [← HDL.out]; have := dueL_le z L1; have := HLL.out; omega)
          clear hbx hal b3 CD f0 f1 hV2 hq9
          go_wp2
          try rw [hV3]
          clear hV3 hq10 HT DRR HB
          go_loopw [11] (fun i wr => ∃ k : Nat, i = .int .i64 (k : Int) ∧ k ≤ len1 ∧ Hid (KeS w q6 qb q9 q10 pt bt pd (runF R1 L1 k) a2 c2 d a l.length c l wr)) (fun i _ => len1 - (intOf i).toNat)
          case atStart => exact ⟨0, rfl, Nat.zero_le _, S3.out⟩
          case round =>
            clear S3
            obtain ⟨k, rfl, hk, HT⟩ := hrel
            have DRR := aside HT.out.dr
            have HB := aside HT.out.dr.bel
            by_cases hlk1 : (k : Int) < (len1 : Int)
            · have hk0 : (0 : Int) ≤ (k : Int) := by omega
              have LENF := aside (show (runF R1 L1 k).length ≤ 800000 from by have := runF_len R1 L1 k; have := HLL.out; have := HL1.out; omega)
              rcases (G1.out.keep HB.out).2.2.2 with h0 | ⟨x, off, rfl, hx, hc⟩
              · omega
              have hxw : x < w.heap.size := by
                rcases G1.out.2.2.2 with h0 | ⟨x9, off9, e9, hx9, -⟩
                · omega
                · injection e9 with e9; injection e9 with e9; omega
              obtain ⟨kd, hkd⟩ : ∃ y, (R1 k).kind = y := ⟨_, rfl⟩
              obtain ⟨o, ho⟩ : ∃ y, (R1 k).o = y := ⟨_, rfl⟩
              obtain ⟨ll, hl⟩ : ∃ y, (R1 k).l = y := ⟨_, rfl⟩
              obtain ⟨k9, hk9⟩ : ∃ y, (R1 k).n = y := ⟨_, rfl⟩
              obtain ⟨z9, hz⟩ : ∃ y, (R1 k).at_ = y := ⟨_, rfl⟩
              obtain ⟨sp, hsp⟩ : ∃ y, (R1 k).stop = y := ⟨_, rfl⟩
              obtain ⟨sc, hsc⟩ : ∃ y, (R1 k).sec = y := ⟨_, rfl⟩
              have m0 := hc k (by omega)
              unfold SopAt at m0
              rw [hkd, ho, hl, hk9, hz, hsp, hsc] at m0
              have M0 := aside m0
              have WF := aside (show wfN (o, ll, k9) from by rw [← ho, ← hl, ← hk9]; exact ⟨(OK1.out k (by omega)).2.1, (OK1.out k (by omega)).2.2.1, (OK1.out k (by omega)).2.2.2.1⟩)
              have RS := aside (show runF R1 L1 (k + 1) = stepL kd o ll k9 z9 (runF R1 L1 k) from by
                show stepL (R1 k).kind (R1 k).o (R1 k).l (R1 k).n (R1 k).at_ (runF R1 L1 k) = _
                rw [hkd, ho, hl, hk9, hz])
              have SX := aside (fun W (kk : Keeps (OnP bt pd) wr W) => (show (W.cell? ⟨qb, 0, none⟩ = some (.pointer (some ⟨pt, 0, none⟩)) ∧ W.cell? ⟨qb, 1, none⟩ = some (.pointer (some ⟨pd, 0, none⟩))) ∧ (W.cell? ⟨x, off + k * 7, none⟩ = some (.int .i64 kd) ∧ W.cell? ⟨x, off + k * 7 + 1, none⟩ = some (.int .i64 o) ∧ W.cell? ⟨x, off + k * 7 + 2, none⟩ = some (.int .i64 ll) ∧ W.cell? ⟨x, off + k * 7 + 3, none⟩ = some (.int .i64 k9) ∧ W.cell? ⟨x, off + k * 7 + 4, none⟩ = some (.int .i64 z9) ∧ W.cell? ⟨x, off + k * 7 + 5, none⟩ = some (.int .i64 sp) ∧ W.cell? ⟨x, off + k * 7 + 6, none⟩ = some (.bool sc)) from by
                have nx : ¬ OnP bt pd x := fun e => by have h1 := DRR.out.ge; rcases e with e | e <;> omega
                have hxr : x < wr.heap.size := by have := HB.out.size; omega
                obtain ⟨c0, c1, c2, c3, c4, c5, c6⟩ := M0.out
                exact ⟨DRR.out.cells kk, by rw [kk.cell hxr nx]; exact c0, by rw [kk.cell hxr nx]; exact c1, by rw [kk.cell hxr nx]; exact c2, by rw [kk.cell hxr nx]; exact c3, by rw [kk.cell hxr nx]; exact c4, by rw [kk.cell hxr nx]; exact c5, by rw [kk.cell hxr nx]; exact c6⟩))
              clear m0 M0 hkd ho hl hk9 hz hsp hsc hc
              go_wp2_with fail
              rename_i K0 hK0
              refine (wpIn_wide (n := 5)).1 ?_
              refine wpIn_mono (Q := Exit.then K0 (fun _ _ _ => False)) (wpIn_wide.2 ?_) (fun e a w h => by cases e <;> first | exact h | exact h.elim)
              refine wp_region_held_drew (S := fun W => ((W.cell? ⟨qb, 0, none⟩ = some (.pointer (some ⟨pt, 0, none⟩)) ∧ W.cell? ⟨qb, 1, none⟩ = some (.pointer (some ⟨pd, 0, none⟩))) ∧ (W.cell? ⟨x, off + k * 7, none⟩ = some (.int .i64 kd) ∧ W.cell? ⟨x, off + k * 7 + 1, none⟩ = some (.int .i64 o) ∧ W.cell? ⟨x, off + k * 7 + 2, none⟩ = some (.int .i64 ll) ∧ W.cell? ⟨x, off + k * 7 + 3, none⟩ = some (.int .i64 k9) ∧ W.cell? ⟨x, off + k * 7 + 4, none⟩ = some (.int .i64 z9) ∧ W.cell? ⟨x, off + k * 7 + 5, none⟩ = some (.int .i64 sp) ∧ W.cell? ⟨x, off + k * 7 + 6, none⟩ = some (.bool sc))) ∧ Hid (Keeps (OnP bt pd) wr W)) (by kernel_rfl) ⟨SX.out _ (Keeps.refl _ wr).drew, aside (Keeps.refl _ wr).drew⟩ (fun hHeld => ?_)
              refine wpAnyH_take (i := 0) (v := ?_) rfl (by kernel_rfl) (by kernel_rfl) (by kernel_rfl) (fun _ _ _ h => h) (Or.inl ⟨by rfl, ?_⟩) (by assumption) ?_
              rotate_left
              · intro w hSw
                go_simp
                try with_reducible rfl
              simp only [Act.put, List.getElem_toArray, List.getElem_cons_zero, List.setIfInBounds_toArray, List.set_cons_zero, List.set_cons_succ]
              refine wpAnyH_take (i := 1) (v := ?_) rfl (by kernel_rfl) (by kernel_rfl) (by kernel_rfl) (fun _ _ _ h => h) (Or.inl ⟨by rfl, ?_⟩) (by assumption) ?_
              rotate_left
              · intro w hSw
                go_simp
                try with_reducible rfl
              simp only [Act.put, List.getElem_toArray, List.getElem_cons_zero, List.getElem_cons_succ, List.setIfInBounds_toArray, List.set_cons_zero, List.set_cons_succ]
              refine wpAnyH_take (i := 2) (v := ?_) rfl (by kernel_rfl) (by kernel_rfl) (by kernel_rfl) (fun _ _ _ h => h) (Or.inl ⟨by rfl, ?_⟩) (by assumption) ?_
              rotate_left
              · intro w hSw
                go_simp
                try with_reducible rfl
              simp only [Act.put, List.getElem_toArray, List.getElem_cons_zero, List.getElem_cons_succ, List.setIfInBounds_toArray, List.set_cons_zero, List.set_cons_succ]
              refine wpAnyH_take (i := 3) (v := ?_) rfl (by kernel_rfl) (by kernel_rfl) (by kernel_rfl) (fun _ _ _ h => h) (Or.inl ⟨by rfl, ?_⟩) (by assumption) ?_
              rotate_left
              · intro w hSw
                go_simp
                try with_reducible rfl
              simp only [Act.put, List.getElem_toArray, List.getElem_cons_zero, List.getElem_cons_succ, List.setIfInBounds_toArray, List.set_cons_zero, List.set_cons_succ]
              refine wpAnyH_take (i := 4) (v := ?_) rfl (by kernel_rfl) (by kernel_rfl) (by kernel_rfl) (fun _ _ _ h => h) (Or.inl ⟨by rfl, ?_⟩) (by assumption) ?_
              rotate_left
              · intro w hSw
                go_simp
                try with_reducible rfl
              simp only [Act.put, List.getElem_toArray, List.getElem_cons_zero, List.getElem_cons_succ, List.setIfInBounds_toArray, List.set_cons_zero, List.set_cons_succ]
              refine wpAnyH_ready (rs := [5]) (by kernel_rfl) (by simp) ?_
              refine AllReadyH.cons rfl (fun K hK => ?_) AllReadyH.nil
              go_simp
              refine (step_any kd o ll k9 z9 sp sc (DRR.out.pr.below (Below.refl _ wr).drew) WF.out LENF.out).mono ?_
              rintro e w9 ⟨rfl, pr9, kk9⟩
              refine hK.out _ _ (⟨SX.out _ ((Keeps.refl _ wr).drew.trans kk9), aside ((Keeps.refl _ wr).drew.trans kk9)⟩) (fun hHeld => ?_)
              clear hK K 
              refine wpAnyH_take (i := 6) (v := ?_) rfl (by kernel_rfl) (by kernel_rfl) (by kernel_rfl) (fun _ _ _ h => h) (Or.inl ⟨by rfl, ?_⟩) (by assumption) ?_
              rotate_left
              · intro w hSw
                go_simp
                try with_reducible rfl
              simp only [Act.put, List.getElem_toArray, List.getElem_cons_zero, List.getElem_cons_succ, List.setIfInBounds_toArray, List.set_cons_zero, List.set_cons_succ]
              refine wpAnyH_done (by kernel_rfl) ?_ _
              refine hK0 _ _ ?_
              have PN := aside pr9
              have KN := aside ((Keeps.refl _ wr).drew.trans kk9)
              clear hHeld SX pr9 kk9 hK0
              have HT9 := aside (show KeS w q6 qb q9 q10 pt bt pd (runF R1 L1 (k + 1)) a2 c2 d a l.length c l w9 from by rw [RS.out]; exact HT.out.step PN.out KN.out)
              go_wp2
              go_roundw
              case rel => exact ⟨k + 1, by go_num, by omega, HT9.out⟩
              case measure => simp [intOf] <;> omega
            · obtain ⟨L2, hL2⟩ : ∃ L, runF R1 L1 k = L := ⟨_, rfl⟩
              rw [hL2] at HT
              clear hL2 DRR
              obtain ⟨n9, hn9⟩ : ∃ n, l.length = n := ⟨_, rfl⟩
              have HN9 := aside hn9
              rw [hn9] at HT LNL
              have hfn := func_nilT
              have r10 := cell_one HT.out.k10
              obtain ⟨V4, hV4⟩ : ∃ V, wr.alloc (.cells #[.int .i64 0] 3) = V := ⟨_, rfl⟩
              obtain ⟨q12, hq12⟩ : ∃ q, wr.heap.size = q := ⟨_, rfl⟩
              have BV4 := aside (show Below wr.heap.size wr V4 from by rw [← hV4]; exact bnew wr _)
              have K12 := aside (show V4.heap[q12]? = some (.cells #[.int .i64 0] 3 (0, 0)) from by rw [← hV4, ← hq12]; exact heap_alloc_new wr _)
              have S4 := aside (HT.out.below BV4.out)
              have r10' := cell_one S4.out.k10
              rw [← hV4] at r10'
              have HV4 := aside hV4
              have HQ12 := aside (show w.heap.size ≤ q12 from by have := HB.out.size; omega)
              have hnn : (n9 : Int) ≤ 4096 := by have := LNL.out; omega
              clear hV4
              go_wp2_with fail
              rw [HV4.out]
              refine (wpIn_wide (n := 5)).1 ?_
              have HBT := aside (show bt < V4.heap.size from S4.out.dr.pr.lt.2.1)
              have HVV := aside (show w.heap.size ≤ V4.heap.size from S4.out.dr.bel.size)
              clear r10 r10' hq12 HV4 hfn HT HB hn9
              have ownI : OwnFrom V4.heap.size (fun (pre : List Alm) X => KeS w q6 qb q9 q10 pt bt pd L2 a2 c2 d a n9 c l X ∧ X.heap[q12]? = some (.cells #[.int .i64 (pre.length : Int)] 3 (0, 0))) := fun s A Y row hs hg hr => ⟨hs.1.own HBT.out HVV.out hg hr, cells_ownA hs.2 hg (fun r e => (hr r e).2)⟩
              refine rangeXs rfl (enters_of Try.func27 (by kernel_rfl) rfl) (due_seq S4.out.dd) KpD.t (fun A s => s) (fun W i o o' _ h ho => KpD.b W i o o' h ho) (Below.refl _ _) (fun _ => rfl)
                (fun (pre : List Alm) X => KeS w q6 qb q9 q10 pt bt pd L2 a2 c2 d a n9 c l X ∧ X.heap[q12]? = some (.cells #[.int .i64 (pre.length : Int)] 3 (0, 0))) (fun _ _ _ => False) ownI (fun _ _ _ _ _ h => h.elim) ⟨S4.out, K12.out⟩ ?body ?done ?stop
              case body =>
                rintro l' pre x X ⟨hi, h12⟩ hlen -
                obtain ⟨k5, hk5⟩ : ∃ k, pre.length = k := ⟨_, rfl⟩
                have HK5 := aside hk5
                rw [hk5] at h12 hlen
                have HI := aside hi
                have H12 := aside h12
                have hw1 : IntKind.i64.wrap ((k5 : Int) + 1) = (k5 : Int) + 1 := by rw [IntKind.wrap_i64]; have := HN9.out; omega
                have n0 := cell_one h12
                have s10 := cell_one hi.k10
                have s9 := cell_one hi.k9
                have HLK := aside (show ((pre ++ [x]).length : Int) = (k5 : Int) + 1 from by rw [List.length_append, HK5.out]; simp)
                clear hi h12 hk5 hlen
                dsimp only [encA]
                by_cases hk3 : (k5 : Int) < 3
                · have CG := aside (goes_any 0 HI.out.dd HI.out.wt (by have := LNL.out; omega))
                  gi_wp2_with fail
                  refine ⟨trivial, ?_⟩
                  refine (CallsIn.inRound l' (callsIn_wide.2 CG.out)).mono ?_
                  rintro e X2 ⟨rfl, b5⟩
                  have BX := aside b5
                  clear b5 CG n0 s10 s9
                  have H2 := aside (HI.out.below BX.out)
                  have N2 := aside (blk_on H12.out BX.out)
                  have n0 := cell_one N2.out
                  have nz := frozen_one N2.out
                  have HX3 := aside (show (X2.setCell ⟨q12, 0, none⟩ (.int .i64 ((k5 : Int) + 1))).heap[q12]? = some (.cells #[.int .i64 ((k5 : Int) + 1)] 3 (0, 0)) from by rw [heap_setCell_same X2 q12 0 _ _ _ N2.out]; rfl)
                  have KK := aside ((Keeps.refl (fun x => x = q12) X2).setCell (p := ⟨q12, 0, none⟩) (fun _ => rfl) (.int .i64 ((k5 : Int) + 1)))
                  have FAR := aside (fun (i : Nat) (cs : Array Value) (e : TypeId) (he : e ≠ 3) (hi : X2.heap[i]? = some (.cells cs e (0, 0))) => (show ¬ i = q12 from fun e9 => by rw [e9, N2.out] at hi; simp at hi; exact he hi.2.symm))
                  have H3 := aside (show KeS w q6 qb q9 q10 pt bt pd L2 a2 c2 d a n9 c l (X2.setCell ⟨q12, 0, none⟩ (.int .i64 ((k5 : Int) + 1))) from
                    ⟨⟨blk_keep H2.out.dr.bx KK.out (FAR.out _ _ _ (by decide) H2.out.dr.bx), ⟨H2.out.dr.pr.t.keep KK.out (FAR.out _ _ _ (by decide) H2.out.dr.pr.t.1) (fun e => H2.out.dr.pr.t.far _ _ _ N2.out e.symm), H2.out.dr.pr.d.keep KK.out (by obtain ⟨v, hv, -⟩ := H2.out.dr.pr.d; exact FAR.out _ _ _ (by decide) hv) (fun i cs hi => FAR.out i cs _ (by decide) hi)⟩, H2.out.dr.bel.trans (KK.out.below (B := w.heap.size) H2.out.dr.bel.size (fun j hj e => by have := HQ12.out; omega)), H2.out.dr.ge⟩, blk_keep H2.out.k6 KK.out (FAR.out _ _ _ (by decide) H2.out.k6), blk_keep H2.out.k9 KK.out (FAR.out _ _ _ (by decide) H2.out.k9), blk_keep H2.out.k10 KK.out (FAR.out _ _ _ (by decide) H2.out.k10), H2.out.wt.keep KK.out (fun i cs hi => FAR.out i cs _ (by decide) hi), H2.out.dd.keeps KK.out (fun i cs hi => FAR.out i cs _ (by decide) hi) (fun i cs hi => FAR.out i cs _ (by decide) hi)⟩)
                  have KF := aside ((kf_belowA (C := V4.heap.size) BX.out).trans ((KeepsOthers.setCell X2 ⟨q12, 0, none⟩ (.int .i64 ((k5 : Int) + 1))).from V4.heap.size))
                  gi_wp2
                  exact ⟨KF.out, fun _ => H3.out.dd, H3.out, by rw [HLK.out]; exact HX3.out⟩
                · have h3m : 3 ≤ k5 := by omega
                  have h3n : ¬ k5 < 3 := by omega
                  have h3i : (3 : Int) ≤ (k5 : Int) := by omega
                  have e3 : decide ((k5 : Int) < 3) = false := by rw [decide_eq_false_iff_not]; omega
                  have e3n : decide (k5 < 3) = false := by rw [decide_eq_false_iff_not]; omega
                  have BX := aside (Below.refl X.heap.size X)
                  clear s10 s9
                  have H2 := aside (HI.out.below BX.out)
                  have N2 := aside (blk_on H12.out BX.out)
                  have n0 := cell_one N2.out
                  have nz := frozen_one N2.out
                  have HX3 := aside (show (X.setCell ⟨q12, 0, none⟩ (.int .i64 ((k5 : Int) + 1))).heap[q12]? = some (.cells #[.int .i64 ((k5 : Int) + 1)] 3 (0, 0)) from by rw [heap_setCell_same X q12 0 _ _ _ N2.out]; rfl)
                  have KK := aside ((Keeps.refl (fun x => x = q12) X).setCell (p := ⟨q12, 0, none⟩) (fun _ => rfl) (.int .i64 ((k5 : Int) + 1)))
                  have FAR := aside (fun (i : Nat) (cs : Array Value) (e : TypeId) (he : e ≠ 3) (hi : X.heap[i]? = some (.cells cs e (0, 0))) => (show ¬ i = q12 from fun e9 => by rw [e9, N2.out] at hi; simp at hi; exact he hi.2.symm))
                  have H3 := aside (show KeS w q6 qb q9 q10 pt bt pd L2 a2 c2 d a n9 c l (X.setCell ⟨q12, 0, none⟩ (.int .i64 ((k5 : Int) + 1))) from
                    ⟨⟨blk_keep H2.out.dr.bx KK.out (FAR.out _ _ _ (by decide) H2.out.dr.bx), ⟨H2.out.dr.pr.t.keep KK.out (FAR.out _ _ _ (by decide) H2.out.dr.pr.t.1) (fun e => H2.out.dr.pr.t.far _ _ _ N2.out e.symm), H2.out.dr.pr.d.keep KK.out (by obtain ⟨v, hv, -⟩ := H2.out.dr.pr.d; exact FAR.out _ _ _ (by decide) hv) (fun i cs hi => FAR.out i cs _ (by decide) hi)⟩, H2.out.dr.bel.trans (KK.out.below (B := w.heap.size) H2.out.dr.bel.size (fun j hj e => by have := HQ12.out; omega)), H2.out.dr.ge⟩, blk_keep H2.out.k6 KK.out (FAR.out _ _ _ (by decide) H2.out.k6), blk_keep H2.out.k9 KK.out (FAR.out _ _ _ (by decide) H2.out.k9), blk_keep H2.out.k10 KK.out (FAR.out _ _ _ (by decide) H2.out.k10), H2.out.wt.keep KK.out (fun i cs hi => FAR.out i cs _ (by decide) hi), H2.out.dd.keeps KK.out (fun i cs hi => FAR.out i cs _ (by decide) hi) (fun i cs hi => FAR.out i cs _ (by decide) hi)⟩)
                  have KF := aside ((kf_belowA (C := V4.heap.size) BX.out).trans ((KeepsOthers.setCell X ⟨q12, 0, none⟩ (.int .i64 ((k5 : Int) + 1))).from V4.heap.size))
                  gi_wp2_with fail
                  refine ⟨trivial, ?_⟩
                  gi_wp2
                  exact ⟨KF.out, fun _ => H3.out.dd, H3.out, by rw [HLK.out]; exact HX3.out⟩
              case done =>
                rintro D xs X hD rfl ⟨hi, h12⟩ hK
                rw [HN9.out] at h12
                have HI := aside hi
                have HKD := aside hK
                have CG := aside (goes_any 0 HI.out.dd HI.out.wt (by have := LNL.out; omega))
                have n0 := cell_one h12
                have s10 := cell_one hi.k10
                have s9 := cell_one hi.k9
                clear hi h12 hK
                go_wp2_with fail
                refine CG.out.mono ?_
                rintro e X2 ⟨rfl, b5⟩
                have H2 := aside (HI.out.below b5)
                have HK2 := aside (blk_on HKD.out b5)
                obtain ⟨u0, u1⟩ := H2.out.dr.cells (Keeps.refl _ X2)
                clear b5 CG n0 s10 s9
                go_wp2_with fail
                refine (same_anyT H2.out.dr.pr).mono ?_
                rintro e X3 ⟨rfl, b6⟩
                have H3 := aside (H2.out.below b6)
                have HK3 := aside (blk_on HK2.out b6)
                have r0 := cell_one H3.out.k6
                have rz := frozen_one H3.out.k6
                have R6 := aside (show (X3.setCell ⟨q6, 0, none⟩ (.bool true)).heap[q6]? = some (.cells #[.bool true] 4 (0, 0)) from by rw [heap_setCell_same _ q6 0 _ _ _ H3.out.k6]; rfl)
                have BF := aside (H3.out.dr.bel.setCell (p := ⟨q6, 0, none⟩) (by show w.heap.size ≤ q6; have := HQ6.out; omega) (.bool true))
                clear b6 u0 u1
                go_wp2
                have hK1 := (KeepsOthers.setCell X3 ⟨q6, 0, none⟩ (.bool true)).same D _ HK3.out rfl
                refine ⟨by simp, .inl ⟨_, _, rfl, run_takeDeferred hK1, ?_⟩⟩
                have d0 := cell_kept (cell_one R6.out) (grownBy_putObj' _ D (.deferred none)) (fun r e => by cases e; exact ⟨_, hK1, rfl⟩)
                refine ⟨.bool true, by simp [results, Try.f5, go_sem, d0], rfl, ?_⟩
                exact ownFrom_below (β := Unit) (Nat.le_refl w.heap.size) HVV.out () _ _ (some D) BF.out (grownBy_putObj' _ D (.deferred none)) (fun r e => by cases e; exact ⟨hD, _, hK1, rfl⟩)
              case stop =>
                rintro D cd pre X hD _ h
                exact h.elim

end Go.Proofs.Ytoajgacofmodoaa
