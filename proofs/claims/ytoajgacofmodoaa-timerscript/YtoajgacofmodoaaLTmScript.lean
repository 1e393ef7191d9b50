/-
  The law TimerScript, walked.
-/
import Derived.Test.YtoajgacofmodoaaTmZ
namespace Go.Proofs.Ytoajgacofmodoaa
open Go.RowKit
set_option linter.unusedVariables false

/-- The alarms of one of two timers behind the first k steps. -/
def runS (R : Nat → Sop) (s : Bool) : Nat → List Alm
  | 0 => []
  | k + 1 => if (R k).sec = s then stepL (R k).kind (R k).o (R k).l (R k).n (R k).at_ (runS R s k) else runS R s k
theorem runS_yes {R : Nat → Sop} {s : Bool} {k : Nat} (h : (R k).sec = s) : runS R s (k + 1) = stepL (R k).kind (R k).o (R k).l (R k).n (R k).at_ (runS R s k) := if_pos h
theorem runS_no {R : Nat → Sop} {s : Bool} {k : Nat} (h : ¬ (R k).sec = s) : runS R s (k + 1) = runS R s k := if_neg h
theorem runS_len (R : Nat → Sop) (s : Bool) : ∀ k, (runS R s k).length ≤ k
  | 0 => Nat.le_refl _
  | k + 1 => by
    have h1 := runS_len R s k
    by_cases h : (R k).sec = s
    · rw [runS_yes h]
      have h2 := stepL_len (R k).kind (R k).o (R k).l (R k).n (R k).at_ (runS R s k)
      omega
    · rw [runS_no h]; omega
theorem dueL_all : ∀ {L : List Alm}, AlOk L → dueL 1099511627776 L = L
  | [], _ => rfl
  | a :: r, h => by
    have h1 := (h a (by simp)).2.2
    have ih := dueL_all (L := r) (fun b hb => h b (by simp [hb]))
    unfold dueL at ih ⊢
    rw [List.takeWhile_cons, if_pos (decide_eq_true h1), ih]
/-- Two pairs that have nothing in common. -/
structure Sc (w : World) (qa pa ba da qb pb bb db : Nat) (LA LB : List Alm) (X : World) : Prop where
  a : DrI w qa pa ba da (LA) X
  b : DrI w qb pb bb db (LB) X
  nb : ba ≠ bb
  nd : da ≠ db
theorem Sc.below {w : World} {qa pa ba da qb pb bb db : Nat} {LA LB : List Alm} {X Y : World} (h : Sc w qa pa ba da qb pb bb db LA LB X) (k : Below X.heap.size X Y) : Sc w qa pa ba da qb pb bb db LA LB Y := ⟨h.a.below k, h.b.below k, h.nb, h.nd⟩
theorem drOff {w : World} {q p b d q' p' b' d' : Nat} {L L' : List Alm} {X : World} (h : DrI w q p b d L X) (h' : DrI w q' p' b' d' L' X) : ¬ OnP b' d' q := fun e => by
  have h1 := h.bx
  rcases e with e | e
  · obtain ⟨-, -, -, D, ⟨es, clock, hm, -⟩, -⟩ := h'.pr.t
    rw [e, hm] at h1; cases h1
  · obtain ⟨v, h2, -⟩ := h'.pr.d
    rw [e, h2] at h1; simp at h1
theorem Sc.stepA {w : World} {qa pa ba da qb pb bb db : Nat} {LA LB M : List Alm} {X Y : World} (h : Sc w qa pa ba da qb pb bb db LA LB X) (p : Pr Y pa ba da M) (k : Keeps (OnP ba da) X Y) : Sc w qa pa ba da qb pb bb db M LB Y :=
  ⟨h.a.step p k, ⟨blk_keep h.b.bx k (drOff h.b h.a), h.b.pr.keep h.a.pr k (fun e => h.nb e.symm) (fun e => h.nd e.symm), (h.a.step p k).bel, h.b.ge⟩, h.nb, h.nd⟩
theorem Sc.stepB {w : World} {qa pa ba da qb pb bb db : Nat} {LA LB M : List Alm} {X Y : World} (h : Sc w qa pa ba da qb pb bb db LA LB X) (p : Pr Y pb bb db M) (k : Keeps (OnP bb db) X Y) : Sc w qa pa ba da qb pb bb db LA M Y :=
  ⟨⟨blk_keep h.a.bx k (drOff h.a h.b), h.a.pr.keep h.b.pr k h.nb h.nd, (h.b.step p k).bel, h.a.ge⟩, h.b.step p k, h.nb, h.nd⟩
theorem Sc.cells {w : World} {qa pa ba da qb pb bb db : Nat} {LA LB : List Alm} {X : World} (h : Sc w qa pa ba da qb pb bb db LA LB X) : (X.cell? ⟨qa, 0, none⟩ = some (.pointer (some ⟨pa, 0, none⟩)) ∧ X.cell? ⟨qa, 1, none⟩ = some (.pointer (some ⟨da, 0, none⟩))) ∧ (X.cell? ⟨qb, 0, none⟩ = some (.pointer (some ⟨pb, 0, none⟩)) ∧ X.cell? ⟨qb, 1, none⟩ = some (.pointer (some ⟨db, 0, none⟩))) := by
  have k0 := h.a.bx
  have k1 := h.b.bx
  exact ⟨⟨by simp [World.cell?, k0], by simp [World.cell?, k0]⟩, by simp [World.cell?, k1], by simp [World.cell?, k1]⟩
set_option maxHeartbeats 16000000 in
set_option maxRecDepth 100000 in
theorem tscript_walk (a0 : Option Addr) (len cap : Nat) (R : Nat → Sop) (w : World) (g0 : Sops w a0 len cap R) (ok0 : ∀ i, i < len → SopOk (R i)) :
    Calls Try.prog 4 #[.slice a0 len cap] w fun e w' => e = .returned (.bool true) ∧ Below w.heap.size w w' := by
  have G0 := aside g0
  have OK0 := aside ok0
  have hmx : (len : Int) ≤ 9223372036854775807 := by have h1 := g0.1; have h2 := g0.2.1; unfold maxLen at h2; omega
  clear g0 ok0
  by_cases hlong : (32768 : Int) < (len : Int)
  · go_enter Try.func4, Try.ntmps4
    go_wp2
    go_ret
    exact ⟨rfl, Below.refl _ _⟩
  · have HL := aside (show len ≤ 32768 from by omega)
    go_enter Try.func4, Try.ntmps4
    go_wp2_with fail
    refine (fresh_any _).mono ?_
    rintro e w1 ⟨pa, ba, da, rfl, hpa, hba, hda, hpr, b1⟩
    obtain ⟨V, hV⟩ : ∃ V, w1.alloc (.cells #[.pointer (some ⟨pa, 0, none⟩), .pointer (some ⟨da, 0, none⟩)] 40) = V := ⟨_, rfl⟩
    obtain ⟨qa, hqa⟩ : ∃ q, w1.heap.size = q := ⟨_, rfl⟩
    have DA0 := aside (show DrI w qa pa ba da ([]) V from by
      rw [← hV, ← hqa]
      exact ⟨heap_alloc_new w1 _, hpr.below (bnew w1 _), bthen b1 (bnew w1 _), hpa, hba, hda⟩)
    clear hpa hba hda hpr b1
    go_wp2_with fail
    refine (fresh_any _).mono ?_
    rintro e w2 ⟨pb, bb, db, rfl, hpb, hbb, hdb, hpr, b2⟩
    obtain ⟨V2, hV2⟩ : ∃ V, w2.alloc (.cells #[.pointer (some ⟨pb, 0, none⟩), .pointer (some ⟨db, 0, none⟩)] 40) = V := ⟨_, rfl⟩
    obtain ⟨qb, hqb⟩ : ∃ q, w2.heap.size = q := ⟨_, rfl⟩
    have S0 := aside (show Sc w qa pa ba da qb pb bb db [] [] V2 from by
      have hv := DA0.out.bel.size
      have hlt := DA0.out.pr.lt
      rw [← hV2, ← hqb]
      exact ⟨(DA0.out.below b2).below (bnew w2 _), ⟨heap_alloc_new w2 _, hpr.below (bnew w2 _), bthen (bthen DA0.out.bel b2) (bnew w2 _), by omega, by omega, by omega⟩, by omega, by omega⟩)
    clear hpb hbb hdb hpr b2 DA0
    go_wp2
    try rw [hV2]
    clear hV hqa hV2 hqb
    go_loopw [5] (fun i wr => ∃ k : Nat, i = .int .i64 (k : Int) ∧ k ≤ len ∧ Hid (Sc w qa pa ba da qb pb bb db (runS R false k) (runS R true k) wr)) (fun i _ => len - (intOf i).toNat)
    case atStart => exact ⟨0, rfl, Nat.zero_le _, S0.out⟩
    case round =>
      clear S0
      obtain ⟨k, rfl, hk, HT⟩ := hrel
      have HB := aside HT.out.a.bel
      by_cases hlk : (k : Int) < (len : Int)
      · have hk0 : (0 : Int) ≤ (k : Int) := by omega
        rcases (G0.out.keep HB.out).2.2.2 with h0 | ⟨x, off, rfl, hx, hc⟩
        · omega
        have hxw : x < w.heap.size := by
          rcases G0.out.2.2.2 with h0 | ⟨x9, off9, e9, hx9, -⟩
          · omega
          · injection e9 with e9; injection e9 with e9; omega
        obtain ⟨kd, hkd⟩ : ∃ y, (R k).kind = y := ⟨_, rfl⟩
        obtain ⟨o, ho⟩ : ∃ y, (R k).o = y := ⟨_, rfl⟩
        obtain ⟨l, hl⟩ : ∃ y, (R k).l = y := ⟨_, rfl⟩
        obtain ⟨k9, hk9⟩ : ∃ y, (R k).n = y := ⟨_, rfl⟩
        obtain ⟨z, hz⟩ : ∃ y, (R k).at_ = y := ⟨_, rfl⟩
        obtain ⟨sp, hsp⟩ : ∃ y, (R k).stop = y := ⟨_, rfl⟩
        obtain ⟨sc, hsc⟩ : ∃ y, (R k).sec = y := ⟨_, rfl⟩
        have m0 := hc k (by omega)
        unfold SopAt at m0
        rw [hkd, ho, hl, hk9, hz, hsp, hsc] at m0
        have M0 := aside m0
        have WF := aside (show wfN (o, l, k9) from by rw [← ho, ← hl, ← hk9]; exact ⟨(OK0.out k (by omega)).2.1, (OK0.out k (by omega)).2.2.1, (OK0.out k (by omega)).2.2.2.1⟩)
        cases sc with
        | false =>
          have RS := aside (show runS R false (k + 1) = stepL kd o l k9 z (runS R false k) from by rw [runS_yes hsc, hkd, ho, hl, hk9, hz])
          have RT := aside (show runS R true (k + 1) = runS R true k from runS_no (by rw [hsc]; decide))
          have HSC := aside hsc
          clear hkd ho hl hk9 hz hsp hsc hc
          obtain ⟨V6, hV6⟩ : ∃ V, wr.alloc (.cells #[.pointer (some ⟨pa, 0, none⟩), .pointer (some ⟨da, 0, none⟩)] 40) = V := ⟨_, rfl⟩
          obtain ⟨q6, hq6⟩ : ∃ q, wr.heap.size = q := ⟨_, rfl⟩
          have B6 := aside (show Below wr.heap.size wr V6 from by rw [← hV6]; exact bnew wr _)
          have K6 := aside (show V6.heap[q6]? = some (.cells #[.pointer (some ⟨pa, 0, none⟩), .pointer (some ⟨da, 0, none⟩)] 40 (0, 0)) from by rw [← hV6, ← hq6]; exact heap_alloc_new wr _)
          have H6 := aside (HT.out.below B6.out)
          have LQ := aside (show w.heap.size ≤ q6 from by have := HB.out.size; omega)
          have SX := aside (fun W (kk : Keeps (OnP ba da) V6 W) => (show (W.cell? ⟨q6, 0, none⟩ = some (.pointer (some ⟨pa, 0, none⟩)) ∧ W.cell? ⟨q6, 1, none⟩ = some (.pointer (some ⟨da, 0, none⟩))) ∧ (W.cell? ⟨x, off + k * 7, none⟩ = some (.int .i64 kd) ∧ W.cell? ⟨x, off + k * 7 + 1, none⟩ = some (.int .i64 o) ∧ W.cell? ⟨x, off + k * 7 + 2, none⟩ = some (.int .i64 l) ∧ W.cell? ⟨x, off + k * 7 + 3, none⟩ = some (.int .i64 k9) ∧ W.cell? ⟨x, off + k * 7 + 4, none⟩ = some (.int .i64 z) ∧ W.cell? ⟨x, off + k * 7 + 5, none⟩ = some (.int .i64 sp) ∧ W.cell? ⟨x, off + k * 7 + 6, none⟩ = some (.bool false)) from by
            have nx : ¬ OnP ba da x := fun e => by have h1 := H6.out.a.ge; rcases e with e | e <;> omega
            have nq : ¬ OnP ba da q6 := fun e => by
              have h1 := K6.out
              rcases e with e | e
              · obtain ⟨-, -, -, D, ⟨es, clock, hm, -⟩, -⟩ := H6.out.a.pr.t
                rw [e, hm] at h1; cases h1
              · obtain ⟨v, h2, -⟩ := H6.out.a.pr.d
                rw [e, h2] at h1; simp at h1
            have hxr : x < V6.heap.size := by have := HB.out.size; have := B6.out.size; omega
            have k0 := blk_keep K6.out kk nq
            obtain ⟨c0, c1, c2, c3, c4, c5, c6⟩ := M0.out
            exact ⟨⟨by simp [World.cell?, k0], by simp [World.cell?, k0]⟩, by rw [kk.cell hxr nx]; exact cell_in c0 B6.out, by rw [kk.cell hxr nx]; exact cell_in c1 B6.out, by rw [kk.cell hxr nx]; exact cell_in c2 B6.out, by rw [kk.cell hxr nx]; exact cell_in c3 B6.out, by rw [kk.cell hxr nx]; exact cell_in c4 B6.out, by rw [kk.cell hxr nx]; exact cell_in c5 B6.out, by rw [kk.cell hxr nx]; exact cell_in c6 B6.out⟩))
          obtain ⟨⟨e0, e1⟩, -⟩ := HT.out.cells
          obtain ⟨c0, c1, c2, c3, c4, c5, c6⟩ := M0.out
          have c6' := cell_in c6 B6.out
          go_wp2_with fail
          clear m0
          refine wp_region_held_drew (S := fun W => ((W.cell? ⟨q6, 0, none⟩ = some (.pointer (some ⟨pa, 0, none⟩)) ∧ W.cell? ⟨q6, 1, none⟩ = some (.pointer (some ⟨da, 0, none⟩))) ∧ (W.cell? ⟨x, off + k * 7, none⟩ = some (.int .i64 kd) ∧ W.cell? ⟨x, off + k * 7 + 1, none⟩ = some (.int .i64 o) ∧ W.cell? ⟨x, off + k * 7 + 2, none⟩ = some (.int .i64 l) ∧ W.cell? ⟨x, off + k * 7 + 3, none⟩ = some (.int .i64 k9) ∧ W.cell? ⟨x, off + k * 7 + 4, none⟩ = some (.int .i64 z) ∧ W.cell? ⟨x, off + k * 7 + 5, none⟩ = some (.int .i64 sp) ∧ W.cell? ⟨x, off + k * 7 + 6, none⟩ = some (.bool false))) ∧ Hid (Keeps (OnP ba da) V6 W)) (by kernel_rfl) ⟨SX.out _ (Keeps.refl _ V6).drew, aside (Keeps.refl _ V6).drew⟩ (fun hHeld => ?_)
          refine wpAnyH_take (i := 0) (v := ?_) rfl (by kernel_rfl) (by kernel_rfl) (by kernel_rfl) (fun _ _ _ h => h) (Or.inl ⟨by rfl, ?_⟩) (by assumption) ?_
          rotate_left
          · intro w hSw
            go_simp
            try with_reducible rfl
          simp only [Act.put, List.getElem_toArray, List.getElem_cons_zero, List.setIfInBounds_toArray, List.set_cons_zero, List.set_cons_succ]
          refine wpAnyH_take (i := 1) (v := ?_) rfl (by kernel_rfl) (by kernel_rfl) (by kernel_rfl) (fun _ _ _ h => h) (Or.inl ⟨by rfl, ?_⟩) (by assumption) ?_
          rotate_left
          · intro w hSw
            go_simp
            try with_reducible rfl
          simp only [Act.put, List.getElem_toArray, List.getElem_cons_zero, List.getElem_cons_succ, List.setIfInBounds_toArray, List.set_cons_zero, List.set_cons_succ]
          refine wpAnyH_take (i := 2) (v := ?_) rfl (by kernel_rfl) (by kernel_rfl) (by kernel_rfl) (fun _ _ _ h => h) (Or.inl ⟨by rfl, ?_⟩) (by assumption) ?_
          rotate_left
          · intro w hSw
            go_simp
            try with_reducible rfl
          simp only [Act.put, List.getElem_toArray, List.getElem_cons_zero, List.getElem_cons_succ, List.setIfInBounds_toArray, List.set_cons_zero, List.set_cons_succ]
          refine wpAnyH_take (i := 3) (v := ?_) rfl (by kernel_rfl) (by kernel_rfl) (by kernel_rfl) (fun _ _ _ h => h) (Or.inl ⟨by rfl, ?_⟩) (by assumption) ?_
          rotate_left
          · intro w hSw
            go_simp
            try with_reducible rfl
          simp only [Act.put, List.getElem_toArray, List.getElem_cons_zero, List.getElem_cons_succ, List.setIfInBounds_toArray, List.set_cons_zero, List.set_cons_succ]
          refine wpAnyH_take (i := 4) (v := ?_) rfl (by kernel_rfl) (by kernel_rfl) (by kernel_rfl) (fun _ _ _ h => h) (Or.inl ⟨by rfl, ?_⟩) (by assumption) ?_
          rotate_left
          · intro w hSw
            go_simp
            try with_reducible rfl
          simp only [Act.put, List.getElem_toArray, List.getElem_cons_zero, List.getElem_cons_succ, List.setIfInBounds_toArray, List.set_cons_zero, List.set_cons_succ]
          refine wpAnyH_ready (rs := [5]) (by kernel_rfl) (by simp) ?_
          refine AllReadyH.cons rfl (fun K hK => ?_) AllReadyH.nil
          go_simp
          refine (step_any kd o l k9 z sp false (H6.out.a.pr.below (Below.refl _ V6).drew) WF.out (by have := runS_len R false k; have := HL.out; omega)).mono ?_
          rintro e w9 ⟨rfl, pr9, kk9⟩
          refine hK.out _ _ (⟨SX.out _ ((Keeps.refl _ V6).drew.trans kk9), aside ((Keeps.refl _ V6).drew.trans kk9)⟩) (fun hHeld => ?_)
          clear hK K 
          have PN := aside pr9
          have KN := aside ((Keeps.refl _ V6).drew.trans kk9)
          clear pr9 kk9
          refine wpAnyH_take (i := 6) (v := ?_) rfl (by kernel_rfl) (by kernel_rfl) (by kernel_rfl) (fun _ _ _ h => h) (Or.inl ⟨by rfl, ?_⟩) (by assumption) ?_
          rotate_left
          · intro w hSw
            go_simp
            try with_reducible rfl
          simp only [Act.put, List.getElem_toArray, List.getElem_cons_zero, List.getElem_cons_succ, List.setIfInBounds_toArray, List.set_cons_zero, List.set_cons_succ]
          refine wpAnyH_take (i := 7) (v := ?_) rfl (by kernel_rfl) (by kernel_rfl) (by kernel_rfl) (fun _ _ _ h => h) (Or.inl ⟨by rfl, ?_⟩) (by assumption) ?_
          rotate_left
          · intro w hSw
            go_simp
            try with_reducible rfl
          simp only [Act.put, List.getElem_toArray, List.getElem_cons_zero, List.getElem_cons_succ, List.setIfInBounds_toArray, List.set_cons_zero, List.set_cons_succ]
          refine wpAnyH_take (i := 8) (v := ?_) rfl (by kernel_rfl) (by kernel_rfl) (by kernel_rfl) (fun _ _ _ h => h) (Or.inl ⟨by rfl, ?_⟩) (by assumption) ?_
          rotate_left
          · intro w hSw
            go_simp
            try with_reducible rfl
          simp only [Act.put, List.getElem_toArray, List.getElem_cons_zero, List.getElem_cons_succ, List.setIfInBounds_toArray, List.set_cons_zero, List.set_cons_succ]
          refine wpAnyH_ready (rs := [9]) (by kernel_rfl) (by simp) ?_
          refine AllReadyH.cons rfl (fun K hK => ?_) AllReadyH.nil
          go_simp
          refine (same_anyT PN.out).mono ?_
          rintro e w10 ⟨rfl, bb⟩
          refine hK.out _ _ (⟨SX.out _ (KN.out.trans (Keeps.of_below bb _)), aside (KN.out.trans (Keeps.of_below bb _))⟩) (fun hHeld => ?_)
          clear hK K 
          have BN := aside bb
          clear bb
          refine wpAnyH_take (i := 10) (v := ?_) rfl (by kernel_rfl) (by kernel_rfl) (by kernel_rfl) (fun _ _ _ h => h) (Or.inl ⟨by rfl, ?_⟩) (by assumption) ?_
          rotate_left
          · intro w hSw
            go_simp
            try with_reducible rfl
          simp only [Act.put, List.getElem_toArray, List.getElem_cons_zero, List.getElem_cons_succ, List.setIfInBounds_toArray, List.set_cons_zero, List.set_cons_succ]
          refine wpAnyH_take (i := 11) (v := ?_) rfl (by kernel_rfl) (by kernel_rfl) (by kernel_rfl) (fun _ _ _ h => h) (Or.inl ⟨by rfl, ?_⟩) (by assumption) ?_
          rotate_left
          · intro w hSw
            go_simp
            try with_reducible rfl
          simp only [Act.put, List.getElem_toArray, List.getElem_cons_zero, List.getElem_cons_succ, List.setIfInBounds_toArray, List.set_cons_zero, List.set_cons_succ]
          refine wpAnyH_done (by kernel_rfl) ?_ _
          have HT9 := aside ((H6.out.stepA PN.out KN.out).below BN.out)
          clear hHeld SX
          go_wp2
          go_roundw
          case rel => exact ⟨k + 1, by go_num, by omega, by rw [RS.out, RT.out]; exact HT9.out⟩
          case measure => simp [intOf] <;> omega
        | true =>
          have RS := aside (show runS R true (k + 1) = stepL kd o l k9 z (runS R true k) from by rw [runS_yes hsc, hkd, ho, hl, hk9, hz])
          have RT := aside (show runS R false (k + 1) = runS R false k from runS_no (by rw [hsc]; decide))
          have HSC := aside hsc
          clear hkd ho hl hk9 hz hsp hsc hc
          obtain ⟨V6, hV6⟩ : ∃ V, wr.alloc (.cells #[.pointer (some ⟨pb, 0, none⟩), .pointer (some ⟨db, 0, none⟩)] 40) = V := ⟨_, rfl⟩
          obtain ⟨q6, hq6⟩ : ∃ q, wr.heap.size = q := ⟨_, rfl⟩
          have B6 := aside (show Below wr.heap.size wr V6 from by rw [← hV6]; exact bnew wr _)
          have K6 := aside (show V6.heap[q6]? = some (.cells #[.pointer (some ⟨pb, 0, none⟩), .pointer (some ⟨db, 0, none⟩)] 40 (0, 0)) from by rw [← hV6, ← hq6]; exact heap_alloc_new wr _)
          have H6 := aside (HT.out.below B6.out)
          have LQ := aside (show w.heap.size ≤ q6 from by have := HB.out.size; omega)
          have SX := aside (fun W (kk : Keeps (OnP bb db) V6 W) => (show (W.cell? ⟨q6, 0, none⟩ = some (.pointer (some ⟨pb, 0, none⟩)) ∧ W.cell? ⟨q6, 1, none⟩ = some (.pointer (some ⟨db, 0, none⟩))) ∧ (W.cell? ⟨x, off + k * 7, none⟩ = some (.int .i64 kd) ∧ W.cell? ⟨x, off + k * 7 + 1, none⟩ = some (.int .i64 o) ∧ W.cell? ⟨x, off + k * 7 + 2, none⟩ = some (.int .i64 l) ∧ W.cell? ⟨x, off + k * 7 + 3, none⟩ = some (.int .i64 k9) ∧ W.cell? ⟨x, off + k * 7 + 4, none⟩ = some (.int .i64 z) ∧ W.cell? ⟨x, off + k * 7 + 5, none⟩ = some (.int .i64 sp) ∧ W.cell? ⟨x, off + k * 7 + 6, none⟩ = some (.bool true)) from by
            have nx : ¬ OnP bb db x := fun e => by have h1 := H6.out.b.ge; rcases e with e | e <;> omega
            have nq : ¬ OnP bb db q6 := fun e => by
              have h1 := K6.out
              rcases e with e | e
              · obtain ⟨-, -, -, D, ⟨es, clock, hm, -⟩, -⟩ := H6.out.b.pr.t
                rw [e, hm] at h1; cases h1
              · obtain ⟨v, h2, -⟩ := H6.out.b.pr.d
                rw [e, h2] at h1; simp at h1
            have hxr : x < V6.heap.size := by have := HB.out.size; have := B6.out.size; omega
            have k0 := blk_keep K6.out kk nq
            obtain ⟨c0, c1, c2, c3, c4, c5, c6⟩ := M0.out
            exact ⟨⟨by simp [World.cell?, k0], by simp [World.cell?, k0]⟩, by rw [kk.cell hxr nx]; exact cell_in c0 B6.out, by rw [kk.cell hxr nx]; exact cell_in c1 B6.out, by rw [kk.cell hxr nx]; exact cell_in c2 B6.out, by rw [kk.cell hxr nx]; exact cell_in c3 B6.out, by rw [kk.cell hxr nx]; exact cell_in c4 B6.out, by rw [kk.cell hxr nx]; exact cell_in c5 B6.out, by rw [kk.cell hxr nx]; exact cell_in c6 B6.out⟩))
          obtain ⟨⟨e0, e1⟩, e2, e3⟩ := HT.out.cells
          obtain ⟨c0, c1, c2, c3, c4, c5, c6⟩ := M0.out
          have HV6 := aside hV6
          obtain ⟨Va, hVa⟩ : ∃ V, wr.alloc (.cells #[.pointer (some ⟨pa, 0, none⟩), .pointer (some ⟨da, 0, none⟩)] 40) = V := ⟨_, rfl⟩
          have Ba := aside (show Below wr.heap.size wr Va from by rw [← hVa]; exact bnew wr _)
          have c6' := cell_in c6 Ba.out
          have e2' := cell_in e2 Ba.out
          have e3' := cell_in e3 Ba.out
          rw [← hVa] at c6' e2' e3'
          clear hV6 hVa Ba
          go_wp2_with fail
          rw [HV6.out]
          clear m0
          refine wp_region_held_drew (S := fun W => ((W.cell? ⟨q6, 0, none⟩ = some (.pointer (some ⟨pb, 0, none⟩)) ∧ W.cell? ⟨q6, 1, none⟩ = some (.pointer (some ⟨db, 0, none⟩))) ∧ (W.cell? ⟨x, off + k * 7, none⟩ = some (.int .i64 kd) ∧ W.cell? ⟨x, off + k * 7 + 1, none⟩ = some (.int .i64 o) ∧ W.cell? ⟨x, off + k * 7 + 2, none⟩ = some (.int .i64 l) ∧ W.cell? ⟨x, off + k * 7 + 3, none⟩ = some (.int .i64 k9) ∧ W.cell? ⟨x, off + k * 7 + 4, none⟩ = some (.int .i64 z) ∧ W.cell? ⟨x, off + k * 7 + 5, none⟩ = some (.int .i64 sp) ∧ W.cell? ⟨x, off + k * 7 + 6, none⟩ = some (.bool true))) ∧ Hid (Keeps (OnP bb db) V6 W)) (by kernel_rfl) ⟨SX.out _ (Keeps.refl _ V6).drew, aside (Keeps.refl _ V6).drew⟩ (fun hHeld => ?_)
          refine wpAnyH_take (i := 0) (v := ?_) rfl (by kernel_rfl) (by kernel_rfl) (by kernel_rfl) (fun _ _ _ h => h) (Or.inl ⟨by rfl, ?_⟩) (by assumption) ?_
          rotate_left
          · intro w hSw
            go_simp
            try with_reducible rfl
          simp only [Act.put, List.getElem_toArray, List.getElem_cons_zero, List.setIfInBounds_toArray, List.set_cons_zero, List.set_cons_succ]
          refine wpAnyH_take (i := 1) (v := ?_) rfl (by kernel_rfl) (by kernel_rfl) (by kernel_rfl) (fun _ _ _ h => h) (Or.inl ⟨by rfl, ?_⟩) (by assumption) ?_
          rotate_left
          · intro w hSw
            go_simp
            try with_reducible rfl
          simp only [Act.put, List.getElem_toArray, List.getElem_cons_zero, List.getElem_cons_succ, List.setIfInBounds_toArray, List.set_cons_zero, List.set_cons_succ]
          refine wpAnyH_take (i := 2) (v := ?_) rfl (by kernel_rfl) (by kernel_rfl) (by kernel_rfl) (fun _ _ _ h => h) (Or.inl ⟨by rfl, ?_⟩) (by assumption) ?_
          rotate_left
          · intro w hSw
            go_simp
            try with_reducible rfl
          simp only [Act.put, List.getElem_toArray, List.getElem_cons_zero, List.getElem_cons_succ, List.setIfInBounds_toArray, List.set_cons_zero, List.set_cons_succ]
          refine wpAnyH_take (i := 3) (v := ?_) rfl (by kernel_rfl) (by kernel_rfl) (by kernel_rfl) (fun _ _ _ h => h) (Or.inl ⟨by rfl, ?_⟩) (by assumption) ?_
          rotate_left
          · intro w hSw
            go_simp
            try with_reducible rfl
          simp only [Act.put, List.getElem_toArray, List.getElem_cons_zero, List.getElem_cons_succ, List.setIfInBounds_toArray, List.set_cons_zero, List.set_cons_succ]
          refine wpAnyH_take (i := 4) (v := ?_) rfl (by kernel_rfl) (by kernel_rfl) (by kernel_rfl) (fun _ _ _ h => h) (Or.inl ⟨by rfl, ?_⟩) (by assumption) ?_
          rotate_left
          · intro w hSw
            go_simp
            try with_reducible rfl
          simp only [Act.put, List.getElem_toArray, List.getElem_cons_zero, List.getElem_cons_succ, List.setIfInBounds_toArray, List.set_cons_zero, List.set_cons_succ]
          refine wpAnyH_ready (rs := [5]) (by kernel_rfl) (by simp) ?_
          refine AllReadyH.cons rfl (fun K hK => ?_) AllReadyH.nil
          go_simp
          refine (step_any kd o l k9 z sp true (H6.out.b.pr.below (Below.refl _ V6).drew) WF.out (by have := runS_len R true k; have := HL.out; omega)).mono ?_
          rintro e w9 ⟨rfl, pr9, kk9⟩
          refine hK.out _ _ (⟨SX.out _ ((Keeps.refl _ V6).drew.trans kk9), aside ((Keeps.refl _ V6).drew.trans kk9)⟩) (fun hHeld => ?_)
          clear hK K 
          have PN := aside pr9
          have KN := aside ((Keeps.refl _ V6).drew.trans kk9)
          clear pr9 kk9
          refine wpAnyH_take (i := 6) (v := ?_) rfl (by kernel_rfl) (by kernel_rfl) (by kernel_rfl) (fun _ _ _ h => h) (Or.inl ⟨by rfl, ?_⟩) (by assumption) ?_
          rotate_left
          · intro w hSw
            go_simp
            try with_reducible rfl
          simp only [Act.put, List.getElem_toArray, List.getElem_cons_zero, List.getElem_cons_succ, List.setIfInBounds_toArray, List.set_cons_zero, List.set_cons_succ]
          refine wpAnyH_take (i := 7) (v := ?_) rfl (by kernel_rfl) (by kernel_rfl) (by kernel_rfl) (fun _ _ _ h => h) (Or.inl ⟨by rfl, ?_⟩) (by assumption) ?_
          rotate_left
          · intro w hSw
            go_simp
            try with_reducible rfl
          simp only [Act.put, List.getElem_toArray, List.getElem_cons_zero, List.getElem_cons_succ, List.setIfInBounds_toArray, List.set_cons_zero, List.set_cons_succ]
          refine wpAnyH_take (i := 8) (v := ?_) rfl (by kernel_rfl) (by kernel_rfl) (by kernel_rfl) (fun _ _ _ h => h) (Or.inl ⟨by rfl, ?_⟩) (by assumption) ?_
          rotate_left
          · intro w hSw
            go_simp
            try with_reducible rfl
          simp only [Act.put, List.getElem_toArray, List.getElem_cons_zero, List.getElem_cons_succ, List.setIfInBounds_toArray, List.set_cons_zero, List.set_cons_succ]
          refine wpAnyH_ready (rs := [9]) (by kernel_rfl) (by simp) ?_
          refine AllReadyH.cons rfl (fun K hK => ?_) AllReadyH.nil
          go_simp
          refine (same_anyT PN.out).mono ?_
          rintro e w10 ⟨rfl, bb⟩
          refine hK.out _ _ (⟨SX.out _ (KN.out.trans (Keeps.of_below bb _)), aside (KN.out.trans (Keeps.of_below bb _))⟩) (fun hHeld => ?_)
          clear hK K 
          have BN := aside bb
          clear bb
          refine wpAnyH_take (i := 10) (v := ?_) rfl (by kernel_rfl) (by kernel_rfl) (by kernel_rfl) (fun _ _ _ h => h) (Or.inl ⟨by rfl, ?_⟩) (by assumption) ?_
          rotate_left
          · intro w hSw
            go_simp
            try with_reducible rfl
          simp only [Act.put, List.getElem_toArray, List.getElem_cons_zero, List.getElem_cons_succ, List.setIfInBounds_toArray, List.set_cons_zero, List.set_cons_succ]
          refine wpAnyH_take (i := 11) (v := ?_) rfl (by kernel_rfl) (by kernel_rfl) (by kernel_rfl) (fun _ _ _ h => h) (Or.inl ⟨by rfl, ?_⟩) (by assumption) ?_
          rotate_left
          · intro w hSw
            go_simp
            try with_reducible rfl
          simp only [Act.put, List.getElem_toArray, List.getElem_cons_zero, List.getElem_cons_succ, List.setIfInBounds_toArray, List.set_cons_zero, List.set_cons_succ]
          refine wpAnyH_done (by kernel_rfl) ?_ _
          have HT9 := aside ((H6.out.stepB PN.out KN.out).below BN.out)
          clear hHeld SX
          go_wp2
          go_roundw
          case rel => exact ⟨k + 1, by go_num, by omega, by rw [RS.out, RT.out]; exact HT9.out⟩
          case measure => simp [intOf] <;> omega
      · obtain ⟨LA, hLA⟩ : ∃ L, runS R false k = L := ⟨_, rfl⟩
        obtain ⟨LB, hLB⟩ : ∃ L, runS R true k = L := ⟨_, rfl⟩
        have HLA := aside (show LA.length ≤ 32768 from by rw [← hLA]; have := runS_len R false k; have := HL.out; omega)
        have HLB := aside (show LB.length ≤ 32768 from by rw [← hLB]; have := runS_len R true k; have := HL.out; omega)
        rw [hLA, hLB] at HT
        clear hLA hLB
        have DA := aside (dueL_all HT.out.a.pr.t.2.2.1)
        have DB := aside (dueL_all HT.out.b.pr.t.2.2.1)
        obtain ⟨va, hva, hrowa⟩ := HT.out.a.pr.d
        obtain ⟨la, ca, rfl, haina⟩ := al_in hrowa
        obtain ⟨vb, hvb, hrowb⟩ := HT.out.b.pr.d
        obtain ⟨lb, cb, rfl, hainb⟩ := al_in hrowb
        have WA := aside haina
        have WB := aside hainb
        have SX := aside (fun W (bb9 : Below wr.heap.size wr W) => (show ((W.cell? ⟨qa, 0, none⟩ = some (.pointer (some ⟨pa, 0, none⟩)) ∧ W.cell? ⟨qa, 1, none⟩ = some (.pointer (some ⟨da, 0, none⟩))) ∧ (W.cell? ⟨qb, 0, none⟩ = some (.pointer (some ⟨pb, 0, none⟩)) ∧ W.cell? ⟨qb, 1, none⟩ = some (.pointer (some ⟨db, 0, none⟩)))) ∧ W.cell? ⟨da, 0, none⟩ = some (.slice la LA.length ca) ∧ W.cell? ⟨db, 0, none⟩ = some (.slice lb LB.length cb) from ⟨(HT.out.below bb9).cells, cell_one (blk_on hva bb9), cell_one (blk_on hvb bb9)⟩))
        clear hva hrowa haina hvb hrowb hainb
        go_wp2_with fail
        refine wp_region_held_drew (S := fun W => (((W.cell? ⟨qa, 0, none⟩ = some (.pointer (some ⟨pa, 0, none⟩)) ∧ W.cell? ⟨qa, 1, none⟩ = some (.pointer (some ⟨da, 0, none⟩))) ∧ (W.cell? ⟨qb, 0, none⟩ = some (.pointer (some ⟨pb, 0, none⟩)) ∧ W.cell? ⟨qb, 1, none⟩ = some (.pointer (some ⟨db, 0, none⟩)))) ∧ W.cell? ⟨da, 0, none⟩ = some (.slice la LA.length ca) ∧ W.cell? ⟨db, 0, none⟩ = some (.slice lb LB.length cb)) ∧ Hid (Below wr.heap.size wr W)) (by kernel_rfl) ⟨SX.out _ (Below.refl _ wr).drew, aside (Below.refl _ wr).drew⟩ (fun hHeld => ?_)
        refine wpAnyH_take (i := 0) (v := ?_) rfl (by kernel_rfl) (by kernel_rfl) (by kernel_rfl) (fun _ _ _ h => h) (Or.inl ⟨by rfl, ?_⟩) (by assumption) ?_
        rotate_left
        · intro w hSw
          go_simp
          try with_reducible rfl
        simp only [Act.put, List.getElem_toArray, List.getElem_cons_zero, List.setIfInBounds_toArray, List.set_cons_zero, List.set_cons_succ]
        refine wpAnyH_take (i := 1) (v := ?_) rfl (by kernel_rfl) (by kernel_rfl) (by kernel_rfl) (fun _ _ _ h => h) (Or.inl ⟨by rfl, ?_⟩) (by assumption) ?_
        rotate_left
        · intro w hSw
          go_simp
          try with_reducible rfl
        simp only [Act.put, List.getElem_toArray, List.getElem_cons_zero, List.getElem_cons_succ, List.setIfInBounds_toArray, List.set_cons_zero, List.set_cons_succ]
        refine wpAnyH_take (i := 3) (v := ?_) rfl (by kernel_rfl) (by kernel_rfl) (by kernel_rfl) (fun _ _ _ h => h) (Or.inl ⟨by rfl, ?_⟩) (by assumption) ?_
        rotate_left
        · intro w hSw
          go_simp
          try with_reducible rfl
        simp only [Act.put, List.getElem_toArray, List.getElem_cons_zero, List.getElem_cons_succ, List.setIfInBounds_toArray, List.set_cons_zero, List.set_cons_succ]
        refine wpAnyH_take (i := 4) (v := ?_) rfl (by kernel_rfl) (by kernel_rfl) (by kernel_rfl) (fun _ _ _ h => h) (Or.inl ⟨by rfl, ?_⟩) (by assumption) ?_
        rotate_left
        · intro w hSw
          go_simp
          try with_reducible rfl
        simp only [Act.put, List.getElem_toArray, List.getElem_cons_zero, List.getElem_cons_succ, List.setIfInBounds_toArray, List.set_cons_zero, List.set_cons_succ]
        refine wpAnyH_take (i := 5) (v := ?_) rfl (by kernel_rfl) (by kernel_rfl) (by kernel_rfl) (fun _ _ _ h => h) (Or.inl ⟨by rfl, ?_⟩) (by assumption) ?_
        rotate_left
        · intro w hSw
          go_simp
          try with_reducible rfl
        simp only [Act.put, List.getElem_toArray, List.getElem_cons_zero, List.getElem_cons_succ, List.setIfInBounds_toArray, List.set_cons_zero, List.set_cons_succ]
        refine wpAnyH_take (i := 6) (v := ?_) rfl (by kernel_rfl) (by kernel_rfl) (by kernel_rfl) (fun _ _ _ h => h) (Or.inl ⟨by rfl, ?_⟩) (by assumption) ?_
        rotate_left
        · intro w hSw
          go_simp
          try with_reducible rfl
        simp only [Act.put, List.getElem_toArray, List.getElem_cons_zero, List.getElem_cons_succ, List.setIfInBounds_toArray, List.set_cons_zero, List.set_cons_succ]
        refine wpAnyH_take (i := 7) (v := ?_) rfl (by kernel_rfl) (by kernel_rfl) (by kernel_rfl) (fun _ _ _ h => h) (Or.inl ⟨by rfl, ?_⟩) (by assumption) ?_
        rotate_left
        · intro w hSw
          go_simp
          try with_reducible rfl
        simp only [Act.put, List.getElem_toArray, List.getElem_cons_zero, List.getElem_cons_succ, List.setIfInBounds_toArray, List.set_cons_zero, List.set_cons_succ]
        refine wpAnyH_ready (rs := [2]) (by kernel_rfl) (by simp) ?_
        refine AllReadyH.cons rfl (fun K hK => ?_) AllReadyH.nil
        go_simp
        refine (due_any 1099511627776 (w := wr.drew) HT.out.a.pr.t (by have := HLA.out; omega)).mono ?_
        rintro e w9 ⟨dd, da9, dc, rfl, hbx, hal, b6⟩
        refine hK.out _ _ (⟨SX.out _ (bthen (Below.refl _ wr).drew b6), aside (bthen (Below.refl _ wr).drew b6)⟩) (fun hHeld => ?_)
        clear hK K 
        rw [DA.out] at hbx hal
        have D6 := aside (show DD dd da9 LA.length dc LA w9 from ⟨hbx, hal⟩)
        have B6 := aside (bthen (Below.refl _ wr).drew b6)
        clear hbx hal b6
        refine wpAnyH_ready (rs := [8]) (by kernel_rfl) (by simp) ?_
        refine AllReadyH.cons rfl (fun K hK => ?_) AllReadyH.nil
        go_simp
        refine (goes_any 0 D6.out (WA.out.on B6.out) (by have := HLA.out; omega)).mono ?_
        rintro e w10 ⟨rfl, b9⟩
        refine hK.out _ _ (⟨SX.out _ (bthen B6.out b9), aside (bthen B6.out b9)⟩) (fun hHeld => ?_)
        clear hK K 
        have B9 := aside (bthen B6.out b9)
        clear b9 D6
        refine wpAnyH_take (i := 9) (v := ?_) rfl (by kernel_rfl) (by kernel_rfl) (by kernel_rfl) (fun _ _ _ h => h) (Or.inl ⟨by rfl, ?_⟩) (by assumption) ?_
        rotate_left
        · intro w hSw
          go_simp
          try with_reducible rfl
        simp only [Act.put, List.getElem_toArray, List.getElem_cons_zero, List.getElem_cons_succ, List.setIfInBounds_toArray, List.set_cons_zero, List.set_cons_succ]
        refine wpAnyH_take (i := 10) (v := ?_) rfl (by kernel_rfl) (by kernel_rfl) (by kernel_rfl) (fun _ _ _ h => h) (Or.inl ⟨by rfl, ?_⟩) (by assumption) ?_
        rotate_left
        · intro w hSw
          go_simp
          try with_reducible rfl
        simp only [Act.put, List.getElem_toArray, List.getElem_cons_zero, List.getElem_cons_succ, List.setIfInBounds_toArray, List.set_cons_zero, List.set_cons_succ]
        refine wpAnyH_take (i := 11) (v := ?_) rfl (by kernel_rfl) (by kernel_rfl) (by kernel_rfl) (fun _ _ _ h => h) (Or.inl ⟨by rfl, ?_⟩) (by assumption) ?_
        rotate_left
        · intro w hSw
          go_simp
          try with_reducible rfl
        simp only [Act.put, List.getElem_toArray, List.getElem_cons_zero, List.getElem_cons_succ, List.setIfInBounds_toArray, List.set_cons_zero, List.set_cons_succ]
        refine wpAnyH_take (i := 13) (v := ?_) rfl (by kernel_rfl) (by kernel_rfl) (by kernel_rfl) (fun _ _ _ h => h) (Or.inl ⟨by rfl, ?_⟩) (by assumption) ?_
        rotate_left
        · intro w hSw
          go_simp
          try with_reducible rfl
        simp only [Act.put, List.getElem_toArray, List.getElem_cons_zero, List.getElem_cons_succ, List.setIfInBounds_toArray, List.set_cons_zero, List.set_cons_succ]
        refine wpAnyH_take (i := 14) (v := ?_) rfl (by kernel_rfl) (by kernel_rfl) (by kernel_rfl) (fun _ _ _ h => h) (Or.inl ⟨by rfl, ?_⟩) (by assumption) ?_
        rotate_left
        · intro w hSw
          go_simp
          try with_reducible rfl
        simp only [Act.put, List.getElem_toArray, List.getElem_cons_zero, List.getElem_cons_succ, List.setIfInBounds_toArray, List.set_cons_zero, List.set_cons_succ]
        refine wpAnyH_take (i := 15) (v := ?_) rfl (by kernel_rfl) (by kernel_rfl) (by kernel_rfl) (fun _ _ _ h => h) (Or.inl ⟨by rfl, ?_⟩) (by assumption) ?_
        rotate_left
        · intro w hSw
          go_simp
          try with_reducible rfl
        simp only [Act.put, List.getElem_toArray, List.getElem_cons_zero, List.getElem_cons_succ, List.setIfInBounds_toArray, List.set_cons_zero, List.set_cons_succ]
        refine wpAnyH_take (i := 16) (v := ?_) rfl (by kernel_rfl) (by kernel_rfl) (by kernel_rfl) (fun _ _ _ h => h) (Or.inl ⟨by rfl, ?_⟩) (by assumption) ?_
        rotate_left
        · intro w hSw
          go_simp
          try with_reducible rfl
        simp only [Act.put, List.getElem_toArray, List.getElem_cons_zero, List.getElem_cons_succ, List.setIfInBounds_toArray, List.set_cons_zero, List.set_cons_succ]
        refine wpAnyH_take (i := 17) (v := ?_) rfl (by kernel_rfl) (by kernel_rfl) (by kernel_rfl) (fun _ _ _ h => h) (Or.inl ⟨by rfl, ?_⟩) (by assumption) ?_
        rotate_left
        · intro w hSw
          go_simp
          try with_reducible rfl
        simp only [Act.put, List.getElem_toArray, List.getElem_cons_zero, List.getElem_cons_succ, List.setIfInBounds_toArray, List.set_cons_zero, List.set_cons_succ]
        refine wpAnyH_ready (rs := [12]) (by kernel_rfl) (by simp) ?_
        refine AllReadyH.cons rfl (fun K hK => ?_) AllReadyH.nil
        go_simp
        refine (due_any 1099511627776 (HT.out.b.pr.t.below B9.out) (by have := HLB.out; omega)).mono ?_
        rintro e w11 ⟨dd2, da2, dc2, rfl, hbx, hal, b6⟩
        refine hK.out _ _ (⟨SX.out _ (bthen B9.out b6), aside (bthen B9.out b6)⟩) (fun hHeld => ?_)
        clear hK K 
        rw [DB.out] at hbx hal
        have D7 := aside (show DD dd2 da2 LB.length dc2 LB w11 from ⟨hbx, hal⟩)
        have B11 := aside (bthen B9.out b6)
        clear hbx hal b6
        refine wpAnyH_ready (rs := [18]) (by kernel_rfl) (by simp) ?_
        refine AllReadyH.cons rfl (fun K hK => ?_) AllReadyH.nil
        go_simp
        refine (goes_any 0 D7.out (WB.out.on B11.out) (by have := HLB.out; omega)).mono ?_
        rintro e w12 ⟨rfl, b9⟩
        refine hK.out _ _ (⟨SX.out _ (bthen B11.out b9), aside (bthen B11.out b9)⟩) (fun hHeld => ?_)
        clear hK K 
        have B12 := aside (bthen B11.out b9)
        clear b9 D7
        refine wpAnyH_take (i := 19) (v := ?_) rfl (by kernel_rfl) (by kernel_rfl) (by kernel_rfl) (fun _ _ _ h => h) (Or.inl ⟨by rfl, ?_⟩) (by assumption) ?_
        rotate_left
        · intro w hSw
          go_simp
          try with_reducible rfl
        simp only [Act.put, List.getElem_toArray, List.getElem_cons_zero, List.getElem_cons_succ, List.setIfInBounds_toArray, List.set_cons_zero, List.set_cons_succ]
        refine wpAnyH_take (i := 20) (v := ?_) rfl (by kernel_rfl) (by kernel_rfl) (by kernel_rfl) (fun _ _ _ h => h) (Or.inl ⟨by rfl, ?_⟩) (by assumption) ?_
        rotate_left
        · intro w hSw
          go_simp
          try with_reducible rfl
        simp only [Act.put, List.getElem_toArray, List.getElem_cons_zero, List.getElem_cons_succ, List.setIfInBounds_toArray, List.set_cons_zero, List.set_cons_succ]
        refine wpAnyH_done (by kernel_rfl) ?_ _
        clear hHeld SX
        go_wp2
        go_ret
        exact ⟨rfl, bthen HB.out B12.out⟩

end Go.Proofs.Ytoajgacofmodoaa
