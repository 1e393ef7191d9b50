/-
  The law TimerLast, walked.
-/
import Derived.Test.YtoajgacofmodoaaTmL
import Derived.Test.YtoajgacofmodoaaTmC
import Derived.Test.YtoajgacofmodoaaTmON
namespace Go.Proofs.Ytoajgacofmodoaa
open Go.RowKit
set_option linter.unusedVariables false

def nrN (R : Nat → Nr) (i : Nat) : Nam := ((R i).o, (R i).l, (R i).n)
theorem name_neq_same (a l n : Int) (w : World) : (binOp .neq 29 (.agg #[.int .i64 a, .int .i64 l, .int .i64 n]) (.agg #[.int .i64 a, .int .i64 l, .int .i64 n])).run Try.prog w = .ok (.bool false) w := by
  rw [run_neq_struct, show (10000 : Nat) = 9999 + 1 from rfl]
  go_simp
theorem bS_at {N : Nat → Nam} {T : Nat → Int} {len tl q : Nat} (hq : q < len) : bS N T len tl (len - q) = bStep N T tl q (bS N T len tl (len - (q + 1))) := by
  rw [show len - q = (len - (q + 1)) + 1 from by omega]
  show bStep N T tl (len - 1 - (len - (q + 1))) _ = _
  rw [show len - 1 - (len - (q + 1)) = q from by omega]
theorem bStep_no {N : Nat → Nam} {T : Nat → Int} {tl q : Nat} {L : List Alm} (h : ¬ (q < tl ∧ tOk (T q) ∧ lookA (N q) L = none)) : bStep N T tl q L = L := by unfold bStep; rw [if_neg h]
theorem bStep_yes {N : Nat → Nam} {T : Nat → Int} {tl q : Nat} {L : List Alm} (h1 : q < tl) (h2 : tOk (T q)) (h3 : lookA (N q) L = none) : bStep N T tl q L = putA (N q) (T q) L := by unfold bStep; rw [if_pos ⟨h1, h2, h3⟩]
/-- Two timers in a law. -/
structure Two (w : World) (pa ba pb bb : Nat) (LA LB : List Alm) (wr : World) : Prop where
  a : Tim wr pa ba LA
  b : Tim wr pb bb LB
  bel : Below w.heap.size w wr
  la : w.heap.size ≤ pa ∧ w.heap.size ≤ ba ∧ w.heap.size ≤ pb ∧ w.heap.size ≤ bb
  ne : ba ≠ bb
theorem Two.below {w : World} {pa ba pb bb : Nat} {LA LB : List Alm} {wr w' : World} (h : Two w pa ba pb bb LA LB wr) (k : Below wr.heap.size wr w') : Two w pa ba pb bb LA LB w' :=
  ⟨h.a.below k, h.b.below k, bthen h.bel k, h.la, h.ne⟩
theorem Two.setA {w : World} {pa ba pb bb : Nat} {LA LB LA' : List Alm} {wr w' : World} (h : Two w pa ba pb bb LA LB wr) (t : Tim w' pa ba LA') (k : Keeps (fun z => z = ba) wr w') : Two w pa ba pb bb LA' LB w' :=
  ⟨t, h.b.keep k (fun e => h.b.ne2 h.a e) (fun e => h.ne e.symm), h.bel.trans (k.below (B := w.heap.size) h.bel.size (fun j hj => by have := h.la; omega)), h.la, h.ne⟩
theorem Two.setB {w : World} {pa ba pb bb : Nat} {LA LB LB' : List Alm} {wr w' : World} (h : Two w pa ba pb bb LA LB wr) (t : Tim w' pb bb LB') (k : Keeps (fun z => z = bb) wr w') : Two w pa ba pb bb LA LB' w' :=
  ⟨h.a.keep k (fun e => h.a.ne2 h.b e) (fun e => h.ne e), t, h.bel.trans (k.below (B := w.heap.size) h.bel.size (fun j hj => by have := h.la; omega)), h.la, h.ne⟩

set_option maxHeartbeats 16000000 in
set_option maxRecDepth 100000 in
theorem tlast_walk (a0 : Option Addr) (len cap : Nat) (R : Nat → Nr) (a1 : Option Addr) (tl cap1 : Nat) (T : Nat → Int) (w : World) (g0 : Nrs w a0 len cap R) (ok0 : ∀ i, i < len → NrOk (R i)) (g1 : IntsIn w a1 tl cap1 T) :
    Calls Try.prog 3 #[.slice a0 len cap, .slice a1 tl cap1] w fun e w' => e = .returned (.bool true) ∧ Below w.heap.size w w' := by
  have G0 := aside g0
  have G1 := aside g1
  have OK0 := aside ok0
  have hmx : (len : Int) ≤ 9223372036854775807 := by have h1 := g0.1; have h2 := g0.2.1; unfold maxLen at h2; omega
  have hmy : (tl : Int) ≤ 9223372036854775807 := by have h1 := g1.1; have h2 := g1.2.1; unfold maxLen at h2; omega
  clear g0 g1 ok0
  by_cases hlong : (4096 : Int) < (len : Int)
  · go_enter Try.func3, Try.ntmps3
    go_wp2
    go_ret
    exact ⟨rfl, Below.refl _ _⟩
  · have HL := aside (show len ≤ 4096 from by omega)
    go_enter Try.func3, Try.ntmps3
    go_wp2_with fail
    refine (tnew_any _).mono ?_
    rintro e w1 ⟨pa, ba, rfl, hpa, hba, ta, b1⟩
    go_wp2_with fail
    refine (tnew_any _).mono ?_
    rintro e w2 ⟨pb, bb, rfl, hpb, hbb, tb, b2⟩
    have TW := aside (show Two w pa ba pb bb [] [] w2 from ⟨ta.below b2, tb, bthen b1 b2, ⟨hpa, hba, by have := b1.size; omega, by have := b1.size; omega⟩, fun e => by
      obtain ⟨-, -, -, D, hm, -⟩ := ta
      have := hm.lt
      omega⟩)
    clear ta tb b1 b2 hpa hba hpb hbb
    go_wp2
    go_loopw [8] (fun i wr => ∃ k : Nat, i = .int .i64 (k : Int) ∧ k ≤ len ∧ k ≤ tl ∧ Hid (Two w pa ba pb bb (aS (nrN R) T k) [] wr)) (fun i _ => len - (intOf i).toNat)
    case atStart => exact ⟨0, rfl, Nat.zero_le _, Nat.zero_le _, TW.out⟩
    case round =>
      clear TW
      obtain ⟨k, rfl, hk1, hk2, HT⟩ := hrel
      have HB := aside HT.out.bel
      by_cases hlk : (k : Int) < (len : Int)
      · by_cases hlt : (k : Int) < (tl : Int)
        · have hk0 : (0 : Int) ≤ (k : Int) := by omega
          rcases (G0.out.keep HB.out).2.2.2 with h0 | ⟨x, off, rfl, hx, hc⟩
          · omega
          rcases (G1.out.keep HB.out).2.2 with h0 | ⟨x2, off2, rfl, hx2, hc2⟩
          · omega
          obtain ⟨m0, m1, m2⟩ := hc k (by omega)
          have m3 := hc2 k (by omega)
          have HW := aside (OK0.out k (by omega))
          obtain ⟨o, ho⟩ : ∃ z, (R k).o = z := ⟨_, rfl⟩
          obtain ⟨l, hl⟩ : ∃ z, (R k).l = z := ⟨_, rfl⟩
          obtain ⟨k9, hk9⟩ : ∃ z, (R k).n = z := ⟨_, rfl⟩
          obtain ⟨t9, ht9⟩ : ∃ z, T k = z := ⟨_, rfl⟩
          rw [ho] at m0
          rw [hl] at m1
          rw [hk9] at m2
          rw [ht9] at m3
          have WF := aside (show wfN (o, l, k9) from by rw [← ho, ← hl, ← hk9]; exact HW.out)
          have NE := aside (show (nrN R) k = (o, l, k9) ∧ T k = t9 from ⟨by unfold nrN; rw [← ho, ← hl, ← hk9], ht9⟩)
          clear ho hl hk9 ht9 HW
          have HN : ¬ x = ba := fun e => by obtain ⟨es, clock, h4, -⟩ := HT.out.a.2.2.2.choose_spec.1; have := World.block_lt_of_cell? wr _ m0; have h9 := HT.out.la; rw [e] at m0; simp [World.cell?, h4] at m0
          have HN2 : ¬ x2 = ba := fun e => by obtain ⟨es, clock, h4, -⟩ := HT.out.a.2.2.2.choose_spec.1; rw [e] at m3; simp [World.cell?, h4] at m3
          have SX := aside (fun W (kk : Keeps (fun z => z = ba) wr W) => (show W.cell? ⟨x, off + k * 3, none⟩ = some (.int .i64 o) ∧ W.cell? ⟨x, off + k * 3 + 1, none⟩ = some (.int .i64 l) ∧ W.cell? ⟨x, off + k * 3 + 2, none⟩ = some (.int .i64 k9) ∧ W.cell? ⟨x2, off2 + k, none⟩ = some (.int .i64 t9) from ⟨by rw [← m0]; exact kk.cell hx HN, by rw [← m1]; exact kk.cell hx HN, by rw [← m2]; exact kk.cell hx HN, by rw [← m3]; exact kk.cell hx2 HN2⟩))
          clear m0 m1 m2 m3 hc hc2
          go_wp2_with fail
          refine wp_region_held_drew (S := fun W => (W.cell? ⟨x, off + k * 3, none⟩ = some (.int .i64 o) ∧ W.cell? ⟨x, off + k * 3 + 1, none⟩ = some (.int .i64 l) ∧ W.cell? ⟨x, off + k * 3 + 2, none⟩ = some (.int .i64 k9) ∧ W.cell? ⟨x2, off2 + k, none⟩ = some (.int .i64 t9)) ∧ Hid (Keeps (fun z => z = ba) wr W)) (by kernel_rfl) ⟨SX.out _ (Keeps.refl _ wr).drew, aside (Keeps.refl _ wr).drew⟩ (fun hHeld => ?_)
          refine wpAnyH_take (i := 0) (v := ?_) rfl (by kernel_rfl) (by kernel_rfl) (by kernel_rfl) (fun _ _ _ h => h) (Or.inl ⟨by rfl, ?_⟩) (by assumption) ?_
          rotate_left
          · intro w hSw
            go_simp
            try with_reducible rfl
          simp only [Act.put, List.getElem_toArray, List.getElem_cons_zero, List.setIfInBounds_toArray, List.set_cons_zero, List.set_cons_succ]
          refine wpAnyH_take (i := 1) (v := ?_) rfl (by kernel_rfl) (by kernel_rfl) (by kernel_rfl) (fun _ _ _ h => h) (Or.inl ⟨by rfl, ?_⟩) (by assumption) ?_
          rotate_left
          · intro w hSw
            go_simp
            try with_reducible rfl
          simp only [Act.put, List.getElem_toArray, List.getElem_cons_zero, List.getElem_cons_succ, List.setIfInBounds_toArray, List.set_cons_zero, List.set_cons_succ]
          refine wpAnyH_take (i := 2) (v := ?_) rfl (by kernel_rfl) (by kernel_rfl) (by kernel_rfl) (fun _ _ _ h => h) (Or.inl ⟨by rfl, ?_⟩) (by assumption) ?_
          rotate_left
          · intro w hSw
            go_simp
            try with_reducible rfl
          simp only [Act.put, List.getElem_toArray, List.getElem_cons_zero, List.getElem_cons_succ, List.setIfInBounds_toArray, List.set_cons_zero, List.set_cons_succ]
          refine wpAnyH_take (i := 3) (v := ?_) rfl (by kernel_rfl) (by kernel_rfl) (by kernel_rfl) (fun _ _ _ h => h) (Or.inl ⟨by rfl, ?_⟩) (by assumption) ?_
          rotate_left
          · intro w hSw
            go_simp
            try with_reducible rfl
          simp only [Act.put, List.getElem_toArray, List.getElem_cons_zero, List.getElem_cons_succ, List.setIfInBounds_toArray, List.set_cons_zero, List.set_cons_succ]
          refine wpAnyH_take (i := 4) (v := ?_) rfl (by kernel_rfl) (by kernel_rfl) (by kernel_rfl) (fun _ _ _ h => h) (Or.inl ⟨by rfl, ?_⟩) (by assumption) ?_
          rotate_left
          · intro w hSw
            go_simp
            try with_reducible rfl
          simp only [Act.put, List.getElem_toArray, List.getElem_cons_zero, List.getElem_cons_succ, List.setIfInBounds_toArray, List.set_cons_zero, List.set_cons_succ]
          refine wpAnyH_take (i := 5) (v := ?_) rfl (by kernel_rfl) (by kernel_rfl) (by kernel_rfl) (fun _ _ _ h => h) (Or.inl ⟨by rfl, ?_⟩) (by assumption) ?_
          rotate_left
          · intro w hSw
            go_simp
            try with_reducible rfl
          simp only [Act.put, List.getElem_toArray, List.getElem_cons_zero, List.getElem_cons_succ, List.setIfInBounds_toArray, List.set_cons_zero, List.set_cons_succ]
          refine wpAnyH_take (i := 6) (v := ?_) rfl (by kernel_rfl) (by kernel_rfl) (by kernel_rfl) (fun _ _ _ h => h) (Or.inl ⟨by rfl, ?_⟩) (by assumption) ?_
          rotate_left
          · intro w hSw
            go_simp
            try with_reducible rfl
          simp only [Act.put, List.getElem_toArray, List.getElem_cons_zero, List.getElem_cons_succ, List.setIfInBounds_toArray, List.set_cons_zero, List.set_cons_succ]
          refine wpAnyH_take (i := 7) (v := ?_) rfl (by kernel_rfl) (by kernel_rfl) (by kernel_rfl) (fun _ _ _ h => h) (Or.inl ⟨by rfl, ?_⟩) (by assumption) ?_
          rotate_left
          · intro w hSw
            go_simp
            try with_reducible rfl
          simp only [Act.put, List.getElem_toArray, List.getElem_cons_zero, List.getElem_cons_succ, List.setIfInBounds_toArray, List.set_cons_zero, List.set_cons_succ]
          refine wpAnyH_take (i := 8) (v := ?_) rfl (by kernel_rfl) (by kernel_rfl) (by kernel_rfl) (fun _ _ _ h => h) (Or.inl ⟨by rfl, ?_⟩) (by assumption) ?_
          rotate_left
          · intro w hSw
            go_simp
            try with_reducible rfl
          simp only [Act.put, List.getElem_toArray, List.getElem_cons_zero, List.getElem_cons_succ, List.setIfInBounds_toArray, List.set_cons_zero, List.set_cons_succ]
          refine wpAnyH_ready (rs := [9]) (by kernel_rfl) (by simp) ?_
          refine AllReadyH.cons rfl (fun K hK => ?_) AllReadyH.nil
          go_simp
          refine (tset_any o l k9 t9 (w := wr.drew) (p := pa) (b := ba) (L := aS (nrN R) T k) HT.out.a WF.out (by have := aS_len (nrN R) T k; have := HL.out; omega)).mono ?_
          rintro e w9 ⟨rfl, tm9, kk9⟩
          refine hK.out _ _ (⟨SX.out _ ((Keeps.refl _ wr).drew.trans kk9), aside ((Keeps.refl _ wr).drew.trans kk9)⟩) (fun hHeld => ?_)
          clear hK K 
          refine wpAnyH_done (by kernel_rfl) ?_ _
          have HT9 := aside (HT.out.setA tm9 ((Keeps.refl _ wr).drew.trans kk9))
          clear hHeld SX tm9 kk9
          go_wp2
          go_roundw
          case rel => exact ⟨k + 1, by go_num, by omega, by omega, by
            have e9 : aS (nrN R) T (k + 1) = setA (o, l, k9) t9 (aS (nrN R) T k) := by
              show setA ((nrN R) k) (T k) (aS (nrN R) T k) = _
              rw [NE.out.1, NE.out.2]
            rw [e9]
            exact HT9.out⟩
          case measure => simp [intOf] <;> omega
        · have HTM := aside (show Two w pa ba pb bb (bS (nrN R) T len tl len) [] wr from by rw [← aS_bS, show min len tl = k from by omega]; exact HT.out)
          clear HT HB hk1 hk2
          go_wp2
          go_loopw [7, 9] (fun n i wr => ∃ r : Nat, ((r = 0 ∧ i = .int .i64 (-1)) ∨ (∃ q : Nat, r = q + 1 ∧ i = .int .i64 (q : Int))) ∧ r ≤ len ∧ n = .int .i64 (((bS (nrN R) T len tl (len - r)).length : Nat) : Int) ∧ Hid (Two w pa ba pb bb (bS (nrN R) T len tl len) (bS (nrN R) T len tl (len - r)) wr)) (fun n i _ => (intOf i + 1).toNat)
          case atStart => exact ⟨len, (by rcases Nat.eq_zero_or_pos len with h | h; exact .inl ⟨h, congrArg _ (by omega)⟩; exact .inr ⟨len - 1, by omega, congrArg _ (by omega)⟩), Nat.le_refl _, by rw [Nat.sub_self]; rfl, by rw [Nat.sub_self]; exact HTM.out⟩
          case round =>
            clear HTM
            obtain ⟨r, hri, hr, rfl, HT⟩ := hrel
            have HB := aside HT.out.bel
            rcases hri with ⟨rfl, rfl⟩ | ⟨q, rfl, rfl⟩
            · have HTM := aside (show Two w pa ba pb bb (bS (nrN R) T len tl len) (bS (nrN R) T len tl len) wr from HT.out)
              obtain ⟨L, hL⟩ : ∃ L, bS (nrN R) T len tl len = L := ⟨_, rfl⟩
              have HLL := aside (show L.length ≤ 4096 from by rw [← hL]; have := bS_len (nrN R) T len tl len; have := HL.out; omega)
              rw [show len - 0 = len from rfl, hL]
              rw [hL] at HTM
              clear hL HT HB hr
              have hL9 : (L.length : Int) ≤ 4096 := by have := HLL.out; omega
              go_wp2_with fail
              refine (tlen_any HTM.out.a).mono ?_
              rintro e w3 ⟨rfl, rfl⟩
              go_wp2_with fail
              refine (tlen_any HTM.out.b).mono ?_
              rintro e w3 ⟨rfl, rfl⟩
              go_wp2
              go_loopw [7] (fun n wr => ∃ L : List Alm, n = .int .i64 (L.length : Int) ∧ L.length ≤ 4096 ∧ Hid (Two w pa ba pb bb L L wr)) (fun n _ => (intOf n).toNat)
              case atStart => exact ⟨L, rfl, HLL.out, HTM.out⟩
              case round =>
                clear HTM HLL hL9
                obtain ⟨L, rfl, hL, HT⟩ := hrel
                cases L with
                | nil =>
                  rw [show (([] : List Alm).length : Int) = 0 from rfl]
                  go_wp2_with fail
                  refine (tlen_any HT.out.a).mono ?_
                  rintro e w3 ⟨rfl, rfl⟩
                  go_wp2
                  go_ret
                  exact ⟨rfl, HT.out.bel⟩
                | cons y r =>
                  obtain ⟨⟨o, l, k9⟩, t9⟩ := y
                  have hpos : (0 : Int) < ((((o, l, k9), t9) :: r).length : Int) := by simp <;> omega
                  have hrl : (r.length : Int) ≤ 4096 := by simp only [List.length_cons] at hL; omega
                  have W9 := aside (show wrap64 (r.length : Int) = (r.length : Int) from by unfold wrap64; omega)
                  have CA := tnext_any HT.out.a
                  have CB := aside (fun W (bb : Below wr.heap.size wr W) => tnext_any (HT.out.b.below bb))
                  simp only [nextV] at CA CB
                  have CA' := aside CA
                  have WF := aside (HT.out.a.2.2.1 ((o, l, k9), t9) (by simp)).1
                  have LK := aside (HT.out.a.2.1.look (n := (o, l, k9)) (t := t9) (by simp))
                  have DH := aside (drop_head HT.out.a.2.1)
                  have EQN := fun W => name_neq_same o l k9 W
                  clear CA
                  go_wp2_with fail
                  refine CA'.out.mono ?_
                  rintro e w3 ⟨rfl, b3⟩
                  have B3 := aside b3
                  obtain ⟨V3, hV3⟩ : ∃ V, w3.alloc (.cells #[.int .i64 o, .int .i64 l, .int .i64 k9] 29) = V := ⟨_, rfl⟩
                  obtain ⟨q3, hq3⟩ : ∃ q, w3.heap.size = q := ⟨_, rfl⟩
                  have BV3 := aside (show Below wr.heap.size wr V3 from by rw [← hV3]; exact bthen B3.out (bnew w3 _))
                  have KV3 := aside (show V3.heap[q3]? = some (.cells #[.int .i64 o, .int .i64 l, .int .i64 k9] 29 (0, 0)) from by rw [← hV3, ← hq3]; exact heap_alloc_new w3 _)
                  clear b3 B3 CA'
                  go_wp2_with fail
                  refine (CB.out _ BV3.out).mono ?_
                  rintro e w4 ⟨rfl, b4⟩
                  have B4 := aside b4
                  obtain ⟨V4, hV4⟩ : ∃ V, w4.alloc (.cells #[.int .i64 o, .int .i64 l, .int .i64 k9] 29) = V := ⟨_, rfl⟩
                  obtain ⟨q4, hq4⟩ : ∃ q, w4.heap.size = q := ⟨_, rfl⟩
                  have BV4 := aside (show Below V3.heap.size V3 V4 from by rw [← hV4]; exact bthen B4.out (bnew w4 _))
                  have KV4 := aside (show V4.heap[q4]? = some (.cells #[.int .i64 o, .int .i64 l, .int .i64 k9] 29 (0, 0)) from by rw [← hV4, ← hq4]; exact heap_alloc_new w4 _)
                  have KW4 := aside (blk_on KV3.out BV4.out)
                  have HT4 := aside (HT.out.below (bthen BV3.out BV4.out))
                  clear b4 B4 CB KV3
                  obtain ⟨s0, s1, s2⟩ := tri3 KV4.out
                  obtain ⟨t0, t1, t2⟩ := tri3 KW4.out
                  go_wp2_with fail
                  refine (tdrop_any o l k9 HT4.out.a WF.out).mono ?_
                  rintro e w5 ⟨rfl, ta5, k5⟩
                  rw [LK.out]
                  rw [DH.out] at ta5
                  have NQ := aside (show ¬ q4 = ba from fun e => by obtain ⟨es, clock, h4, -⟩ := HT4.out.a.2.2.2.choose_spec.1; have := KV4.out; rw [e, h4] at this; cases this)
                  have KV5 := aside (blk_keep KV4.out k5 NQ.out)
                  have HT5 := aside (HT4.out.setA ta5 k5)
                  clear ta5 k5 s0 s1 s2 t0 t1 t2 hV3 hV4 hq3 hq4
                  obtain ⟨s0, s1, s2⟩ := tri3 KV5.out
                  go_wp2_with fail
                  refine (tdrop_any o l k9 HT5.out.b WF.out).mono ?_
                  rintro e w6 ⟨rfl, ta6, k6⟩
                  rw [LK.out]
                  rw [DH.out] at ta6
                  have HT6 := aside (HT5.out.setB ta6 k6)
                  clear ta6 k6 s0 s1 s2
                  go_wp2
                  go_roundw
                  case rel => exact ⟨r, by first | exact congrArg _ W9.out | go_num, by simp only [List.length_cons] at hL; omega, HT6.out⟩
                  case measure => simp [intOf] <;> (first | omega | (rw [W9.out]; omega))
            · have hq0 : (0 : Int) ≤ (q : Int) := by omega
              have hql : (q : Int) < (len : Int) := by omega
              by_cases hqt : (tl : Int) ≤ (q : Int)
              · skip
                have SK := aside (show bS (nrN R) T len tl (len - q) = bS (nrN R) T len tl (len - (q + 1)) from by rw [bS_at (by omega)]; exact bStep_no (by omega))
                go_wp2
                go_roundw
                case rel => exact ⟨q, (by cases q with | zero => exact .inl ⟨rfl, by go_num⟩ | succ y => exact .inr ⟨y, rfl, by go_num⟩), by omega, by rw [SK.out], by rw [SK.out]; exact HT.out⟩
                case measure => simp [intOf] <;> omega
              · have hqt2 : (q : Int) < (tl : Int) := by omega
                rcases (G0.out.keep HB.out).2.2.2 with h0 | ⟨x, off, rfl, hx, hc⟩
                · omega
                rcases (G1.out.keep HB.out).2.2 with h0 | ⟨x2, off2, rfl, hx2, hc2⟩
                · omega
                obtain ⟨m0, m1, m2⟩ := hc q (by omega)
                have m3 := hc2 q (by omega)
                have HW := aside (OK0.out q (by omega))
                obtain ⟨o, ho⟩ : ∃ z, (R q).o = z := ⟨_, rfl⟩
                obtain ⟨l, hl⟩ : ∃ z, (R q).l = z := ⟨_, rfl⟩
                obtain ⟨k9, hk9⟩ : ∃ z, (R q).n = z := ⟨_, rfl⟩
                obtain ⟨t9, ht9⟩ : ∃ z, T q = z := ⟨_, rfl⟩
                rw [ho] at m0
                rw [hl] at m1
                rw [hk9] at m2
                rw [ht9] at m3
                have WF := aside (show wfN (o, l, k9) from by rw [← ho, ← hl, ← hk9]; exact HW.out)
                have NE := aside (show (nrN R) q = (o, l, k9) ∧ T q = t9 from ⟨by unfold nrN; rw [← ho, ← hl, ← hk9], ht9⟩)
                clear ho hl hk9 ht9 HW
                by_cases h1 : t9 < 0
                · skip
                  have SK := aside (show bS (nrN R) T len tl (len - q) = bS (nrN R) T len tl (len - (q + 1)) from by rw [bS_at (by omega)]; exact bStep_no (by rw [NE.out.2]; unfold tOk; omega))
                  go_wp2
                  go_roundw
                  case rel => exact ⟨q, (by cases q with | zero => exact .inl ⟨rfl, by go_num⟩ | succ y => exact .inr ⟨y, rfl, by go_num⟩), by omega, by rw [SK.out], by rw [SK.out]; exact HT.out⟩
                  case measure => simp [intOf] <;> omega
                · by_cases h2 : 1099511627776 < t9
                  · skip
                    have SK := aside (show bS (nrN R) T len tl (len - q) = bS (nrN R) T len tl (len - (q + 1)) from by rw [bS_at (by omega)]; exact bStep_no (by rw [NE.out.2]; unfold tOk; omega))
                    go_wp2
                    go_roundw
                    case rel => exact ⟨q, (by cases q with | zero => exact .inl ⟨rfl, by go_num⟩ | succ y => exact .inr ⟨y, rfl, by go_num⟩), by omega, by rw [SK.out], by rw [SK.out]; exact HT.out⟩
                    case measure => simp [intOf] <;> omega
                  · have HTK := aside (show tOk t9 from ⟨by omega, by omega⟩)
                    have CA := tat_any o l k9 HT.out.b WF.out
                    cases hlk9 : lookA (o, l, k9) (bS (nrN R) T len tl (len - (q + 1))) with
                    | some s9 =>
                      rw [hlk9] at CA
                      simp only [Option.getD_some, Option.isSome_some] at CA
                      have HLK := aside hlk9
                      have CA' := aside CA
                      clear CA hlk9
                      go_wp2_with fail
                      refine CA'.out.mono ?_
                      rintro e w3 ⟨rfl, b3⟩
                      have HT3 := aside (HT.out.below b3)
                      clear b3 CA' m0 m1 m2 m3 hc hc2 hx hx2
                      have SK := aside (show bS (nrN R) T len tl (len - q) = bS (nrN R) T len tl (len - (q + 1)) from by rw [bS_at (by omega)]; exact bStep_no (by rw [NE.out.1, HLK.out]; simp))
                      go_wp2
                      go_roundw
                      case rel => exact ⟨q, (by cases q with | zero => exact .inl ⟨rfl, by go_num⟩ | succ y => exact .inr ⟨y, rfl, by go_num⟩), by omega, by rw [SK.out], by rw [SK.out]; exact HT3.out⟩
                      case measure => simp [intOf] <;> omega
                    | none =>
                      rw [hlk9] at CA
                      simp only [Option.getD_none, Option.isSome_none] at CA
                      have HLK := aside hlk9
                      have CA' := aside CA
                      have hlen9 : ((((bS (nrN R) T len tl (len - (q + 1))).length : Nat)) : Int) ≤ 4096 := by have := bS_len (nrN R) T len tl (len - (q + 1)); have := HL.out; omega
                      clear CA hlk9
                      go_wp2_with fail
                      refine CA'.out.mono ?_
                      rintro e w3 ⟨rfl, b3⟩
                      have HT3 := aside (HT.out.below b3)
                      have LT3 := aside (show x < w3.heap.size ∧ x2 < w3.heap.size from ⟨by have := b3.size; omega, by have := b3.size; omega⟩)
                      obtain ⟨hx3, hx4⟩ := LT3.out
                      have n0 := cell_in m0 b3
                      have n1 := cell_in m1 b3
                      have n2 := cell_in m2 b3
                      have n3 := cell_in m3 b3
                      clear b3 CA' m0 m1 m2 m3 hc hc2 hx hx2
                      have HN : ¬ x = bb := fun e => by obtain ⟨es, clock, h4, -⟩ := HT3.out.b.2.2.2.choose_spec.1; rw [e] at n0; simp [World.cell?, h4] at n0
                      have HN2 : ¬ x2 = bb := fun e => by obtain ⟨es, clock, h4, -⟩ := HT3.out.b.2.2.2.choose_spec.1; rw [e] at n3; simp [World.cell?, h4] at n3
                      have SX := aside (fun W (kk : Keeps (fun z => z = bb) w3 W) => (show W.cell? ⟨x, off + q * 3, none⟩ = some (.int .i64 o) ∧ W.cell? ⟨x, off + q * 3 + 1, none⟩ = some (.int .i64 l) ∧ W.cell? ⟨x, off + q * 3 + 2, none⟩ = some (.int .i64 k9) ∧ W.cell? ⟨x2, off2 + q, none⟩ = some (.int .i64 t9) from ⟨by rw [← n0]; exact kk.cell hx3 HN, by rw [← n1]; exact kk.cell hx3 HN, by rw [← n2]; exact kk.cell hx3 HN, by rw [← n3]; exact kk.cell hx4 HN2⟩))
                      clear n0 n1 n2 n3
                      go_wp2_with fail
                      refine wp_region_held_drew (S := fun W => (W.cell? ⟨x, off + q * 3, none⟩ = some (.int .i64 o) ∧ W.cell? ⟨x, off + q * 3 + 1, none⟩ = some (.int .i64 l) ∧ W.cell? ⟨x, off + q * 3 + 2, none⟩ = some (.int .i64 k9) ∧ W.cell? ⟨x2, off2 + q, none⟩ = some (.int .i64 t9)) ∧ Hid (Keeps (fun z => z = bb) w3 W)) (by kernel_rfl) ⟨SX.out _ (Keeps.refl _ w3).drew, aside (Keeps.refl _ w3).drew⟩ (fun hHeld => ?_)
                      refine wpAnyH_take (i := 0) (v := ?_) rfl (by kernel_rfl) (by kernel_rfl) (by kernel_rfl) (fun _ _ _ h => h) (Or.inl ⟨by rfl, ?_⟩) (by assumption) ?_
                      rotate_left
                      · intro w hSw
                        go_simp
                        try with_reducible rfl
                      simp only [Act.put, List.getElem_toArray, List.getElem_cons_zero, List.setIfInBounds_toArray, List.set_cons_zero, List.set_cons_succ]
                      refine wpAnyH_take (i := 1) (v := ?_) rfl (by kernel_rfl) (by kernel_rfl) (by kernel_rfl) (fun _ _ _ h => h) (Or.inl ⟨by rfl, ?_⟩) (by assumption) ?_
                      rotate_left
                      · intro w hSw
                        go_simp
                        try with_reducible rfl
                      simp only [Act.put, List.getElem_toArray, List.getElem_cons_zero, List.getElem_cons_succ, List.setIfInBounds_toArray, List.set_cons_zero, List.set_cons_succ]
                      refine wpAnyH_take (i := 2) (v := ?_) rfl (by kernel_rfl) (by kernel_rfl) (by kernel_rfl) (fun _ _ _ h => h) (Or.inl ⟨by rfl, ?_⟩) (by assumption) ?_
                      rotate_left
                      · intro w hSw
                        go_simp
                        try with_reducible rfl
                      simp only [Act.put, List.getElem_toArray, List.getElem_cons_zero, List.getElem_cons_succ, List.setIfInBounds_toArray, List.set_cons_zero, List.set_cons_succ]
                      refine wpAnyH_take (i := 3) (v := ?_) rfl (by kernel_rfl) (by kernel_rfl) (by kernel_rfl) (fun _ _ _ h => h) (Or.inl ⟨by rfl, ?_⟩) (by assumption) ?_
                      rotate_left
                      · intro w hSw
                        go_simp
                        try with_reducible rfl
                      simp only [Act.put, List.getElem_toArray, List.getElem_cons_zero, List.getElem_cons_succ, List.setIfInBounds_toArray, List.set_cons_zero, List.set_cons_succ]
                      refine wpAnyH_take (i := 4) (v := ?_) rfl (by kernel_rfl) (by kernel_rfl) (by kernel_rfl) (fun _ _ _ h => h) (Or.inl ⟨by rfl, ?_⟩) (by assumption) ?_
                      rotate_left
                      · intro w hSw
                        go_simp
                        try with_reducible rfl
                      simp only [Act.put, List.getElem_toArray, List.getElem_cons_zero, List.getElem_cons_succ, List.setIfInBounds_toArray, List.set_cons_zero, List.set_cons_succ]
                      refine wpAnyH_take (i := 5) (v := ?_) rfl (by kernel_rfl) (by kernel_rfl) (by kernel_rfl) (fun _ _ _ h => h) (Or.inl ⟨by rfl, ?_⟩) (by assumption) ?_
                      rotate_left
                      · intro w hSw
                        go_simp
                        try with_reducible rfl
                      simp only [Act.put, List.getElem_toArray, List.getElem_cons_zero, List.getElem_cons_succ, List.setIfInBounds_toArray, List.set_cons_zero, List.set_cons_succ]
                      refine wpAnyH_take (i := 6) (v := ?_) rfl (by kernel_rfl) (by kernel_rfl) (by kernel_rfl) (fun _ _ _ h => h) (Or.inl ⟨by rfl, ?_⟩) (by assumption) ?_
                      rotate_left
                      · intro w hSw
                        go_simp
                        try with_reducible rfl
                      simp only [Act.put, List.getElem_toArray, List.getElem_cons_zero, List.getElem_cons_succ, List.setIfInBounds_toArray, List.set_cons_zero, List.set_cons_succ]
                      refine wpAnyH_take (i := 7) (v := ?_) rfl (by kernel_rfl) (by kernel_rfl) (by kernel_rfl) (fun _ _ _ h => h) (Or.inl ⟨by rfl, ?_⟩) (by assumption) ?_
                      rotate_left
                      · intro w hSw
                        go_simp
                        try with_reducible rfl
                      simp only [Act.put, List.getElem_toArray, List.getElem_cons_zero, List.getElem_cons_succ, List.setIfInBounds_toArray, List.set_cons_zero, List.set_cons_succ]
                      refine wpAnyH_take (i := 8) (v := ?_) rfl (by kernel_rfl) (by kernel_rfl) (by kernel_rfl) (fun _ _ _ h => h) (Or.inl ⟨by rfl, ?_⟩) (by assumption) ?_
                      rotate_left
                      · intro w hSw
                        go_simp
                        try with_reducible rfl
                      simp only [Act.put, List.getElem_toArray, List.getElem_cons_zero, List.getElem_cons_succ, List.setIfInBounds_toArray, List.set_cons_zero, List.set_cons_succ]
                      refine wpAnyH_ready (rs := [9]) (by kernel_rfl) (by simp) ?_
                      refine AllReadyH.cons rfl (fun K hK => ?_) AllReadyH.nil
                      go_simp
                      refine (tset_ok o l k9 t9 (w := w3.drew) (p := pb) (b := bb) (L := bS (nrN R) T len tl (len - (q + 1))) HT3.out.b WF.out HTK.out (by have := bS_len (nrN R) T len tl (len - (q + 1)); have := HL.out; omega)).mono ?_
                      rintro e w9 ⟨rfl, tm9, kk9⟩
                      refine hK.out _ _ (⟨SX.out _ ((Keeps.refl _ w3).drew.trans kk9), aside ((Keeps.refl _ w3).drew.trans kk9)⟩) (fun hHeld => ?_)
                      clear hK K 
                      refine wpAnyH_take (i := 10) (v := ?_) rfl (by kernel_rfl) (by kernel_rfl) (by kernel_rfl) (fun _ _ _ h => h) (Or.inl ⟨by rfl, ?_⟩) (by assumption) ?_
                      rotate_left
                      · intro w hSw
                        go_simp
                        try with_reducible rfl
                      simp only [Act.put, List.getElem_toArray, List.getElem_cons_zero, List.getElem_cons_succ, List.setIfInBounds_toArray, List.set_cons_zero, List.set_cons_succ]
                      refine wpAnyH_done (by kernel_rfl) ?_ _
                      have HT9 := aside (HT3.out.setB tm9 ((Keeps.refl _ w3).drew.trans kk9))
                      have SK := aside (show bS (nrN R) T len tl (len - q) = putA (o, l, k9) t9 (bS (nrN R) T len tl (len - (q + 1))) from by rw [bS_at (by omega), bStep_yes (by omega) (by rw [NE.out.2]; exact HTK.out) (by rw [NE.out.1]; exact HLK.out), NE.out.1, NE.out.2])
                      have SKL := aside (show ((bS (nrN R) T len tl (len - q)).length : Nat) = (bS (nrN R) T len tl (len - (q + 1))).length + 1 from by rw [SK.out, putA_len, wo_none (lookA_none HLK.out)])
                      clear hHeld SX tm9 kk9
                      go_wp2
                      go_roundw
                      case rel => exact ⟨q, (by cases q with | zero => exact .inl ⟨rfl, by go_num⟩ | succ y => exact .inr ⟨y, rfl, by go_num⟩), by omega, by rw [SKL.out]; go_num, by rw [SK.out]; exact HT9.out⟩
                      case measure => simp [intOf] <;> omega
      · have HTM := aside (show Two w pa ba pb bb (bS (nrN R) T len tl len) [] wr from by rw [← aS_bS, show min len tl = k from by omega]; exact HT.out)
        clear HT HB hk1 hk2
        go_wp2
        go_loopw [7, 9] (fun n i wr => ∃ r : Nat, ((r = 0 ∧ i = .int .i64 (-1)) ∨ (∃ q : Nat, r = q + 1 ∧ i = .int .i64 (q : Int))) ∧ r ≤ len ∧ n = .int .i64 (((bS (nrN R) T len tl (len - r)).length : Nat) : Int) ∧ Hid (Two w pa ba pb bb (bS (nrN R) T len tl len) (bS (nrN R) T len tl (len - r)) wr)) (fun n i _ => (intOf i + 1).toNat)
        case atStart => exact ⟨len, (by rcases Nat.eq_zero_or_pos len with h | h; exact .inl ⟨h, congrArg _ (by omega)⟩; exact .inr ⟨len - 1, by omega, congrArg _ (by omega)⟩), Nat.le_refl _, by rw [Nat.sub_self]; rfl, by rw [Nat.sub_self]; exact HTM.out⟩
        case round =>
          clear HTM
          obtain ⟨r, hri, hr, rfl, HT⟩ := hrel
          have HB := aside HT.out.bel
          rcases hri with ⟨rfl, rfl⟩ | ⟨q, rfl, rfl⟩
          · have HTM := aside (show Two w pa ba pb bb (bS (nrN R) T len tl len) (bS (nrN R) T len tl len) wr from HT.out)
            obtain ⟨L, hL⟩ : ∃ L, bS (nrN R) T len tl len = L := ⟨_, rfl⟩
            have HLL := aside (show L.length ≤ 4096 from by rw [← hL]; have := bS_len (nrN R) T len tl len; have := HL.out; omega)
            rw [show len - 0 = len from rfl, hL]
            rw [hL] at HTM
            clear hL HT HB hr
            have hL9 : (L.length : Int) ≤ 4096 := by have := HLL.out; omega
            go_wp2_with fail
            refine (tlen_any HTM.out.a).mono ?_
            rintro e w3 ⟨rfl, rfl⟩
            go_wp2_with fail
            refine (tlen_any HTM.out.b).mono ?_
            rintro e w3 ⟨rfl, rfl⟩
            go_wp2
            go_loopw [7] (fun n wr => ∃ L : List Alm, n = .int .i64 (L.length : Int) ∧ L.length ≤ 4096 ∧ Hid (Two w pa ba pb bb L L wr)) (fun n _ => (intOf n).toNat)
            case atStart => exact ⟨L, rfl, HLL.out, HTM.out⟩
            case round =>
              clear HTM HLL hL9
              obtain ⟨L, rfl, hL, HT⟩ := hrel
              cases L with
              | nil =>
                rw [show (([] : List Alm).length : Int) = 0 from rfl]
                go_wp2_with fail
                refine (tlen_any HT.out.a).mono ?_
                rintro e w3 ⟨rfl, rfl⟩
                go_wp2
                go_ret
                exact ⟨rfl, HT.out.bel⟩
              | cons y r =>
                obtain ⟨⟨o, l, k9⟩, t9⟩ := y
                have hpos : (0 : Int) < ((((o, l, k9), t9) :: r).length : Int) := by simp <;> omega
                have hrl : (r.length : Int) ≤ 4096 := by simp only [List.length_cons] at hL; omega
                have W9 := aside (show wrap64 (r.length : Int) = (r.length : Int) from by unfold wrap64; omega)
                have CA := tnext_any HT.out.a
                have CB := aside (fun W (bb : Below wr.heap.size wr W) => tnext_any (HT.out.b.below bb))
                simp only [nextV] at CA CB
                have CA' := aside CA
                have WF := aside (HT.out.a.2.2.1 ((o, l, k9), t9) (by simp)).1
                have LK := aside (HT.out.a.2.1.look (n := (o, l, k9)) (t := t9) (by simp))
                have DH := aside (drop_head HT.out.a.2.1)
                have EQN := fun W => name_neq_same o l k9 W
                clear CA
                go_wp2_with fail
                refine CA'.out.mono ?_
                rintro e w3 ⟨rfl, b3⟩
                have B3 := aside b3
                obtain ⟨V3, hV3⟩ : ∃ V, w3.alloc (.cells #[.int .i64 o, .int .i64 l, .int .i64 k9] 29) = V := ⟨_, rfl⟩
                obtain ⟨q3, hq3⟩ : ∃ q, w3.heap.size = q := ⟨_, rfl⟩
                have BV3 := aside (show Below wr.heap.size wr V3 from by rw [← hV3]; exact bthen B3.out (bnew w3 _))
                have KV3 := aside (show V3.heap[q3]? = some (.cells #[.int .i64 o, .int .i64 l, .int .i64 k9] 29 (0, 0)) from by rw [← hV3, ← hq3]; exact heap_alloc_new w3 _)
                clear b3 B3 CA'
                go_wp2_with fail
                refine (CB.out _ BV3.out).mono ?_
                rintro e w4 ⟨rfl, b4⟩
                have B4 := aside b4
                obtain ⟨V4, hV4⟩ : ∃ V, w4.alloc (.cells #[.int .i64 o, .int .i64 l, .int .i64 k9] 29) = V := ⟨_, rfl⟩
                obtain ⟨q4, hq4⟩ : ∃ q, w4.heap.size = q := ⟨_, rfl⟩
                have BV4 := aside (show Below V3.heap.size V3 V4 from by rw [← hV4]; exact bthen B4.out (bnew w4 _))
                have KV4 := aside (show V4.heap[q4]? = some (.cells #[.int .i64 o, .int .i64 l, .int .i64 k9] 29 (0, 0)) from by rw [← hV4, ← hq4]; exact heap_alloc_new w4 _)
                have KW4 := aside (blk_on KV3.out BV4.out)
                have HT4 := aside (HT.out.below (bthen BV3.out BV4.out))
                clear b4 B4 CB KV3
                obtain ⟨s0, s1, s2⟩ := tri3 KV4.out
                obtain ⟨t0, t1, t2⟩ := tri3 KW4.out
                go_wp2_with fail
                refine (tdrop_any o l k9 HT4.out.a WF.out).mono ?_
                rintro e w5 ⟨rfl, ta5, k5⟩
                rw [LK.out]
                rw [DH.out] at ta5
                have NQ := aside (show ¬ q4 = ba from fun e => by obtain ⟨es, clock, h4, -⟩ := HT4.out.a.2.2.2.choose_spec.1; have := KV4.out; rw [e, h4] at this; cases this)
                have KV5 := aside (blk_keep KV4.out k5 NQ.out)
                have HT5 := aside (HT4.out.setA ta5 k5)
                clear ta5 k5 s0 s1 s2 t0 t1 t2 hV3 hV4 hq3 hq4
                obtain ⟨s0, s1, s2⟩ := tri3 KV5.out
                go_wp2_with fail
                refine (tdrop_any o l k9 HT5.out.b WF.out).mono ?_
                rintro e w6 ⟨rfl, ta6, k6⟩
                rw [LK.out]
                rw [DH.out] at ta6
                have HT6 := aside (HT5.out.setB ta6 k6)
                clear ta6 k6 s0 s1 s2
                go_wp2
                go_roundw
                case rel => exact ⟨r, by first | exact congrArg _ W9.out | go_num, by simp only [List.length_cons] at hL; omega, HT6.out⟩
                case measure => simp [intOf] <;> (first | omega | (rw [W9.out]; omega))
          · have hq0 : (0 : Int) ≤ (q : Int) := by omega
            have hql : (q : Int) < (len : Int) := by omega
            by_cases hqt : (tl : Int) ≤ (q : Int)
            · skip
              have SK := aside (show bS (nrN R) T len tl (len - q) = bS (nrN R) T len tl (len - (q + 1)) from by rw [bS_at (by omega)]; exact bStep_no (by omega))
              go_wp2
              go_roundw
              case rel => exact ⟨q, (by cases q with | zero => exact .inl ⟨rfl, by go_num⟩ | succ y => exact .inr ⟨y, rfl, by go_num⟩), by omega, by rw [SK.out], by rw [SK.out]; exact HT.out⟩
              case measure => simp [intOf] <;> omega
            · have hqt2 : (q : Int) < (tl : Int) := by omega
              rcases (G0.out.keep HB.out).2.2.2 with h0 | ⟨x, off, rfl, hx, hc⟩
              · omega
              rcases (G1.out.keep HB.out).2.2 with h0 | ⟨x2, off2, rfl, hx2, hc2⟩
              · omega
              obtain ⟨m0, m1, m2⟩ := hc q (by omega)
              have m3 := hc2 q (by omega)
              have HW := aside (OK0.out q (by omega))
              obtain ⟨o, ho⟩ : ∃ z, (R q).o = z := ⟨_, rfl⟩
              obtain ⟨l, hl⟩ : ∃ z, (R q).l = z := ⟨_, rfl⟩
              obtain ⟨k9, hk9⟩ : ∃ z, (R q).n = z := ⟨_, rfl⟩
              obtain ⟨t9, ht9⟩ : ∃ z, T q = z := ⟨_, rfl⟩
              rw [ho] at m0
              rw [hl] at m1
              rw [hk9] at m2
              rw [ht9] at m3
              have WF := aside (show wfN (o, l, k9) from by rw [← ho, ← hl, ← hk9]; exact HW.out)
              have NE := aside (show (nrN R) q = (o, l, k9) ∧ T q = t9 from ⟨by unfold nrN; rw [← ho, ← hl, ← hk9], ht9⟩)
              clear ho hl hk9 ht9 HW
              by_cases h1 : t9 < 0
              · skip
                have SK := aside (show bS (nrN R) T len tl (len - q) = bS (nrN R) T len tl (len - (q + 1)) from by rw [bS_at (by omega)]; exact bStep_no (by rw [NE.out.2]; unfold tOk; omega))
                go_wp2
                go_roundw
                case rel => exact ⟨q, (by cases q with | zero => exact .inl ⟨rfl, by go_num⟩ | succ y => exact .inr ⟨y, rfl, by go_num⟩), by omega, by rw [SK.out], by rw [SK.out]; exact HT.out⟩
                case measure => simp [intOf] <;> omega
              · by_cases h2 : 1099511627776 < t9
                · skip
                  have SK := aside (show bS (nrN R) T len tl (len - q) = bS (nrN R) T len tl (len - (q + 1)) from by rw [bS_at (by omega)]; exact bStep_no (by rw [NE.out.2]; unfold tOk; omega))
                  go_wp2
                  go_roundw
                  case rel => exact ⟨q, (by cases q with | zero => exact .inl ⟨rfl, by go_num⟩ | succ y => exact .inr ⟨y, rfl, by go_num⟩), by omega, by rw [SK.out], by rw [SK.out]; exact HT.out⟩
                  case measure => simp [intOf] <;> omega
                · have HTK := aside (show tOk t9 from ⟨by omega, by omega⟩)
                  have CA := tat_any o l k9 HT.out.b WF.out
                  cases hlk9 : lookA (o, l, k9) (bS (nrN R) T len tl (len - (q + 1))) with
                  | some s9 =>
                    rw [hlk9] at CA
                    simp only [Option.getD_some, Option.isSome_some] at CA
                    have HLK := aside hlk9
                    have CA' := aside CA
                    clear CA hlk9
                    go_wp2_with fail
                    refine CA'.out.mono ?_
                    rintro e w3 ⟨rfl, b3⟩
                    have HT3 := aside (HT.out.below b3)
                    clear b3 CA' m0 m1 m2 m3 hc hc2 hx hx2
                    have SK := aside (show bS (nrN R) T len tl (len - q) = bS (nrN R) T len tl (len - (q + 1)) from by rw [bS_at (by omega)]; exact bStep_no (by rw [NE.out.1, HLK.out]; simp))
                    go_wp2
                    go_roundw
                    case rel => exact ⟨q, (by cases q with | zero => exact .inl ⟨rfl, by go_num⟩ | succ y => exact .inr ⟨y, rfl, by go_num⟩), by omega, by rw [SK.out], by rw [SK.out]; exact HT3.out⟩
                    case measure => simp [intOf] <;> omega
                  | none =>
                    rw [hlk9] at CA
                    simp only [Option.getD_none, Option.isSome_none] at CA
                    have HLK := aside hlk9
                    have CA' := aside CA
                    have hlen9 : ((((bS (nrN R) T len tl (len - (q + 1))).length : Nat)) : Int) ≤ 4096 := by have := bS_len (nrN R) T len tl (len - (q + 1)); have := HL.out; omega
                    clear CA hlk9
                    go_wp2_with fail
                    refine CA'.out.mono ?_
                    rintro e w3 ⟨rfl, b3⟩
                    have HT3 := aside (HT.out.below b3)
                    have LT3 := aside (show x < w3.heap.size ∧ x2 < w3.heap.size from ⟨by have := b3.size; omega, by have := b3.size; omega⟩)
                    obtain ⟨hx3, hx4⟩ := LT3.out
                    have n0 := cell_in m0 b3
                    have n1 := cell_in m1 b3
                    have n2 := cell_in m2 b3
                    have n3 := cell_in m3 b3
                    clear b3 CA' m0 m1 m2 m3 hc hc2 hx hx2
                    have HN : ¬ x = bb := fun e => by obtain ⟨es, clock, h4, -⟩ := HT3.out.b.2.2.2.choose_spec.1; rw [e] at n0; simp [World.cell?, h4] at n0
                    have HN2 : ¬ x2 = bb := fun e => by obtain ⟨es, clock, h4, -⟩ := HT3.out.b.2.2.2.choose_spec.1; rw [e] at n3; simp [World.cell?, h4] at n3
                    have SX := aside (fun W (kk : Keeps (fun z => z = bb) w3 W) => (show W.cell? ⟨x, off + q * 3, none⟩ = some (.int .i64 o) ∧ W.cell? ⟨x, off + q * 3 + 1, none⟩ = some (.int .i64 l) ∧ W.cell? ⟨x, off + q * 3 + 2, none⟩ = some (.int .i64 k9) ∧ W.cell? ⟨x2, off2 + q, none⟩ = some (.int .i64 t9) from ⟨by rw [← n0]; exact kk.cell hx3 HN, by rw [← n1]; exact kk.cell hx3 HN, by rw [← n2]; exact kk.cell hx3 HN, by rw [← n3]; exact kk.cell hx4 HN2⟩))
                    clear n0 n1 n2 n3
                    go_wp2_with fail
                    refine wp_region_held_drew (S := fun W => (W.cell? ⟨x, off + q * 3, none⟩ = some (.int .i64 o) ∧ W.cell? ⟨x, off + q * 3 + 1, none⟩ = some (.int .i64 l) ∧ W.cell? ⟨x, off + q * 3 + 2, none⟩ = some (.int .i64 k9) ∧ W.cell? ⟨x2, off2 + q, none⟩ = some (.int .i64 t9)) ∧ Hid (Keeps (fun z => z = bb) w3 W)) (by kernel_rfl) ⟨SX.out _ (Keeps.refl _ w3).drew, aside (Keeps.refl _ w3).drew⟩ (fun hHeld => ?_)
                    refine wpAnyH_take (i := 0) (v := ?_) rfl (by kernel_rfl) (by kernel_rfl) (by kernel_rfl) (fun _ _ _ h => h) (Or.inl ⟨by rfl, ?_⟩) (by assumption) ?_
                    rotate_left
                    · intro w hSw
                      go_simp
                      try with_reducible rfl
                    simp only [Act.put, List.getElem_toArray, List.getElem_cons_zero, List.setIfInBounds_toArray, List.set_cons_zero, List.set_cons_succ]
                    refine wpAnyH_take (i := 1) (v := ?_) rfl (by kernel_rfl) (by kernel_rfl) (by kernel_rfl) (fun _ _ _ h => h) (Or.inl ⟨by rfl, ?_⟩) (by assumption) ?_
                    rotate_left
                    · intro w hSw
                      go_simp
                      try with_reducible rfl
                    simp only [Act.put, List.getElem_toArray, List.getElem_cons_zero, List.getElem_cons_succ, List.setIfInBounds_toArray, List.set_cons_zero, List.set_cons_succ]
                    refine wpAnyH_take (i := 2) (v := ?_) rfl (by kernel_rfl) (by kernel_rfl) (by kernel_rfl) (fun _ _ _ h => h) (Or.inl ⟨by rfl, ?_⟩) (by assumption) ?_
                    rotate_left
                    · intro w hSw
                      go_simp
                      try with_reducible rfl
                    simp only [Act.put, List.getElem_toArray, List.getElem_cons_zero, List.getElem_cons_succ, List.setIfInBounds_toArray, List.set_cons_zero, List.set_cons_succ]
                    refine wpAnyH_take (i := 3) (v := ?_) rfl (by kernel_rfl) (by kernel_rfl) (by kernel_rfl) (fun _ _ _ h => h) (Or.inl ⟨by rfl, ?_⟩) (by assumption) ?_
                    rotate_left
                    · intro w hSw
                      go_simp
                      try with_reducible rfl
                    simp only [Act.put, List.getElem_toArray, List.getElem_cons_zero, List.getElem_cons_succ, List.setIfInBounds_toArray, List.set_cons_zero, List.set_cons_succ]
                    refine wpAnyH_take (i := 4) (v := ?_) rfl (by kernel_rfl) (by kernel_rfl) (by kernel_rfl) (fun _ _ _ h => h) (Or.inl ⟨by rfl, ?_⟩) (by assumption) ?_
                    rotate_left
                    · intro w hSw
                      go_simp
                      try with_reducible rfl
                    simp only [Act.put, List.getElem_toArray, List.getElem_cons_zero, List.getElem_cons_succ, List.setIfInBounds_toArray, List.set_cons_zero, List.set_cons_succ]
                    refine wpAnyH_take (i := 5) (v := ?_) rfl (by kernel_rfl) (by kernel_rfl) (by kernel_rfl) (fun _ _ _ h => h) (Or.inl ⟨by rfl, ?_⟩) (by assumption) ?_
                    rotate_left
                    · intro w hSw
                      go_simp
                      try with_reducible rfl
                    simp only [Act.put, List.getElem_toArray, List.getElem_cons_zero, List.getElem_cons_succ, List.setIfInBounds_toArray, List.set_cons_zero, List.set_cons_succ]
                    refine wpAnyH_take (i := 6) (v := ?_) rfl (by kernel_rfl) (by kernel_rfl) (by kernel_rfl) (fun _ _ _ h => h) (Or.inl ⟨by rfl, ?_⟩) (by assumption) ?_
                    rotate_left
                    · intro w hSw
                      go_simp
                      try with_reducible rfl
                    simp only [Act.put, List.getElem_toArray, List.getElem_cons_zero, List.getElem_cons_succ, List.setIfInBounds_toArray, List.set_cons_zero, List.set_cons_succ]
                    refine wpAnyH_take (i := 7) (v := ?_) rfl (by kernel_rfl) (by kernel_rfl) (by kernel_rfl) (fun _ _ _ h => h) (Or.inl ⟨by rfl, ?_⟩) (by assumption) ?_
                    rotate_left
                    · intro w hSw
                      go_simp
                      try with_reducible rfl
                    simp only [Act.put, List.getElem_toArray, List.getElem_cons_zero, List.getElem_cons_succ, List.setIfInBounds_toArray, List.set_cons_zero, List.set_cons_succ]
                    refine wpAnyH_take (i := 8) (v := ?_) rfl (by kernel_rfl) (by kernel_rfl) (by kernel_rfl) (fun _ _ _ h => h) (Or.inl ⟨by rfl, ?_⟩) (by assumption) ?_
                    rotate_left
                    · intro w hSw
                      go_simp
                      try with_reducible rfl
                    simp only [Act.put, List.getElem_toArray, List.getElem_cons_zero, List.getElem_cons_succ, List.setIfInBounds_toArray, List.set_cons_zero, List.set_cons_succ]
                    refine wpAnyH_ready (rs := [9]) (by kernel_rfl) (by simp) ?_
                    refine AllReadyH.cons rfl (fun K hK => ?_) AllReadyH.nil
                    go_simp
                    refine (tset_ok o l k9 t9 (w := w3.drew) (p := pb) (b := bb) (L := bS (nrN R) T len tl (len - (q + 1))) HT3.out.b WF.out HTK.out (by have := bS_len (nrN R) T len tl (len - (q + 1)); have := HL.out; omega)).mono ?_
                    rintro e w9 ⟨rfl, tm9, kk9⟩
                    refine hK.out _ _ (⟨SX.out _ ((Keeps.refl _ w3).drew.trans kk9), aside ((Keeps.refl _ w3).drew.trans kk9)⟩) (fun hHeld => ?_)
                    clear hK K 
                    refine wpAnyH_take (i := 10) (v := ?_) rfl (by kernel_rfl) (by kernel_rfl) (by kernel_rfl) (fun _ _ _ h => h) (Or.inl ⟨by rfl, ?_⟩) (by assumption) ?_
                    rotate_left
                    · intro w hSw
                      go_simp
                      try with_reducible rfl
                    simp only [Act.put, List.getElem_toArray, List.getElem_cons_zero, List.getElem_cons_succ, List.setIfInBounds_toArray, List.set_cons_zero, List.set_cons_succ]
                    refine wpAnyH_done (by kernel_rfl) ?_ _
                    have HT9 := aside (HT3.out.setB tm9 ((Keeps.refl _ w3).drew.trans kk9))
                    have SK := aside (show bS (nrN R) T len tl (len - q) = putA (o, l, k9) t9 (bS (nrN R) T len tl (len - (q + 1))) from by rw [bS_at (by omega), bStep_yes (by omega) (by rw [NE.out.2]; exact HTK.out) (by rw [NE.out.1]; exact HLK.out), NE.out.1, NE.out.2])
                    have SKL := aside (show ((bS (nrN R) T len tl (len - q)).length : Nat) = (bS (nrN R) T len tl (len - (q + 1))).length + 1 from by rw [SK.out, putA_len, wo_none (lookA_none HLK.out)])
                    clear hHeld SX tm9 kk9
                    go_wp2
                    go_roundw
                    case rel => exact ⟨q, (by cases q with | zero => exact .inl ⟨rfl, by go_num⟩ | succ y => exact .inr ⟨y, rfl, by go_num⟩), by omega, by rw [SKL.out]; go_num, by rw [SK.out]; exact HT9.out⟩
                    case measure => simp [intOf] <;> omega

end Go.Proofs.Ytoajgacofmodoaa
