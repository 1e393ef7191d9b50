/-
  Take of the document's store.
  What the laws on merge ask of their own: lists compared, lists in which no two entries of one version are unlike, the bound of sizes.
-/
import Derived.Test.YtpbkjffiohfkcaaGreatDoorBo40
import Derived.Test.YtpbkjffiohfkcaaGreatDoorBo42
import Derived.Test.YtpbkjffiohfkcaaGreatDoorBo22
import Derived.Test.YtpbkjffiohfkcaaGreatDoorBo25
namespace Go.Proofs.YtpbkjffiohfkcaaGreatDoor
open Go.RowKit
set_option linter.unusedVariables false
/-- What Take says. -/
def RTk (w : World) (B db : Nat) (nd ck : Int) (l : List En) (e : En) (s : Int × Bool) (r : Ending) (w' : World) : Prop :=
  r = .returned (.tuple #[.bool s.2, .int .i64 s.1]) ∧ Keeps (fun x => x = db) w w' ∧ ((s.2 = false ∧ DSt w' B db nd ck l) ∨ (s.2 = true ∧ DSt w' B db nd (ckm ck e.c) (insE e l)))
set_option maxHeartbeats 6400000 in
set_option maxRecDepth 100000 in
theorem rtake (e : En) {w : World} {B db : Nat} {nd ck : Int} {l : List En} (h : DSt w B db nd ck l) (hm : MapL l) (hl : l.length ≤ 256) (hB : B ≤ w.heap.size) :
    Calls Tryz.prog 41 #[.pointer (some ⟨db, 0, none⟩), .agg #[.string e.k, .int .i64 e.c, .int .i64 e.n, .string e.v, .bool e.d]] w fun r w' => RTk w B db nd ck l e (tkSay e l) r w' := by
  have BX := aside (bnew w (.cells #[.string e.k, .int .i64 e.c, .int .i64 e.n, .string e.v, .bool e.d] 77))
  have KE := aside (heap_alloc_new w (.cells #[.string e.k, .int .i64 e.c, .int .i64 e.n, .string e.v, .bool e.d] 77))
  obtain ⟨q, hq⟩ : ∃ q, e.chk = q := ⟨_, rfl⟩
  have CC := aside (fun W => chk_of e W hq _ ichkRef_any)
  have CR := aside (fun W (bb : Below w.heap.size w W) => room_any e.k (h.below bb) hm)
  have CP := aside (fun W (bb : Below w.heap.size w W) => place_any e.k (h.below bb) hm)
  have HT := aside (show tkSay e l = if q ≠ 0 then (q, false) else if roomB e.k l = false then (80, false) else match lookE e.k l with | none => (0, true) | some o => (0, En.newer e o) from by unfold tkSay; rw [hq]; rfl)
  have HLK := aside (look_plc (k := e.k) hm.rises)
  have H := aside h
  have CL := aside (fun (hq0 : q = 0) W (bb : Below w.heap.size w W) => lay_any e (h.below bb) hm hl (Nat.le_trans hB bb.size) (key_small (by rw [hq, hq0])))
  have HPL := aside (fun g => isP_lt (k := e.k) (l := l) g)
  obtain ⟨a, c, hd, hA, -⟩ := h.ents hm
  have HD := aside hd
  have HA := aside hA
  obtain ⟨rm, hrm⟩ : ∃ rm, roomB e.k l = rm := ⟨_, rfl⟩
  rw [hrm] at CR HT
  obtain ⟨i, hi⟩ : ∃ i, plc e.k l = i := ⟨_, rfl⟩
  obtain ⟨p, hp⟩ : ∃ p, isP e.k l = p := ⟨_, rfl⟩
  rw [hi, hp] at CP HLK
  rw [hp, hi] at HPL
  obtain ⟨eb, heb⟩ : ∃ eb, w.heap.size = eb := ⟨_, rfl⟩
  rw [heb] at KE
  obtain ⟨X, hX⟩ : ∃ X, w.alloc (.cells #[.string e.k, .int .i64 e.c, .int .i64 e.n, .string e.v, .bool e.d] 77) = X := ⟨_, rfl⟩
  rw [hX] at BX KE
  clear h hm hl hB hq hd hA hrm hi hp
  obtain ⟨e0, e1, e2, e3, e4⟩ := (box5 KE.out).1
  by_cases hq0 : q = 0
  rotate_left
  · have hqb : (q == 0) = false := by simpa using hq0
    rw [show tkSay e l = (q, false) from by rw [HT.out, if_pos hq0]]
    clear HT HLK CL
    go_enter Tryz.func41, Tryz.ntmps41
    go_wp2_with fail
    refine (CC.out _).mono ?_
    rintro r w1 ⟨rfl, b1⟩
    have B1 := aside (bthen BX.out b1)
    have KE1 := aside (blk_on KE.out b1)
    clear b1 CC KE BX hX e0 e1 e2 e3 e4
    go_wp2
    go_ret2
    exact ⟨rfl, Keeps.of_below B1.out _, .inl ⟨rfl, H.out.below B1.out⟩⟩
  subst hq0
  replace CL := aside (CL.out rfl)
  cases rm with
  | false =>
    rw [show tkSay e l = (80, false) from by rw [HT.out]; simp]
    clear HT HLK CL
    go_enter Tryz.func41, Tryz.ntmps41
    go_wp2_with fail
    refine (CC.out _).mono ?_
    rintro r w1 ⟨rfl, b1⟩
    have B1 := aside (bthen BX.out b1)
    have KE1 := aside (blk_on KE.out b1)
    clear b1 CC KE BX hX e0 e1 e2 e3 e4
    obtain ⟨e0, e1, e2, e3, e4⟩ := (box5 KE1.out).1
    go_wp2_with fail
    refine (CR.out _ B1.out).mono ?_
    rintro r w2 ⟨rfl, b2⟩
    have B2 := aside (bthen B1.out b2)
    have KE2 := aside (blk_on KE1.out b2)
    clear b2 CR KE1 B1 e0 e1 e2 e3 e4
    go_wp2
    go_ret2
    exact ⟨rfl, Keeps.of_below B2.out _, .inl ⟨rfl, H.out.below B2.out⟩⟩
  | true =>
    cases p with
    | false =>
      rw [show tkSay e l = (0, true) from by rw [HT.out, HLK.out]; simp]
      clear HT HLK HPL
      go_enter Tryz.func41, Tryz.ntmps41
      go_wp2_with fail
      refine (CC.out _).mono ?_
      rintro r w1 ⟨rfl, b1⟩
      have B1 := aside (bthen BX.out b1)
      have KE1 := aside (blk_on KE.out b1)
      clear b1 CC KE BX hX e0 e1 e2 e3 e4
      obtain ⟨e0, e1, e2, e3, e4⟩ := (box5 KE1.out).1
      go_wp2_with fail
      refine (CR.out _ B1.out).mono ?_
      rintro r w2 ⟨rfl, b2⟩
      have B2 := aside (bthen B1.out b2)
      have KE2 := aside (blk_on KE1.out b2)
      clear b2 CR KE1 B1 e0 e1 e2 e3 e4
      obtain ⟨e0, e1, e2, e3, e4⟩ := (box5 KE2.out).1
      go_wp2_with fail
      refine (CP.out _ B2.out).mono ?_
      rintro r w3 ⟨rfl, b3⟩
      have B3 := aside (bthen B2.out b3)
      have KE3 := aside (blk_on KE2.out b3)
      clear b3 CP KE2 B2 e0 e1 e2 e3 e4
      obtain ⟨e0, e1, e2, e3, e4⟩ := (box5 KE3.out).1
      clear e0 e1 e2 e3 e4
      go_wp2_with fail
      refine wp_region_held_drew (S := fun W => Below w.heap.size w W) (by kernel_rfl) (B3.out.drew) (fun hHeld => ?_)
      refine wpAnyH_take (i := 0) (v := ?_) rfl (by kernel_rfl) (by kernel_rfl) (by kernel_rfl) (fun _ _ _ h => h) (Or.inl ⟨by rfl, ?_⟩) (by assumption) ?_
      rotate_left
      · intro w hSw
        go_simp
        try with_reducible rfl
      simp only [Act.put, List.getElem_toArray, List.getElem_cons_zero, List.setIfInBounds_toArray, List.set_cons_zero, List.set_cons_succ]
      refine wpAnyH_take (i := 1) (v := ?_) rfl (by kernel_rfl) (by kernel_rfl) (by kernel_rfl) (fun _ _ _ h => h) (Or.inl ⟨by rfl, ?_⟩) (by assumption) ?_
      rotate_left
      · intro w hSw
        go_simp
        try with_reducible rfl
      simp only [Act.put, List.getElem_toArray, List.getElem_cons_zero, List.getElem_cons_succ, List.setIfInBounds_toArray, List.set_cons_zero, List.set_cons_succ]
      refine wpAnyH_take (i := 2) (v := undef) rfl (by kernel_rfl) (by kernel_rfl) (by kernel_rfl) (fun _ _ _ h => h) (Or.inr ⟨by rfl, rfl⟩) (by assumption) ?_
      simp only [Act.put, List.getElem_toArray, List.getElem_cons_zero, List.getElem_cons_succ, List.setIfInBounds_toArray, List.set_cons_zero, List.set_cons_succ]
      refine wpAnyH_take (i := 3) (v := undef) rfl (by kernel_rfl) (by kernel_rfl) (by kernel_rfl) (fun _ _ _ h => h) (Or.inr ⟨by rfl, rfl⟩) (by assumption) ?_
      simp only [Act.put, List.getElem_toArray, List.getElem_cons_zero, List.getElem_cons_succ, List.setIfInBounds_toArray, List.set_cons_zero, List.set_cons_succ]
      refine wpAnyH_take (i := 4) (v := undef) rfl (by kernel_rfl) (by kernel_rfl) (by kernel_rfl) (fun _ _ _ h => h) (Or.inr ⟨by rfl, rfl⟩) (by assumption) ?_
      simp only [Act.put, List.getElem_toArray, List.getElem_cons_zero, List.getElem_cons_succ, List.setIfInBounds_toArray, List.set_cons_zero, List.set_cons_succ]
      refine wpAnyH_take (i := 5) (v := undef) rfl (by kernel_rfl) (by kernel_rfl) (by kernel_rfl) (fun _ _ _ h => h) (Or.inr ⟨by rfl, rfl⟩) (by assumption) ?_
      simp only [Act.put, List.getElem_toArray, List.getElem_cons_zero, List.getElem_cons_succ, List.setIfInBounds_toArray, List.set_cons_zero, List.set_cons_succ]
      refine wpAnyH_take (i := 6) (v := undef) rfl (by kernel_rfl) (by kernel_rfl) (by kernel_rfl) (fun _ _ _ h => h) (Or.inr ⟨by rfl, rfl⟩) (by assumption) ?_
      simp only [Act.put, List.getElem_toArray, List.getElem_cons_zero, List.getElem_cons_succ, List.setIfInBounds_toArray, List.set_cons_zero, List.set_cons_succ]
      refine wpAnyH_take (i := 7) (v := undef) rfl (by kernel_rfl) (by kernel_rfl) (by kernel_rfl) (fun _ _ _ h => h) (Or.inr ⟨by rfl, rfl⟩) (by assumption) ?_
      simp only [Act.put, List.getElem_toArray, List.getElem_cons_zero, List.getElem_cons_succ, List.setIfInBounds_toArray, List.set_cons_zero, List.set_cons_succ]
      refine wpAnyH_take (i := 8) (v := undef) rfl (by kernel_rfl) (by kernel_rfl) (by kernel_rfl) (fun _ _ _ h => h) (Or.inr ⟨by rfl, rfl⟩) (by assumption) ?_
      simp only [Act.put, List.getElem_toArray, List.getElem_cons_zero, List.getElem_cons_succ, List.setIfInBounds_toArray, List.set_cons_zero, List.set_cons_succ]
      refine wpAnyH_take (i := 9) (v := undef) rfl (by kernel_rfl) (by kernel_rfl) (by kernel_rfl) (fun _ _ _ h => h) (Or.inr ⟨by rfl, rfl⟩) (by assumption) ?_
      simp only [Act.put, List.getElem_toArray, List.getElem_cons_zero, List.getElem_cons_succ, List.setIfInBounds_toArray, List.set_cons_zero, List.set_cons_succ]
      refine wpAnyH_take (i := 10) (v := undef) rfl (by kernel_rfl) (by kernel_rfl) (by kernel_rfl) (fun _ _ _ h => h) (Or.inr ⟨by rfl, rfl⟩) (by assumption) ?_
      simp only [Act.put, List.getElem_toArray, List.getElem_cons_zero, List.getElem_cons_succ, List.setIfInBounds_toArray, List.set_cons_zero, List.set_cons_succ]
      refine wpAnyH_take (i := 11) (v := undef) rfl (by kernel_rfl) (by kernel_rfl) (by kernel_rfl) (fun _ _ _ h => h) (Or.inr ⟨by rfl, rfl⟩) (by assumption) ?_
      simp only [Act.put, List.getElem_toArray, List.getElem_cons_zero, List.getElem_cons_succ, List.setIfInBounds_toArray, List.set_cons_zero, List.set_cons_succ]
      refine wpAnyH_take (i := 12) (v := ?_) rfl (by kernel_rfl) (by kernel_rfl) (by kernel_rfl) (fun _ _ _ h => h) (Or.inl ⟨by rfl, ?_⟩) (by assumption) ?_
      rotate_left
      · intro w hSw
        go_simp
        try with_reducible rfl
      simp only [Act.put, List.getElem_toArray, List.getElem_cons_zero, List.getElem_cons_succ, List.setIfInBounds_toArray, List.set_cons_zero, List.set_cons_succ]
      refine wpAnyH_done (by kernel_rfl) ?_ _
      have B4 := aside hHeld
      have KE4 := aside (blk_on KE3.out (Below.refl _ w3).drew)
      clear hHeld B3 KE3
      obtain ⟨e0, e1, e2, e3, e4⟩ := (box5 KE4.out).1
      go_wp2_with fail
      refine (CL.out _ B4.out).mono ?_
      rintro r w9 ⟨rfl, ds, k9⟩
      have DS := aside ds
      have K9 := aside ((Keeps.of_below B4.out _).trans k9)
      clear ds k9 CL e0 e1 e2 e3 e4
      go_wp2
      go_ret2
      exact ⟨rfl, K9.out, .inr ⟨rfl, DS.out⟩⟩
    | true =>
      have hil : i < l.length := HPL.out rfl
      obtain ⟨x, hx⟩ : ∃ x, nthE l i = x := ⟨_, rfl⟩
      obtain ⟨nw, hnw⟩ : ∃ nw, En.newer e x = nw := ⟨_, rfl⟩
      rw [show tkSay e l = (0, nw) from by rw [HT.out, HLK.out]; simp [hx, hnw]]
      clear HT HLK HPL
      have CN := aside (fun W => newerRef_en e x W hnw)
      rcases HA.out.2.2 with h0 | ⟨b, off, rfl, -, -⟩
      · omega
      have hi0 : (0 : Int) ≤ (i : Int) := by omega
      have hil2 : (i : Int) < (l.length : Int) := by omega
      have TS := aside (show ∀ W : World, Below w.heap.size w W → True from fun _ _ => trivial)
      go_enter Tryz.func41, Tryz.ntmps41
      go_wp2_with fail
      refine (CC.out _).mono ?_
      rintro r w1 ⟨rfl, b1⟩
      have B1 := aside (bthen BX.out b1)
      have KE1 := aside (blk_on KE.out b1)
      clear b1 CC KE BX hX e0 e1 e2 e3 e4
      obtain ⟨e0, e1, e2, e3, e4⟩ := (box5 KE1.out).1
      go_wp2_with fail
      refine (CR.out _ B1.out).mono ?_
      rintro r w2 ⟨rfl, b2⟩
      have B2 := aside (bthen B1.out b2)
      have KE2 := aside (blk_on KE1.out b2)
      clear b2 CR KE1 B1 e0 e1 e2 e3 e4
      obtain ⟨e0, e1, e2, e3, e4⟩ := (box5 KE2.out).1
      go_wp2_with fail
      refine (CP.out _ B2.out).mono ?_
      rintro r w3 ⟨rfl, b3⟩
      have B3 := aside (bthen B2.out b3)
      have KE3 := aside (blk_on KE2.out b3)
      clear b3 CP KE2 B2 e0 e1 e2 e3 e4
      obtain ⟨e0, e1, e2, e3, e4⟩ := (box5 KE3.out).1
      have EX := aside (ents_five (HA.out.keep B3.out) hil hx)
      obtain ⟨d0, d1, d2⟩ := box3r (blk_on HD.out B3.out)
      have HXX := aside hx
      clear hx hnw TS
      go_wp2_with fail
      refine wp_region_held_drew (S := fun W => Below w.heap.size w W ∧ (W.cell? ⟨eb, 0, none⟩ = some (.string e.k) ∧ W.cell? ⟨eb, 1, none⟩ = some (.int .i64 e.c) ∧ W.cell? ⟨eb, 2, none⟩ = some (.int .i64 e.n) ∧ W.cell? ⟨eb, 3, none⟩ = some (.string e.v) ∧ W.cell? ⟨eb, 4, none⟩ = some (.bool e.d)) ∧ W.cell? ⟨db, 2, none⟩ = some (.slice (some ⟨b, off, none⟩) l.length c) ∧ (W.cell? ⟨b, off + i * 5, none⟩ = some (.string x.k) ∧ W.cell? ⟨b, off + i * 5 + 1, none⟩ = some (.int .i64 x.c) ∧ W.cell? ⟨b, off + i * 5 + 2, none⟩ = some (.int .i64 x.n) ∧ W.cell? ⟨b, off + i * 5 + 3, none⟩ = some (.string x.v) ∧ W.cell? ⟨b, off + i * 5 + 4, none⟩ = some (.bool x.d))) (by kernel_rfl) ⟨B3.out.drew, ⟨e0, e1, e2, e3, e4⟩, d2, EX.out⟩ (fun hHeld => ?_)
      refine wpAnyH_take (i := 0) (v := ?_) rfl (by kernel_rfl) (by kernel_rfl) (by kernel_rfl) (fun _ _ _ h => h) (Or.inl ⟨by rfl, ?_⟩) (by assumption) ?_
      rotate_left
      · intro w hSw
        go_simp
        try with_reducible rfl
      simp only [Act.put, List.getElem_toArray, List.getElem_cons_zero, List.setIfInBounds_toArray, List.set_cons_zero, List.set_cons_succ]
      refine wpAnyH_take (i := 1) (v := ?_) rfl (by kernel_rfl) (by kernel_rfl) (by kernel_rfl) (fun _ _ _ h => h) (Or.inl ⟨by rfl, ?_⟩) (by assumption) ?_
      rotate_left
      · intro w hSw
        go_simp
        try with_reducible rfl
      simp only [Act.put, List.getElem_toArray, List.getElem_cons_zero, List.getElem_cons_succ, List.setIfInBounds_toArray, List.set_cons_zero, List.set_cons_succ]
      refine wpAnyH_take (i := 2) (v := ?_) rfl (by kernel_rfl) (by kernel_rfl) (by kernel_rfl) (fun _ _ _ h => h) (Or.inl ⟨by rfl, ?_⟩) (by assumption) ?_
      rotate_left
      · intro w hSw
        go_simp
        try with_reducible rfl
      simp only [Act.put, List.getElem_toArray, List.getElem_cons_zero, List.getElem_cons_succ, List.setIfInBounds_toArray, List.set_cons_zero, List.set_cons_succ]
      refine wpAnyH_take (i := 3) (v := ?_) rfl (by kernel_rfl) (by kernel_rfl) (by kernel_rfl) (fun _ _ _ h => h) (Or.inl ⟨by rfl, ?_⟩) (by assumption) ?_
      rotate_left
      · intro w hSw
        go_simp
        try with_reducible rfl
      simp only [Act.put, List.getElem_toArray, List.getElem_cons_zero, List.getElem_cons_succ, List.setIfInBounds_toArray, List.set_cons_zero, List.set_cons_succ]
      refine wpAnyH_take (i := 4) (v := ?_) rfl (by kernel_rfl) (by kernel_rfl) (by kernel_rfl) (fun _ _ _ h => h) (Or.inl ⟨by rfl, ?_⟩) (by assumption) ?_
      rotate_left
      · intro w hSw
        go_simp
        try with_reducible rfl
      simp only [Act.put, List.getElem_toArray, List.getElem_cons_zero, List.getElem_cons_succ, List.setIfInBounds_toArray, List.set_cons_zero, List.set_cons_succ]
      refine wpAnyH_take (i := 5) (v := ?_) rfl (by kernel_rfl) (by kernel_rfl) (by kernel_rfl) (fun _ _ _ h => h) (Or.inl ⟨by rfl, ?_⟩) (by assumption) ?_
      rotate_left
      · intro w hSw
        go_simp
        try with_reducible rfl
      simp only [Act.put, List.getElem_toArray, List.getElem_cons_zero, List.getElem_cons_succ, List.setIfInBounds_toArray, List.set_cons_zero, List.set_cons_succ]
      refine wpAnyH_take (i := 6) (v := ?_) rfl (by kernel_rfl) (by kernel_rfl) (by kernel_rfl) (fun _ _ _ h => h) (Or.inl ⟨by rfl, ?_⟩) (by assumption) ?_
      rotate_left
      · intro w hSw
        go_simp
        try with_reducible rfl
      simp only [Act.put, List.getElem_toArray, List.getElem_cons_zero, List.getElem_cons_succ, List.setIfInBounds_toArray, List.set_cons_zero, List.set_cons_succ]
      refine wpAnyH_take (i := 7) (v := ?_) rfl (by kernel_rfl) (by kernel_rfl) (by kernel_rfl) (fun _ _ _ h => h) (Or.inl ⟨by rfl, ?_⟩) (by assumption) ?_
      rotate_left
      · intro w hSw
        go_simp
        try with_reducible rfl
      simp only [Act.put, List.getElem_toArray, List.getElem_cons_zero, List.getElem_cons_succ, List.setIfInBounds_toArray, List.set_cons_zero, List.set_cons_succ]
      refine wpAnyH_take (i := 8) (v := ?_) rfl (by kernel_rfl) (by kernel_rfl) (by kernel_rfl) (fun _ _ _ h => h) (Or.inl ⟨by rfl, ?_⟩) (by assumption) ?_
      rotate_left
      · intro w hSw
        go_simp
        try with_reducible rfl
      simp only [Act.put, List.getElem_toArray, List.getElem_cons_zero, List.getElem_cons_succ, List.setIfInBounds_toArray, List.set_cons_zero, List.set_cons_succ]
      refine wpAnyH_take (i := 9) (v := ?_) rfl (by kernel_rfl) (by kernel_rfl) (by kernel_rfl) (fun _ _ _ h => h) (Or.inl ⟨by rfl, ?_⟩) (by assumption) ?_
      rotate_left
      · intro w hSw
        go_simp
        try with_reducible rfl
      simp only [Act.put, List.getElem_toArray, List.getElem_cons_zero, List.getElem_cons_succ, List.setIfInBounds_toArray, List.set_cons_zero, List.set_cons_succ]
      clear e0 e1 e2 e3 e4 d0 d1 d2
      refine wpAnyH_ready (rs := [10]) (by kernel_rfl) (by simp) ?_
      refine AllReadyH.cons rfl (fun K hK => ?_) AllReadyH.nil
      go_simp
      refine (CN.out _).mono ?_
      rintro e w9 ⟨rfl, bb⟩
      refine hK.out _ _ (⟨hHeld.1.trans (bb.mono hHeld.1.size), (box5 (blk_on KE3.out (bthen (Below.refl _ w3).drew bb))).1, (box3r (blk_on HD.out (hHeld.1.trans (bb.mono hHeld.1.size)))).2.2, ents_five (HA.out.keep (hHeld.1.trans (bb.mono hHeld.1.size))) hil HXX.out⟩) (fun hHeld => ?_)
      clear hK K 
      refine wpAnyH_take (i := 11) (v := ?_) rfl (by kernel_rfl) (by kernel_rfl) (by kernel_rfl) (fun _ _ _ h => h) (Or.inl ⟨by rfl, ?_⟩) (by assumption) ?_
      rotate_left
      · intro w hSw
        go_simp
        try with_reducible rfl
      simp only [Act.put, List.getElem_toArray, List.getElem_cons_zero, List.getElem_cons_succ, List.setIfInBounds_toArray, List.set_cons_zero, List.set_cons_succ]
      refine wpAnyH_take (i := 12) (v := ?_) rfl (by kernel_rfl) (by kernel_rfl) (by kernel_rfl) (fun _ _ _ h => h) (Or.inl ⟨by rfl, ?_⟩) (by assumption) ?_
      rotate_left
      · intro w hSw
        go_simp
        try with_reducible rfl
      simp only [Act.put, List.getElem_toArray, List.getElem_cons_zero, List.getElem_cons_succ, List.setIfInBounds_toArray, List.set_cons_zero, List.set_cons_succ]
      refine wpAnyH_done (by kernel_rfl) ?_ _
      have B4 := aside hHeld.1
      have KE4 := aside (show w9.heap[eb]? = some (.cells #[.string e.k, .int .i64 e.c, .int .i64 e.n, .string e.v, .bool e.d] 77 (0, 0)) from blk_on KE3.out (bthen (Below.refl _ w3).drew bb))
      clear hHeld bb B3 KE3 EX CN
      cases nw with
      | false =>
        go_wp2
        go_ret2
        exact ⟨rfl, Keeps.of_below B4.out _, .inl ⟨rfl, H.out.below B4.out⟩⟩
      | true =>
        skip
        obtain ⟨e0, e1, e2, e3, e4⟩ := (box5 KE4.out).1
        go_wp2_with fail
        refine (CL.out _ B4.out).mono ?_
        rintro r w10 ⟨rfl, ds, k9⟩
        have DS := aside ds
        have K9 := aside ((Keeps.of_below B4.out _).trans k9)
        clear ds k9 CL e0 e1 e2 e3 e4
        go_wp2
        go_ret2
        exact ⟨rfl, K9.out, .inr ⟨rfl, DS.out⟩⟩
end Go.Proofs.YtpbkjffiohfkcaaGreatDoor
namespace Go.Proofs.YtpbkjffiohfkcaaGreatDoor
open Go.RowKit
set_option linter.unusedVariables false
/-- How many entries the first k lists have. -/
def smL (ln : Nat → Nat) : Nat → Nat
  | 0 => 0
  | k + 1 => smL ln k + ln k
/-- Lists in a row. -/
def ListsIn (w : World) (gb m : Nat) (ad : Nat → Option Addr) (ln cp : Nat → Nat) (T : Nat → Nat → En) : Prop := ∀ k, k < m → w.cell? ⟨gb, k, none⟩ = some (.slice (ad k) (ln k) (cp k)) ∧ EntsIn w (ad k) (ln k) (cp k) (T k)
theorem ListsIn.keep {w w' : World} {gb m : Nat} {ad : Nat → Option Addr} {ln cp : Nat → Nat} {T : Nat → Nat → En} (h : ListsIn w gb m ad ln cp T) (b : Below w.heap.size w w') : ListsIn w' gb m ad ln cp T := fun k hk => ⟨cell_in (h k hk).1 b, (h k hk).2.keep b⟩
theorem by_step (c x y : Nat) (hc : c ≤ 1073741824) : Value.int .i64 (IntKind.i64.wrap ((c : Int) + IntKind.i64.wrap (IntKind.i64.wrap (1 + (if (1073741824 : Int) < (x : Int) then 1073741824 else (x : Int))) + if (1073741824 : Int) < (y : Int) then 1073741824 else (y : Int)))) = .int .i64 ((c + (1 + (min x 1073741824 + min y 1073741824)) : Nat) : Int) := by
  congr 1
  rw [IntKind.wrap_i64, IntKind.wrap_i64, IntKind.wrap_i64]
  split <;> split <;> omega
end Go.Proofs.YtpbkjffiohfkcaaGreatDoor
