/-
  Check: which lists are maps, the code's and the document's own.
-/
import Derived.Test.YtfkdhambbpkmpaaDoorBv2
import Derived.Deep.RegionHeld
namespace Go.Proofs.YtfkdhambbpkmpaaDoor
open Go.RowKit
set_option linter.unusedVariables false
theorem chk_rising {T : Nat → En} {k : Nat} {q : Int} (hq : (T (k + 1)).chk = q) (h0 : q = 0) : ckAt T (k + 1) = bif kLt (T k).k (T (k + 1)).k then 0 else 90 := by
  subst h0
  cases h : kLt (T k).k (T (k + 1)).k
  · exact ckAt_ord hq ⟨by omega, h⟩
  · exact ckAt_ok hq (fun g => by have := g.2; rw [show k + 1 - 1 = k from rfl, h] at this; cases this)
theorem chk_first {T : Nat → En} {q : Int} (hq : (T 0).chk = q) (h0 : q = 0) : ckAt T 0 = 0 := ckAt_ok (hq.trans h0) (fun g => by have := g.1; omega)
/-- x <= y of two texts, by the order. -/
theorem leq_eq (x y : ByteArray) : (Op.bytesLess x.toList y.toList || x.toList == y.toList) = !kLt y x := by
  unfold kLt
  cases h1 : Op.bytesLess x.toList y.toList <;> cases h2 : Op.bytesLess y.toList x.toList
  · have e := L_total _ _ h1 h2
    simp [e]
  · have e : (x.toList == y.toList) = false := by
      rw [beq_eq_false_iff_ne]; intro e; rw [e, L_irrefl] at h2; cases h2
    simp [e]
  · simp
  · have := L_trans _ _ _ h1 h2
    rw [L_irrefl] at this
    cases this
theorem chk_of (t : En) (w : World) {q : Int} (h : t.chk = q) (F : Nat) (C : ∀ (k : ByteArray) (c n : Int) (v : ByteArray) (d : Bool) (w : World), Calls Tryd.prog F #[.agg #[.string k, .int .i64 c, .int .i64 n, .string v, .bool d]] w fun e w' => e = .returned (.int .i64 (En.chk ⟨k, c, n, v, d⟩)) ∧ Below w.heap.size w w') :
    Calls Tryd.prog F #[.agg #[.string t.k, .int .i64 t.c, .int .i64 t.n, .string t.v, .bool t.d]] w fun e w' => e = .returned (.int .i64 q) ∧ Below w.heap.size w w' := by
  subst h
  exact C t.k t.c t.n t.v t.d w
set_option maxHeartbeats 3200000 in
set_option maxRecDepth 100000 in
theorem mchk_any (a : Option Addr) (len cap : Nat) (T : Nat → En) (w : World) (h : EntsIn w a len cap T) :
    Calls Tryd.prog 25 #[.slice a len cap] w fun e w' => e = .returned (.int .i64 (ckN T len)) ∧ Below w.heap.size w w' := by
  have HE := aside h
  obtain ⟨hlc, hcm, -⟩ := h
  have hmx : (len : Int) ≤ 9223372036854775807 := by unfold maxLen at hcm; omega
  clear hlc hcm
  go_enter Tryd.func25, Tryd.ntmps25
  go_wp2
  go_loopw [8] (fun i wr => ∃ j : Nat, i = .int .i64 (j : Int) ∧ j ≤ len ∧ Hid (ckN T j = 0) ∧ Below w.heap.size w wr) (fun i _ => len - (intOf i).toNat)
  case atStart => exact ⟨0, rfl, Nat.zero_le _, rfl, Below.refl _ _⟩
  case round =>
    obtain ⟨j, rfl, hj, HC, hB⟩ := hrel
    have HB := aside hB
    clear hB
    by_cases hlt : (j : Int) < (len : Int)
    · have hE := HE.out.keep HB.out
      rcases hE.2.2 with h0 | ⟨b, off, rfl, hb, hc⟩
      · omega
      obtain ⟨⟨c0, c1, c2, c3, c4⟩, -⟩ := hc j (by omega)
      obtain ⟨q, hq⟩ : ∃ q, (T j).chk = q := ⟨_, rfl⟩
      have HQ := aside hq
      have hj0 : (0 : Int) ≤ (j : Int) := by omega
      have HCC := aside hc
      clear hc hE
      obtain ⟨t, ht⟩ : ∃ t, T j = t := ⟨_, rfl⟩
      have HT := aside ht
      rw [ht] at c0 c1 c2 c3 c4 hq
      have CQ := aside (fun W => chk_of t W hq _ ichk_any)
      clear ht hq
      by_cases hq0 : q = 0
      · subst hq0
        go_wp2_with fail
        refine (CQ.out _).mono ?_
        rintro e w1 ⟨rfl, b1⟩
        have B2 := aside (HB.out.trans ((bthen (bnew wr (.cells #[.string t.k, .int .i64 t.c, .int .i64 t.n, .string t.v, .bool t.d] 55)) b1).mono HB.out.size))
        have kb := blk_on (heap_alloc_new wr (.cells #[.string t.k, .int .i64 t.c, .int .i64 t.n, .string t.v, .bool t.d] 55)) b1
        obtain ⟨⟨e0, -⟩, -⟩ := box5 kb
        generalize wr.heap.size = g at *
        have HC2 := aside (fun (i : Nat) (hi : i < len) => cell_in (HCC.out i hi).1.1 (bthen (bnew wr _) b1))
        clear b1 c0 c1 c2 c3 c4 kb CQ HCC
        cases j with
        | zero =>
          go_wp2_with fail
          refine wp_region_held_drew (S := fun W => Below w.heap.size w W) (by kernel_rfl) B2.out.drew (fun hHeld => ?_)
          refine wpAnyH_take (i := 0) (v := ?_) rfl (by kernel_rfl) (by kernel_rfl) (by kernel_rfl) (fun _ _ _ h => h) (Or.inl ⟨by rfl, ?_⟩) (by assumption) ?_
          rotate_left
          · intro w hSw
            go_simp
            try with_reducible rfl
          simp only [Act.put, List.getElem_toArray, List.getElem_cons_zero, List.setIfInBounds_toArray, List.set_cons_zero, List.set_cons_succ]
          refine wpAnyH_take (i := 1) (v := ?_) rfl (by kernel_rfl) (by kernel_rfl) (by kernel_rfl) (fun _ _ _ h => h) (Or.inl ⟨by rfl, ?_⟩) (by assumption) ?_
          rotate_left
          · intro w hSw
            go_simp
            try with_reducible rfl
          simp only [Act.put, List.getElem_toArray, List.getElem_cons_zero, List.getElem_cons_succ, List.setIfInBounds_toArray, List.set_cons_zero, List.set_cons_succ]
          refine wpAnyH_take (i := 2) (v := ?_) rfl (by kernel_rfl) (by kernel_rfl) (by kernel_rfl) (fun _ _ _ h => h) (Or.inl ⟨by rfl, ?_⟩) (by assumption) ?_
          rotate_left
          · intro w hSw
            go_simp
            try with_reducible rfl
          simp only [Act.put, List.getElem_toArray, List.getElem_cons_zero, List.getElem_cons_succ, List.setIfInBounds_toArray, List.set_cons_zero, List.set_cons_succ]
          refine wpAnyH_take (i := 3) (v := undef) rfl (by kernel_rfl) (by kernel_rfl) (by kernel_rfl) (fun _ _ _ h => h) (Or.inr ⟨by rfl, rfl⟩) (by assumption) ?_
          simp only [Act.put, List.getElem_toArray, List.getElem_cons_zero, List.getElem_cons_succ, List.setIfInBounds_toArray, List.set_cons_zero, List.set_cons_succ]
          refine wpAnyH_take (i := 4) (v := undef) rfl (by kernel_rfl) (by kernel_rfl) (by kernel_rfl) (fun _ _ _ h => h) (Or.inr ⟨by rfl, rfl⟩) (by assumption) ?_
          simp only [Act.put, List.getElem_toArray, List.getElem_cons_zero, List.getElem_cons_succ, List.setIfInBounds_toArray, List.set_cons_zero, List.set_cons_succ]
          refine wpAnyH_take (i := 5) (v := undef) rfl (by kernel_rfl) (by kernel_rfl) (by kernel_rfl) (fun _ _ _ h => h) (Or.inr ⟨by rfl, rfl⟩) (by assumption) ?_
          simp only [Act.put, List.getElem_toArray, List.getElem_cons_zero, List.getElem_cons_succ, List.setIfInBounds_toArray, List.set_cons_zero, List.set_cons_succ]
          refine wpAnyH_take (i := 6) (v := undef) rfl (by kernel_rfl) (by kernel_rfl) (by kernel_rfl) (fun _ _ _ h => h) (Or.inr ⟨by rfl, rfl⟩) (by assumption) ?_
          simp only [Act.put, List.getElem_toArray, List.getElem_cons_zero, List.getElem_cons_succ, List.setIfInBounds_toArray, List.set_cons_zero, List.set_cons_succ]
          refine wpAnyH_take (i := 7) (v := undef) rfl (by kernel_rfl) (by kernel_rfl) (by kernel_rfl) (fun _ _ _ h => h) (Or.inr ⟨by rfl, rfl⟩) (by assumption) ?_
          simp only [Act.put, List.getElem_toArray, List.getElem_cons_zero, List.getElem_cons_succ, List.setIfInBounds_toArray, List.set_cons_zero, List.set_cons_succ]
          refine wpAnyH_take (i := 8) (v := undef) rfl (by kernel_rfl) (by kernel_rfl) (by kernel_rfl) (fun _ _ _ h => h) (Or.inr ⟨by rfl, rfl⟩) (by assumption) ?_
          simp only [Act.put, List.getElem_toArray, List.getElem_cons_zero, List.getElem_cons_succ, List.setIfInBounds_toArray, List.set_cons_zero, List.set_cons_succ]
          refine wpAnyH_take (i := 9) (v := undef) rfl (by kernel_rfl) (by kernel_rfl) (by kernel_rfl) (fun _ _ _ h => h) (Or.inr ⟨by rfl, rfl⟩) (by assumption) ?_
          simp only [Act.put, List.getElem_toArray, List.getElem_cons_zero, List.getElem_cons_succ, List.setIfInBounds_toArray, List.set_cons_zero, List.set_cons_succ]
          refine wpAnyH_take (i := 10) (v := undef) rfl (by kernel_rfl) (by kernel_rfl) (by kernel_rfl) (fun _ _ _ h => h) (Or.inr ⟨by rfl, rfl⟩) (by assumption) ?_
          simp only [Act.put, List.getElem_toArray, List.getElem_cons_zero, List.getElem_cons_succ, List.setIfInBounds_toArray, List.set_cons_zero, List.set_cons_succ]
          refine wpAnyH_take (i := 11) (v := undef) rfl (by kernel_rfl) (by kernel_rfl) (by kernel_rfl) (fun _ _ _ h => h) (Or.inr ⟨by rfl, rfl⟩) (by assumption) ?_
          simp only [Act.put, List.getElem_toArray, List.getElem_cons_zero, List.getElem_cons_succ, List.setIfInBounds_toArray, List.set_cons_zero, List.set_cons_succ]
          refine wpAnyH_take (i := 12) (v := ?_) rfl (by kernel_rfl) (by kernel_rfl) (by kernel_rfl) (fun _ _ _ h => h) (Or.inl ⟨by rfl, ?_⟩) (by assumption) ?_
          rotate_left
          · intro w hSw
            go_simp
            try with_reducible rfl
          simp only [Act.put, List.getElem_toArray, List.getElem_cons_zero, List.getElem_cons_succ, List.setIfInBounds_toArray, List.set_cons_zero, List.set_cons_succ]
          refine wpAnyH_done (by kernel_rfl) ?_ _
          have B3 := aside hHeld
          clear hHeld
          go_wp2
          go_roundw
          case rel => exact ⟨1, by go_num, by omega, (ckN_step HC.out).trans (chk_first HQ.out rfl), B3.out⟩
          case measure => simp [intOf]; omega
        | succ k =>
          have d0 := HC2.out k (by omega)
          obtain ⟨u, hu⟩ : ∃ u, T k = u := ⟨_, rfl⟩
          have HU := aside hu
          rw [hu] at d0
          clear hu HC2
          have hk0 : (0 : Int) ≤ (k : Int) := by omega
          have hk1 : (k : Int) < (len : Int) := by omega
          have hk2 : (0 : Int) ≤ (k : Int) + 1 := by omega
          have hk3 : (0 : Int) < (k : Int) + 1 := by omega
          have hk4 : (k : Int) + 1 < (len : Int) := by omega
          have hw2 : IntKind.i64.wrap (k : Int) = (k : Int) := by simp only [IntKind.wrap_i64]; omega
          go_wp2_with fail
          refine wp_region_held_drew (S := fun W => Below w.heap.size w W ∧ W.cell? ⟨b, off + k * 5, none⟩ = some (.string u.k) ∧ W.cell? ⟨g, 0, none⟩ = some (.string t.k)) (by kernel_rfl) ⟨B2.out.drew, d0, e0⟩ (fun hHeld => ?_)
          refine wpAnyH_take (i := 0) (v := ?_) rfl (by kernel_rfl) (by kernel_rfl) (by kernel_rfl) (fun _ _ _ h => h) (Or.inl ⟨by rfl, ?_⟩) (by assumption) ?_
          rotate_left
          · intro w hSw
            go_simp
            try with_reducible rfl
          simp only [Act.put, List.getElem_toArray, List.getElem_cons_zero, List.setIfInBounds_toArray, List.set_cons_zero, List.set_cons_succ]
          refine wpAnyH_take (i := 1) (v := ?_) rfl (by kernel_rfl) (by kernel_rfl) (by kernel_rfl) (fun _ _ _ h => h) (Or.inl ⟨by rfl, ?_⟩) (by assumption) ?_
          rotate_left
          · intro w hSw
            go_simp
            try with_reducible rfl
          simp only [Act.put, List.getElem_toArray, List.getElem_cons_zero, List.getElem_cons_succ, List.setIfInBounds_toArray, List.set_cons_zero, List.set_cons_succ]
          refine wpAnyH_take (i := 2) (v := ?_) rfl (by kernel_rfl) (by kernel_rfl) (by kernel_rfl) (fun _ _ _ h => h) (Or.inl ⟨by rfl, ?_⟩) (by assumption) ?_
          rotate_left
          · intro w hSw
            go_simp
            try with_reducible rfl
          simp only [Act.put, List.getElem_toArray, List.getElem_cons_zero, List.getElem_cons_succ, List.setIfInBounds_toArray, List.set_cons_zero, List.set_cons_succ]
          refine wpAnyH_take (i := 3) (v := ?_) rfl (by kernel_rfl) (by kernel_rfl) (by kernel_rfl) (fun _ _ _ h => h) (Or.inl ⟨by rfl, ?_⟩) (by assumption) ?_
          rotate_left
          · intro w hSw
            go_simp
            try with_reducible rfl
          simp only [Act.put, List.getElem_toArray, List.getElem_cons_zero, List.getElem_cons_succ, List.setIfInBounds_toArray, List.set_cons_zero, List.set_cons_succ]
          refine wpAnyH_take (i := 4) (v := ?_) rfl (by kernel_rfl) (by kernel_rfl) (by kernel_rfl) (fun _ _ _ h => h) (Or.inl ⟨by rfl, ?_⟩) (by assumption) ?_
          rotate_left
          · intro w hSw
            go_simp
            try with_reducible rfl
          simp only [Act.put, List.getElem_toArray, List.getElem_cons_zero, List.getElem_cons_succ, List.setIfInBounds_toArray, List.set_cons_zero, List.set_cons_succ]
          refine wpAnyH_take (i := 5) (v := ?_) rfl (by kernel_rfl) (by kernel_rfl) (by kernel_rfl) (fun _ _ _ h => h) (Or.inl ⟨by rfl, ?_⟩) (by assumption) ?_
          rotate_left
          · intro w hSw
            go_simp
            try with_reducible rfl
          simp only [Act.put, List.getElem_toArray, List.getElem_cons_zero, List.getElem_cons_succ, List.setIfInBounds_toArray, List.set_cons_zero, List.set_cons_succ]
          refine wpAnyH_take (i := 6) (v := ?_) rfl (by kernel_rfl) (by kernel_rfl) (by kernel_rfl) (fun _ _ _ h => h) (Or.inl ⟨by rfl, ?_⟩) (by assumption) ?_
          rotate_left
          · intro w hSw
            go_simp
            try with_reducible rfl
          simp only [Act.put, List.getElem_toArray, List.getElem_cons_zero, List.getElem_cons_succ, List.setIfInBounds_toArray, List.set_cons_zero, List.set_cons_succ]
          refine wpAnyH_take (i := 7) (v := ?_) rfl (by kernel_rfl) (by kernel_rfl) (by kernel_rfl) (fun _ _ _ h => h) (Or.inl ⟨by rfl, ?_⟩) (by assumption) ?_
          rotate_left
          · intro w hSw
            go_simp
            try with_reducible rfl
          simp only [Act.put, List.getElem_toArray, List.getElem_cons_zero, List.getElem_cons_succ, List.setIfInBounds_toArray, List.set_cons_zero, List.set_cons_succ]
          refine wpAnyH_take (i := 8) (v := ?_) rfl (by kernel_rfl) (by kernel_rfl) (by kernel_rfl) (fun _ _ _ h => h) (Or.inl ⟨by rfl, ?_⟩) (by assumption) ?_
          rotate_left
          · intro w hSw
            go_simp
            try with_reducible rfl
          simp only [Act.put, List.getElem_toArray, List.getElem_cons_zero, List.getElem_cons_succ, List.setIfInBounds_toArray, List.set_cons_zero, List.set_cons_succ]
          refine wpAnyH_take (i := 9) (v := ?_) rfl (by kernel_rfl) (by kernel_rfl) (by kernel_rfl) (fun _ _ _ h => h) (Or.inl ⟨by rfl, ?_⟩) (by assumption) ?_
          rotate_left
          · intro w hSw
            go_simp
            try with_reducible rfl
          simp only [Act.put, List.getElem_toArray, List.getElem_cons_zero, List.getElem_cons_succ, List.setIfInBounds_toArray, List.set_cons_zero, List.set_cons_succ]
          refine wpAnyH_take (i := 10) (v := ?_) rfl (by kernel_rfl) (by kernel_rfl) (by kernel_rfl) (fun _ _ _ h => h) (Or.inl ⟨by rfl, ?_⟩) (by assumption) ?_
          rotate_left
          · intro w hSw
            go_simp
            try with_reducible rfl
          simp only [Act.put, List.getElem_toArray, List.getElem_cons_zero, List.getElem_cons_succ, List.setIfInBounds_toArray, List.set_cons_zero, List.set_cons_succ]
          refine wpAnyH_take (i := 11) (v := .bool (!kLt u.k t.k)) rfl (by kernel_rfl) (by kernel_rfl) (by kernel_rfl) (fun _ _ _ h => h) (Or.inl ⟨by rfl, ?_⟩) (by assumption) ?_
          · intro w hSw
            go_simp
            exact leq_eq _ _
          simp only [Act.put, List.getElem_toArray, List.getElem_cons_zero, List.getElem_cons_succ, List.setIfInBounds_toArray, List.set_cons_zero, List.set_cons_succ]
          refine wpAnyH_take (i := 12) (v := ?_) rfl (by kernel_rfl) (by kernel_rfl) (by kernel_rfl) (fun _ _ _ h => h) (Or.inl ⟨by rfl, ?_⟩) (by assumption) ?_
          rotate_left
          · intro w hSw
            go_simp
            try with_reducible rfl
          simp only [Act.put, List.getElem_toArray, List.getElem_cons_zero, List.getElem_cons_succ, List.setIfInBounds_toArray, List.set_cons_zero, List.set_cons_succ]
          refine wpAnyH_done (by kernel_rfl) ?_ _
          have B3 := aside hHeld.1
          clear hHeld hw2
          have KQ := aside (chk_rising HQ.out rfl)
          rw [HU.out, HT.out] at KQ
          cases hkk : kLt u.k t.k
          · rw [hkk] at KQ
            go_wp2
            go_ret
            exact ⟨ret_i64 ((ckN_bad HC.out (by omega) (by rw [KQ.out]; decide)).trans KQ.out).symm, B3.out⟩
          · rw [hkk] at KQ
            go_wp2
            go_roundw
            case rel => exact ⟨k + 1 + 1, by go_num, by omega, (ckN_step HC.out).trans KQ.out, B3.out⟩
            case measure => simp [intOf]; omega
      · have HQ0 := aside hq0
        go_wp2_with fail
        refine (CQ.out _).mono ?_
        rintro e w1 ⟨rfl, b1⟩
        have B2 := aside (HB.out.trans ((bthen (bnew wr (.cells #[.string t.k, .int .i64 t.c, .int .i64 t.n, .string t.v, .bool t.d] 55)) b1).mono HB.out.size))
        clear b1 CQ c0 c1 c2 c3 c4
        have hqb : (q == 0) = false := by simpa using hq0
        go_wp2
        go_ret
        have hne : (T j).chk ≠ 0 := by rw [HQ.out]; exact HQ0.out
        exact ⟨ret_i64 (by rw [ckN_bad HC.out (by omega) (by rw [ckAt_ent hne]; exact hne), ckAt_ent hne]; exact HQ.out.symm), B2.out⟩
    · have hjl : j = len := by omega
      subst hjl
      go_wp2
      go_ret
      exact ⟨ret_i64 HC.out.symm, HB.out⟩
set_option maxHeartbeats 3200000 in
set_option maxRecDepth 100000 in
theorem rchk_any (a : Option Addr) (len cap : Nat) (T : Nat → En) (w : World) (h : EntsIn w a len cap T) :
    Calls Tryd.prog 41 #[.slice a len cap] w fun e w' => e = .returned (.int .i64 (ckN T len)) ∧ Below w.heap.size w w' := by
  have HE := aside h
  obtain ⟨hlc, hcm, -⟩ := h
  have hmx : (len : Int) ≤ 9223372036854775807 := by unfold maxLen at hcm; omega
  clear hlc hcm
  go_enter Tryd.func41, Tryd.ntmps41
  go_wp2
  go_loopw [3] (fun i wr => ∃ j : Nat, i = .int .i64 (j : Int) ∧ j ≤ len ∧ Hid (ckN T j = 0) ∧ Below w.heap.size w wr) (fun i _ => len - (intOf i).toNat)
  case atStart => exact ⟨0, rfl, Nat.zero_le _, rfl, Below.refl _ _⟩
  case round =>
    obtain ⟨j, rfl, hj, HC, hB⟩ := hrel
    have HB := aside hB
    clear hB
    by_cases hlt : (j : Int) < (len : Int)
    · have hE := HE.out.keep HB.out
      rcases hE.2.2 with h0 | ⟨b, off, rfl, hb, hc⟩
      · omega
      obtain ⟨⟨c0, c1, c2, c3, c4⟩, -⟩ := hc j (by omega)
      obtain ⟨q, hq⟩ : ∃ q, (T j).chk = q := ⟨_, rfl⟩
      have HQ := aside hq
      have hj0 : (0 : Int) ≤ (j : Int) := by omega
      have HCC := aside hc
      clear hc hE
      obtain ⟨t, ht⟩ : ∃ t, T j = t := ⟨_, rfl⟩
      have HT := aside ht
      rw [ht] at c0 c1 c2 c3 c4 hq
      have CQ := aside (fun W => chk_of t W hq _ ichkRef_any)
      clear ht hq
      by_cases hq0 : q = 0
      · subst hq0
        go_wp2_with fail
        refine (CQ.out _).mono ?_
        rintro e w1 ⟨rfl, b1⟩
        have B2 := aside (HB.out.trans (b1.mono HB.out.size))
        have e0 := cell_in c0 b1
        have HC2 := aside (fun (i : Nat) (hi : i < len) => cell_in (HCC.out i hi).1.1 b1)
        clear b1 c0 c1 c2 c3 c4  CQ HCC
        cases j with
        | zero =>
          go_wp2_with fail
          refine wp_region_held_drew (S := fun W => Below w.heap.size w W) (by kernel_rfl) B2.out.drew (fun hHeld => ?_)
          refine wpAnyH_take (i := 0) (v := ?_) rfl (by kernel_rfl) (by kernel_rfl) (by kernel_rfl) (fun _ _ _ h => h) (Or.inl ⟨by rfl, ?_⟩) (by assumption) ?_
          rotate_left
          · intro w hSw
            go_simp
            try with_reducible rfl
          simp only [Act.put, List.getElem_toArray, List.getElem_cons_zero, List.setIfInBounds_toArray, List.set_cons_zero, List.set_cons_succ]
          refine wpAnyH_take (i := 1) (v := ?_) rfl (by kernel_rfl) (by kernel_rfl) (by kernel_rfl) (fun _ _ _ h => h) (Or.inl ⟨by rfl, ?_⟩) (by assumption) ?_
          rotate_left
          · intro w hSw
            go_simp
            try with_reducible rfl
          simp only [Act.put, List.getElem_toArray, List.getElem_cons_zero, List.getElem_cons_succ, List.setIfInBounds_toArray, List.set_cons_zero, List.set_cons_succ]
          refine wpAnyH_take (i := 2) (v := ?_) rfl (by kernel_rfl) (by kernel_rfl) (by kernel_rfl) (fun _ _ _ h => h) (Or.inl ⟨by rfl, ?_⟩) (by assumption) ?_
          rotate_left
          · intro w hSw
            go_simp
            try with_reducible rfl
          simp only [Act.put, List.getElem_toArray, List.getElem_cons_zero, List.getElem_cons_succ, List.setIfInBounds_toArray, List.set_cons_zero, List.set_cons_succ]
          refine wpAnyH_take (i := 3) (v := undef) rfl (by kernel_rfl) (by kernel_rfl) (by kernel_rfl) (fun _ _ _ h => h) (Or.inr ⟨by rfl, rfl⟩) (by assumption) ?_
          simp only [Act.put, List.getElem_toArray, List.getElem_cons_zero, List.getElem_cons_succ, List.setIfInBounds_toArray, List.set_cons_zero, List.set_cons_succ]
          refine wpAnyH_take (i := 4) (v := undef) rfl (by kernel_rfl) (by kernel_rfl) (by kernel_rfl) (fun _ _ _ h => h) (Or.inr ⟨by rfl, rfl⟩) (by assumption) ?_
          simp only [Act.put, List.getElem_toArray, List.getElem_cons_zero, List.getElem_cons_succ, List.setIfInBounds_toArray, List.set_cons_zero, List.set_cons_succ]
          refine wpAnyH_take (i := 5) (v := undef) rfl (by kernel_rfl) (by kernel_rfl) (by kernel_rfl) (fun _ _ _ h => h) (Or.inr ⟨by rfl, rfl⟩) (by assumption) ?_
          simp only [Act.put, List.getElem_toArray, List.getElem_cons_zero, List.getElem_cons_succ, List.setIfInBounds_toArray, List.set_cons_zero, List.set_cons_succ]
          refine wpAnyH_take (i := 6) (v := undef) rfl (by kernel_rfl) (by kernel_rfl) (by kernel_rfl) (fun _ _ _ h => h) (Or.inr ⟨by rfl, rfl⟩) (by assumption) ?_
          simp only [Act.put, List.getElem_toArray, List.getElem_cons_zero, List.getElem_cons_succ, List.setIfInBounds_toArray, List.set_cons_zero, List.set_cons_succ]
          refine wpAnyH_take (i := 7) (v := undef) rfl (by kernel_rfl) (by kernel_rfl) (by kernel_rfl) (fun _ _ _ h => h) (Or.inr ⟨by rfl, rfl⟩) (by assumption) ?_
          simp only [Act.put, List.getElem_toArray, List.getElem_cons_zero, List.getElem_cons_succ, List.setIfInBounds_toArray, List.set_cons_zero, List.set_cons_succ]
          refine wpAnyH_take (i := 8) (v := undef) rfl (by kernel_rfl) (by kernel_rfl) (by kernel_rfl) (fun _ _ _ h => h) (Or.inr ⟨by rfl, rfl⟩) (by assumption) ?_
          simp only [Act.put, List.getElem_toArray, List.getElem_cons_zero, List.getElem_cons_succ, List.setIfInBounds_toArray, List.set_cons_zero, List.set_cons_succ]
          refine wpAnyH_take (i := 9) (v := undef) rfl (by kernel_rfl) (by kernel_rfl) (by kernel_rfl) (fun _ _ _ h => h) (Or.inr ⟨by rfl, rfl⟩) (by assumption) ?_
          simp only [Act.put, List.getElem_toArray, List.getElem_cons_zero, List.getElem_cons_succ, List.setIfInBounds_toArray, List.set_cons_zero, List.set_cons_succ]
          refine wpAnyH_take (i := 10) (v := undef) rfl (by kernel_rfl) (by kernel_rfl) (by kernel_rfl) (fun _ _ _ h => h) (Or.inr ⟨by rfl, rfl⟩) (by assumption) ?_
          simp only [Act.put, List.getElem_toArray, List.getElem_cons_zero, List.getElem_cons_succ, List.setIfInBounds_toArray, List.set_cons_zero, List.set_cons_succ]
          refine wpAnyH_take (i := 11) (v := undef) rfl (by kernel_rfl) (by kernel_rfl) (by kernel_rfl) (fun _ _ _ h => h) (Or.inr ⟨by rfl, rfl⟩) (by assumption) ?_
          simp only [Act.put, List.getElem_toArray, List.getElem_cons_zero, List.getElem_cons_succ, List.setIfInBounds_toArray, List.set_cons_zero, List.set_cons_succ]
          refine wpAnyH_take (i := 12) (v := undef) rfl (by kernel_rfl) (by kernel_rfl) (by kernel_rfl) (fun _ _ _ h => h) (Or.inr ⟨by rfl, rfl⟩) (by assumption) ?_
          simp only [Act.put, List.getElem_toArray, List.getElem_cons_zero, List.getElem_cons_succ, List.setIfInBounds_toArray, List.set_cons_zero, List.set_cons_succ]
          refine wpAnyH_take (i := 13) (v := undef) rfl (by kernel_rfl) (by kernel_rfl) (by kernel_rfl) (fun _ _ _ h => h) (Or.inr ⟨by rfl, rfl⟩) (by assumption) ?_
          simp only [Act.put, List.getElem_toArray, List.getElem_cons_zero, List.getElem_cons_succ, List.setIfInBounds_toArray, List.set_cons_zero, List.set_cons_succ]
          refine wpAnyH_take (i := 14) (v := undef) rfl (by kernel_rfl) (by kernel_rfl) (by kernel_rfl) (fun _ _ _ h => h) (Or.inr ⟨by rfl, rfl⟩) (by assumption) ?_
          simp only [Act.put, List.getElem_toArray, List.getElem_cons_zero, List.getElem_cons_succ, List.setIfInBounds_toArray, List.set_cons_zero, List.set_cons_succ]
          refine wpAnyH_take (i := 15) (v := ?_) rfl (by kernel_rfl) (by kernel_rfl) (by kernel_rfl) (fun _ _ _ h => h) (Or.inl ⟨by rfl, ?_⟩) (by assumption) ?_
          rotate_left
          · intro w hSw
            go_simp
            try with_reducible rfl
          simp only [Act.put, List.getElem_toArray, List.getElem_cons_zero, List.getElem_cons_succ, List.setIfInBounds_toArray, List.set_cons_zero, List.set_cons_succ]
          refine wpAnyH_done (by kernel_rfl) ?_ _
          have B3 := aside hHeld
          clear hHeld
          go_wp2
          go_roundw
          case rel => exact ⟨1, by go_num, by omega, (ckN_step HC.out).trans (chk_first HQ.out rfl), B3.out⟩
          case measure => simp [intOf]; omega
        | succ k =>
          have d0 := HC2.out k (by omega)
          obtain ⟨u, hu⟩ : ∃ u, T k = u := ⟨_, rfl⟩
          have HU := aside hu
          rw [hu] at d0
          clear hu HC2
          have hk0 : (0 : Int) ≤ (k : Int) := by omega
          have hk1 : (k : Int) < (len : Int) := by omega
          have hk2 : (0 : Int) ≤ (k : Int) + 1 := by omega
          have hk3 : (0 : Int) < (k : Int) + 1 := by omega
          have hk4 : (k : Int) + 1 < (len : Int) := by omega
          have hw2 : IntKind.i64.wrap (k : Int) = (k : Int) := by simp only [IntKind.wrap_i64]; omega
          go_wp2_with fail
          refine wp_region_held_drew (S := fun W => Below w.heap.size w W ∧ W.cell? ⟨b, off + k * 5, none⟩ = some (.string u.k) ∧ W.cell? ⟨b, off + (k + 1) * 5, none⟩ = some (.string t.k)) (by kernel_rfl) ⟨B2.out.drew, d0, e0⟩ (fun hHeld => ?_)
          refine wpAnyH_take (i := 0) (v := ?_) rfl (by kernel_rfl) (by kernel_rfl) (by kernel_rfl) (fun _ _ _ h => h) (Or.inl ⟨by rfl, ?_⟩) (by assumption) ?_
          rotate_left
          · intro w hSw
            go_simp
            try with_reducible rfl
          simp only [Act.put, List.getElem_toArray, List.getElem_cons_zero, List.setIfInBounds_toArray, List.set_cons_zero, List.set_cons_succ]
          refine wpAnyH_take (i := 1) (v := ?_) rfl (by kernel_rfl) (by kernel_rfl) (by kernel_rfl) (fun _ _ _ h => h) (Or.inl ⟨by rfl, ?_⟩) (by assumption) ?_
          rotate_left
          · intro w hSw
            go_simp
            try with_reducible rfl
          simp only [Act.put, List.getElem_toArray, List.getElem_cons_zero, List.getElem_cons_succ, List.setIfInBounds_toArray, List.set_cons_zero, List.set_cons_succ]
          refine wpAnyH_take (i := 2) (v := ?_) rfl (by kernel_rfl) (by kernel_rfl) (by kernel_rfl) (fun _ _ _ h => h) (Or.inl ⟨by rfl, ?_⟩) (by assumption) ?_
          rotate_left
          · intro w hSw
            go_simp
            try with_reducible rfl
          simp only [Act.put, List.getElem_toArray, List.getElem_cons_zero, List.getElem_cons_succ, List.setIfInBounds_toArray, List.set_cons_zero, List.set_cons_succ]
          refine wpAnyH_take (i := 3) (v := ?_) rfl (by kernel_rfl) (by kernel_rfl) (by kernel_rfl) (fun _ _ _ h => h) (Or.inl ⟨by rfl, ?_⟩) (by assumption) ?_
          rotate_left
          · intro w hSw
            go_simp
            try with_reducible rfl
          simp only [Act.put, List.getElem_toArray, List.getElem_cons_zero, List.getElem_cons_succ, List.setIfInBounds_toArray, List.set_cons_zero, List.set_cons_succ]
          refine wpAnyH_take (i := 4) (v := ?_) rfl (by kernel_rfl) (by kernel_rfl) (by kernel_rfl) (fun _ _ _ h => h) (Or.inl ⟨by rfl, ?_⟩) (by assumption) ?_
          rotate_left
          · intro w hSw
            go_simp
            try with_reducible rfl
          simp only [Act.put, List.getElem_toArray, List.getElem_cons_zero, List.getElem_cons_succ, List.setIfInBounds_toArray, List.set_cons_zero, List.set_cons_succ]
          refine wpAnyH_take (i := 5) (v := ?_) rfl (by kernel_rfl) (by kernel_rfl) (by kernel_rfl) (fun _ _ _ h => h) (Or.inl ⟨by rfl, ?_⟩) (by assumption) ?_
          rotate_left
          · intro w hSw
            go_simp
            try with_reducible rfl
          simp only [Act.put, List.getElem_toArray, List.getElem_cons_zero, List.getElem_cons_succ, List.setIfInBounds_toArray, List.set_cons_zero, List.set_cons_succ]
          refine wpAnyH_take (i := 6) (v := ?_) rfl (by kernel_rfl) (by kernel_rfl) (by kernel_rfl) (fun _ _ _ h => h) (Or.inl ⟨by rfl, ?_⟩) (by assumption) ?_
          rotate_left
          · intro w hSw
            go_simp
            try with_reducible rfl
          simp only [Act.put, List.getElem_toArray, List.getElem_cons_zero, List.getElem_cons_succ, List.setIfInBounds_toArray, List.set_cons_zero, List.set_cons_succ]
          refine wpAnyH_take (i := 7) (v := ?_) rfl (by kernel_rfl) (by kernel_rfl) (by kernel_rfl) (fun _ _ _ h => h) (Or.inl ⟨by rfl, ?_⟩) (by assumption) ?_
          rotate_left
          · intro w hSw
            go_simp
            try with_reducible rfl
          simp only [Act.put, List.getElem_toArray, List.getElem_cons_zero, List.getElem_cons_succ, List.setIfInBounds_toArray, List.set_cons_zero, List.set_cons_succ]
          refine wpAnyH_take (i := 8) (v := ?_) rfl (by kernel_rfl) (by kernel_rfl) (by kernel_rfl) (fun _ _ _ h => h) (Or.inl ⟨by rfl, ?_⟩) (by assumption) ?_
          rotate_left
          · intro w hSw
            go_simp
            try with_reducible rfl
          simp only [Act.put, List.getElem_toArray, List.getElem_cons_zero, List.getElem_cons_succ, List.setIfInBounds_toArray, List.set_cons_zero, List.set_cons_succ]
          refine wpAnyH_take (i := 9) (v := ?_) rfl (by kernel_rfl) (by kernel_rfl) (by kernel_rfl) (fun _ _ _ h => h) (Or.inl ⟨by rfl, ?_⟩) (by assumption) ?_
          rotate_left
          · intro w hSw
            go_simp
            try with_reducible rfl
          simp only [Act.put, List.getElem_toArray, List.getElem_cons_zero, List.getElem_cons_succ, List.setIfInBounds_toArray, List.set_cons_zero, List.set_cons_succ]
          refine wpAnyH_take (i := 10) (v := ?_) rfl (by kernel_rfl) (by kernel_rfl) (by kernel_rfl) (fun _ _ _ h => h) (Or.inl ⟨by rfl, ?_⟩) (by assumption) ?_
          rotate_left
          · intro w hSw
            go_simp
            try with_reducible rfl
          simp only [Act.put, List.getElem_toArray, List.getElem_cons_zero, List.getElem_cons_succ, List.setIfInBounds_toArray, List.set_cons_zero, List.set_cons_succ]
          refine wpAnyH_take (i := 11) (v := ?_) rfl (by kernel_rfl) (by kernel_rfl) (by kernel_rfl) (fun _ _ _ h => h) (Or.inl ⟨by rfl, ?_⟩) (by assumption) ?_
          rotate_left
          · intro w hSw
            go_simp
            try with_reducible rfl
          simp only [Act.put, List.getElem_toArray, List.getElem_cons_zero, List.getElem_cons_succ, List.setIfInBounds_toArray, List.set_cons_zero, List.set_cons_succ]
          refine wpAnyH_take (i := 12) (v := ?_) rfl (by kernel_rfl) (by kernel_rfl) (by kernel_rfl) (fun _ _ _ h => h) (Or.inl ⟨by rfl, ?_⟩) (by assumption) ?_
          rotate_left
          · intro w hSw
            go_simp
            try with_reducible rfl
          simp only [Act.put, List.getElem_toArray, List.getElem_cons_zero, List.getElem_cons_succ, List.setIfInBounds_toArray, List.set_cons_zero, List.set_cons_succ]
          refine wpAnyH_take (i := 13) (v := ?_) rfl (by kernel_rfl) (by kernel_rfl) (by kernel_rfl) (fun _ _ _ h => h) (Or.inl ⟨by rfl, ?_⟩) (by assumption) ?_
          rotate_left
          · intro w hSw
            go_simp
            try with_reducible rfl
          simp only [Act.put, List.getElem_toArray, List.getElem_cons_zero, List.getElem_cons_succ, List.setIfInBounds_toArray, List.set_cons_zero, List.set_cons_succ]
          refine wpAnyH_take (i := 14) (v := .bool (!kLt u.k t.k)) rfl (by kernel_rfl) (by kernel_rfl) (by kernel_rfl) (fun _ _ _ h => h) (Or.inl ⟨by rfl, ?_⟩) (by assumption) ?_
          · intro w hSw
            go_simp
            exact leq_eq _ _
          simp only [Act.put, List.getElem_toArray, List.getElem_cons_zero, List.getElem_cons_succ, List.setIfInBounds_toArray, List.set_cons_zero, List.set_cons_succ]
          refine wpAnyH_take (i := 15) (v := ?_) rfl (by kernel_rfl) (by kernel_rfl) (by kernel_rfl) (fun _ _ _ h => h) (Or.inl ⟨by rfl, ?_⟩) (by assumption) ?_
          rotate_left
          · intro w hSw
            go_simp
            try with_reducible rfl
          simp only [Act.put, List.getElem_toArray, List.getElem_cons_zero, List.getElem_cons_succ, List.setIfInBounds_toArray, List.set_cons_zero, List.set_cons_succ]
          refine wpAnyH_done (by kernel_rfl) ?_ _
          have B3 := aside hHeld.1
          clear hHeld hw2
          have KQ := aside (chk_rising HQ.out rfl)
          rw [HU.out, HT.out] at KQ
          cases hkk : kLt u.k t.k
          · rw [hkk] at KQ
            go_wp2
            go_ret
            exact ⟨ret_i64 ((ckN_bad HC.out (by omega) (by rw [KQ.out]; decide)).trans KQ.out).symm, B3.out⟩
          · rw [hkk] at KQ
            go_wp2
            go_roundw
            case rel => exact ⟨k + 1 + 1, by go_num, by omega, (ckN_step HC.out).trans KQ.out, B3.out⟩
            case measure => simp [intOf]; omega
      · have HQ0 := aside hq0
        go_wp2_with fail
        refine (CQ.out _).mono ?_
        rintro e w1 ⟨rfl, b1⟩
        have B2 := aside (HB.out.trans (b1.mono HB.out.size))
        clear b1 CQ c0 c1 c2 c3 c4
        have hqb : (q == 0) = false := by simpa using hq0
        go_wp2
        go_ret
        have hne : (T j).chk ≠ 0 := by rw [HQ.out]; exact HQ0.out
        exact ⟨ret_i64 (by rw [ckN_bad HC.out (by omega) (by rw [ckAt_ent hne]; exact hne), ckAt_ent hne]; exact HQ.out.symm), B2.out⟩
    · have hjl : j = len := by omega
      subst hjl
      go_wp2
      go_ret
      exact ⟨ret_i64 HC.out.symm, HB.out⟩
/-- What is wrong first with two lists. -/
def ck2 (A : Nat → En) (la : Nat) (B : Nat → En) (lb : Nat) : Int := if ckN A la ≠ 0 then ckN A la else ckN B lb
theorem ck2_ok {A : Nat → En} {la : Nat} {B : Nat → En} {lb : Nat} : ck2 A la B lb = 0 ↔ MapL (firstE A la) ∧ MapL (firstE B lb) := by
  rw [← ck_map, ← ck_map]
  unfold ck2
  split
  · rename_i h; exact ⟨fun e => absurd e h, fun e => absurd e.1 h⟩
  · rename_i h; exact ⟨fun e => ⟨by simpa using h, e⟩, fun e => e.2⟩
set_option maxHeartbeats 3200000 in
theorem mchk2_any (a : Option Addr) (la ca : Nat) (A : Nat → En) (b : Option Addr) (lb cb : Nat) (B : Nat → En) (w : World) (hA : EntsIn w a la ca A) (hB : EntsIn w b lb cb B) :
    Calls Tryd.prog 28 #[.slice a la ca, .slice b lb cb] w fun e w' => e = .returned (.int .i64 (ck2 A la B lb)) ∧ Below w.heap.size w w' := by
  obtain ⟨q, hq⟩ : ∃ q, ckN A la = q := ⟨_, rfl⟩
  have CA := aside (mchk_any a la ca A w hA)
  rw [hq] at CA
  have CB := aside (fun W (bb : Below w.heap.size w W) => mchk_any b lb cb B W (hB.keep bb))
  have HQ := aside hq
  clear hA hB hq
  by_cases h0 : q = 0
  · subst h0
    go_enter Tryd.func28, Tryd.ntmps28
    go_wp2_with fail
    refine CA.out.mono ?_
    rintro e w1 ⟨rfl, b1⟩
    have B1 := aside b1
    clear b1
    go_wp2_with fail
    refine (CB.out _ B1.out).mono ?_
    rintro e w2 ⟨rfl, b2⟩
    have B2 := aside (bthen B1.out b2)
    clear b2
    go_wp2
    go_ret
    exact ⟨ret_i64 (by unfold ck2; rw [if_neg (by simp [HQ.out])]), B2.out⟩
  · have h0' : (q == 0) = false := by simpa using h0
    have H0 := aside h0
    go_enter Tryd.func28, Tryd.ntmps28
    go_wp2_with fail
    refine CA.out.mono ?_
    rintro e w1 ⟨rfl, b1⟩
    have B1 := aside b1
    clear b1
    go_wp2
    go_ret
    exact ⟨ret_i64 (by unfold ck2; rw [if_pos (by rw [HQ.out]; exact H0.out)]; exact HQ.out.symm), B1.out⟩
set_option maxHeartbeats 3200000 in
theorem rchk2_any (a : Option Addr) (la ca : Nat) (A : Nat → En) (b : Option Addr) (lb cb : Nat) (B : Nat → En) (w : World) (hA : EntsIn w a la ca A) (hB : EntsIn w b lb cb B) :
    Calls Tryd.prog 35 #[.slice a la ca, .slice b lb cb] w fun e w' => e = .returned (.int .i64 (ck2 A la B lb)) ∧ Below w.heap.size w w' := by
  obtain ⟨q, hq⟩ : ∃ q, ckN A la = q := ⟨_, rfl⟩
  have CA := aside (rchk_any a la ca A w hA)
  rw [hq] at CA
  have CB := aside (fun W (bb : Below w.heap.size w W) => rchk_any b lb cb B W (hB.keep bb))
  have HQ := aside hq
  clear hA hB hq
  by_cases h0 : q = 0
  · subst h0
    go_enter Tryd.func35, Tryd.ntmps35
    go_wp2_with fail
    refine CA.out.mono ?_
    rintro e w1 ⟨rfl, b1⟩
    have B1 := aside b1
    clear b1
    go_wp2_with fail
    refine (CB.out _ B1.out).mono ?_
    rintro e w2 ⟨rfl, b2⟩
    have B2 := aside (bthen B1.out b2)
    clear b2
    go_wp2
    go_ret
    exact ⟨ret_i64 (by unfold ck2; rw [if_neg (by simp [HQ.out])]), B2.out⟩
  · have h0' : (q == 0) = false := by simpa using h0
    have H0 := aside h0
    go_enter Tryd.func35, Tryd.ntmps35
    go_wp2_with fail
    refine CA.out.mono ?_
    rintro e w1 ⟨rfl, b1⟩
    have B1 := aside b1
    clear b1
    go_wp2
    go_ret
    exact ⟨ret_i64 (by unfold ck2; rw [if_pos (by rw [HQ.out]; exact H0.out)]; exact HQ.out.symm), B1.out⟩
end Go.Proofs.YtfkdhambbpkmpaaDoor
