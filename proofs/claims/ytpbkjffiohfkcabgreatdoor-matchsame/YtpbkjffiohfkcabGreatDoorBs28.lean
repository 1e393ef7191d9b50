/-
  countEntries, CheckParts, isOpening and Check, the code's.
  What a range comes to, plain; what is stored beside a store.
  Print, and what it stands on.
  CheckParts, isOpening and Check, the code's.
  held: all that a store holds, as a list of its own.
-/
import Derived.Test.YtpbkjffiohfkcabGreatDoorBs27
import Derived.Test.YtpbkjffiohfkcabGreatDoorBs26
import Derived.Deep.Cut
import Derived.Test.YtpbkjffiohfkcabGreatDoorBs25
namespace Go.Proofs.YtpbkjffiohfkcabGreatDoor
open Go.RowKit
set_option linter.unusedVariables false
theorem set_in {w : World} {b : Nat} (k : Nat) (u : Value) {cs : Array Value} {t : TypeId} (h : w.heap[b]? = some (.cells cs t (0, 0))) : (w.setCell ⟨b, k, none⟩ u).heap[b]? = some (.cells (cs.setIfInBounds k u) t (0, 0)) := by
  simp only [World.setCell]
  rw [Array.getElem?_modify]
  simp [h]
theorem set_tri {w : World} {b : Nat} {x y z : Value} {t : TypeId} (h : w.heap[b]? = some (.cells #[x, y, z] t (0, 0))) (u v r : Value) : (((w.setCell ⟨b, 0, none⟩ u).setCell ⟨b, 1, none⟩ v).setCell ⟨b, 2, none⟩ r).heap[b]? = some (.cells #[u, v, r] t (0, 0)) := by
  have h1 := set_in 2 r (set_in 1 v (set_in 0 u h))
  simpa using h1
set_option maxHeartbeats 1600000 in
theorem count_any (a : Option Addr) (len cap : Nat) (P : Nat → Pm) (w : World) (h : PartsIn w a len cap P) (hT : totE P len ≤ 4611686018427387904) :
    Calls Tryz.prog 30 #[.slice a len cap] w fun e w' => e = .returned (.int .i64 (totE P len : Int)) ∧ Below w.heap.size w w' := by
  have HE := aside h
  have HT := aside hT
  obtain ⟨hlc, hcm, -⟩ := h
  have hmx : (len : Int) ≤ 9223372036854775807 := by unfold maxLen at hcm; omega
  clear hlc hcm hT
  go_enter Tryz.func30, Tryz.ntmps30
  go_wp2
  go_loopw [3, 8] (fun c i wr => ∃ j : Nat, c = .int .i64 (totE P j : Int) ∧ i = .int .i64 (j : Int) ∧ j ≤ len ∧ Below w.heap.size w wr) (fun c i _ => len - (intOf i).toNat)
  case atStart => exact ⟨0, rfl, rfl, Nat.zero_le _, Below.refl _ _⟩
  case round =>
    obtain ⟨j, rfl, rfl, hj, hB⟩ := hrel
    have HB := aside hB
    clear hB
    by_cases hlt : (j : Int) < (len : Int)
    · have hE := HE.out.keep HB.out
      rcases hE.2.2 with h0 | ⟨b, off, rfl, hb, hc⟩
      · omega
      obtain ⟨hat, hin⟩ := hc j (by omega)
      obtain ⟨p, hp⟩ : ∃ p, P j = p := ⟨_, rfl⟩
      have HP := aside hp
      rw [hp] at hat hin
      clear hp hc
      obtain ⟨kind, lo, hi, op, cnt, s0, s1, ea, el, ec, T⟩ := p
      obtain ⟨c0, c1, c2, c3, c4, c5, c6, c7⟩ := hat
      dsimp only at c0 c1 c2 c3 c4 c5 c6 c7
      have hj0 : (0 : Int) ≤ (j : Int) := by omega
      have hst : totE P (j + 1) = totE P j + el := by simp only [totE, HP.out]
      have HST := aside hst
      have hle : (totE P j : Int) + (el : Int) ≤ 4611686018427387904 := by have h1 := el_totE P (i := j) (n := len) (by omega); rw [HP.out] at h1; dsimp only at h1; have h2 := HT.out; omega
      have hw : IntKind.i64.wrap ((totE P j : Int) + (el : Int)) = (totE P (j + 1) : Int) := by simp only [IntKind.wrap_i64]; omega
      clear hst hle hin
      go_wp2
      go_roundw
      case rel => exact ⟨j + 1, by first | rfl | (rw [hw]), by go_num, by omega, HB.out.trans ((bnew wr _).mono HB.out.size)⟩
      case measure => simp [intOf]; omega
    · have hjl : j = len := by omega
      subst hjl
      go_wp2
      go_ret
      exact ⟨rfl, HB.out⟩
end Go.Proofs.YtpbkjffiohfkcabGreatDoor
namespace Go.Proofs.YtpbkjffiohfkcabGreatDoor
open Go.RowKit
set_option linter.unusedVariables false
theorem rev_ind {P : List En → Prop} (h0 : P []) (hs : ∀ l e, P l → P (l ++ [e])) (l : List En) : P l := by
  have h : ∀ r : List En, P r.reverse := by
    intro r
    induction r with
    | nil => exact h0
    | cons e r ih => rw [List.reverse_cons]; exact hs _ _ ih
  have := h l.reverse
  rwa [List.reverse_reverse] at this
theorem tal_a (l : List En) : (talL l).a = allI f0 l := by
  refine rev_ind (P := fun l => (talL l).a = allI f0 l) ?_ (fun l e ih => ?_) l
  · rw [allI_nil]; rfl
  · rw [talL_append, talL_one, ← tJoin_a, allI_snoc, ih, tof_a]; rfl
theorem tal_b (l : List En) : (talL l).b = allI f1 l := by
  refine rev_ind (P := fun l => (talL l).b = allI f1 l) ?_ (fun l e ih => ?_) l
  · rw [allI_nil]; rfl
  · rw [talL_append, talL_one, ← tJoin_b, allI_snoc, ih, tof_b]; rfl
theorem tal_n (l : List En) (h : l.length ≤ 1000000000) : (talL l).n = (l.length : Int) := by
  have : ∀ l : List En, l.length ≤ 1000000000 → (talL l).n = (l.length : Int) := by
    intro l
    refine rev_ind (P := fun l => l.length ≤ 1000000000 → (talL l).n = (l.length : Int)) (fun _ => rfl) (fun l e ih hl => ?_) l
    rw [List.length_append, List.length_singleton] at hl
    rw [talL_append, talL_one, ← tJoin_n, ih (by omega), tof_n, List.length_append, List.length_singleton, IntKind.wrap_i64]
    omega
  exact this l h
/-- What entries come to, in memory. -/
def tlV (t : Tl) : Value := .agg #[.int .i64 t.n, .int .u64 t.a, .int .u64 t.b]
theorem talT_tl (l : List En) (h : l.length ≤ 1000000000) : talT (nthE l) l.length = tlV (talL l) := by
  unfold talT tlV
  rw [firstE_nth, tal_n l h, tal_a, tal_b]
/-- A row of entries as a list in memory. -/
theorem own_ents {w : World} {B : Nat} {v : Value} {l : List En} (h2 : w.ownsRow B 54 5 v l.length (entCells l)) (hk : KeysOk l) : ∃ a c, v = .slice a l.length c ∧ EntsIn w a l.length c (nthE l) := by
  obtain ⟨a, c, rfl, -, -, -⟩ := own_slice h2
  rcases h2.2 with ⟨h3, h4⟩ | ⟨g, cap, cur, h3, h4⟩
  · refine ⟨a, c, rfl, ?_⟩
    simp only [Value.slice.injEq] at h3
    obtain ⟨rfl, h6, rfl⟩ := h3
    rw [h4]
    exact ⟨by omega, by unfold maxLen; omega, .inl rfl⟩
  · simp only [Value.slice.injEq] at h3
    obtain ⟨rfl, -, rfl⟩ := h3
    obtain ⟨m1, m2⟩ := row_max h2
    have := ents_of_row h2 hk (o := 0) (m := l.length) (c := c) (by omega) m1 m2 (a := some ⟨g, 0, none⟩) (.inr (by simp))
    simp only [Nat.zero_add] at this
    exact ⟨_, _, rfl, this⟩
theorem keys_in {r : Rg} {l : List En} (hm : MapL l) (q : Int) : KeysOk (outL q (inL r l)) := fun e he => by
  unfold outL at he
  split at he
  · exact key_small (hm.chk e ((List.mem_filter.1 he).1))
  · cases he
theorem fold_out {lo hi : ByteArray} {op : Bool} {l : List En} (hm : MapL l) : foldV lo hi op l = talL (outL (Rg.chk ⟨lo, hi, op⟩) (inL ⟨lo, hi, op⟩ l)) := by
  unfold foldV outL
  by_cases h : Rg.chk ⟨lo, hi, op⟩ = 0
  · rw [if_pos h, if_pos h, inL_thru h hm]
  · rw [if_neg h, if_neg h]; rfl
theorem out_len {r : Rg} {l : List En} (q : Int) : (outL q (inL r l)).length ≤ l.length := by
  unfold outL
  split
  · exact inL_len r l
  · simp
/-- A block of another kind is stored over: the store stays. -/
theorem Sto.set {w w' : World} {sb g tb : Nat} {nd ck : Int} {Ls : List En} (h : Sto w sb g tb nd ck Ls) {i : Nat} {cs : Array Value} {U : TypeId} (hi : w.heap[i]? = some (.cells cs U (0, 0))) (h1 : U ≠ 85) (h2 : U ≠ 108) (h3 : U ≠ 105) (h4 : U ≠ 116) (k : Keeps (fun x => x = i) w w') : Sto w' sb g tb nd ck Ls := by
  obtain ⟨T, n, hs, hH⟩ := h
  have hn := hs.not hi h1 h2 h3
  unfold Of at hn
  refine ⟨T, n, ⟨blk_keep hs.blk k (fun e => hn (.inl e.symm)), hs.cnt.keep k (fun b e => by cases e; exact fun e => hn (.inr (.inr e.symm))), hs.tree.keep k (fun e => hn (.inr (.inl e.symm))) (fun j cs' hj e => ?_)⟩, hH⟩
  subst e
  rw [hj] at hi
  simp only [Option.some.injEq, Obj.cells.injEq] at hi
  exact h4 hi.2.1.symm
/-- What is wrong with a range that is to be told of. -/
def prErr (r : Rg) : Int := if r.chk ≠ 0 then r.chk else if r.emp = true then 115 else 0
set_option maxHeartbeats 3200000 in
set_option maxRecDepth 100000 in
theorem rfoldS (lo hi : ByteArray) (op : Bool) {w : World} {B db : Nat} {nd ck : Int} {l : List En} (h : DSt w B db nd ck l) (hm : MapL l) (hl : l.length ≤ 1000000) :
    Calls Tryz.prog 15 #[.pointer (some ⟨db, 0, none⟩), .agg #[.string lo, .string hi, .bool op]] w fun e w' => e = .returned (.tuple #[tlV (foldV lo hi op l), .int .i64 (Rg.chk ⟨lo, hi, op⟩)]) ∧ Below w.heap.size w w' := by
  obtain ⟨q, hq⟩ : ∃ q, Rg.chk ⟨lo, hi, op⟩ = q := ⟨_, rfl⟩
  have CA := aside (fun W (bb : Below w.heap.size w W) => rallS lo hi op (h.below bb) hm hl)
  rw [fold_out hm]
  rw [hq] at CA ⊢
  have HK := aside (keys_in (r := ⟨lo, hi, op⟩) hm q)
  have HL := aside (show (outL q (inL ⟨lo, hi, op⟩ l)).length ≤ 1000000 from Nat.le_trans (out_len q) hl)
  generalize outL q (inL ⟨lo, hi, op⟩ l) = m at *
  obtain ⟨t, ht⟩ : ∃ t, talL m = t := ⟨_, rfl⟩
  have HT := aside ht
  rw [ht]
  clear hq h hm hl ht
  have BX := aside (bthen (bnew w (.cells #[.string lo, .string hi, .bool op] 24)) (bnew _ (.cells #[.int .i64 0, .int .u64 0, .int .u64 0] 32)))
  have KZ := aside (heap_alloc_new (w.alloc (.cells #[.string lo, .string hi, .bool op] 24)) (.cells #[.int .i64 0, .int .u64 0, .int .u64 0] 32))
  rw [World.size_alloc] at KZ
  go_enter Tryz.func15, Tryz.ntmps15
  go_wp2_with fail
  refine (CA.out _ BX.out).mono ?_
  rintro e w1 ⟨b1, v, rfl, ho⟩
  obtain ⟨a, c, rfl, hE⟩ := own_ents ho HK.out
  have B1 := aside (bthen BX.out b1)
  have KZ1 := aside (blk_on KZ.out b1)
  have CT := aside (tallRef_any a m.length c (nthE m) w1 hE)
  rw [talT_tl m (by have := HL.out; omega), HT.out] at CT
  clear b1 ho KZ BX CA hE
  unfold tlV at CT
  go_wp2_with fail
  refine CT.out.mono ?_
  rintro e w2 ⟨rfl, b2⟩
  have B2 := aside (bthen B1.out b2)
  have KZ2 := aside (blk_on KZ1.out b2)
  obtain ⟨fb, hfb⟩ : ∃ fb, w.heap.size = fb := ⟨_, rfl⟩
  rw [hfb] at KZ2 ⊢
  have HLE : w.heap.size ≤ fb + 1 := by omega
  clear b2 CT KZ1 B1
  obtain ⟨a0, a1, a2, hkz⟩ : ∃ a0 a1 a2 : Value, w2.heap[fb + 1]? = some (Obj.cells #[a0, a1, a2] 32 (0, 0)) := ⟨_, _, _, KZ2.out⟩
  clear KZ2
  have KZ2 := aside hkz
  clear hkz
  obtain ⟨z0, z1, z2⟩ := box3r KZ2.out
  have y0 := frozen_of_row _ _ 0 _ _ KZ2.out
  have y1 := frozen_of_row _ _ 1 _ _ KZ2.out
  have y2 := frozen_of_row _ _ 2 _ _ KZ2.out
  have KR := (set_in 2 (.int .u64 t.b) (set_in 1 (.int .u64 t.a) (set_in 0 (.int .i64 t.n) KZ2.out)))
  simp only [List.setIfInBounds_toArray, List.set_cons_zero, List.set_cons_succ] at KR
  have HKR := aside KR
  clear KR
  have KF := aside ((((Keeps.refl (fun x => x = fb + 1) w2).setCell (p := ⟨fb + 1, 0, none⟩) (fun _ => rfl) (.int .i64 t.n)).setCell (p := ⟨fb + 1, 1, none⟩) (fun _ => rfl) (.int .u64 t.a)).setCell (p := ⟨fb + 1, 2, none⟩) (fun _ => rfl) (.int .u64 t.b))
  have BF := aside ((((B2.out.setCell (p := ⟨fb + 1, 0, none⟩) HLE (.int .i64 t.n)).setCell (p := ⟨fb + 1, 1, none⟩) HLE (.int .u64 t.a)).setCell (p := ⟨fb + 1, 2, none⟩) HLE (.int .u64 t.b)))
  go_wp2
  obtain ⟨r0, r1, r2⟩ := box3r HKR.out
  exact bodyPost_ret (v := .tuple #[.agg #[.int .i64 t.n, .int .u64 t.a, .int .u64 t.b], .int .i64 q]) (by simp [results, Tryz.results15, go_sem, r0, r1, r2]) rfl ⟨rfl, BF.out⟩
end Go.Proofs.YtpbkjffiohfkcabGreatDoor
namespace Go.Proofs.YtpbkjffiohfkcabGreatDoor
open Go.RowKit
set_option linter.unusedVariables false
/-- The part that Print tells. -/
def prV (lo hi : ByteArray) (op : Bool) (t : Tl) (q : Int) : Value := if q = 0 then .agg #[.int .i64 1, .string lo, .string hi, .bool op, .int .i64 t.n, .int .u64 t.a, .int .u64 t.b, .slice none 0 0] else .agg #[.int .i64 0, .string ⟨#[]⟩, .string ⟨#[]⟩, .bool false, .int .i64 0, .int .u64 0, .int .u64 0, .slice none 0 0]
set_option maxHeartbeats 3200000 in
set_option maxRecDepth 100000 in
theorem printOf_any (lo hi : ByteArray) (op : Bool) {w : World} {sb g tb : Nat} {nd ck : Int} {Ls : List En} (h : Sto w sb g tb nd ck Ls) (L : Lanes w) (hl : Ls.length ≤ 1000000) :
    Calls Tryz.prog 18 #[.pointer (some ⟨sb, 0, none⟩), .agg #[.string lo, .string hi, .bool op]] w fun e w' => e = .returned (.agg #[.int .i64 1, .string lo, .string hi, .bool op, .int .i64 (foldV lo hi op Ls).n, .int .u64 (foldV lo hi op Ls).a, .int .u64 (foldV lo hi op Ls).b, .slice none 0 0]) ∧ Sto w' sb g tb nd ck Ls ∧ Keeps (Of sb g tb) w w' ∧ Lanes w' := by
  have BX := aside (bthen (bnew w (.cells #[.string lo, .string hi, .bool op] 24)) (bnew _ (.cells #[.int .i64 0, .string ⟨#[]⟩, .string ⟨#[]⟩, .bool false, .int .i64 0, .int .u64 0, .int .u64 0, .slice none 0 0] 34)))
  have KR0 := aside (blk_on (heap_alloc_new w (.cells #[.string lo, .string hi, .bool op] 24)) (bnew _ (.cells #[.int .i64 0, .string ⟨#[]⟩, .string ⟨#[]⟩, .bool false, .int .i64 0, .int .u64 0, .int .u64 0, .slice none 0 0] 34)))
  have KZ := aside (heap_alloc_new (w.alloc (.cells #[.string lo, .string hi, .bool op] 24)) (.cells #[.int .i64 0, .string ⟨#[]⟩, .string ⟨#[]⟩, .bool false, .int .i64 0, .int .u64 0, .int .u64 0, .slice none 0 0] 34))
  rw [World.size_alloc] at KZ
  have CF := aside (qfold lo hi op (h.below BX.out) (L.keep BX.out) hl)
  have HX := aside (h.below BX.out)
  have HLT := aside h.lt
  generalize foldV lo hi op Ls = t at *
  clear h L hl
  go_enter Tryz.func18, Tryz.ntmps18
  go_wp2_with fail
  refine CF.out.mono ?_
  rintro e w1 ⟨rfl, s1, k1, l1⟩
  have HN1 := HX.out.not KR0.out (by decide) (by decide) (by decide)
  have HN2 := HX.out.not KZ.out (by decide) (by decide) (by decide)
  have KR1 := aside (blk_keep KR0.out k1 HN1)
  have KZ1 := aside (blk_keep KZ.out k1 HN2)
  have S1 := aside s1
  have L1 := aside l1
  have K1 := aside ((Keeps.of_below BX.out _).trans k1)
  clear s1 l1 k1 HN1 HN2 KR0 KZ CF HX BX
  obtain ⟨fb, hfb⟩ : ∃ fb, w.heap.size = fb := ⟨_, rfl⟩
  rw [hfb] at KR1 KZ1 ⊢
  obtain ⟨r0, r1, r2⟩ := box3r KR1.out
  go_upto_region 2 with fail
  clear r0 r1 r2
  have HNL : ¬ fb + 1 < w.heap.size := by omega
  have KZ2 := aside (blk_on KZ1.out (bnew w1 (.cells #[.int .i64 t.n, .int .u64 t.a, .int .u64 t.b] 32)))
  have KR2 := aside (blk_on KR1.out (bnew w1 (.cells #[.int .i64 t.n, .int .u64 t.a, .int .u64 t.b] 32)))
  have KT2 := aside (heap_alloc_new w1 (.cells #[.int .i64 t.n, .int .u64 t.a, .int .u64 t.b] 32))
  have KA := aside (K1.out.alloc (.cells #[.int .i64 t.n, .int .u64 t.a, .int .u64 t.b] 32))
  have SA := aside (S1.out.below (bnew w1 (.cells #[.int .i64 t.n, .int .u64 t.a, .int .u64 t.b] 32)))
  have LA := aside (L1.out.keep (bnew w1 (.cells #[.int .i64 t.n, .int .u64 t.a, .int .u64 t.b] 32)))
  have HL0 : ¬ 0 = fb + 1 := by omega
  clear KZ1 K1 S1 L1 KR1
  generalize w1.alloc (.cells #[.int .i64 t.n, .int .u64 t.a, .int .u64 t.b] 32) = W2 at *
  generalize w1.heap.size = tb2 at *
  obtain ⟨r0, r1, r2⟩ := box3r KR2.out
  obtain ⟨p0, p1, p2⟩ := box3r KT2.out
  obtain ⟨a0, a1, a2, a3, a4, a5, a6, a7, hkz⟩ : ∃ a0 a1 a2 a3 a4 a5 a6 a7 : Value, W2.heap[fb + 1]? = some (Obj.cells #[a0, a1, a2, a3, a4, a5, a6, a7] 34 (0, 0)) := ⟨_, _, _, _, _, _, _, _, KZ2.out⟩
  clear KZ2
  have KZ2 := aside hkz
  clear hkz
  obtain ⟨z0, z1, z2, z3, z4, z5, z6, z7⟩ := oct8 KZ2.out
  have y0 := frozen_of_row _ _ 0 _ _ KZ2.out
  have y1 := frozen_of_row _ _ 1 _ _ KZ2.out
  have y2 := frozen_of_row _ _ 2 _ _ KZ2.out
  have y3 := frozen_of_row _ _ 3 _ _ KZ2.out
  have y4 := frozen_of_row _ _ 4 _ _ KZ2.out
  have y5 := frozen_of_row _ _ 5 _ _ KZ2.out
  have y6 := frozen_of_row _ _ 6 _ _ KZ2.out
  have y7 := frozen_of_row _ _ 7 _ _ KZ2.out
  have KR := (set_in 7 (.slice none 0 0) (set_in 6 (.int .u64 t.b) (set_in 5 (.int .u64 t.a) (set_in 4 (.int .i64 t.n) (set_in 3 (.bool op) (set_in 2 (.string hi) (set_in 1 (.string lo) (set_in 0 (.int .i64 1) KZ2.out))))))))
  simp only [List.setIfInBounds_toArray, List.set_cons_zero, List.set_cons_succ] at KR
  have HKR := aside KR
  clear KR
  have KF := aside (((((((((Keeps.refl (fun x => x = fb + 1) W2).setCell (p := ⟨fb + 1, 0, none⟩) (fun _ => rfl) (.int .i64 1)).setCell (p := ⟨fb + 1, 1, none⟩) (fun _ => rfl) (.string lo)).setCell (p := ⟨fb + 1, 2, none⟩) (fun _ => rfl) (.string hi)).setCell (p := ⟨fb + 1, 3, none⟩) (fun _ => rfl) (.bool op)).setCell (p := ⟨fb + 1, 4, none⟩) (fun _ => rfl) (.int .i64 t.n)).setCell (p := ⟨fb + 1, 5, none⟩) (fun _ => rfl) (.int .u64 t.a)).setCell (p := ⟨fb + 1, 6, none⟩) (fun _ => rfl) (.int .u64 t.b)).setCell (p := ⟨fb + 1, 7, none⟩) (fun _ => rfl) (.slice none 0 0))
  have KW := aside ((((((((KA.out.setCell (p := ⟨fb + 1, 0, none⟩) (fun hh => absurd hh HNL) (.int .i64 1)).setCell (p := ⟨fb + 1, 1, none⟩) (fun hh => absurd hh HNL) (.string lo)).setCell (p := ⟨fb + 1, 2, none⟩) (fun hh => absurd hh HNL) (.string hi)).setCell (p := ⟨fb + 1, 3, none⟩) (fun hh => absurd hh HNL) (.bool op)).setCell (p := ⟨fb + 1, 4, none⟩) (fun hh => absurd hh HNL) (.int .i64 t.n)).setCell (p := ⟨fb + 1, 5, none⟩) (fun hh => absurd hh HNL) (.int .u64 t.a)).setCell (p := ⟨fb + 1, 6, none⟩) (fun hh => absurd hh HNL) (.int .u64 t.b)).setCell (p := ⟨fb + 1, 7, none⟩) (fun hh => absurd hh HNL) (.slice none 0 0))
  have SF := aside (SA.out.set KZ2.out (by decide) (by decide) (by decide) (by decide) KF.out)
  have LF := aside (LA.out.keeps KF.out (fun e => HL0 e))
  go_wp2
  clear r0 r1 r2 p0 p1 p2
  obtain ⟨r0, r1, r2, r3, r4, r5, r6, r7⟩ := oct8 HKR.out
  exact bodyPost_ret (v := .agg #[.int .i64 1, .string lo, .string hi, .bool op, .int .i64 t.n, .int .u64 t.a, .int .u64 t.b, .slice none 0 0]) (by simp [results, Tryz.results18, go_sem, r0, r1, r2, r3, r4, r5, r6, r7]) rfl ⟨rfl, SF.out, KW.out, LF.out⟩
end Go.Proofs.YtpbkjffiohfkcabGreatDoor
namespace Go.Proofs.YtpbkjffiohfkcabGreatDoor
open Go.RowKit
set_option linter.unusedVariables false
theorem part_of (p : Pm) (lo1 hi1 : ByteArray) (op1 : Bool) (w : World) (h : p.In w) {q : Int} (hq : p.chk hi1 op1 = q) : Calls Tryz.prog 31 #[.agg #[.int .i64 p.kind, .string p.lo, .string p.hi, .bool p.op, .int .i64 p.cnt, .int .u64 p.s0, .int .u64 p.s1, .slice p.ea p.el p.ec], .agg #[.string lo1, .string hi1, .bool op1]] w fun e w' => e = .returned (.int .i64 q) ∧ Below w.heap.size w w' := by
  subst hq
  exact part_any p lo1 hi1 op1 w h
theorem count_of {a : Option Addr} {len cap : Nat} {P : Nat → Pm} {w : World} (h : PartsIn w a len cap P) (hT : totE P len ≤ 4611686018427387904) {q : Nat} (hq : totE P len = q) :
    Calls Tryz.prog 30 #[.slice a len cap] w fun e w' => e = .returned (.int .i64 (q : Int)) ∧ Below w.heap.size w w' := by
  subst hq
  exact count_any a len cap P w h hT
set_option maxHeartbeats 6400000 in
set_option maxRecDepth 100000 in
theorem parts_any (a : Option Addr) (len cap : Nat) (P : Nat → Pm) (w : World) (h : PartsIn w a len cap P) (hT : totE P len ≤ 4611686018427387904) :
    Calls Tryz.prog 20 #[.slice a len cap] w fun e w' => e = .returned (.int .i64 (psChk P len)) ∧ Below w.heap.size w w' := by
  have HE := aside h
  obtain ⟨q, hq⟩ : ∃ q, totE P len = q := ⟨_, rfl⟩
  have CN := aside (count_of h hT hq)
  have HQ := aside hq
  obtain ⟨hlc, hcm, -⟩ := h
  have hmx : (len : Int) ≤ 9223372036854775807 := by unfold maxLen at hcm; omega
  clear hlc hcm hT hq
  by_cases h1 : (768 : Int) < (len : Int)
  · go_enter Tryz.func20, Tryz.ntmps20
    go_wp2
    go_ret
    exact ⟨ret_i64 (by unfold psChk; rw [if_pos (.inl (by omega))]), Below.refl _ _⟩
  · by_cases h2 : (256 : Int) < (q : Int)
    · go_enter Tryz.func20, Tryz.ntmps20
      go_wp2_with fail
      refine CN.out.mono ?_
      rintro e w1 ⟨rfl, b1⟩
      have B1 := aside b1
      clear b1
      go_wp2
      go_ret
      exact ⟨ret_i64 (by unfold psChk; rw [if_pos (.inr (by rw [HQ.out]; omega))]), B1.out⟩
    · go_enter Tryz.func20, Tryz.ntmps20
      go_wp2_with fail
      refine CN.out.mono ?_
      rintro e w1 ⟨rfl, b1⟩
      have HPS := aside (show psChk P len = ptN P len from by unfold psChk; rw [if_neg (by rw [HQ.out]; omega)])
      have B1 := aside (bthen b1 (bnew w1 (.cells #[.string ⟨#[]⟩, .string ⟨#[]⟩, .bool false] 24)))
      have KR := aside (heap_alloc_new w1 (.cells #[.string ⟨#[]⟩, .string ⟨#[]⟩, .bool false] 24))
      have HAB := aside b1.size
      clear b1 CN
      go_wp2
      obtain ⟨ab, hab⟩ : ∃ ab, w1.heap.size = ab := ⟨_, rfl⟩
      rw [hab] at KR HAB ⊢
      clear hab
      generalize w1.alloc (.cells #[.string ⟨#[]⟩, .string ⟨#[]⟩, .bool false] 24) = X0 at B1 KR ⊢
      go_loopw [17] (fun i wr => ∃ j : Nat, i = .int .i64 (j : Int) ∧ j ≤ len ∧ Hid (ptN P j = 0) ∧ Below w.heap.size w wr ∧ Hid (wr.heap[ab]? = some (.cells #[.string (ahLo P j), .string (ahHi P j), .bool (ahOp P j)] 24 (0, 0)))) (fun i _ => len - (intOf i).toNat)
      case atStart => exact ⟨0, rfl, Nat.zero_le _, rfl, B1.out, KR.out⟩
      case round =>
        obtain ⟨j, rfl, hj, HC, hB, HR⟩ := hrel
        have HB := aside hB
        clear hB
        by_cases hlt : (j : Int) < (len : Int)
        · have hE := HE.out.keep HB.out
          rcases hE.2.2 with h0 | ⟨b, off, rfl, hb, hc⟩
          · omega
          obtain ⟨hat, hin⟩ := hc j (by omega)
          obtain ⟨p, hp⟩ : ∃ p, P j = p := ⟨_, rfl⟩
          have HP := aside hp
          rw [hp] at hat hin
          clear hp hc
          obtain ⟨kind, lo, hi, op, cnt, s0, s1, ea, el, ec, T⟩ := p
          obtain ⟨c0, c1, c2, c3, c4, c5, c6, c7⟩ := hat
          dsimp only at c0 c1 c2 c3 c4 c5 c6 c7
          have hj0 : (0 : Int) ≤ (j : Int) := by omega
          obtain ⟨q2, hq2⟩ : ∃ q2, ptAt P j = q2 := ⟨_, rfl⟩
          have HQ2 := aside hq2
          obtain ⟨rl, hrl⟩ : ∃ rl, ahLo P j = rl := ⟨_, rfl⟩
          obtain ⟨rh, hrh⟩ : ∃ rh, ahHi P j = rh := ⟨_, rfl⟩
          obtain ⟨ro, hro⟩ : ∃ ro, ahOp P j = ro := ⟨_, rfl⟩
          unfold ptAt at hq2
          rw [HP.out, hrh, hro] at hq2
          rw [hrl, hrh, hro] at HR
          have CQ := aside (fun W (bb : Below wr.heap.size wr W) => part_of ⟨kind, lo, hi, op, cnt, s0, s1, ea, el, ec, T⟩ rl rh ro W (hin.keep bb) hq2)
          clear hq2 hrl hrh hro hin
          obtain ⟨r0, r1, r2, -⟩ := tri (blk_on HR.out (bnew wr (.cells #[.int .i64 kind, .string lo, .string hi, .bool op, .int .i64 cnt, .int .u64 s0, .int .u64 s1, .slice ea el ec] 34)))
          by_cases hq0 : q2 = 0
          · subst hq0
            go_wp2_with fail
            refine (CQ.out _ (bnew wr _)).mono ?_
            rintro e w2 ⟨rfl, b2⟩
            have B2 := aside (HB.out.trans ((bthen (bnew wr (.cells #[.int .i64 kind, .string lo, .string hi, .bool op, .int .i64 cnt, .int .u64 s0, .int .u64 s1, .slice ea el ec] 34)) b2).mono HB.out.size))
            have HR2 := aside (blk_on HR.out (bthen (bnew wr (.cells #[.int .i64 kind, .string lo, .string hi, .bool op, .int .i64 cnt, .int .u64 s0, .int .u64 s1, .slice ea el ec] 34)) b2))
            obtain ⟨-, p1, p2, p3, -⟩ := oct8 (blk_on (heap_alloc_new wr (.cells #[.int .i64 kind, .string lo, .string hi, .bool op, .int .i64 cnt, .int .u64 s0, .int .u64 s1, .slice ea el ec] 34)) b2)
            clear r0 r1 r2
            obtain ⟨r0, r1, r2, z0, z1, z2⟩ := tri HR2.out
            clear b2 CQ c0 c1 c2 c3 c4 c5 c6 c7
            go_wp2
            go_roundw
            case rel => exact ⟨j + 1, by go_num, by omega, (ptN_step HC.out).trans HQ2.out, ((B2.out.setCell (by simpa using HAB.out) _).setCell (by simpa using HAB.out) _).setCell (by simpa using HAB.out) _, by
                have h9 := set_tri HR2.out (.string lo) (.string hi) (.bool op)
                simp only [ahLo, ahHi, ahOp, HP.out]
                exact h9⟩
            case measure => simp [intOf]; omega
          · have HQ0 := aside hq0
            go_wp2_with fail
            refine (CQ.out _ (bnew wr _)).mono ?_
            rintro e w2 ⟨rfl, b2⟩
            have B2 := aside (HB.out.trans ((bthen (bnew wr (.cells #[.int .i64 kind, .string lo, .string hi, .bool op, .int .i64 cnt, .int .u64 s0, .int .u64 s1, .slice ea el ec] 34)) b2).mono HB.out.size))
            clear b2 CQ c0 c1 c2 c3 c4 c5 c6 c7 r0 r1 r2
            have hqb : (q2 == 0) = false := by simpa using hq0
            go_wp2
            go_ret
            exact ⟨ret_i64 (by rw [HPS.out, ptN_bad HC.out (by omega) (by rw [HQ2.out]; exact HQ0.out)]; exact HQ2.out.symm), B2.out⟩
        · have hjl : j = len := by omega
          subst hjl
          go_wp2
          go_ret
          exact ⟨ret_i64 (by rw [HPS.out]; exact HC.out.symm), HB.out⟩
end Go.Proofs.YtpbkjffiohfkcabGreatDoor
namespace Go.Proofs.YtpbkjffiohfkcabGreatDoor
open Go.RowKit Go.Shelf
set_option linter.unusedVariables false
attribute [local go_sem] Oper.semAt_some
theorem kLt_none (x : ByteArray) : kLt x ⟨#[]⟩ = false := by
  have h : (⟨#[]⟩ : ByteArray).toList = [] := by kernel_rfl
  unfold kLt
  rw [h]
  cases x.toList <;> rfl
/-- A list of entries in the variable at vb, its row laid from B on. -/
structure LstE (B : Nat) (vb : Nat) (l : List En) (X : World) : Prop where
  ex : ∃ v, X.heap[vb]? = some (.cells #[v] 22 (0, 0)) ∧ X.ownsRow B 54 5 v l.length (entCells l)
theorem ownsRow_own {A B' : World} {row : Option Nat} {base : Nat} {e : TypeId} {size : Nat} {v : Value} {n : Nat} {xs : List Value} (h : A.ownsRow base e size v n xs) (hg : A.grownBy B' row) (hr : ∀ r, row = some r → ∃ o : Obj, A.heap[r]? = some o ∧ o.isCells = false) : B'.ownsRow base e size v n xs := by
  refine ⟨h.1, ?_⟩
  rcases h.2 with hn | ⟨g, cap, cur, rfl, hb, hgk, r⟩
  · exact .inl hn
  · exact .inr ⟨g, cap, cur, rfl, hb, cells_own hgk hg hr, r⟩
theorem LstE.own {B vb : Nat} {l : List En} {A X : World} {row : Option Nat} (h : LstE B vb l A) (hg : A.grownBy X row) (hr : ∀ r, row = some r → ∃ o : Obj, A.heap[r]? = some o ∧ o.isCells = false) : LstE B vb l X := by
  obtain ⟨v, h1, h2⟩ := h.ex
  exact ⟨v, cells_own h1 hg hr, ownsRow_own h2 hg hr⟩
end Go.Proofs.YtpbkjffiohfkcabGreatDoor
