/-
  countEntries, CheckParts, isOpening and Check, the code's.
-/
import Derived.Test.YtpbkjffiohfkcaaGreatDoorBt21
import Derived.Test.YtpbkjffiohfkcaaGreatDoorBt20
import Derived.Test.YtpbkjffiohfkcaaGreatDoorBt15
import Derived.Test.YtpbkjffiohfkcaaGreatDoorBt16
import Derived.Test.YtpbkjffiohfkcaaGreatDoorBt17
import Derived.Test.YtpbkjffiohfkcaaGreatDoorBt1
namespace Go.Proofs.YtpbkjffiohfkcaaGreatDoor
open Go.RowKit
set_option linter.unusedVariables false
theorem set_in {w : World} {b : Nat} (k : Nat) (u : Value) {cs : Array Value} {t : TypeId} (h : w.heap[b]? = some (.cells cs t (0, 0))) : (w.setCell ⟨b, k, none⟩ u).heap[b]? = some (.cells (cs.setIfInBounds k u) t (0, 0)) := by
 simp only [World.setCell]
 rw [Array.getElem?_modify]
 simp [h]
theorem set_tri {w : World} {b : Nat} {x y z : Value} {t : TypeId} (h : w.heap[b]? = some (.cells #[x, y, z] t (0, 0))) (u v r : Value) : (((w.setCell ⟨b, 0, none⟩ u).setCell ⟨b, 1, none⟩ v).setCell ⟨b, 2, none⟩ r).heap[b]? = some (.cells #[u, v, r] t (0, 0)) := by
 have h1 := set_in 2 r (set_in 1 v (set_in 0 u h))
 simpa using h1
set_option maxHeartbeats 1600000 in
theorem count_any (a : Option Addr) (len cap : Nat) (P : Nat → Pm) (w : World) (h : PartsIn w a len cap P) (hT : totE P len ≤ 4611686018427387904) :
    Calls Tryz.prog 42 #[.slice a len cap] w fun e w' => e = .returned (.int .i64 (totE P len : Int)) ∧ Below w.heap.size w w' := by
 have HE := aside h
 have HT := aside hT
 obtain ⟨hlc, hcm, -⟩ := h
 have hmx : (len : Int) ≤ 9223372036854775807 := by unfold maxLen at hcm; omega
 clear hlc hcm hT
 go_enter Tryz.func42, Tryz.ntmps42
 go_wp2
 go_loopw [3, 8] (fun c i wr => ∃ j : Nat, c = .int .i64 (totE P j : Int) ∧ i = .int .i64 (j : Int) ∧ j ≤ len ∧ Below w.heap.size w wr) (fun c i _ => len - (intOf i).toNat)
 case atStart => exact ⟨0, rfl, rfl, Nat.zero_le _, Below.refl _ _⟩
 case round =>
  obtain ⟨j, rfl, rfl, hj, hB⟩ := hrel
  have HB := aside hB
  clear hB
  by_cases hlt : (j : Int) < (len : Int)
  ·have hE := HE.out.keep HB.out
   rcases hE.2.2 with h0 | ⟨b, off, rfl, hb, hc⟩
   ·omega
   obtain ⟨hat, hin⟩ := hc j (by omega)
   obtain ⟨p, hp⟩ : ∃ p, P j = p := ⟨_, rfl⟩
   have HP := aside hp
   rw [hp] at hat hin
   clear hp hc
   obtain ⟨kind, lo, hi, op, cnt, s0, s1, ea, el, ec, T⟩ := p
   obtain ⟨c0, c1, c2, c3, c4, c5, c6, c7⟩ := hat
   dsimp only at c0 c1 c2 c3 c4 c5 c6 c7
   have hj0 : (0 : Int) ≤ (j : Int) := by omega
   have hst : totE P (j + 1) = totE P j + el := by simp only [totE, HP.out]
   have HST := aside hst
   have hle : (totE P j : Int) + (el : Int) ≤ 4611686018427387904 := by have h1 := el_totE P (i := j) (n := len) (by omega); rw [HP.out] at h1; dsimp only at h1; have h2 := HT.out; omega
   have hw : IntKind.i64.wrap ((totE P j : Int) + (el : Int)) = (totE P (j + 1) : Int) := by simp only [IntKind.wrap_i64]; omega
   clear hst hle hin
   go_wp2
   go_roundw
   case rel => exact ⟨j + 1, by first | rfl | (rw [hw]), by go_num, by omega, HB.out.trans ((bnew wr _).mono HB.out.size)⟩
   case measure => simp [intOf]; omega
  ·have hjl : j = len := by omega
   subst hjl
   go_wp2
   go_ret
   exact ⟨rfl, HB.out⟩
theorem rev_ind {P : List En → Prop} (h0 : P []) (hs : ∀ l e, P l → P (l ++ [e])) (l : List En) : P l := by
 have h : ∀ r : List En, P r.reverse := by
  intro r
  induction r with
  | nil => exact h0
  | cons e r ih => rw [List.reverse_cons]; exact hs _ _ ih
 have := h l.reverse
 rwa [List.reverse_reverse] at this
theorem tal_a (l : List En) : (talL l).a = allI f0 l := by
 refine rev_ind (P := fun l => (talL l).a = allI f0 l) ?_ (fun l e ih => ?_) l
 ·rw [allI_nil]; rfl
 ·rw [talL_append, talL_one, ← tJoin_a, allI_snoc, ih, tof_a]; rfl
theorem tal_b (l : List En) : (talL l).b = allI f1 l := by
 refine rev_ind (P := fun l => (talL l).b = allI f1 l) ?_ (fun l e ih => ?_) l
 ·rw [allI_nil]; rfl
 ·rw [talL_append, talL_one, ← tJoin_b, allI_snoc, ih, tof_b]; rfl
theorem tal_n (l : List En) (h : l.length ≤ 1000000000) : (talL l).n = (l.length : Int) := by
 have : ∀ l : List En, l.length ≤ 1000000000 → (talL l).n = (l.length : Int) := by
  intro l
  refine rev_ind (P := fun l => l.length ≤ 1000000000 → (talL l).n = (l.length : Int)) (fun _ => rfl) (fun l e ih hl => ?_) l
  rw [List.length_append, List.length_singleton] at hl
  rw [talL_append, talL_one, ← tJoin_n, ih (by omega), tof_n, List.length_append, List.length_singleton, IntKind.wrap_i64]
  omega
 exact this l h
def tlV (t : Tl) : Value := .agg #[.int .i64 t.n, .int .u64 t.a, .int .u64 t.b]
theorem talT_tl (l : List En) (h : l.length ≤ 1000000000) : talT (nthE l) l.length = tlV (talL l) := by
 unfold talT tlV
 rw [firstE_nth, tal_n l h, tal_a, tal_b]
theorem own_ents {w : World} {B : Nat} {v : Value} {l : List En} (h2 : w.ownsRow B 77 5 v l.length (entCells l)) (hk : KeysOk l) : ∃ a c, v = .slice a l.length c ∧ EntsIn w a l.length c (nthE l) := by
 obtain ⟨a, c, rfl, -, -, -⟩ := own_slice h2
 rcases h2.2 with ⟨h3, h4⟩ | ⟨g, cap, cur, h3, h4⟩
 ·refine ⟨a, c, rfl, ?_⟩
  simp only [Value.slice.injEq] at h3
  obtain ⟨rfl, h6, rfl⟩ := h3
  rw [h4]
  exact ⟨by omega, by unfold maxLen; omega, .inl rfl⟩
 ·simp only [Value.slice.injEq] at h3
  obtain ⟨rfl, -, rfl⟩ := h3
  obtain ⟨m1, m2⟩ := row_max h2
  have := ents_of_row h2 hk (o := 0) (m := l.length) (c := c) (by omega) m1 m2 (a := some ⟨g, 0, none⟩) (.inr (by simp))
  simp only [Nat.zero_add] at this
  exact ⟨_, _, rfl, this⟩
theorem keys_in {r : Rg} {l : List En} (hm : MapL l) (q : Int) : KeysOk (outL q (inL r l)) := fun e he => by
 unfold outL at he
 split at he
 ·exact key_small (hm.chk e ((List.mem_filter.1 he).1))
 ·cases he
theorem fold_out {lo hi : ByteArray} {op : Bool} {l : List En} (hm : MapL l) : foldV lo hi op l = talL (outL (Rg.chk ⟨lo, hi, op⟩) (inL ⟨lo, hi, op⟩ l)) := by
 unfold foldV outL
 by_cases h : Rg.chk ⟨lo, hi, op⟩ = 0
 ·rw [if_pos h, if_pos h, inL_thru h hm]
 ·rw [if_neg h, if_neg h]; rfl
theorem out_len {r : Rg} {l : List En} (q : Int) : (outL q (inL r l)).length ≤ l.length := by
 unfold outL
 split
 ·exact inL_len r l
 ·simp
theorem Sto.set {w w' : World} {sb g tb : Nat} {nd ck : Int} {Ls : List En} (h : Sto w sb g tb nd ck Ls) {i : Nat} {cs : Array Value} {U : TypeId} (hi : w.heap[i]? = some (.cells cs U (0, 0))) (h1 : U ≠ 109) (h2 : U ≠ 148) (h3 : U ≠ 175) (h4 : U ≠ 172) (k : Keeps (fun x => x = i) w w') : Sto w' sb g tb nd ck Ls := by
 obtain ⟨T, n, hs, hH⟩ := h
 have hn := hs.not hi h1 h2 h3
 unfold Of at hn
 refine ⟨T, n, ⟨blk_keep hs.blk k (fun e => hn (.inl e.symm)), hs.cnt.keep k (fun b e => by cases e; exact fun e => hn (.inr (.inr e.symm))), hs.tree.keep k (fun e => hn (.inr (.inl e.symm))) (fun j cs' hj e => ?_)⟩, hH⟩
 subst e
 rw [hj] at hi
 simp only [Option.some.injEq, Obj.cells.injEq] at hi
 exact h4 hi.2.1.symm
def prErr (r : Rg) : Int := if r.chk ≠ 0 then r.chk else if r.emp = true then 115 else 0
set_option maxHeartbeats 3200000 in
set_option maxRecDepth 100000 in
theorem rfoldS (lo hi : ByteArray) (op : Bool) {w : World} {B db : Nat} {nd ck : Int} {l : List En} (h : DSt w B db nd ck l) (hm : MapL l) (hl : l.length ≤ 1000000) :
    Calls Tryz.prog 44 #[.pointer (some ⟨db, 0, none⟩), .agg #[.string lo, .string hi, .bool op]] w fun e w' => e = .returned (.tuple #[tlV (foldV lo hi op l), .int .i64 (Rg.chk ⟨lo, hi, op⟩)]) ∧ Below w.heap.size w w' := by
 obtain ⟨q, hq⟩ : ∃ q, Rg.chk ⟨lo, hi, op⟩ = q := ⟨_, rfl⟩
 have CA := aside (fun W (bb : Below w.heap.size w W) => rallS lo hi op (h.below bb) hm hl)
 rw [fold_out hm]
 rw [hq] at CA ⊢
 have HK := aside (keys_in (r := ⟨lo, hi, op⟩) hm q)
 have HL := aside (show (outL q (inL ⟨lo, hi, op⟩ l)).length ≤ 1000000 from Nat.le_trans (out_len q) hl)
 generalize outL q (inL ⟨lo, hi, op⟩ l) = m at *
 obtain ⟨t, ht⟩ : ∃ t, talL m = t := ⟨_, rfl⟩
 have HT := aside ht
 rw [ht]
 clear hq h hm hl ht
 have BX := aside (bthen (bnew w (.cells #[.string lo, .string hi, .bool op] 40)) (bnew _ (.cells #[.int .i64 0, .int .u64 0, .int .u64 0] 45)))
 have KZ := aside (heap_alloc_new (w.alloc (.cells #[.string lo, .string hi, .bool op] 40)) (.cells #[.int .i64 0, .int .u64 0, .int .u64 0] 45))
 rw [World.size_alloc] at KZ
 go_enter Tryz.func44, Tryz.ntmps44
 go_wp2_with fail
 refine (CA.out _ BX.out).mono ?_
 rintro e w1 ⟨b1, v, rfl, ho⟩
 obtain ⟨a, c, rfl, hE⟩ := own_ents ho HK.out
 have B1 := aside (bthen BX.out b1)
 have KZ1 := aside (blk_on KZ.out b1)
 have CT := aside (tallRef_any a m.length c (nthE m) w1 hE)
 rw [talT_tl m (by have := HL.out; omega), HT.out] at CT
 clear b1 ho KZ BX CA hE
 unfold tlV at CT
 go_wp2_with fail
 refine CT.out.mono ?_
 rintro e w2 ⟨rfl, b2⟩
 have B2 := aside (bthen B1.out b2)
 have KZ2 := aside (blk_on KZ1.out b2)
 obtain ⟨fb, hfb⟩ : ∃ fb, w.heap.size = fb := ⟨_, rfl⟩
 rw [hfb] at KZ2 ⊢
 have HLE : w.heap.size ≤ fb + 1 := by omega
 clear b2 CT KZ1 B1
 obtain ⟨a0, a1, a2, hkz⟩ : ∃ a0 a1 a2 : Value, w2.heap[fb + 1]? = some (Obj.cells #[a0, a1, a2] 45 (0, 0)) := ⟨_, _, _, KZ2.out⟩
 clear KZ2
 have KZ2 := aside hkz
 clear hkz
 obtain ⟨z0, z1, z2⟩ := box3r KZ2.out
 have y0 := frozen_of_row _ _ 0 _ _ KZ2.out
 have y1 := frozen_of_row _ _ 1 _ _ KZ2.out
 have y2 := frozen_of_row _ _ 2 _ _ KZ2.out
 have KR := (set_in 2 (.int .u64 t.b) (set_in 1 (.int .u64 t.a) (set_in 0 (.int .i64 t.n) KZ2.out)))
 simp only [List.setIfInBounds_toArray, List.set_cons_zero, List.set_cons_succ] at KR
 have HKR := aside KR
 clear KR
 have KF := aside ((((Keeps.refl (fun x => x = fb + 1) w2).setCell (p := ⟨fb + 1, 0, none⟩) (fun _ => rfl) (.int .i64 t.n)).setCell (p := ⟨fb + 1, 1, none⟩) (fun _ => rfl) (.int .u64 t.a)).setCell (p := ⟨fb + 1, 2, none⟩) (fun _ => rfl) (.int .u64 t.b))
 have BF := aside ((((B2.out.setCell (p := ⟨fb + 1, 0, none⟩) HLE (.int .i64 t.n)).setCell (p := ⟨fb + 1, 1, none⟩) HLE (.int .u64 t.a)).setCell (p := ⟨fb + 1, 2, none⟩) HLE (.int .u64 t.b)))
 go_wp2
 obtain ⟨r0, r1, r2⟩ := box3r HKR.out
 exact bodyPost_ret (v := .tuple #[.agg #[.int .i64 t.n, .int .u64 t.a, .int .u64 t.b], .int .i64 q]) (by simp [results, Tryz.results44, go_sem, r0, r1, r2]) rfl ⟨rfl, BF.out⟩
set_option maxHeartbeats 3200000 in
set_option maxRecDepth 100000 in
theorem collect_any {w : World} {lb : Array Value} {es : List En} (hs : SeqE w lb es) :
    Calls Tryz.prog 93 #[.func (.func 99) #[] lb] w fun r w' => ∃ v, r = .returned v ∧ w'.ownsRow w.heap.size 77 5 v es.length (entCells es) ∧ Below w.heap.size w w' := by
 have C := aside (appendSeq_any hs)
 clear hs
 go_enter Tryz.func93, Tryz.ntmps93
 go_wp2_with fail
 refine C.out.mono ?_
 rintro e w1 ⟨v, rfl, ho, b1⟩
 have HO := aside ho
 have B1 := aside b1
 clear ho b1 C
 go_wp2
 go_ret
 exact ⟨v, rfl, HO.out, B1.out⟩
set_option maxHeartbeats 3200000 in
set_option maxRecDepth 100000 in
theorem heldIn_any (lo hi : ByteArray) (op : Bool) {w : World} {sb g tb : Nat} {nd ck : Int} {Ls : List En} (h : Sto w sb g tb nd ck Ls) (hl : Ls.length ≤ 1000000) (hc : Rg.chk ⟨lo, hi, op⟩ = 0) :
    Calls Tryz.prog 59 #[.pointer (some ⟨sb, 0, none⟩), .agg #[.string lo, .string hi, .bool op]] w fun r w' => ∃ v, r = .returned v ∧ w'.ownsRow w.heap.size 77 5 v (thruL lo hi op true Ls).length (entCells (thruL lo hi op true Ls)) ∧ Below w.heap.size w w' := by
 have B0 := aside (bnew w (.cells #[.string lo, .string hi, .bool op] 40))
 have K0 := aside (heap_alloc_new w (.cells #[.string lo, .string hi, .bool op] 40))
 have CA := aside (qall lo hi op (h.below B0.out) hl)
 rw [hc] at CA
 clear h hl hc
 obtain ⟨r0, r1, r2⟩ := box3r K0.out
 go_enter Tryz.func59, Tryz.ntmps59
 go_wp2_with fail
 refine CA.out.mono ?_
 rintro e w1 ⟨b1, ⟨h0, -⟩ | ⟨-, lb, rfl, hs⟩⟩
 ·exact absurd rfl h0
 have C2 := aside (collect_any hs)
 have B1 := aside (bthen B0.out b1)
 clear b1 hs CA B0 K0 r0 r1 r2
 go_wp2_with fail
 refine C2.out.mono ?_
 rintro e w2 ⟨v, rfl, ho, b2⟩
 have HO := aside (own_low ho B1.out.size)
 have B2 := aside (bthen B1.out b2)
 clear ho b2 C2
 go_wp2
 go_ret
 exact ⟨v, rfl, HO.out, B2.out⟩
theorem Sto.str {w : World} {sb g tb : Nat} {nd ck : Int} {Ls : List En} (h : Sto w sb g tb nd ck Ls) {b k : Nat} {s : ByteArray} (hc : w.cell? ⟨b, k, none⟩ = some (.string s)) : ¬ Of sb g tb b := by
 obtain ⟨T, n, hs, -⟩ := h
 obtain ⟨p, ht, -⟩ := hs.tree
 unfold TObjE at ht
 have hb := hs.blk
 have hg := hs.cnt g rfl
 rintro (rfl | rfl | rfl)
 ·simp only [World.cell?, hb] at hc
  rcases k with _ | _ | _ | _ | k <;> simp at hc
 ·simp only [World.cell?, ht] at hc
  rcases k with _ | _ | _ | _ | _ | k <;> simp [jvE] at hc
 ·simp only [World.cell?, hg] at hc
  rcases k with _ | k <;> simp at hc
theorem EntsIn.keepS {w w' : World} {a : Option Addr} {len cap : Nat} {T : Nat → En} {sb g tb : Nat} {nd ck : Int} {Ls : List En} (h : EntsIn w a len cap T) (hs : Sto w sb g tb nd ck Ls) (k : Keeps (Of sb g tb) w w') : EntsIn w' a len cap T := by
 refine ⟨h.1, h.2.1, ?_⟩
 rcases h.2.2 with h0 | ⟨b, off, rfl, hb, hc⟩
 ·exact .inl h0
 ·refine .inr ⟨b, off, rfl, Nat.lt_of_lt_of_le hb k.size, fun i hi => ?_⟩
  obtain ⟨⟨c0, c1, c2, c3, c4⟩, hk⟩ := hc i hi
  have hn := hs.str c0
  exact ⟨⟨(k.cell hb hn).trans c0, (k.cell hb hn).trans c1, (k.cell hb hn).trans c2, (k.cell hb hn).trans c3, (k.cell hb hn).trans c4⟩, hk⟩
end Go.Proofs.YtpbkjffiohfkcaaGreatDoor
namespace Go.Proofs.YtpbkjffiohfkcaaGreatDoor
open Go.RowKit Go.Shelf
set_option linter.unusedVariables false
attribute [local go_sem] Oper.semAt_some
end Go.Proofs.YtpbkjffiohfkcaaGreatDoor
namespace Go.Proofs.YtpbkjffiohfkcaaGreatDoor
open Go.RowKit
set_option linter.unusedVariables false
theorem part_of (p : Pm) (lo1 hi1 : ByteArray) (op1 : Bool) (w : World) (h : p.In w) {q : Int} (hq : p.chk hi1 op1 = q) : Calls Tryz.prog 43 #[.agg #[.int .i64 p.kind, .string p.lo, .string p.hi, .bool p.op, .int .i64 p.cnt, .int .u64 p.s0, .int .u64 p.s1, .slice p.ea p.el p.ec], .agg #[.string lo1, .string hi1, .bool op1]] w fun e w' => e = .returned (.int .i64 q) ∧ Below w.heap.size w w' := by
 subst hq
 exact part_any p lo1 hi1 op1 w h
theorem count_of {a : Option Addr} {len cap : Nat} {P : Nat → Pm} {w : World} (h : PartsIn w a len cap P) (hT : totE P len ≤ 4611686018427387904) {q : Nat} (hq : totE P len = q) :
    Calls Tryz.prog 42 #[.slice a len cap] w fun e w' => e = .returned (.int .i64 (q : Int)) ∧ Below w.heap.size w w' := by
 subst hq
 exact count_any a len cap P w h hT
set_option maxHeartbeats 6400000 in
set_option maxRecDepth 100000 in
theorem parts_any (a : Option Addr) (len cap : Nat) (P : Nat → Pm) (w : World) (h : PartsIn w a len cap P) (hT : totE P len ≤ 4611686018427387904) :
    Calls Tryz.prog 22 #[.slice a len cap] w fun e w' => e = .returned (.int .i64 (psChk P len)) ∧ Below w.heap.size w w' := by
 have HE := aside h
 obtain ⟨q, hq⟩ : ∃ q, totE P len = q := ⟨_, rfl⟩
 have CN := aside (count_of h hT hq)
 have HQ := aside hq
 obtain ⟨hlc, hcm, -⟩ := h
 have hmx : (len : Int) ≤ 9223372036854775807 := by unfold maxLen at hcm; omega
 clear hlc hcm hT hq
 by_cases h1 : (768 : Int) < (len : Int)
 ·go_enter Tryz.func22, Tryz.ntmps22
  go_wp2
  go_ret
  exact ⟨ret_i64 (by unfold psChk; rw [if_pos (.inl (by omega))]), Below.refl _ _⟩
 ·by_cases h2 : (256 : Int) < (q : Int)
  ·go_enter Tryz.func22, Tryz.ntmps22
   go_wp2_with fail
   refine CN.out.mono ?_
   rintro e w1 ⟨rfl, b1⟩
   have B1 := aside b1
   clear b1
   go_wp2
   go_ret
   exact ⟨ret_i64 (by unfold psChk; rw [if_pos (.inr (by rw [HQ.out]; omega))]), B1.out⟩
  ·go_enter Tryz.func22, Tryz.ntmps22
   go_wp2_with fail
   refine CN.out.mono ?_
   rintro e w1 ⟨rfl, b1⟩
   have HPS := aside (show psChk P len = ptN P len from by unfold psChk; rw [if_neg (by rw [HQ.out]; omega)])
   have B1 := aside (bthen b1 (bnew w1 (.cells #[.string ⟨#[]⟩, .string ⟨#[]⟩, .bool false] 40)))
   have KR := aside (heap_alloc_new w1 (.cells #[.string ⟨#[]⟩, .string ⟨#[]⟩, .bool false] 40))
   have HAB := aside b1.size
   clear b1 CN
   go_wp2
   obtain ⟨ab, hab⟩ : ∃ ab, w1.heap.size = ab := ⟨_, rfl⟩
   rw [hab] at KR HAB ⊢
   clear hab
   generalize w1.alloc (.cells #[.string ⟨#[]⟩, .string ⟨#[]⟩, .bool false] 40) = X0 at B1 KR ⊢
   go_loopw [17] (fun i wr => ∃ j : Nat, i = .int .i64 (j : Int) ∧ j ≤ len ∧ Hid (ptN P j = 0) ∧ Below w.heap.size w wr ∧ Hid (wr.heap[ab]? = some (.cells #[.string (ahLo P j), .string (ahHi P j), .bool (ahOp P j)] 40 (0, 0)))) (fun i _ => len - (intOf i).toNat)
   case atStart => exact ⟨0, rfl, Nat.zero_le _, rfl, B1.out, KR.out⟩
   case round =>
    obtain ⟨j, rfl, hj, HC, hB, HR⟩ := hrel
    have HB := aside hB
    clear hB
    by_cases hlt : (j : Int) < (len : Int)
    ·have hE := HE.out.keep HB.out
     rcases hE.2.2 with h0 | ⟨b, off, rfl, hb, hc⟩
     ·omega
     obtain ⟨hat, hin⟩ := hc j (by omega)
     obtain ⟨p, hp⟩ : ∃ p, P j = p := ⟨_, rfl⟩
     have HP := aside hp
     rw [hp] at hat hin
     clear hp hc
     obtain ⟨kind, lo, hi, op, cnt, s0, s1, ea, el, ec, T⟩ := p
     obtain ⟨c0, c1, c2, c3, c4, c5, c6, c7⟩ := hat
     dsimp only at c0 c1 c2 c3 c4 c5 c6 c7
     have hj0 : (0 : Int) ≤ (j : Int) := by omega
     obtain ⟨q2, hq2⟩ : ∃ q2, ptAt P j = q2 := ⟨_, rfl⟩
     have HQ2 := aside hq2
     obtain ⟨rl, hrl⟩ : ∃ rl, ahLo P j = rl := ⟨_, rfl⟩
     obtain ⟨rh, hrh⟩ : ∃ rh, ahHi P j = rh := ⟨_, rfl⟩
     obtain ⟨ro, hro⟩ : ∃ ro, ahOp P j = ro := ⟨_, rfl⟩
     unfold ptAt at hq2
     rw [HP.out, hrh, hro] at hq2
     rw [hrl, hrh, hro] at HR
     have CQ := aside (fun W (bb : Below wr.heap.size wr W) => part_of ⟨kind, lo, hi, op, cnt, s0, s1, ea, el, ec, T⟩ rl rh ro W (hin.keep bb) hq2)
     clear hq2 hrl hrh hro hin
     obtain ⟨r0, r1, r2, -⟩ := tri (blk_on HR.out (bnew wr (.cells #[.int .i64 kind, .string lo, .string hi, .bool op, .int .i64 cnt, .int .u64 s0, .int .u64 s1, .slice ea el ec] 47)))
     by_cases hq0 : q2 = 0
     ·subst hq0
      go_wp2_with fail
      refine (CQ.out _ (bnew wr _)).mono ?_
      rintro e w2 ⟨rfl, b2⟩
      have B2 := aside (HB.out.trans ((bthen (bnew wr (.cells #[.int .i64 kind, .string lo, .string hi, .bool op, .int .i64 cnt, .int .u64 s0, .int .u64 s1, .slice ea el ec] 47)) b2).mono HB.out.size))
      have HR2 := aside (blk_on HR.out (bthen (bnew wr (.cells #[.int .i64 kind, .string lo, .string hi, .bool op, .int .i64 cnt, .int .u64 s0, .int .u64 s1, .slice ea el ec] 47)) b2))
      obtain ⟨-, p1, p2, p3, -⟩ := oct8 (blk_on (heap_alloc_new wr (.cells #[.int .i64 kind, .string lo, .string hi, .bool op, .int .i64 cnt, .int .u64 s0, .int .u64 s1, .slice ea el ec] 47)) b2)
      clear r0 r1 r2
      obtain ⟨r0, r1, r2, z0, z1, z2⟩ := tri HR2.out
      clear b2 CQ c0 c1 c2 c3 c4 c5 c6 c7
      go_wp2
      go_roundw
      case rel => exact ⟨j + 1, by go_num, by omega, (ptN_step HC.out).trans HQ2.out, ((B2.out.setCell (by simpa using HAB.out) _).setCell (by simpa using HAB.out) _).setCell (by simpa using HAB.out) _, by
          have h9 := set_tri HR2.out (.string lo) (.string hi) (.bool op)
          simp only [ahLo, ahHi, ahOp, HP.out]
          exact h9⟩
      case measure => simp [intOf]; omega
     ·have HQ0 := aside hq0
      go_wp2_with fail
      refine (CQ.out _ (bnew wr _)).mono ?_
      rintro e w2 ⟨rfl, b2⟩
      have B2 := aside (HB.out.trans ((bthen (bnew wr (.cells #[.int .i64 kind, .string lo, .string hi, .bool op, .int .i64 cnt, .int .u64 s0, .int .u64 s1, .slice ea el ec] 47)) b2).mono HB.out.size))
      clear b2 CQ c0 c1 c2 c3 c4 c5 c6 c7 r0 r1 r2
      have hqb : (q2 == 0) = false := by simpa using hq0
      go_wp2
      go_ret
      exact ⟨ret_i64 (by rw [HPS.out, ptN_bad HC.out (by omega) (by rw [HQ2.out]; exact HQ0.out)]; exact HQ2.out.symm), B2.out⟩
    ·have hjl : j = len := by omega
     subst hjl
     go_wp2
     go_ret
     exact ⟨ret_i64 (by rw [HPS.out]; exact HC.out.symm), HB.out⟩
theorem entchkR_of (t : En) (w : World) {q : Int} (h : t.chk = q) : Calls Tryz.prog 54 #[.agg #[.string t.k, .int .i64 t.c, .int .i64 t.n, .string t.v, .bool t.d]] w fun e w' => e = .returned (.int .i64 q) ∧ Below w.heap.size w w' := by
 subst h
 exact ichkRef_any t.k t.c t.n t.v t.d w
theorem holdsR_of (lo hi : ByteArray) (op : Bool) (k : ByteArray) (w : World) {q : Bool} (h : Rg.has ⟨lo, hi, op⟩ k = q) : Calls Tryz.prog 66 #[.agg #[.string lo, .string hi, .bool op], .string k] w fun e w' => e = .returned (.bool q) ∧ Below w.heap.size w w' := by
 subst h
 exact holdsRef_any lo hi op k w
set_option maxHeartbeats 6400000 in
set_option maxRecDepth 100000 in
theorem itsR_any (p : Pm) (w : World) (h : p.In w) : Calls Tryz.prog 97 #[.agg #[.int .i64 p.kind, .string p.lo, .string p.hi, .bool p.op, .int .i64 p.cnt, .int .u64 p.s0, .int .u64 p.s1, .slice p.ea p.el p.ec]] w fun e w' => e = .returned (.int .i64 p.its) ∧ Below w.heap.size w w' := by
 obtain ⟨kind, lo, hi, op, cnt, s0, s1, ea, el, ec, T⟩ := p
 unfold Pm.In at h
 dsimp only at h ⊢
 have HE := aside h
 obtain ⟨hlc, hcm, -⟩ := h
 have hmx : (el : Int) ≤ 9223372036854775807 := by unfold maxLen at hcm; omega
 clear hlc hcm
 go_enter Tryz.func97, Tryz.ntmps97
 go_wp2
 have BX := aside (bnew w (.cells #[.int .i64 kind, .string lo, .string hi, .bool op, .int .i64 cnt, .int .u64 s0, .int .u64 s1, .slice ea el ec] 47))
 have KX := aside (heap_alloc_new w (.cells #[.int .i64 kind, .string lo, .string hi, .bool op, .int .i64 cnt, .int .u64 s0, .int .u64 s1, .slice ea el ec] 47))
 generalize w.alloc (.cells #[.int .i64 kind, .string lo, .string hi, .bool op, .int .i64 cnt, .int .u64 s0, .int .u64 s1, .slice ea el ec] 47) = X0 at BX KX ⊢
 go_loopw [3] (fun i wr => ∃ j : Nat, i = .int .i64 (j : Int) ∧ j ≤ el ∧ Hid (itN ⟨lo, hi, op⟩ T j = 0) ∧ Below X0.heap.size X0 wr) (fun i _ => el - (intOf i).toNat)
 case atStart => exact ⟨0, rfl, Nat.zero_le _, rfl, Below.refl _ _⟩
 case round =>
  obtain ⟨j, rfl, hj, HC, hB⟩ := hrel
  have HB := aside hB
  clear hB
  by_cases hlt : (j : Int) < (el : Int)
  ·skip
   have hE := HE.out.keep (bthen BX.out HB.out)
   rcases hE.2.2 with h0 | ⟨b, off, rfl, hb, hc⟩
   ·omega
   obtain ⟨⟨c0, c1, c2, c3, c4⟩, -⟩ := hc j (by omega)
   obtain ⟨q, hq⟩ : ∃ q, (T j).chk = q := ⟨_, rfl⟩
   have HQ := aside hq
   have hj0 : (0 : Int) ≤ (j : Int) := by omega
   have HCC := aside hc
   clear hc hE
   obtain ⟨t, ht⟩ : ∃ t, T j = t := ⟨_, rfl⟩
   have HT := aside ht
   rw [ht] at c0 c1 c2 c3 c4 hq
   have CQ := aside (fun W => entchkR_of t W hq)
   clear ht hq
   obtain ⟨-, p1, p2, p3, -, -, -, p7⟩ := oct8 (blk_on KX.out HB.out)
   by_cases hq0 : q = 0
   ·subst hq0
    go_wp2_with fail
    refine (CQ.out _).mono ?_
    rintro e w1 ⟨rfl, b1⟩
    have B2 := aside (HB.out.trans (b1.mono HB.out.size))
    have e0 := cell_in c0 b1
    clear p1 p2 p3 p7
    obtain ⟨-, p1, p2, p3, -, -, -, p7⟩ := oct8 (blk_on KX.out B2.out)
    have HC2 := aside (fun (i : Nat) (hi : i < el) => cell_in (HCC.out i hi).1.1 b1)
    clear b1 c0 c1 c2 c3 c4 CQ HCC
    obtain ⟨hs, hhs⟩ : ∃ hs, Rg.has ⟨lo, hi, op⟩ t.k = hs := ⟨_, rfl⟩
    have CH := aside (fun W => holdsR_of lo hi op t.k W hhs)
    have HH := aside (show Rg.has ⟨lo, hi, op⟩ (T j).k = hs from by rw [HT.out]; exact hhs)
    clear hhs
    cases hs
    ·skip
     have SX := aside (fun W (bb : Below w1.heap.size w1 W) => (show Below X0.heap.size X0 W ∧ W.cell? ⟨w.heap.size, 1, none⟩ = some (.string lo) ∧ W.cell? ⟨w.heap.size, 2, none⟩ = some (.string hi) ∧ W.cell? ⟨w.heap.size, 3, none⟩ = some (.bool op) ∧ W.cell? ⟨w.heap.size, 7, none⟩ = some (.slice (some ⟨b, off, none⟩) el ec) ∧ W.cell? ⟨b, off + j * 5, none⟩ = some (.string t.k) from ⟨B2.out.trans (bb.mono B2.out.size), cell_in p1 bb, cell_in p2 bb, cell_in p3 bb, cell_in p7 bb, cell_in e0 bb⟩))
     go_wp2_with fail
     clear p1 p2 p3 p7 e0
     refine wp_region_held_drew (S := fun W => (Below X0.heap.size X0 W ∧ W.cell? ⟨w.heap.size, 1, none⟩ = some (.string lo) ∧ W.cell? ⟨w.heap.size, 2, none⟩ = some (.string hi) ∧ W.cell? ⟨w.heap.size, 3, none⟩ = some (.bool op) ∧ W.cell? ⟨w.heap.size, 7, none⟩ = some (.slice (some ⟨b, off, none⟩) el ec) ∧ W.cell? ⟨b, off + j * 5, none⟩ = some (.string t.k)) ∧ Below w1.heap.size w1 W) (by kernel_rfl) ⟨SX.out _ (Below.refl _ w1).drew, (Below.refl _ w1).drew⟩ (fun hHeld => ?_)
     refine tk 0 rfl _ ?_; refine tk 1 rfl _ ?_; refine tk 2 rfl _ ?_; refine tk 3 rfl _ ?_; refine tk 4 rfl _ ?_; refine tk 5 rfl _ ?_; refine tk 6 rfl _ ?_; refine tk 7 rfl _ ?_
     refine rd 8 rfl fun K hK => ?_
     go_simp
     refine (CH.out _).mono ?_
     rintro e w9 ⟨rfl, bb⟩
     refine hK.out _ _ (⟨SX.out _ (hHeld.2.trans (bb.mono hHeld.2.size)), hHeld.2.trans (bb.mono hHeld.2.size)⟩) (fun hHeld => ?_)
     clear hK K bb
     refine tk 9 rfl _ ?_; refine tk 10 rfl _ ?_; refine tn 11 rfl ?_; refine tn 12 rfl ?_; refine tn 13 rfl ?_; refine tn 14 rfl ?_; refine tn 15 rfl ?_; refine tn 16 rfl ?_; refine tn 17 rfl ?_; refine tn 18 rfl ?_; refine tn 19 rfl ?_; refine tn 20 rfl ?_; refine tn 21 rfl ?_; refine tn 22 rfl ?_; refine tn 23 rfl ?_; refine tn 24 rfl ?_; refine tn 25 rfl ?_; refine tn 26 rfl ?_; refine tn 27 rfl ?_; refine tn 28 rfl ?_; refine tk 29 rfl _ ?_
     refine wpAnyH_done (by kernel_rfl) ?_ _
     have B3 := aside hHeld.1.1
     clear hHeld SX CH
     go_wp2
     go_ret
     exact ⟨ret_i64 (((its_bad (p := ⟨kind, lo, hi, op, cnt, s0, s1, some ⟨b, off, none⟩, el, ec, T⟩) HC.out (by dsimp only; omega) (by show itAt ⟨lo, hi, op⟩ T _ ≠ 0; rw [itAt_out HQ.out HH.out]; decide)).trans (itAt_out HQ.out HH.out)).symm), bthen BX.out B3.out⟩
    ·by_cases hj1 : j = 0
     ·have hjz : ¬ (0 : Int) < (j : Int) := by omega
      have HJ1 := aside hj1
      clear hj1
      have SX := aside (fun W (bb : Below w1.heap.size w1 W) => (show Below X0.heap.size X0 W ∧ W.cell? ⟨w.heap.size, 1, none⟩ = some (.string lo) ∧ W.cell? ⟨w.heap.size, 2, none⟩ = some (.string hi) ∧ W.cell? ⟨w.heap.size, 3, none⟩ = some (.bool op) ∧ W.cell? ⟨w.heap.size, 7, none⟩ = some (.slice (some ⟨b, off, none⟩) el ec) ∧ W.cell? ⟨b, off + j * 5, none⟩ = some (.string t.k) from ⟨B2.out.trans (bb.mono B2.out.size), cell_in p1 bb, cell_in p2 bb, cell_in p3 bb, cell_in p7 bb, cell_in e0 bb⟩))
      go_wp2_with fail
      clear p1 p2 p3 p7 e0
      refine wp_region_held_drew (S := fun W => (Below X0.heap.size X0 W ∧ W.cell? ⟨w.heap.size, 1, none⟩ = some (.string lo) ∧ W.cell? ⟨w.heap.size, 2, none⟩ = some (.string hi) ∧ W.cell? ⟨w.heap.size, 3, none⟩ = some (.bool op) ∧ W.cell? ⟨w.heap.size, 7, none⟩ = some (.slice (some ⟨b, off, none⟩) el ec) ∧ W.cell? ⟨b, off + j * 5, none⟩ = some (.string t.k)) ∧ Below w1.heap.size w1 W) (by kernel_rfl) ⟨SX.out _ (Below.refl _ w1).drew, (Below.refl _ w1).drew⟩ (fun hHeld => ?_)
      refine tk 0 rfl _ ?_; refine tk 1 rfl _ ?_; refine tk 2 rfl _ ?_; refine tk 3 rfl _ ?_; refine tk 4 rfl _ ?_; refine tk 5 rfl _ ?_; refine tk 6 rfl _ ?_; refine tk 7 rfl _ ?_
      refine rd 8 rfl fun K hK => ?_
      go_simp
      refine (CH.out _).mono ?_
      rintro e w9 ⟨rfl, bb⟩
      refine hK.out _ _ (⟨SX.out _ (hHeld.2.trans (bb.mono hHeld.2.size)), hHeld.2.trans (bb.mono hHeld.2.size)⟩) (fun hHeld => ?_)
      clear hK K bb
      refine tk 9 rfl _ ?_; refine tk 10 rfl _ ?_; refine tk 11 rfl _ ?_; refine tk 12 rfl (.bool false) ?_ (by intro w hSw; go_simp; try omega); refine tk 13 rfl _ ?_; refine tn 14 rfl ?_; refine tn 15 rfl ?_; refine tn 16 rfl ?_; refine tn 17 rfl ?_; refine tn 18 rfl ?_; refine tn 19 rfl ?_; refine tn 20 rfl ?_; refine tn 21 rfl ?_; refine tn 22 rfl ?_; refine tn 23 rfl ?_; refine tn 24 rfl ?_; refine tn 25 rfl ?_; refine tn 26 rfl ?_; refine tn 27 rfl ?_; refine tk 28 rfl _ ?_; refine tk 29 rfl _ ?_
      refine wpAnyH_done (by kernel_rfl) ?_ _
      have B3 := aside hHeld.1.1
      clear hHeld SX CH
      go_wp2
      go_roundw
      case rel => exact ⟨j + 1, by go_num, by omega, (itN_step HC.out).trans (itAt_ok HQ.out HH.out (fun g => absurd g.1 (by have := HJ1.out; omega))), B3.out⟩
      case measure => simp [intOf]; omega
     ·obtain ⟨k, rfl⟩ : ∃ k, j = k + 1 := ⟨j - 1, by omega⟩
      clear hj1
      have d0 := HC2.out k (by omega)
      obtain ⟨u, hu⟩ : ∃ u, T k = u := ⟨_, rfl⟩
      have HU := aside hu
      rw [hu] at d0
      clear hu
      have hk0 : (0 : Int) ≤ (k : Int) := by omega
      have hk1 : (k : Int) < (el : Int) := by omega
      have hk2 : (0 : Int) ≤ (k : Int) + 1 := by omega
      have hk3 : (0 : Int) < (k : Int) + 1 := by omega
      have hk4 : (k : Int) + 1 < (el : Int) := by omega
      have hw2 : IntKind.i64.wrap (k : Int) = (k : Int) := by simp only [IntKind.wrap_i64]; omega
      have SX := aside (fun W (bb : Below w1.heap.size w1 W) => (show Below X0.heap.size X0 W ∧ W.cell? ⟨w.heap.size, 1, none⟩ = some (.string lo) ∧ W.cell? ⟨w.heap.size, 2, none⟩ = some (.string hi) ∧ W.cell? ⟨w.heap.size, 3, none⟩ = some (.bool op) ∧ W.cell? ⟨w.heap.size, 7, none⟩ = some (.slice (some ⟨b, off, none⟩) el ec) ∧ W.cell? ⟨b, off + (k + 1) * 5, none⟩ = some (.string t.k) ∧ W.cell? ⟨b, off + k * 5, none⟩ = some (.string u.k) from ⟨B2.out.trans (bb.mono B2.out.size), cell_in p1 bb, cell_in p2 bb, cell_in p3 bb, cell_in p7 bb, cell_in e0 bb, cell_in d0 bb⟩))
      go_wp2_with fail
      clear p1 p2 p3 p7 e0 d0
      refine wp_region_held_drew (S := fun W => (Below X0.heap.size X0 W ∧ W.cell? ⟨w.heap.size, 1, none⟩ = some (.string lo) ∧ W.cell? ⟨w.heap.size, 2, none⟩ = some (.string hi) ∧ W.cell? ⟨w.heap.size, 3, none⟩ = some (.bool op) ∧ W.cell? ⟨w.heap.size, 7, none⟩ = some (.slice (some ⟨b, off, none⟩) el ec) ∧ W.cell? ⟨b, off + (k + 1) * 5, none⟩ = some (.string t.k) ∧ W.cell? ⟨b, off + k * 5, none⟩ = some (.string u.k)) ∧ Below w1.heap.size w1 W) (by kernel_rfl) ⟨SX.out _ (Below.refl _ w1).drew, (Below.refl _ w1).drew⟩ (fun hHeld => ?_)
      refine tk 0 rfl _ ?_; refine tk 1 rfl _ ?_; refine tk 2 rfl _ ?_; refine tk 3 rfl _ ?_; refine tk 4 rfl _ ?_; refine tk 5 rfl _ ?_; refine tk 6 rfl _ ?_; refine tk 7 rfl _ ?_
      refine rd 8 rfl fun K hK => ?_
      go_simp
      refine (CH.out _).mono ?_
      rintro e w9 ⟨rfl, bb⟩
      refine hK.out _ _ (⟨SX.out _ (hHeld.2.trans (bb.mono hHeld.2.size)), hHeld.2.trans (bb.mono hHeld.2.size)⟩) (fun hHeld => ?_)
      clear hK K bb
      refine tk 9 rfl _ ?_; refine tk 10 rfl _ ?_; refine tk 11 rfl _ ?_; refine tk 12 rfl (.bool true) ?_ (by intro w hSw; go_simp; try omega); refine tk 13 rfl _ ?_; refine tk 14 rfl _ ?_; refine tk 15 rfl _ ?_; refine tk 16 rfl _ ?_; refine tk 17 rfl _ ?_; refine tk 18 rfl _ ?_; refine tk 19 rfl _ ?_; refine tk 20 rfl _ ?_; refine tk 21 rfl _ ?_; refine tk 22 rfl _ ?_; refine tk 23 rfl _ ?_; refine tk 24 rfl _ ?_; refine tk 25 rfl _ ?_; refine tk 26 rfl _ ?_; refine tk 27 rfl (.bool (!kLt u.k t.k)) ?_ (by intro w hSw; go_simp; exact leqF _ _); refine tk 28 rfl _ ?_; refine tk 29 rfl _ ?_
      refine wpAnyH_done (by kernel_rfl) ?_ _
      have B3 := aside hHeld.1.1
      clear hHeld SX CH
      have hkk0 : kLt u.k t.k = kLt (T (k + 1 - 1)).k (T (k + 1)).k := by rw [show k + 1 - 1 = k from rfl, HU.out, HT.out]
      have KQ := aside hkk0
      clear hkk0 hw2
      cases hkk : kLt u.k t.k
      ·rw [hkk] at KQ
       go_wp2
       go_ret
       exact ⟨ret_i64 (((its_bad (p := ⟨kind, lo, hi, op, cnt, s0, s1, some ⟨b, off, none⟩, el, ec, T⟩) HC.out (by dsimp only; omega) (by show itAt ⟨lo, hi, op⟩ T _ ≠ 0; rw [itAt_ord HQ.out ⟨by omega, KQ.out.symm⟩]; decide)).trans (itAt_ord HQ.out ⟨by omega, KQ.out.symm⟩)).symm), bthen BX.out B3.out⟩
      ·rw [hkk] at KQ
       go_wp2
       go_roundw
       case rel => exact ⟨k + 1 + 1, by go_num, by omega, (itN_step HC.out).trans (itAt_ok HQ.out HH.out (fun g => by rw [← KQ.out] at g; exact absurd g.2 (by decide))), B3.out⟩
       case measure => simp [intOf]; omega
   ·have HQ0 := aside hq0
    go_wp2_with fail
    refine (CQ.out _).mono ?_
    rintro e w1 ⟨rfl, b1⟩
    have B3 := aside (HB.out.trans (b1.mono HB.out.size))
    clear b1 CQ c0 c1 c2 c3 c4 p1 p2 p3 p7
    have hqb : (q == 0) = false := by simpa using hq0
    have hne : (T j).chk ≠ 0 := by rw [HQ.out]; exact HQ0.out
    have HNE := aside hne
    clear hne
    go_wp2
    go_ret
    exact ⟨ret_i64 (HQ.out.symm.trans ((its_bad (p := ⟨kind, lo, hi, op, cnt, s0, s1, some ⟨b, off, none⟩, el, ec, T⟩) HC.out (by dsimp only; omega) (by show itAt ⟨lo, hi, op⟩ T _ ≠ 0; rw [itAt_ent HNE.out]; exact HNE.out)).trans (itAt_ent HNE.out)).symm), bthen BX.out B3.out⟩
  ·skip
   have hjl : j = el := by omega
   subst hjl
   obtain ⟨p0, -, -, -, -, -, -, p7⟩ := oct8 (blk_on KX.out HB.out)
   have B3 := HB
   have ED := aside (its_end (p := ⟨kind, lo, hi, op, cnt, s0, s1, ea, j, ec, T⟩) HC.out)
   by_cases h3 : kind = 3
   ·subst h3
    by_cases h0 : j = 0
    ·subst h0
     go_wp2
     go_ret
     exact ⟨ret_i64 ((ED.out.trans (if_pos (by simp))).symm), bthen BX.out B3.out⟩
    ·have h0' : ((j : Int) == 0) = false := by simp; omega
     have H0 := aside h0
     go_wp2
     go_ret
     exact ⟨ret_i64 ((ED.out.trans (if_neg (fun g => H0.out g.2))).symm), bthen BX.out B3.out⟩
   ·have h3' : (kind == 3) = false := by simpa using h3
    have H3 := aside h3
    go_wp2
    go_ret
    exact ⟨ret_i64 ((ED.out.trans (if_neg (fun g => H3.out g.1))).symm), bthen BX.out B3.out⟩
end Go.Proofs.YtpbkjffiohfkcaaGreatDoor
