/-
  countEntries, CheckParts, isOpening and Check, the code's.
-/
import Derived.Test.YtpbkjffiohfkcaaGreatDoorBs25
import Derived.Test.YtpbkjffiohfkcaaGreatDoorBs24
import Derived.Test.YtpbkjffiohfkcaaGreatDoorBs17
import Derived.Test.YtpbkjffiohfkcaaGreatDoorBs18
namespace Go.Proofs.YtpbkjffiohfkcaaGreatDoor
open Go.RowKit
set_option linter.unusedVariables false
theorem set_in {w : World} {b : Nat} (k : Nat) (u : Value) {cs : Array Value} {t : TypeId} (h : w.heap[b]? = some (.cells cs t (0, 0))) : (w.setCell ⟨b, k, none⟩ u).heap[b]? = some (.cells (cs.setIfInBounds k u) t (0, 0)) := by
 simp only [World.setCell]
 rw [Array.getElem?_modify]
 simp [h]
theorem set_tri {w : World} {b : Nat} {x y z : Value} {t : TypeId} (h : w.heap[b]? = some (.cells #[x, y, z] t (0, 0))) (u v r : Value) : (((w.setCell ⟨b, 0, none⟩ u).setCell ⟨b, 1, none⟩ v).setCell ⟨b, 2, none⟩ r).heap[b]? = some (.cells #[u, v, r] t (0, 0)) := by
 have h1 := set_in 2 r (set_in 1 v (set_in 0 u h))
 simpa using h1
set_option maxHeartbeats 1600000 in
theorem count_any (a : Option Addr) (len cap : Nat) (P : Nat → Pm) (w : World) (h : PartsIn w a len cap P) (hT : totE P len ≤ 4611686018427387904) :
    Calls Tryz.prog 42 #[.slice a len cap] w fun e w' => e = .returned (.int .i64 (totE P len : Int)) ∧ Below w.heap.size w w' := by
 have HE := aside h
 have HT := aside hT
 obtain ⟨hlc, hcm, -⟩ := h
 have hmx : (len : Int) ≤ 9223372036854775807 := by unfold maxLen at hcm; omega
 clear hlc hcm hT
 go_enter Tryz.func42, Tryz.ntmps42
 go_wp2
 go_loopw [3, 8] (fun c i wr => ∃ j : Nat, c = .int .i64 (totE P j : Int) ∧ i = .int .i64 (j : Int) ∧ j ≤ len ∧ Below w.heap.size w wr) (fun c i _ => len - (intOf i).toNat)
 case atStart => exact ⟨0, rfl, rfl, Nat.zero_le _, Below.refl _ _⟩
 case round =>
  obtain ⟨j, rfl, rfl, hj, hB⟩ := hrel
  have HB := aside hB
  clear hB
  by_cases hlt : (j : Int) < (len : Int)
  ·have hE := HE.out.keep HB.out
   rcases hE.2.2 with h0 | ⟨b, off, rfl, hb, hc⟩
   ·omega
   obtain ⟨hat, hin⟩ := hc j (by omega)
   obtain ⟨p, hp⟩ : ∃ p, P j = p := ⟨_, rfl⟩
   have HP := aside hp
   rw [hp] at hat hin
   clear hp hc
   obtain ⟨kind, lo, hi, op, cnt, s0, s1, ea, el, ec, T⟩ := p
   obtain ⟨c0, c1, c2, c3, c4, c5, c6, c7⟩ := hat
   dsimp only at c0 c1 c2 c3 c4 c5 c6 c7
   have hj0 : (0 : Int) ≤ (j : Int) := by omega
   have hst : totE P (j + 1) = totE P j + el := by simp only [totE, HP.out]
   have HST := aside hst
   have hle : (totE P j : Int) + (el : Int) ≤ 4611686018427387904 := by have h1 := el_totE P (i := j) (n := len) (by omega); rw [HP.out] at h1; dsimp only at h1; have h2 := HT.out; omega
   have hw : IntKind.i64.wrap ((totE P j : Int) + (el : Int)) = (totE P (j + 1) : Int) := by simp only [IntKind.wrap_i64]; omega
   clear hst hle hin
   go_wp2
   go_roundw
   case rel => exact ⟨j + 1, by first | rfl | (rw [hw]), by go_num, by omega, HB.out.trans ((bnew wr _).mono HB.out.size)⟩
   case measure => simp [intOf]; omega
  ·have hjl : j = len := by omega
   subst hjl
   go_wp2
   go_ret
   exact ⟨rfl, HB.out⟩
theorem rev_ind {P : List En → Prop} (h0 : P []) (hs : ∀ l e, P l → P (l ++ [e])) (l : List En) : P l := by
 have h : ∀ r : List En, P r.reverse := by
  intro r
  induction r with
  | nil => exact h0
  | cons e r ih => rw [List.reverse_cons]; exact hs _ _ ih
 have := h l.reverse
 rwa [List.reverse_reverse] at this
theorem tal_a (l : List En) : (talL l).a = allI f0 l := by
 refine rev_ind (P := fun l => (talL l).a = allI f0 l) ?_ (fun l e ih => ?_) l
 ·rw [allI_nil]; rfl
 ·rw [talL_append, talL_one, ← tJoin_a, allI_snoc, ih, tof_a]; rfl
theorem tal_b (l : List En) : (talL l).b = allI f1 l := by
 refine rev_ind (P := fun l => (talL l).b = allI f1 l) ?_ (fun l e ih => ?_) l
 ·rw [allI_nil]; rfl
 ·rw [talL_append, talL_one, ← tJoin_b, allI_snoc, ih, tof_b]; rfl
theorem tal_n (l : List En) (h : l.length ≤ 1000000000) : (talL l).n = (l.length : Int) := by
 have : ∀ l : List En, l.length ≤ 1000000000 → (talL l).n = (l.length : Int) := by
  intro l
  refine rev_ind (P := fun l => l.length ≤ 1000000000 → (talL l).n = (l.length : Int)) (fun _ => rfl) (fun l e ih hl => ?_) l
  rw [List.length_append, List.length_singleton] at hl
  rw [talL_append, talL_one, ← tJoin_n, ih (by omega), tof_n, List.length_append, List.length_singleton, IntKind.wrap_i64]
  omega
 exact this l h
def tlV (t : Tl) : Value := .agg #[.int .i64 t.n, .int .u64 t.a, .int .u64 t.b]
theorem talT_tl (l : List En) (h : l.length ≤ 1000000000) : talT (nthE l) l.length = tlV (talL l) := by
 unfold talT tlV
 rw [firstE_nth, tal_n l h, tal_a, tal_b]
theorem own_ents {w : World} {B : Nat} {v : Value} {l : List En} (h2 : w.ownsRow B 77 5 v l.length (entCells l)) (hk : KeysOk l) : ∃ a c, v = .slice a l.length c ∧ EntsIn w a l.length c (nthE l) := by
 obtain ⟨a, c, rfl, -, -, -⟩ := own_slice h2
 rcases h2.2 with ⟨h3, h4⟩ | ⟨g, cap, cur, h3, h4⟩
 ·refine ⟨a, c, rfl, ?_⟩
  simp only [Value.slice.injEq] at h3
  obtain ⟨rfl, h6, rfl⟩ := h3
  rw [h4]
  exact ⟨by omega, by unfold maxLen; omega, .inl rfl⟩
 ·simp only [Value.slice.injEq] at h3
  obtain ⟨rfl, -, rfl⟩ := h3
  obtain ⟨m1, m2⟩ := row_max h2
  have := ents_of_row h2 hk (o := 0) (m := l.length) (c := c) (by omega) m1 m2 (a := some ⟨g, 0, none⟩) (.inr (by simp))
  simp only [Nat.zero_add] at this
  exact ⟨_, _, rfl, this⟩
theorem keys_in {r : Rg} {l : List En} (hm : MapL l) (q : Int) : KeysOk (outL q (inL r l)) := fun e he => by
 unfold outL at he
 split at he
 ·exact key_small (hm.chk e ((List.mem_filter.1 he).1))
 ·cases he
theorem fold_out {lo hi : ByteArray} {op : Bool} {l : List En} (hm : MapL l) : foldV lo hi op l = talL (outL (Rg.chk ⟨lo, hi, op⟩) (inL ⟨lo, hi, op⟩ l)) := by
 unfold foldV outL
 by_cases h : Rg.chk ⟨lo, hi, op⟩ = 0
 ·rw [if_pos h, if_pos h, inL_thru h hm]
 ·rw [if_neg h, if_neg h]; rfl
theorem out_len {r : Rg} {l : List En} (q : Int) : (outL q (inL r l)).length ≤ l.length := by
 unfold outL
 split
 ·exact inL_len r l
 ·simp
theorem Sto.set {w w' : World} {sb g tb : Nat} {nd ck : Int} {Ls : List En} (h : Sto w sb g tb nd ck Ls) {i : Nat} {cs : Array Value} {U : TypeId} (hi : w.heap[i]? = some (.cells cs U (0, 0))) (h1 : U ≠ 109) (h2 : U ≠ 148) (h3 : U ≠ 175) (h4 : U ≠ 172) (k : Keeps (fun x => x = i) w w') : Sto w' sb g tb nd ck Ls := by
 obtain ⟨T, n, hs, hH⟩ := h
 have hn := hs.not hi h1 h2 h3
 unfold Of at hn
 refine ⟨T, n, ⟨blk_keep hs.blk k (fun e => hn (.inl e.symm)), hs.cnt.keep k (fun b e => by cases e; exact fun e => hn (.inr (.inr e.symm))), hs.tree.keep k (fun e => hn (.inr (.inl e.symm))) (fun j cs' hj e => ?_)⟩, hH⟩
 subst e
 rw [hj] at hi
 simp only [Option.some.injEq, Obj.cells.injEq] at hi
 exact h4 hi.2.1.symm
def prErr (r : Rg) : Int := if r.chk ≠ 0 then r.chk else if r.emp = true then 115 else 0
set_option maxHeartbeats 3200000 in
set_option maxRecDepth 100000 in
theorem rfoldS (lo hi : ByteArray) (op : Bool) {w : World} {B db : Nat} {nd ck : Int} {l : List En} (h : DSt w B db nd ck l) (hm : MapL l) (hl : l.length ≤ 1000000) :
    Calls Tryz.prog 44 #[.pointer (some ⟨db, 0, none⟩), .agg #[.string lo, .string hi, .bool op]] w fun e w' => e = .returned (.tuple #[tlV (foldV lo hi op l), .int .i64 (Rg.chk ⟨lo, hi, op⟩)]) ∧ Below w.heap.size w w' := by
 obtain ⟨q, hq⟩ : ∃ q, Rg.chk ⟨lo, hi, op⟩ = q := ⟨_, rfl⟩
 have CA := aside (fun W (bb : Below w.heap.size w W) => rallS lo hi op (h.below bb) hm hl)
 rw [fold_out hm]
 rw [hq] at CA ⊢
 have HK := aside (keys_in (r := ⟨lo, hi, op⟩) hm q)
 have HL := aside (show (outL q (inL ⟨lo, hi, op⟩ l)).length ≤ 1000000 from Nat.le_trans (out_len q) hl)
 generalize outL q (inL ⟨lo, hi, op⟩ l) = m at *
 obtain ⟨t, ht⟩ : ∃ t, talL m = t := ⟨_, rfl⟩
 have HT := aside ht
 rw [ht]
 clear hq h hm hl ht
 have BX := aside (bthen (bnew w (.cells #[.string lo, .string hi, .bool op] 40)) (bnew _ (.cells #[.int .i64 0, .int .u64 0, .int .u64 0] 45)))
 have KZ := aside (heap_alloc_new (w.alloc (.cells #[.string lo, .string hi, .bool op] 40)) (.cells #[.int .i64 0, .int .u64 0, .int .u64 0] 45))
 rw [World.size_alloc] at KZ
 go_enter Tryz.func44, Tryz.ntmps44
 go_wp2_with fail
 refine (CA.out _ BX.out).mono ?_
 rintro e w1 ⟨b1, v, rfl, ho⟩
 obtain ⟨a, c, rfl, hE⟩ := own_ents ho HK.out
 have B1 := aside (bthen BX.out b1)
 have KZ1 := aside (blk_on KZ.out b1)
 have CT := aside (tallRef_any a m.length c (nthE m) w1 hE)
 rw [talT_tl m (by have := HL.out; omega), HT.out] at CT
 clear b1 ho KZ BX CA hE
 unfold tlV at CT
 go_wp2_with fail
 refine CT.out.mono ?_
 rintro e w2 ⟨rfl, b2⟩
 have B2 := aside (bthen B1.out b2)
 have KZ2 := aside (blk_on KZ1.out b2)
 obtain ⟨fb, hfb⟩ : ∃ fb, w.heap.size = fb := ⟨_, rfl⟩
 rw [hfb] at KZ2 ⊢
 have HLE : w.heap.size ≤ fb + 1 := by omega
 clear b2 CT KZ1 B1
 obtain ⟨a0, a1, a2, hkz⟩ : ∃ a0 a1 a2 : Value, w2.heap[fb + 1]? = some (Obj.cells #[a0, a1, a2] 45 (0, 0)) := ⟨_, _, _, KZ2.out⟩
 clear KZ2
 have KZ2 := aside hkz
 clear hkz
 obtain ⟨z0, z1, z2⟩ := box3r KZ2.out
 have y0 := frozen_of_row _ _ 0 _ _ KZ2.out
 have y1 := frozen_of_row _ _ 1 _ _ KZ2.out
 have y2 := frozen_of_row _ _ 2 _ _ KZ2.out
 have KR := (set_in 2 (.int .u64 t.b) (set_in 1 (.int .u64 t.a) (set_in 0 (.int .i64 t.n) KZ2.out)))
 simp only [List.setIfInBounds_toArray, List.set_cons_zero, List.set_cons_succ] at KR
 have HKR := aside KR
 clear KR
 have KF := aside ((((Keeps.refl (fun x => x = fb + 1) w2).setCell (p := ⟨fb + 1, 0, none⟩) (fun _ => rfl) (.int .i64 t.n)).setCell (p := ⟨fb + 1, 1, none⟩) (fun _ => rfl) (.int .u64 t.a)).setCell (p := ⟨fb + 1, 2, none⟩) (fun _ => rfl) (.int .u64 t.b))
 have BF := aside ((((B2.out.setCell (p := ⟨fb + 1, 0, none⟩) HLE (.int .i64 t.n)).setCell (p := ⟨fb + 1, 1, none⟩) HLE (.int .u64 t.a)).setCell (p := ⟨fb + 1, 2, none⟩) HLE (.int .u64 t.b)))
 go_wp2
 obtain ⟨r0, r1, r2⟩ := box3r HKR.out
 exact bodyPost_ret (v := .tuple #[.agg #[.int .i64 t.n, .int .u64 t.a, .int .u64 t.b], .int .i64 q]) (by simp [results, Tryz.results44, go_sem, r0, r1, r2]) rfl ⟨rfl, BF.out⟩
set_option maxHeartbeats 3200000 in
set_option maxRecDepth 100000 in
theorem collect_any {w : World} {lb : Array Value} {es : List En} (hs : SeqE w lb es) :
    Calls Tryz.prog 93 #[.func (.func 99) #[] lb] w fun r w' => ∃ v, r = .returned v ∧ w'.ownsRow w.heap.size 77 5 v es.length (entCells es) ∧ Below w.heap.size w w' := by
 have C := aside (appendSeq_any hs)
 clear hs
 go_enter Tryz.func93, Tryz.ntmps93
 go_wp2_with fail
 refine C.out.mono ?_
 rintro e w1 ⟨v, rfl, ho, b1⟩
 have HO := aside ho
 have B1 := aside b1
 clear ho b1 C
 go_wp2
 go_ret
 exact ⟨v, rfl, HO.out, B1.out⟩
set_option maxHeartbeats 3200000 in
set_option maxRecDepth 100000 in
theorem heldIn_any (lo hi : ByteArray) (op : Bool) {w : World} {sb g tb : Nat} {nd ck : Int} {Ls : List En} (h : Sto w sb g tb nd ck Ls) (hl : Ls.length ≤ 1000000) (hc : Rg.chk ⟨lo, hi, op⟩ = 0) :
    Calls Tryz.prog 59 #[.pointer (some ⟨sb, 0, none⟩), .agg #[.string lo, .string hi, .bool op]] w fun r w' => ∃ v, r = .returned v ∧ w'.ownsRow w.heap.size 77 5 v (thruL lo hi op true Ls).length (entCells (thruL lo hi op true Ls)) ∧ Below w.heap.size w w' := by
 have B0 := aside (bnew w (.cells #[.string lo, .string hi, .bool op] 40))
 have K0 := aside (heap_alloc_new w (.cells #[.string lo, .string hi, .bool op] 40))
 have CA := aside (qall lo hi op (h.below B0.out) hl)
 rw [hc] at CA
 clear h hl hc
 obtain ⟨r0, r1, r2⟩ := box3r K0.out
 go_enter Tryz.func59, Tryz.ntmps59
 go_wp2_with fail
 refine CA.out.mono ?_
 rintro e w1 ⟨b1, ⟨h0, -⟩ | ⟨-, lb, rfl, hs⟩⟩
 ·exact absurd rfl h0
 have C2 := aside (collect_any hs)
 have B1 := aside (bthen B0.out b1)
 clear b1 hs CA B0 K0 r0 r1 r2
 go_wp2_with fail
 refine C2.out.mono ?_
 rintro e w2 ⟨v, rfl, ho, b2⟩
 have HO := aside (own_low ho B1.out.size)
 have B2 := aside (bthen B1.out b2)
 clear ho b2 C2
 go_wp2
 go_ret
 exact ⟨v, rfl, HO.out, B2.out⟩
structure TkS where
 l : List En
 c : Int
 n : Nat
 f : Nat
def tkStep (s : TkS) (e : En) : TkS := if (tkSay e s.l).2 = true then ⟨insE e s.l, ckm s.c e.c, s.n + 1, s.f⟩ else if (tkSay e s.l).1 = 80 then ⟨s.l, s.c, s.n, s.f + 1⟩ else s
def tkAll (s : TkS) (l : List En) : TkS := l.foldl tkStep s
theorem tkAll_snoc (s : TkS) (l : List En) (e : En) : tkAll s (l ++ [e]) = tkStep (tkAll s l) e := by simp [tkAll]
theorem tkAll_succ (s : TkS) (T : Nat → En) (j : Nat) : tkAll s (firstE T (j + 1)) = tkStep (tkAll s (firstE T j)) (T j) := by rw [firstE_succ, tkAll_snoc]
theorem tk_yes {e : En} {Ls : List En} (h : (tkSay e Ls).2 = true) : (tkSay e Ls).1 = 0 ∧ e.chk = 0 ∧ roomB e.k Ls = true := by
 unfold tkSay at h ⊢
 by_cases h1 : e.chk ≠ 0
 ·rw [if_pos h1] at h; simp at h
 ·rw [if_neg h1] at h ⊢
  by_cases h2 : roomB e.k Ls = false
  ·rw [if_pos h2] at h; simp at h
  ·rw [if_neg h2]
   refine ⟨?_, by simpa using h1, by simpa using h2⟩
   cases lookE e.k Ls <;> rfl
theorem insE_len_le (e : En) : ∀ l : List En, (insE e l).length ≤ l.length + 1
 | [] => by simp [insE]
 | y :: l => by
  have ih := insE_len_le e l
  unfold insE
  split
  ·simp
  ·split
   ·simp only [List.length_cons]; omega
   ·simp
theorem tkStep_n (s : TkS) (e : En) : (tkStep s e).n ≤ s.n + 1 ∧ (tkStep s e).f ≤ s.f + 1 := by
 unfold tkStep
 split
 ·exact ⟨Nat.le_refl _, Nat.le_succ _⟩
 ·split
  ·exact ⟨Nat.le_succ _, Nat.le_refl _⟩
  ·exact ⟨Nat.le_succ _, Nat.le_succ _⟩
theorem tkStep_len {s : TkS} {e : En} {N : Nat} (h : s.l.length ≤ N) : (tkStep s e).l.length ≤ N + 1 := by
 unfold tkStep
 split
 ·have := insE_len_le e s.l
  show (insE e s.l).length ≤ N + 1
  omega
 ·split
  ·show s.l.length ≤ N + 1
   omega
  ·omega
theorem tkAll_len {s : TkS} {N : Nat} (h : s.l.length ≤ N) (T : Nat → En) : ∀ j, (tkAll s (firstE T j)).l.length ≤ N + j
 | 0 => by simpa [firstE, tkAll] using h
 | j + 1 => by
  rw [tkAll_succ]
  have := tkStep_len (e := T j) (tkAll_len h T j)
  omega
theorem tkAll_n {s : TkS} (T : Nat → En) : ∀ j, (tkAll s (firstE T j)).n ≤ s.n + j ∧ (tkAll s (firstE T j)).f ≤ s.f + j
 | 0 => by simp [firstE, tkAll]
 | j + 1 => by
  rw [tkAll_succ]
  have h1 := tkStep_n (tkAll s (firstE T j)) (T j)
  have h2 := tkAll_n (s := s) T j
  omega
theorem two_h {w : World} {i : Nat} {a b : Value} {T : TypeId} (h : w.heap[i]? = some (.cells #[a, b] T (0, 0))) : w.cell? ⟨i, 0, none⟩ = some a ∧ w.cell? ⟨i, 1, none⟩ = some b := ⟨by simp [World.cell?, h], by simp [World.cell?, h]⟩
theorem Lanes.apart2 {w : World} (L : Lanes w) : ∀ (cs : Array Value) (T : TypeId), w.heap[0]? = some (.cells cs T (0, 0)) → cs.size = 2 → False := fun cs T h hs => by
 have h5 := L.c5
 simp only [World.cell?, h] at h5
 have : cs[5]? = none := by rw [Array.getElem?_eq_none_iff]; omega
 simp [this] at h5
theorem Sto.str {w : World} {sb g tb : Nat} {nd ck : Int} {Ls : List En} (h : Sto w sb g tb nd ck Ls) {b k : Nat} {s : ByteArray} (hc : w.cell? ⟨b, k, none⟩ = some (.string s)) : ¬ Of sb g tb b := by
 obtain ⟨T, n, hs, -⟩ := h
 obtain ⟨p, ht, -⟩ := hs.tree
 unfold TObjE at ht
 have hb := hs.blk
 have hg := hs.cnt g rfl
 rintro (rfl | rfl | rfl)
 ·simp only [World.cell?, hb] at hc
  rcases k with _ | _ | _ | _ | k <;> simp at hc
 ·simp only [World.cell?, ht] at hc
  rcases k with _ | _ | _ | _ | _ | k <;> simp [jvE] at hc
 ·simp only [World.cell?, hg] at hc
  rcases k with _ | k <;> simp at hc
theorem EntsIn.keepS {w w' : World} {a : Option Addr} {len cap : Nat} {T : Nat → En} {sb g tb : Nat} {nd ck : Int} {Ls : List En} (h : EntsIn w a len cap T) (hs : Sto w sb g tb nd ck Ls) (k : Keeps (Of sb g tb) w w') : EntsIn w' a len cap T := by
 refine ⟨h.1, h.2.1, ?_⟩
 rcases h.2.2 with h0 | ⟨b, off, rfl, hb, hc⟩
 ·exact .inl h0
 ·refine .inr ⟨b, off, rfl, Nat.lt_of_lt_of_le hb k.size, fun i hi => ?_⟩
  obtain ⟨⟨c0, c1, c2, c3, c4⟩, hk⟩ := hc i hi
  have hn := hs.str c0
  exact ⟨⟨(k.cell hb hn).trans c0, (k.cell hb hn).trans c1, (k.cell hb hn).trans c2, (k.cell hb hn).trans c3, (k.cell hb hn).trans c4⟩, hk⟩
set_option maxHeartbeats 6400000 in
set_option maxRecDepth 100000 in
theorem takeAll_any (a : Option Addr) (len cap : Nat) (T : Nat → En) {w : World} {sb g tb : Nat} {nd ck : Int} {Ls : List En} (h : Sto w sb g tb nd ck Ls) (L : Lanes w) (hl : Ls.length ≤ 256) (hE : EntsIn w a len cap T) (hn : len ≤ 1000) :
    Calls Tryz.prog 62 #[.pointer (some ⟨sb, 0, none⟩), .slice a len cap] w fun r w' => r = .returned (.agg #[.int .i64 ((tkAll ⟨Ls, ck, 0, 0⟩ (firstE T len)).n : Int), .int .i64 ((tkAll ⟨Ls, ck, 0, 0⟩ (firstE T len)).f : Int)]) ∧ Sto w' sb g tb nd (tkAll ⟨Ls, ck, 0, 0⟩ (firstE T len)).c (tkAll ⟨Ls, ck, 0, 0⟩ (firstE T len)).l ∧ Keeps (Of sb g tb) w w' ∧ Lanes w' := by
 have HE := aside hE
 have HN := aside hn
 have hmx : (len : Int) ≤ 9223372036854775807 := by omega
 have HTL := aside (fun j => tkAll_len (s := ⟨Ls, ck, 0, 0⟩) hl T j)
 have HTN := aside (fun j => tkAll_n (s := ⟨Ls, ck, 0, 0⟩) T j)
 have HTS := aside (fun j => tkAll_succ ⟨Ls, ck, 0, 0⟩ T j)
 have B0 := aside (bthen (bnew w (.cells #[.int .i64 0, .int .i64 0] 33)) (bnew _ (.cells #[.int .i64 0, .int .i64 0] 33)))
 have Z0 := aside (blk_on (heap_alloc_new w (.cells #[.int .i64 0, .int .i64 0] 33)) (bnew _ (.cells #[.int .i64 0, .int .i64 0] 33)))
 have Z1 := aside (heap_alloc_new (w.alloc (.cells #[.int .i64 0, .int .i64 0] 33)) (.cells #[.int .i64 0, .int .i64 0] 33))
 rw [World.size_alloc] at Z1
 have S0 := aside (h.below B0.out)
 have L0 := aside (L.keep B0.out)
 obtain ⟨rb, hrb⟩ : ∃ rb, w.heap.size = rb := ⟨_, rfl⟩
 obtain ⟨hb, hhb⟩ : ∃ hb, rb + 1 = hb := ⟨_, rfl⟩
 rw [hrb] at Z0 Z1
 rw [hhb] at Z1
 have HLT := aside (show w.heap.size ≤ rb ∧ rb < hb ∧ w.heap.size < hb from by omega)
 have HAP := aside (show w.heap.size ≤ rb from by omega)
 have HES := aside (show ∀ W, Keeps (Of sb g tb) w W → EntsIn W a len cap T from fun W k => hE.keepS h k)
 obtain ⟨w0, hw0⟩ : ∃ w0, (w.alloc (.cells #[.int .i64 0, .int .i64 0] 33)).alloc (.cells #[.int .i64 0, .int .i64 0] 33) = w0 := ⟨_, rfl⟩
 rw [hw0] at B0 Z0 Z1 S0 L0
 clear hE hn h L hl
 go_enter Tryz.func62, Tryz.ntmps62
 go_wp2
 go_loopw [12] (fun i wr => ∃ j : Nat, i = .int .i64 (j : Int) ∧ j ≤ len ∧ Sto wr sb g tb nd (tkAll ⟨Ls, ck, 0, 0⟩ (firstE T j)).c (tkAll ⟨Ls, ck, 0, 0⟩ (firstE T j)).l ∧ Lanes wr ∧ wr.heap[hb]? = some (.cells #[.int .i64 ((tkAll ⟨Ls, ck, 0, 0⟩ (firstE T j)).n : Int), .int .i64 ((tkAll ⟨Ls, ck, 0, 0⟩ (firstE T j)).f : Int)] 33 (0, 0)) ∧ wr.heap[rb]? = some (.cells #[.int .i64 0, .int .i64 0] 33 (0, 0)) ∧ Keeps (Of sb g tb) w wr) (fun i _ => len - (intOf i).toNat)
 case atStart => exact ⟨0, rfl, Nat.zero_le _, S0.out, L0.out, Z1.out, Z0.out, Keeps.of_below B0.out _⟩
 case round =>
  obtain ⟨j, rfl, hj, hS, hL, hH, hZ, hK⟩ := hrel
  clear S0 L0 Z0 Z1 B0
  have h1 := HTL.out j
  have h2 := HTN.out j
  have h3 := HTS.out j
  obtain ⟨s, hs⟩ : ∃ s, tkAll ⟨Ls, ck, 0, 0⟩ (firstE T j) = s := ⟨_, rfl⟩
  have HSJ := aside hs
  rw [hs] at hS hH h1 h2 h3
  obtain ⟨Lj, cj, n, f⟩ := s
  simp only [Nat.zero_add] at h2
  have HST := aside h3
  have HS1 := aside hS
  have HL1 := aside hL
  have HH1 := aside hH
  have HZ1 := aside hZ
  have HK1 := aside hK
  have HLJ := aside (show Lj.length ≤ 1000000 from by have := HN.out; first | omega | (dsimp only at h1; omega))
  have HNF := aside (show n ≤ 1000 ∧ f ≤ 1000 from by have := HN.out; first | omega | (dsimp only at h2; omega))
  clear hS hL hH hZ hK h1 h2 h3 hs
  by_cases hlt : (j : Int) < (len : Int)
  ·have hj0 : (0 : Int) ≤ (j : Int) := by omega
   have eA := HES.out wr HK1.out
   rcases eA.2.2 with h0 | ⟨b, off, rfl, -, hc⟩
   ·omega
   obtain ⟨⟨c0, c1, c2, c3, c4⟩, -⟩ := hc j (by omega)
   obtain ⟨t, ht⟩ : ∃ t, T j = t := ⟨_, rfl⟩
   rw [ht] at c0 c1 c2 c3 c4
   rw [ht] at HST
   have BN := bnew wr (.cells #[.string t.k, .int .i64 t.c, .int .i64 t.n, .string t.v, .bool t.d] 77)
   have C := aside (qtake t (HS1.out.below BN) (HL1.out.keep BN) HLJ.out)
   have HS2 := aside (HS1.out.below BN)
   have HH2 := aside (blk_on HH1.out BN)
   have HZ2 := aside (blk_on HZ1.out BN)
   have HK2 := aside (HK1.out.alloc (.cells #[.string t.k, .int .i64 t.c, .int .i64 t.n, .string t.v, .bool t.d] 77))
   obtain ⟨q, hq⟩ : ∃ q, tkSay t Lj = q := ⟨_, rfl⟩
   have HQ := aside hq
   dsimp only at C
   rw [hq] at C
   obtain ⟨q1, q2⟩ := q
   dsimp only at C
   clear hc eA ht hq BN HS1 HL1 HH1 HZ1 HK1
   go_wp2_with fail
   refine C.out.mono ?_
   rintro e w4 ⟨rfl, k4, l4, hcase⟩
   have L4 := aside l4
   have HB4 := aside (blk_keep HH2.out k4 (HS2.out.not HH2.out (by decide) (by decide) (by decide)))
   have HZ4 := aside (blk_keep HZ2.out k4 (HS2.out.not HZ2.out (by decide) (by decide) (by decide)))
   have K4 := aside (HK2.out.trans k4)
   clear l4 k4 HH2 HZ2 HK2 C c0 c1 c2 c3 c4 HS2
   rcases hcase with ⟨e2, s4⟩ | ⟨e2, s4⟩
   ·subst e2
    have S4 := aside s4
    clear s4
    by_cases h80 : q1 = 80
    ·subst h80
     have HNX := aside (show tkStep ⟨Lj, cj, n, f⟩ t = ⟨Lj, cj, n, f + 1⟩ from by unfold tkStep; dsimp only; rw [HQ.out, if_neg (by simp), if_pos rfl])
     obtain ⟨z0, z1⟩ := two_h HB4.out
     have y0 := frozen_of_row _ _ 1 _ _ HB4.out
     have KF := aside ((Keeps.refl (fun x => x = hb) w4).setCell (p := ⟨hb, 1, none⟩) (fun _ => rfl) (.int .i64 (((f + 1 : Nat)) : Int)))
     have S5 := aside (S4.out.set HB4.out (by decide) (by decide) (by decide) (by decide) KF.out)
     have L5 := aside (L4.out.keeps KF.out (fun e => by have h9 := HLT.out; omega))
     have HB5 := set_in 1 (.int .i64 (((f + 1 : Nat)) : Int)) HB4.out
     simp only [List.setIfInBounds_toArray, List.set_cons_zero, List.set_cons_succ] at HB5
     have HB6 := aside HB5
     have HZ5 := aside (show (w4.setCell ⟨hb, 1, none⟩ (.int .i64 (((f + 1 : Nat)) : Int))).heap[rb]? = some (.cells #[.int .i64 0, .int .i64 0] 33 (0, 0)) from by rw [heap_setCell_other _ _ _ _ (by have h9 := HLT.out; simp; omega)]; exact HZ4.out)
     have K5 := aside (K4.out.setCell (p := ⟨hb, 1, none⟩) (fun hh => absurd hh (by have h9 := HLT.out; simp; omega)) (.int .i64 (((f + 1 : Nat)) : Int)))
     have hwr2 : IntKind.i64.wrap ((f : Int) + 1) = (((f + 1 : Nat)) : Int) := by rw [IntKind.wrap_i64]; push_cast; have := HNF.out; omega
     clear HB5 KF
     go_wp2
     go_roundw
     case rel => exact ⟨j + 1, by go_num, by omega, by rw [HST.out, HNX.out]; exact S5.out, L5.out, by rw [HST.out, HNX.out]; exact HB6.out, HZ5.out, K5.out⟩
     case measure => simp [intOf]; omega
    ·have hb80 : (q1 == 80) = false := by simpa using h80
     have HNX := aside (show tkStep ⟨Lj, cj, n, f⟩ t = ⟨Lj, cj, n, f⟩ from by unfold tkStep; dsimp only; rw [HQ.out, if_neg (by simp), if_neg (by simpa using h80)])
     go_wp2
     go_roundw
     case rel => exact ⟨j + 1, by go_num, by omega, by rw [HST.out, HNX.out]; exact S4.out, L4.out, by rw [HST.out, HNX.out]; exact HB4.out, HZ4.out, K4.out⟩
     case measure => simp [intOf]; omega
   ·subst e2
    have S4 := aside s4
    clear s4
    have HNX := aside (show tkStep ⟨Lj, cj, n, f⟩ t = ⟨insE t Lj, ckm cj t.c, n + 1, f⟩ from by unfold tkStep; dsimp only; rw [HQ.out, if_pos rfl])
    obtain ⟨z0, z1⟩ := two_h HB4.out
    have y0 := frozen_of_row _ _ 0 _ _ HB4.out
    have KF := aside ((Keeps.refl (fun x => x = hb) w4).setCell (p := ⟨hb, 0, none⟩) (fun _ => rfl) (.int .i64 (((n + 1 : Nat)) : Int)))
    have S5 := aside (S4.out.set HB4.out (by decide) (by decide) (by decide) (by decide) KF.out)
    have L5 := aside (L4.out.keeps KF.out (fun e => by have h9 := HLT.out; omega))
    have HB5 := set_in 0 (.int .i64 (((n + 1 : Nat)) : Int)) HB4.out
    simp only [List.setIfInBounds_toArray, List.set_cons_zero] at HB5
    have HB6 := aside HB5
    have HZ5 := aside (show (w4.setCell ⟨hb, 0, none⟩ (.int .i64 (((n + 1 : Nat)) : Int))).heap[rb]? = some (.cells #[.int .i64 0, .int .i64 0] 33 (0, 0)) from by rw [heap_setCell_other _ _ _ _ (by have h9 := HLT.out; simp; omega)]; exact HZ4.out)
    have K5 := aside (K4.out.setCell (p := ⟨hb, 0, none⟩) (fun hh => absurd hh (by have h9 := HLT.out; simp; omega)) (.int .i64 (((n + 1 : Nat)) : Int)))
    have hwr2 : IntKind.i64.wrap ((n : Int) + 1) = (((n + 1 : Nat)) : Int) := by rw [IntKind.wrap_i64]; push_cast; have := HNF.out; omega
    clear HB5 KF
    go_wp2
    go_roundw
    case rel => exact ⟨j + 1, by go_num, by omega, by rw [HST.out, HNX.out]; exact S5.out, L5.out, by rw [HST.out, HNX.out]; exact HB6.out, HZ5.out, K5.out⟩
    case measure => simp [intOf]; omega
  ·have hjl : j = len := by omega
   subst hjl
   obtain ⟨h0, h1⟩ := two_h HH1.out
   obtain ⟨z0, z1⟩ := two_h HZ1.out
   have y0 := frozen_of_row _ _ 0 _ _ HZ1.out
   have y1 := frozen_of_row _ _ 1 _ _ HZ1.out
   have KF := aside (((Keeps.refl (fun x => x = rb) wr).setCell (p := ⟨rb, 0, none⟩) (fun _ => rfl) (.int .i64 (n : Int))).setCell (p := ⟨rb, 1, none⟩) (fun _ => rfl) (.int .i64 (f : Int)))
   have SF := aside (HS1.out.set HZ1.out (by decide) (by decide) (by decide) (by decide) KF.out)
   have LF := aside (HL1.out.keeps KF.out (fun e => by have h9 := HL1.out.apart2; have h8 := HZ1.out; subst e; exact h9 _ _ h8 rfl))
   have KW := aside ((HK1.out.setCell (p := ⟨rb, 0, none⟩) (fun hh => absurd hh (by have h9 := HLT.out; simp; omega)) (.int .i64 (n : Int))).setCell (p := ⟨rb, 1, none⟩) (fun hh => absurd hh (by have h9 := HLT.out; simp; omega)) (.int .i64 (f : Int)))
   have KR := set_in 1 (.int .i64 (f : Int)) (set_in 0 (.int .i64 (n : Int)) HZ1.out)
   simp only [List.setIfInBounds_toArray, List.set_cons_zero, List.set_cons_succ] at KR
   have HKR := aside KR
   clear KR KF
   go_wp2
   obtain ⟨r0, r1⟩ := two_h HKR.out
   exact bodyPost_ret (v := .agg #[.int .i64 (n : Int), .int .i64 (f : Int)]) (by simp [results, Tryz.results62, go_sem, r0, r1]) rfl ⟨by rw [HSJ.out], by rw [HSJ.out]; exact SF.out, KW.out, LF.out⟩
end Go.Proofs.YtpbkjffiohfkcaaGreatDoor
