/-
  Check: which lists are maps, the code's and the document's own.
-/
import Derived.Test.YtpbkjffiohfkcaaGreatDoorBs1
import Derived.Test.YtpbkjffiohfkcaaGreatDoorBs17
import Derived.Deep.RegionHeld
import Derived.Maps.AppendAt
namespace Go.Proofs.YtpbkjffiohfkcaaGreatDoor
open Go.RowKit
set_option linter.unusedVariables false
theorem chk_rising {T : Nat → En} {k : Nat} {q : Int} (hq : (T (k + 1)).chk = q) (h0 : q = 0) : ckAt T (k + 1) = bif kLt (T k).k (T (k + 1)).k then 0 else 90 := by
 subst h0
 cases h : kLt (T k).k (T (k + 1)).k
 ·exact ckAt_ord hq ⟨by omega, h⟩
 ·exact ckAt_ok hq (fun g => by have := g.2; rw [show k + 1 - 1 = k from rfl, h] at this; cases this)
theorem chk_first {T : Nat → En} {q : Int} (hq : (T 0).chk = q) (h0 : q = 0) : ckAt T 0 = 0 := ckAt_ok (hq.trans h0) (fun g => by have := g.1; omega)
theorem leq_eq (x y : ByteArray) : (Op.bytesLess x.toList y.toList || x.toList == y.toList) = !kLt y x := by
 unfold kLt
 cases h1 : Op.bytesLess x.toList y.toList <;> cases h2 : Op.bytesLess y.toList x.toList
 ·have e := L_total _ _ h1 h2
  simp [e]
 ·have e : (x.toList == y.toList) = false := by
    rw [beq_eq_false_iff_ne]; intro e; rw [e, L_irrefl] at h2; cases h2
  simp [e]
 ·simp
 ·have := L_trans _ _ _ h1 h2
  rw [L_irrefl] at this
  cases this
theorem chk_of (t : En) (w : World) {q : Int} (h : t.chk = q) (F : Nat) (C : ∀ (k : ByteArray) (c n : Int) (v : ByteArray) (d : Bool) (w : World), Calls Tryz.prog F #[.agg #[.string k, .int .i64 c, .int .i64 n, .string v, .bool d]] w fun e w' => e = .returned (.int .i64 (En.chk ⟨k, c, n, v, d⟩)) ∧ Below w.heap.size w w') :
    Calls Tryz.prog F #[.agg #[.string t.k, .int .i64 t.c, .int .i64 t.n, .string t.v, .bool t.d]] w fun e w' => e = .returned (.int .i64 q) ∧ Below w.heap.size w w' := by
 subst h
 exact C t.k t.c t.n t.v t.d w
set_option maxHeartbeats 3200000 in
set_option maxRecDepth 100000 in
theorem mchk_any (a : Option Addr) (len cap : Nat) (T : Nat → En) (w : World) (h : EntsIn w a len cap T) :
    Calls Tryz.prog 140 #[.slice a len cap] w fun e w' => e = .returned (.int .i64 (ckN T len)) ∧ Below w.heap.size w w' := by
 have HE := aside h
 obtain ⟨hlc, hcm, -⟩ := h
 have hmx : (len : Int) ≤ 9223372036854775807 := by unfold maxLen at hcm; omega
 clear hlc hcm
 go_enter Tryz.func140, Tryz.ntmps140
 go_wp2
 go_loopw [8] (fun i wr => ∃ j : Nat, i = .int .i64 (j : Int) ∧ j ≤ len ∧ Hid (ckN T j = 0) ∧ Below w.heap.size w wr) (fun i _ => len - (intOf i).toNat)
 case atStart => exact ⟨0, rfl, Nat.zero_le _, rfl, Below.refl _ _⟩
 case round =>
  obtain ⟨j, rfl, hj, HC, hB⟩ := hrel
  have HB := aside hB
  clear hB
  by_cases hlt : (j : Int) < (len : Int)
  ·have hE := HE.out.keep HB.out
   rcases hE.2.2 with h0 | ⟨b, off, rfl, hb, hc⟩
   ·omega
   obtain ⟨⟨c0, c1, c2, c3, c4⟩, -⟩ := hc j (by omega)
   obtain ⟨q, hq⟩ : ∃ q, (T j).chk = q := ⟨_, rfl⟩
   have HQ := aside hq
   have hj0 : (0 : Int) ≤ (j : Int) := by omega
   have HCC := aside hc
   clear hc hE
   obtain ⟨t, ht⟩ : ∃ t, T j = t := ⟨_, rfl⟩
   have HT := aside ht
   rw [ht] at c0 c1 c2 c3 c4 hq
   have CQ := aside (fun W => chk_of t W hq _ ichk_any)
   clear ht hq
   by_cases hq0 : q = 0
   ·subst hq0
    go_wp2_with fail
    refine (CQ.out _).mono ?_
    rintro e w1 ⟨rfl, b1⟩
    have B2 := aside (HB.out.trans ((bthen (bnew wr (.cells #[.string t.k, .int .i64 t.c, .int .i64 t.n, .string t.v, .bool t.d] 77)) b1).mono HB.out.size))
    have kb := blk_on (heap_alloc_new wr (.cells #[.string t.k, .int .i64 t.c, .int .i64 t.n, .string t.v, .bool t.d] 77)) b1
    obtain ⟨⟨e0, -⟩, -⟩ := box5 kb
    generalize wr.heap.size = g at *
    have HC2 := aside (fun (i : Nat) (hi : i < len) => cell_in (HCC.out i hi).1.1 (bthen (bnew wr _) b1))
    clear b1 c0 c1 c2 c3 c4 kb CQ HCC
    cases j with
    | zero =>
     go_wp2_with fail
     refine wp_region_held_drew (S := fun W => Below w.heap.size w W) (by kernel_rfl) B2.out.drew (fun hHeld => ?_)
     refine tk 0 rfl _ ?_; refine tk 1 rfl _ ?_; refine tk 2 rfl _ ?_; refine tn 3 rfl ?_; refine tn 4 rfl ?_; refine tn 5 rfl ?_; refine tn 6 rfl ?_; refine tn 7 rfl ?_; refine tn 8 rfl ?_; refine tn 9 rfl ?_; refine tn 10 rfl ?_; refine tn 11 rfl ?_; refine tk 12 rfl _ ?_
     refine wpAnyH_done (by kernel_rfl) ?_ _
     have B3 := aside hHeld
     clear hHeld
     go_wp2
     go_roundw
     case rel => exact ⟨1, by go_num, by omega, (ckN_step HC.out).trans (chk_first HQ.out rfl), B3.out⟩
     case measure => simp [intOf]; omega
    | succ k =>
     have d0 := HC2.out k (by omega)
     obtain ⟨u, hu⟩ : ∃ u, T k = u := ⟨_, rfl⟩
     have HU := aside hu
     rw [hu] at d0
     clear hu HC2
     have hk0 : (0 : Int) ≤ (k : Int) := by omega
     have hk1 : (k : Int) < (len : Int) := by omega
     have hk2 : (0 : Int) ≤ (k : Int) + 1 := by omega
     have hk3 : (0 : Int) < (k : Int) + 1 := by omega
     have hk4 : (k : Int) + 1 < (len : Int) := by omega
     have hw2 : IntKind.i64.wrap (k : Int) = (k : Int) := by simp only [IntKind.wrap_i64]; omega
     go_wp2_with fail
     refine wp_region_held_drew (S := fun W => Below w.heap.size w W ∧ W.cell? ⟨b, off + k * 5, none⟩ = some (.string u.k) ∧ W.cell? ⟨g, 0, none⟩ = some (.string t.k)) (by kernel_rfl) ⟨B2.out.drew, d0, e0⟩ (fun hHeld => ?_)
     refine tk 0 rfl _ ?_; refine tk 1 rfl _ ?_; refine tk 2 rfl _ ?_; refine tk 3 rfl _ ?_; refine tk 4 rfl _ ?_; refine tk 5 rfl _ ?_; refine tk 6 rfl _ ?_; refine tk 7 rfl _ ?_; refine tk 8 rfl _ ?_; refine tk 9 rfl _ ?_; refine tk 10 rfl _ ?_; refine tk 11 rfl (.bool (!kLt u.k t.k)) ?_ (by intro w hSw; go_simp; exact leq_eq _ _); refine tk 12 rfl _ ?_
     refine wpAnyH_done (by kernel_rfl) ?_ _
     have B3 := aside hHeld.1
     clear hHeld hw2
     have KQ := aside (chk_rising HQ.out rfl)
     rw [HU.out, HT.out] at KQ
     cases hkk : kLt u.k t.k
     ·rw [hkk] at KQ
      go_wp2
      go_ret
      exact ⟨ret_i64 ((ckN_bad HC.out (by omega) (by rw [KQ.out]; decide)).trans KQ.out).symm, B3.out⟩
     ·rw [hkk] at KQ
      go_wp2
      go_roundw
      case rel => exact ⟨k + 1 + 1, by go_num, by omega, (ckN_step HC.out).trans KQ.out, B3.out⟩
      case measure => simp [intOf]; omega
   ·have HQ0 := aside hq0
    go_wp2_with fail
    refine (CQ.out _).mono ?_
    rintro e w1 ⟨rfl, b1⟩
    have B2 := aside (HB.out.trans ((bthen (bnew wr (.cells #[.string t.k, .int .i64 t.c, .int .i64 t.n, .string t.v, .bool t.d] 77)) b1).mono HB.out.size))
    clear b1 CQ c0 c1 c2 c3 c4
    have hqb : (q == 0) = false := by simpa using hq0
    go_wp2
    go_ret
    have hne : (T j).chk ≠ 0 := by rw [HQ.out]; exact HQ0.out
    exact ⟨ret_i64 (by rw [ckN_bad HC.out (by omega) (by rw [ckAt_ent hne]; exact hne), ckAt_ent hne]; exact HQ.out.symm), B2.out⟩
  ·have hjl : j = len := by omega
   subst hjl
   go_wp2
   go_ret
   exact ⟨ret_i64 HC.out.symm, HB.out⟩
set_option maxHeartbeats 3200000 in
set_option maxRecDepth 100000 in
theorem rchk_any (a : Option Addr) (len cap : Nat) (T : Nat → En) (w : World) (h : EntsIn w a len cap T) :
    Calls Tryz.prog 100 #[.slice a len cap] w fun e w' => e = .returned (.int .i64 (ckN T len)) ∧ Below w.heap.size w w' := by
 have HE := aside h
 obtain ⟨hlc, hcm, -⟩ := h
 have hmx : (len : Int) ≤ 9223372036854775807 := by unfold maxLen at hcm; omega
 clear hlc hcm
 go_enter Tryz.func100, Tryz.ntmps100
 go_wp2
 go_loopw [3] (fun i wr => ∃ j : Nat, i = .int .i64 (j : Int) ∧ j ≤ len ∧ Hid (ckN T j = 0) ∧ Below w.heap.size w wr) (fun i _ => len - (intOf i).toNat)
 case atStart => exact ⟨0, rfl, Nat.zero_le _, rfl, Below.refl _ _⟩
 case round =>
  obtain ⟨j, rfl, hj, HC, hB⟩ := hrel
  have HB := aside hB
  clear hB
  by_cases hlt : (j : Int) < (len : Int)
  ·have hE := HE.out.keep HB.out
   rcases hE.2.2 with h0 | ⟨b, off, rfl, hb, hc⟩
   ·omega
   obtain ⟨⟨c0, c1, c2, c3, c4⟩, -⟩ := hc j (by omega)
   obtain ⟨q, hq⟩ : ∃ q, (T j).chk = q := ⟨_, rfl⟩
   have HQ := aside hq
   have hj0 : (0 : Int) ≤ (j : Int) := by omega
   have HCC := aside hc
   clear hc hE
   obtain ⟨t, ht⟩ : ∃ t, T j = t := ⟨_, rfl⟩
   have HT := aside ht
   rw [ht] at c0 c1 c2 c3 c4 hq
   have CQ := aside (fun W => chk_of t W hq _ ichkRef_any)
   clear ht hq
   by_cases hq0 : q = 0
   ·subst hq0
    go_wp2_with fail
    refine (CQ.out _).mono ?_
    rintro e w1 ⟨rfl, b1⟩
    have B2 := aside (HB.out.trans (b1.mono HB.out.size))
    have e0 := cell_in c0 b1
    have HC2 := aside (fun (i : Nat) (hi : i < len) => cell_in (HCC.out i hi).1.1 b1)
    clear b1 c0 c1 c2 c3 c4  CQ HCC
    cases j with
    | zero =>
     go_wp2_with fail
     refine wp_region_held_drew (S := fun W => Below w.heap.size w W) (by kernel_rfl) B2.out.drew (fun hHeld => ?_)
     refine tk 0 rfl _ ?_; refine tk 1 rfl _ ?_; refine tk 2 rfl _ ?_; refine tn 3 rfl ?_; refine tn 4 rfl ?_; refine tn 5 rfl ?_; refine tn 6 rfl ?_; refine tn 7 rfl ?_; refine tn 8 rfl ?_; refine tn 9 rfl ?_; refine tn 10 rfl ?_; refine tn 11 rfl ?_; refine tn 12 rfl ?_; refine tn 13 rfl ?_; refine tn 14 rfl ?_; refine tk 15 rfl _ ?_
     refine wpAnyH_done (by kernel_rfl) ?_ _
     have B3 := aside hHeld
     clear hHeld
     go_wp2
     go_roundw
     case rel => exact ⟨1, by go_num, by omega, (ckN_step HC.out).trans (chk_first HQ.out rfl), B3.out⟩
     case measure => simp [intOf]; omega
    | succ k =>
     have d0 := HC2.out k (by omega)
     obtain ⟨u, hu⟩ : ∃ u, T k = u := ⟨_, rfl⟩
     have HU := aside hu
     rw [hu] at d0
     clear hu HC2
     have hk0 : (0 : Int) ≤ (k : Int) := by omega
     have hk1 : (k : Int) < (len : Int) := by omega
     have hk2 : (0 : Int) ≤ (k : Int) + 1 := by omega
     have hk3 : (0 : Int) < (k : Int) + 1 := by omega
     have hk4 : (k : Int) + 1 < (len : Int) := by omega
     have hw2 : IntKind.i64.wrap (k : Int) = (k : Int) := by simp only [IntKind.wrap_i64]; omega
     go_wp2_with fail
     refine wp_region_held_drew (S := fun W => Below w.heap.size w W ∧ W.cell? ⟨b, off + k * 5, none⟩ = some (.string u.k) ∧ W.cell? ⟨b, off + (k + 1) * 5, none⟩ = some (.string t.k)) (by kernel_rfl) ⟨B2.out.drew, d0, e0⟩ (fun hHeld => ?_)
     refine tk 0 rfl _ ?_; refine tk 1 rfl _ ?_; refine tk 2 rfl _ ?_; refine tk 3 rfl _ ?_; refine tk 4 rfl _ ?_; refine tk 5 rfl _ ?_; refine tk 6 rfl _ ?_; refine tk 7 rfl _ ?_; refine tk 8 rfl _ ?_; refine tk 9 rfl _ ?_; refine tk 10 rfl _ ?_; refine tk 11 rfl _ ?_; refine tk 12 rfl _ ?_; refine tk 13 rfl _ ?_; refine tk 14 rfl (.bool (!kLt u.k t.k)) ?_ (by intro w hSw; go_simp; exact leq_eq _ _); refine tk 15 rfl _ ?_
     refine wpAnyH_done (by kernel_rfl) ?_ _
     have B3 := aside hHeld.1
     clear hHeld hw2
     have KQ := aside (chk_rising HQ.out rfl)
     rw [HU.out, HT.out] at KQ
     cases hkk : kLt u.k t.k
     ·rw [hkk] at KQ
      go_wp2
      go_ret
      exact ⟨ret_i64 ((ckN_bad HC.out (by omega) (by rw [KQ.out]; decide)).trans KQ.out).symm, B3.out⟩
     ·rw [hkk] at KQ
      go_wp2
      go_roundw
      case rel => exact ⟨k + 1 + 1, by go_num, by omega, (ckN_step HC.out).trans KQ.out, B3.out⟩
      case measure => simp [intOf]; omega
   ·have HQ0 := aside hq0
    go_wp2_with fail
    refine (CQ.out _).mono ?_
    rintro e w1 ⟨rfl, b1⟩
    have B2 := aside (HB.out.trans (b1.mono HB.out.size))
    clear b1 CQ c0 c1 c2 c3 c4
    have hqb : (q == 0) = false := by simpa using hq0
    go_wp2
    go_ret
    have hne : (T j).chk ≠ 0 := by rw [HQ.out]; exact HQ0.out
    exact ⟨ret_i64 (by rw [ckN_bad HC.out (by omega) (by rw [ckAt_ent hne]; exact hne), ckAt_ent hne]; exact HQ.out.symm), B2.out⟩
  ·have hjl : j = len := by omega
   subst hjl
   go_wp2
   go_ret
   exact ⟨ret_i64 HC.out.symm, HB.out⟩
def ck2 (A : Nat → En) (la : Nat) (B : Nat → En) (lb : Nat) : Int := if ckN A la ≠ 0 then ckN A la else ckN B lb
theorem ck2_ok {A : Nat → En} {la : Nat} {B : Nat → En} {lb : Nat} : ck2 A la B lb = 0 ↔ MapL (firstE A la) ∧ MapL (firstE B lb) := by
 rw [← ck_map, ← ck_map]
 unfold ck2
 split
 ·rename_i h; exact ⟨fun e => absurd e h, fun e => absurd e.1 h⟩
 ·rename_i h; exact ⟨fun e => ⟨by simpa using h, e⟩, fun e => e.2⟩
set_option maxHeartbeats 3200000 in
theorem mchk2_any (a : Option Addr) (la ca : Nat) (A : Nat → En) (b : Option Addr) (lb cb : Nat) (B : Nat → En) (w : World) (hA : EntsIn w a la ca A) (hB : EntsIn w b lb cb B) :
    Calls Tryz.prog 119 #[.slice a la ca, .slice b lb cb] w fun e w' => e = .returned (.int .i64 (ck2 A la B lb)) ∧ Below w.heap.size w w' := by
 obtain ⟨q, hq⟩ : ∃ q, ckN A la = q := ⟨_, rfl⟩
 have CA := aside (mchk_any a la ca A w hA)
 rw [hq] at CA
 have CB := aside (fun W (bb : Below w.heap.size w W) => mchk_any b lb cb B W (hB.keep bb))
 have HQ := aside hq
 clear hA hB hq
 by_cases h0 : q = 0
 ·subst h0
  go_enter Tryz.func119, Tryz.ntmps119
  go_wp2_with fail
  refine CA.out.mono ?_
  rintro e w1 ⟨rfl, b1⟩
  have B1 := aside b1
  clear b1
  go_wp2_with fail
  refine (CB.out _ B1.out).mono ?_
  rintro e w2 ⟨rfl, b2⟩
  have B2 := aside (bthen B1.out b2)
  clear b2
  go_wp2
  go_ret
  exact ⟨ret_i64 (by unfold ck2; rw [if_neg (by simp [HQ.out])]), B2.out⟩
 ·have h0' : (q == 0) = false := by simpa using h0
  have H0 := aside h0
  go_enter Tryz.func119, Tryz.ntmps119
  go_wp2_with fail
  refine CA.out.mono ?_
  rintro e w1 ⟨rfl, b1⟩
  have B1 := aside b1
  clear b1
  go_wp2
  go_ret
  exact ⟨ret_i64 (by unfold ck2; rw [if_pos (by rw [HQ.out]; exact H0.out)]; exact HQ.out.symm), B1.out⟩
set_option maxHeartbeats 3200000 in
theorem rchk2_any (a : Option Addr) (la ca : Nat) (A : Nat → En) (b : Option Addr) (lb cb : Nat) (B : Nat → En) (w : World) (hA : EntsIn w a la ca A) (hB : EntsIn w b lb cb B) :
    Calls Tryz.prog 67 #[.slice a la ca, .slice b lb cb] w fun e w' => e = .returned (.int .i64 (ck2 A la B lb)) ∧ Below w.heap.size w w' := by
 obtain ⟨q, hq⟩ : ∃ q, ckN A la = q := ⟨_, rfl⟩
 have CA := aside (rchk_any a la ca A w hA)
 rw [hq] at CA
 have CB := aside (fun W (bb : Below w.heap.size w W) => rchk_any b lb cb B W (hB.keep bb))
 have HQ := aside hq
 clear hA hB hq
 by_cases h0 : q = 0
 ·subst h0
  go_enter Tryz.func67, Tryz.ntmps67
  go_wp2_with fail
  refine CA.out.mono ?_
  rintro e w1 ⟨rfl, b1⟩
  have B1 := aside b1
  clear b1
  go_wp2_with fail
  refine (CB.out _ B1.out).mono ?_
  rintro e w2 ⟨rfl, b2⟩
  have B2 := aside (bthen B1.out b2)
  clear b2
  go_wp2
  go_ret
  exact ⟨ret_i64 (by unfold ck2; rw [if_neg (by simp [HQ.out])]), B2.out⟩
 ·have h0' : (q == 0) = false := by simpa using h0
  have H0 := aside h0
  go_enter Tryz.func67, Tryz.ntmps67
  go_wp2_with fail
  refine CA.out.mono ?_
  rintro e w1 ⟨rfl, b1⟩
  have B1 := aside b1
  clear b1
  go_wp2
  go_ret
  exact ⟨ret_i64 (by unfold ck2; rw [if_pos (by rw [HQ.out]; exact H0.out)]; exact HQ.out.symm), B1.out⟩
theorem own_slice {w : World} {B : Nat} {e : TypeId} {s : Nat} {v : Value} {n : Nat} {xs : List Value} (h : w.ownsRow B e s v n xs) : ∃ a c, v = .slice a n c ∧ n ≤ c ∧ c ≤ maxLen ∧ ((a = none ∧ n = 0 ∧ c = 0) ∨ ∃ g, a = some ⟨g, 0, none⟩ ∧ B ≤ g) := by
 rcases h.2 with ⟨rfl, rfl⟩ | ⟨g, cap, cur, rfl, hb, _, hn, hm, _⟩
 ·exact ⟨none, 0, rfl, Nat.le_refl _, Nat.zero_le _, .inl ⟨rfl, rfl, rfl⟩⟩
 ·exact ⟨_, cap, rfl, hn, hm, .inr ⟨g, rfl, hb⟩⟩
def DSt (w : World) (B db : Nat) (nd ck : Int) (l : List En) : Prop := ∃ v, w.heap[db]? = some (.cells #[.int .i64 nd, .int .i64 ck, v] 87 (0, 0)) ∧ w.ownsRow B 77 5 v l.length (entCells l)
theorem DSt.below {w w' : World} {B db : Nat} {nd ck : Int} {l : List En} (h : DSt w B db nd ck l) (b : Below w.heap.size w w') : DSt w' B db nd ck l := by
 obtain ⟨v, h1, h2⟩ := h
 exact ⟨v, blk_on h1 b, own_on h2 b⟩
def LdSay (w : World) (nd ck : Int) (l : List En) (e : Ending) (w' : World) : Prop :=
 (LdOk nd ck l ∧ ∃ db, e = .returned (.tuple #[.pointer (some ⟨db, 0, none⟩), .int .i64 0]) ∧ w.heap.size ≤ db ∧ DSt w' w.heap.size db nd ck l) ∨ (¬ LdOk nd ck l ∧ ∃ c, c ≠ 0 ∧ e = .returned (.tuple #[.pointer none, .int .i64 c]))
theorem ldOk_of {nd ck : Int} {T : Nat → En} {len : Nat} (h1 : nodeB nd = true) (h3 : ¬ ck < 0) (h4 : ¬ 1099511627776 < ck) (h5 : ¬ (256 : Int) < (len : Int)) (hc : ckN T len = 0 ∧ ∀ i, i < len → (T i).c ≤ ck) : LdOk nd ck (firstE T len) :=
 ⟨h1, by omega, by omega, by rw [firstE_len]; omega, (ck_map len).1 hc.1, fun e he => by
  unfold firstE at he
  obtain ⟨i, hi, rfl⟩ := List.mem_map.1 he
  exact hc.2 i (List.mem_range.1 hi)⟩
set_option maxHeartbeats 3200000 in
set_option maxRecDepth 100000 in
theorem rload (nd ck : Int) (a : Option Addr) (len cap : Nat) (T : Nat → En) (w : World) (h : EntsIn w a len cap T) (hform : (a = none ∧ len = 0 ∧ cap = 0) ∨ ∃ y, a = some y) :
    Calls Tryz.prog 29 #[.int .i64 nd, .int .i64 ck, .slice a len cap] w fun e w' => Below w.heap.size w w' ∧ LdSay w nd ck (firstE T len) e w' := by
 have HE := aside h
 obtain ⟨hlc, hcm, -⟩ := h
 have hmx : (len : Int) ≤ 9223372036854775807 := by unfold maxLen at hcm; omega
 clear hlc hcm
 by_cases h1 : nd < 0
 ·have HB := aside (node_no1 h1)
  go_enter Tryz.func29, Tryz.ntmps29
  go_wp2
  go_ret2
  exact ⟨Below.refl _ _, .inr ⟨fun k => by have := k.nd; first | (rw [HB.out] at this; cases this) | (simp only [firstE_len] at this; omega) | omega, _, by decide, rfl⟩⟩
 by_cases h2 : 8 ≤ nd
 ·have HB := aside (node_no2 h2)
  go_enter Tryz.func29, Tryz.ntmps29
  go_wp2
  go_ret2
  exact ⟨Below.refl _ _, .inr ⟨fun k => by have := k.nd; first | (rw [HB.out] at this; cases this) | (simp only [firstE_len] at this; omega) | omega, _, by decide, rfl⟩⟩
 have HN := aside (node_yes h1 h2)
 by_cases h3 : ck < 0
 ·have HB := aside h3
  go_enter Tryz.func29, Tryz.ntmps29
  go_wp2
  go_ret2
  exact ⟨Below.refl _ _, .inr ⟨fun k => by have := k.c0; first | (rw [HB.out] at this; cases this) | (simp only [firstE_len] at this; omega) | omega, _, by decide, rfl⟩⟩
 by_cases h4 : 1099511627776 < ck
 ·have HB := aside h4
  go_enter Tryz.func29, Tryz.ntmps29
  go_wp2
  go_ret2
  exact ⟨Below.refl _ _, .inr ⟨fun k => by have := k.c1; first | (rw [HB.out] at this; cases this) | (simp only [firstE_len] at this; omega) | omega, _, by decide, rfl⟩⟩
 by_cases h5 : (256 : Int) < (len : Int)
 ·have HB := aside h5
  go_enter Tryz.func29, Tryz.ntmps29
  go_wp2
  go_ret2
  exact ⟨Below.refl _ _, .inr ⟨fun k => by have := k.len; first | (rw [HB.out] at this; cases this) | (simp only [firstE_len] at this; omega) | omega, _, by decide, rfl⟩⟩
 have H3 := aside h3
 have H4 := aside h4
 have H5 := aside h5
 have HF := aside hform
 clear hform
 go_enter Tryz.func29, Tryz.ntmps29
 go_wp2
 clear h1 h2 h3 h4
 go_loopw [30] (fun i wr => ∃ j : Nat, i = .int .i64 (j : Int) ∧ j ≤ len ∧ Hid (ckN T j = 0 ∧ ∀ i, i < j → (T i).c ≤ ck) ∧ Below w.heap.size w wr) (fun i _ => len - (intOf i).toNat)
 case atStart => exact ⟨0, rfl, Nat.zero_le _, ⟨rfl, fun i hi => by omega⟩, Below.refl _ _⟩
 case round =>
  obtain ⟨j, rfl, hj, HC, hB⟩ := hrel
  have HB := aside hB
  clear hB
  by_cases hlt : (j : Int) < (len : Int)
  ·have hE := HE.out.keep HB.out
   rcases hE.2.2 with h0 | ⟨b, off, rfl, hb, hc⟩
   ·omega
   obtain ⟨⟨c0, c1, c2, c3, c4⟩, -⟩ := hc j (by omega)
   obtain ⟨q, hq⟩ : ∃ q, (T j).chk = q := ⟨_, rfl⟩
   have HQ := aside hq
   have hj0 : (0 : Int) ≤ (j : Int) := by omega
   have HCC := aside hc
   clear hc hE
   obtain ⟨t, ht⟩ : ∃ t, T j = t := ⟨_, rfl⟩
   have HT := aside ht
   rw [ht] at c0 c1 c2 c3 c4 hq
   have CQ := aside (fun W => chk_of t W hq _ ichkRef_any)
   clear ht hq
   by_cases hq0 : q = 0
   ·subst hq0
    go_wp2_with fail
    refine (CQ.out _).mono ?_
    rintro e w1 ⟨rfl, b1⟩
    have B2 := aside (HB.out.trans ((bthen (bnew wr (.cells #[.string t.k, .int .i64 t.c, .int .i64 t.n, .string t.v, .bool t.d] 77)) b1).mono HB.out.size))
    have kb := blk_on (heap_alloc_new wr (.cells #[.string t.k, .int .i64 t.c, .int .i64 t.n, .string t.v, .bool t.d] 77)) b1
    obtain ⟨⟨e0, e1, -⟩, -⟩ := box5 kb
    generalize wr.heap.size = g at *
    have HC2 := aside (fun (i : Nat) (hi : i < len) => cell_in (HCC.out i hi).1.1 (bthen (bnew wr _) b1))
    clear b1 c0 c1 c2 c3 c4 kb CQ HCC
    cases j with
    | zero =>
     go_wp2_with fail
     refine wp_region_held_drew (S := fun W => Below w.heap.size w W ∧ W.cell? ⟨g, 1, none⟩ = some (.int .i64 t.c)) (by kernel_rfl) ⟨B2.out.drew, e1⟩ (fun hHeld => ?_)
     refine tk 0 rfl _ ?_; refine tk 1 rfl _ ?_; refine tk 2 rfl _ ?_; refine tn 3 rfl ?_; refine tn 4 rfl ?_; refine tn 5 rfl ?_; refine tn 6 rfl ?_; refine tn 7 rfl ?_; refine tn 8 rfl ?_; refine tn 9 rfl ?_; refine tn 10 rfl ?_; refine tn 11 rfl ?_; refine tk 12 rfl _ ?_
     refine wpAnyH_done (by kernel_rfl) ?_ _
     have B3 := aside hHeld.1
     have C1 := aside hHeld.2
     clear hHeld e0 e1
     have cv := C1.out
     by_cases hv : ck < t.c
     ·go_wp2
      go_ret2
      exact ⟨B3.out, .inr ⟨fun k9 => by have := k9.ver _ (first_mem (T := T) (j := 0) (by omega)); rw [HT.out] at this; omega, _, by decide, rfl⟩⟩
     ·have HV := aside hv
      go_wp2
      go_roundw
      case rel => exact ⟨0 + 1, by go_num, by omega, ⟨(ckN_step HC.out.1).trans (chk_first HQ.out rfl), fun i hi => by rcases Nat.lt_succ_iff_lt_or_eq.1 hi with h9 | h9; exact HC.out.2 i h9; (subst h9; rw [HT.out]; have := HV.out; omega)⟩, B3.out⟩
      case measure => simp [intOf]; omega
    | succ k =>
     have d0 := HC2.out k (by omega)
     obtain ⟨u, hu⟩ : ∃ u, T k = u := ⟨_, rfl⟩
     have HU := aside hu
     rw [hu] at d0
     clear hu HC2
     have hk0 : (0 : Int) ≤ (k : Int) := by omega
     have hk1 : (k : Int) < (len : Int) := by omega
     have hk2 : (0 : Int) ≤ (k : Int) + 1 := by omega
     have hk3 : (0 : Int) < (k : Int) + 1 := by omega
     have hk4 : (k : Int) + 1 < (len : Int) := by omega
     have hw2 : IntKind.i64.wrap (k : Int) = (k : Int) := by simp only [IntKind.wrap_i64]; omega
     go_wp2_with fail
     refine wp_region_held_drew (S := fun W => Below w.heap.size w W ∧ W.cell? ⟨b, off + k * 5, none⟩ = some (.string u.k) ∧ W.cell? ⟨g, 0, none⟩ = some (.string t.k) ∧ W.cell? ⟨g, 1, none⟩ = some (.int .i64 t.c)) (by kernel_rfl) ⟨B2.out.drew, d0, e0, e1⟩ (fun hHeld => ?_)
     refine tk 0 rfl _ ?_; refine tk 1 rfl _ ?_; refine tk 2 rfl _ ?_; refine tk 3 rfl _ ?_; refine tk 4 rfl _ ?_; refine tk 5 rfl _ ?_; refine tk 6 rfl _ ?_; refine tk 7 rfl _ ?_; refine tk 8 rfl _ ?_; refine tk 9 rfl _ ?_; refine tk 10 rfl _ ?_; refine tk 11 rfl (.bool (!kLt u.k t.k)) ?_ (by intro w hSw; go_simp; exact leq_eq _ _); refine tk 12 rfl _ ?_
     refine wpAnyH_done (by kernel_rfl) ?_ _
     have B3 := aside hHeld.1
     have C1 := aside hHeld.2.2.2
     clear hHeld hw2 e0 e1 d0
     have KQ := aside (chk_rising HQ.out rfl)
     rw [HU.out, HT.out] at KQ
     cases hkk : kLt u.k t.k
     ·rw [hkk] at KQ
      go_wp2
      go_ret2
      refine ⟨B3.out, .inr ⟨fun k9 => ?_, _, by decide, rfl⟩⟩
      have h9 := (ck_map len).2 k9.map
      have := ckN_bad (n := len) HC.out.1 (by omega) (by rw [KQ.out]; decide)
      rw [KQ.out, h9] at this
      cases this
     ·rw [hkk] at KQ
      have cv := C1.out
      by_cases hv : ck < t.c
      ·go_wp2
       go_ret2
       exact ⟨B3.out, .inr ⟨fun k9 => by have := k9.ver _ (first_mem (T := T) (j := (k + 1)) (by omega)); rw [HT.out] at this; omega, _, by decide, rfl⟩⟩
      ·have HV := aside hv
       go_wp2
       go_roundw
       case rel => exact ⟨(k + 1) + 1, by go_num, by omega, ⟨(ckN_step HC.out.1).trans KQ.out, fun i hi => by rcases Nat.lt_succ_iff_lt_or_eq.1 hi with h9 | h9; exact HC.out.2 i h9; (subst h9; rw [HT.out]; have := HV.out; omega)⟩, B3.out⟩
       case measure => simp [intOf]; omega
   ·have HQ0 := aside hq0
    go_wp2_with fail
    refine (CQ.out _).mono ?_
    rintro e w1 ⟨rfl, b1⟩
    have B2 := aside (HB.out.trans ((bthen (bnew wr (.cells #[.string t.k, .int .i64 t.c, .int .i64 t.n, .string t.v, .bool t.d] 77)) b1).mono HB.out.size))
    clear b1 CQ c0 c1 c2 c3 c4
    have hqb : (q == 0) = false := by simpa using hq0
    go_wp2
    go_ret2
    exact ⟨B2.out, .inr ⟨fun k9 => HQ0.out (by have := k9.map.chk _ (first_mem (T := T) (j := j) (by omega)); rw [HQ.out] at this; exact this), _, HQ0.out, rfl⟩⟩
  ·have hjl : j = len := by omega
   subst hjl
   have HEV := aside (HE.out.keep HB.out)
   go_wp2_with (at_builtin; refine wpList_plain rfl fun K hK => op_append_copy _ _ rfl (by rfl) a j cap T (by rfl) HEV.out HF.out (by have := H5.out; omega) ?_; intro v9 w3 own9 b9; refine hK _ _ ?_; refine Hid.out ?_)
   refine aside ?_
   obtain ⟨a9, c9, rfl, -, -, -⟩ := own_slice own9
   have O9 := aside own9
   have B9 := aside b9
   clear own9 b9 HEV
   go_wp2
   go_ret2
   refine ⟨(HB.out.trans (B9.out.mono HB.out.size)).alloc (by have := HB.out.size; have := B9.out.size; omega) _, .inl ⟨ldOk_of HN.out (by have := H3.out; omega) (by have := H4.out; omega) (by have := H5.out; omega) HC.out, w3.heap.size, rfl, by have := HB.out.size; have := B9.out.size; omega, _, heap_alloc_new w3 _, ?_⟩⟩
   rw [firstE_len]
   exact own_low (own_on O9.out (bnew w3 _)) HB.out.size
def PS (A : Nat → En) (la : Nat) (B : Nat → En) (lb : Nat) (pre : List (En × En)) (i j : Nat) : Prop :=
 pre ++ prs ((firstE A la).drop i) ((firstE B lb).drop j) = prs (firstE A la) (firstE B lb)
theorem PS.start (A : Nat → En) (la : Nat) (B : Nat → En) (lb : Nat) : PS A la B lb [] 0 0 := rfl
theorem PS.left {A : Nat → En} {la : Nat} {B : Nat → En} {lb : Nat} {pre : List (En × En)} {i j : Nat} (h : PS A la B lb pre i j) (hi : i < la) (hj : lb ≤ j) : PS A la B lb (pre ++ [(A i, eZ)]) (i + 1) j := by
 unfold PS at *
 rw [firstE_drop A hi, firstE_end B hj, prs_left] at h
 rw [firstE_end B hj, List.append_assoc]
 exact h
theorem PS.right {A : Nat → En} {la : Nat} {B : Nat → En} {lb : Nat} {pre : List (En × En)} {i j : Nat} (h : PS A la B lb pre i j) (hi : la ≤ i) (hj : j < lb) : PS A la B lb (pre ++ [(eZ, B j)]) i (j + 1) := by
 unfold PS at *
 rw [firstE_drop B hj, firstE_end A hi, prs_right] at h
 rw [firstE_end A hi, List.append_assoc]
 exact h
theorem PS.lt {A : Nat → En} {la : Nat} {B : Nat → En} {lb : Nat} {pre : List (En × En)} {i j : Nat} (h : PS A la B lb pre i j) (hi : i < la) (hj : j < lb) (hk : kLt (A i).k (B j).k = true) : PS A la B lb (pre ++ [(A i, eZ)]) (i + 1) j := by
 unfold PS at *
 rw [firstE_drop A hi, firstE_drop B hj, prs_lt _ _ hk, ← firstE_drop B hj] at h
 rw [List.append_assoc]
 exact h
theorem PS.gt {A : Nat → En} {la : Nat} {B : Nat → En} {lb : Nat} {pre : List (En × En)} {i j : Nat} (h : PS A la B lb pre i j) (hi : i < la) (hj : j < lb) (hk : kLt (A i).k (B j).k = false) (hk2 : kLt (B j).k (A i).k = true) : PS A la B lb (pre ++ [(eZ, B j)]) i (j + 1) := by
 unfold PS at *
 rw [firstE_drop A hi, firstE_drop B hj, prs_gt _ _ hk hk2, ← firstE_drop A hi] at h
 rw [List.append_assoc]
 exact h
theorem PS.eq {A : Nat → En} {la : Nat} {B : Nat → En} {lb : Nat} {pre : List (En × En)} {i j : Nat} (h : PS A la B lb pre i j) (hi : i < la) (hj : j < lb) (hk : kLt (A i).k (B j).k = false) (hk2 : kLt (B j).k (A i).k = false) : PS A la B lb (pre ++ [(A i, B j)]) (i + 1) (j + 1) := by
 unfold PS at *
 rw [firstE_drop A hi, firstE_drop B hj, prs_eq _ _ hk hk2] at h
 rw [List.append_assoc]
 exact h
theorem PS.done {A : Nat → En} {la : Nat} {B : Nat → En} {lb : Nat} {pre : List (En × En)} {i j : Nat} (h : PS A la B lb pre i j) (hi : la ≤ i) (hj : lb ≤ j) : pre = prs (firstE A la) (firstE B lb) := by
 unfold PS at h
 rw [firstE_end A hi, firstE_end B hj, prs_nil, List.append_nil] at h
 exact h
theorem PS.part {A : Nat → En} {la : Nat} {B : Nat → En} {lb : Nat} {pre : List (En × En)} {i j : Nat} (h : PS A la B lb pre i j) : ∃ r, pre ++ r = prs (firstE A la) (firstE B lb) := ⟨_, h⟩
def prVals (p : En × En) : List Value := entVals p.1 ++ entVals p.2
def prCells : List (En × En) → List Value
 | [] => []
 | p :: r => prVals p ++ prCells r
theorem prCells_length : ∀ l : List (En × En), (prCells l).length = l.length * 10
 | [] => rfl
 | e :: r => by simp only [prCells, List.length_append, prCells_length r, List.length_cons, prVals, entVals]; simp; omega
theorem prCells_append : ∀ l m : List (En × En), prCells (l ++ m) = prCells l ++ prCells m
 | [], _ => rfl
 | e :: r, m => by simp [prCells, prCells_append r m]
theorem prCells_one (l : List (En × En)) : ∀ u ∈ prCells l, u.oneCell' = true := by
 induction l with
 | nil => intro u hu; simp [prCells] at hu
 | cons e r ih =>
  intro u hu
  simp only [prCells, List.mem_append] at hu
  rcases hu with hu | hu
  ·simp [prVals, entVals] at hu
   rcases hu with rfl | rfl | rfl | rfl | rfl | rfl | rfl | rfl | rfl | rfl <;> rfl
  ·exact ih u hu
theorem prCells_at : ∀ (l : List (En × En)) (i r : Nat) (p : En × En), l[i]? = some p → r < 10 → (prCells l)[i * 10 + r]? = (prVals p)[r]?
 | [], i, r, e, h, _ => by simp at h
 | x :: t, 0, r, e, h, hr => by
  simp at h; subst h
  simp only [prCells]
  rw [List.getElem?_append_left (by simp [prVals, entVals]; omega)]
  simp
 | x :: t, i + 1, r, e, h, hr => by
  simp only [prCells]
  rw [List.getElem?_append_right (by simp [prVals, entVals]; omega)]
  have := prCells_at t i r e (by simpa using h) hr
  rw [← this]
  congr 1
  simp [prVals, entVals]
  omega
theorem infoPr : (Tryz.prog.info? 133).map (fun i => (i.zero, i.size, i.bytes)) = some (some (.agg #[.string ⟨#[]⟩, .int .i64 0, .int .i64 0, .string ⟨#[]⟩, .bool false, .string ⟨#[]⟩, .int .i64 0, .int .i64 0, .string ⟨#[]⟩, .bool false]), 10, 112) := by kernel_rfl
theorem op_append_pr {w : World} {o : Oper} {act : Act} {K : Act → World → Prop} {Q : Exit → Act → World → Prop} (s x : Operand)
    (ho : o.op = .call { callee := .builtin .append, args := #[s, x], argTypes := #[129, 129] })
    (B n : Nat) (v : Value) (l : List (En × En)) (hs : act.eval s = v) (hown : w.ownsRow B 133 10 v n (prCells l)) (b c : Nat) (p : En × En) (hx : act.eval x = .slice (some ⟨b, 0, none⟩) 1 c)
    (hb : w.heap[b]? = some (.cells #[.string p.1.k, .int .i64 p.1.c, .int .i64 p.1.n, .string p.1.v, .bool p.1.d, .string p.2.k, .int .i64 p.2.c, .int .i64 p.2.n, .string p.2.v, .bool p.2.d] 133 (0, 0))) (hlen : n * 112 ≤ 140737488351232) (hB : B ≤ w.heap.size)
    (h : ∀ g cap w', w'.ownsRow B 133 10 (.slice (some ⟨g, 0, none⟩) (n + 1) cap) (n + 1) (prCells (l ++ [p])) → w.grownBy w' v.ownBlock → K (act.put o.dst (.slice (some ⟨g, 0, none⟩) (n + 1) cap)) w') : o.wp Tryz.prog act w K Q := by
 obtain ⟨i0, hi, hz0, hz1, hz2⟩ := info_parts infoPr
 refine wp_append_own w s x _ ho B 133 i0 _ 10 112 Tryz.underlying129 hi hz0 hz1 hz2 rfl (by decide) _ _ _ hs hown ⟨b, 0, none⟩ 1 c (prVals p) hx rfl ?_ (fun u hu => prCells_one [p] u (by simpa [prCells] using hu)) (by unfold maxLen; omega) (by omega) hB ?_
 ·exact World.news_of_block (cs := #[.string p.1.k, .int .i64 p.1.c, .int .i64 p.1.n, .string p.1.v, .bool p.1.d, .string p.2.k, .int .i64 p.2.c, .int .i64 p.2.n, .string p.2.v, .bool p.2.d]) (t := 133) (fr := (0, 0)) hb
 ·intro v' w' ho' hg _
  have e1 : prCells l ++ prVals p = prCells (l ++ [p]) := by rw [prCells_append]; simp [prCells]
  rw [e1] at ho'
  rcases ho'.2 with ⟨h1, h2⟩ | ⟨g, cap', cur, rfl, _⟩
  ·omega
  ·exact h g cap' w' ho' hg
theorem own_emptyPr (w : World) (B : Nat) (h : B ≤ w.heap.size) : (w.alloc (.cells #[] 133)).ownsRow B 133 10 (.slice (some ⟨w.heap.size, 0, none⟩) 0 0) 0 (prCells []) := by
 refine ⟨rfl, .inr ⟨w.heap.size, 0, #[], rfl, h, heap_alloc_new w _, Nat.le_refl _, Nat.zero_le _, rfl, rfl⟩⟩
theorem pr_cells {w : World} {B g cap n : Nat} {l : List (En × En)} (h : w.ownsRow B 133 10 (.slice (some ⟨g, 0, none⟩) n cap) n (prCells l)) {i : Nat} {p : En × En} (hi : l[i]? = some p) :
    (w.cell? ⟨g, i * 10, none⟩ = some (.string p.1.k) ∧ w.cell? ⟨g, i * 10 + 1, none⟩ = some (.int .i64 p.1.c) ∧ w.cell? ⟨g, i * 10 + 2, none⟩ = some (.int .i64 p.1.n) ∧ w.cell? ⟨g, i * 10 + 3, none⟩ = some (.string p.1.v) ∧ w.cell? ⟨g, i * 10 + 4, none⟩ = some (.bool p.1.d)) ∧
    (w.cell? ⟨g, i * 10 + 5, none⟩ = some (.string p.2.k) ∧ w.cell? ⟨g, i * 10 + 6, none⟩ = some (.int .i64 p.2.c) ∧ w.cell? ⟨g, i * 10 + 7, none⟩ = some (.int .i64 p.2.n) ∧ w.cell? ⟨g, i * 10 + 8, none⟩ = some (.string p.2.v) ∧ w.cell? ⟨g, i * 10 + 9, none⟩ = some (.bool p.2.d)) := by
 have hl : l.length = n := by have := h.1; rw [prCells_length] at this; omega
 have hin := (List.getElem?_eq_some_iff.1 hi).1
 have c : ∀ r, r < 10 → w.cell? ⟨g, i * 10 + r, none⟩ = (prVals p)[r]? := fun r hr => by
  rw [h.cellAt (i * 10 + r) (by omega), prCells_at l i r _ hi hr]
 exact ⟨⟨by simpa [prVals, entVals] using c 0 (by omega), by simpa [prVals, entVals] using c 1 (by omega), by simpa [prVals, entVals] using c 2 (by omega), by simpa [prVals, entVals] using c 3 (by omega), by simpa [prVals, entVals] using c 4 (by omega)⟩,
  by simpa [prVals, entVals] using c 5 (by omega), by simpa [prVals, entVals] using c 6 (by omega), by simpa [prVals, entVals] using c 7 (by omega), by simpa [prVals, entVals] using c 8 (by omega), by simpa [prVals, entVals] using c 9 (by omega)⟩
end Go.Proofs.YtpbkjffiohfkcaaGreatDoor
