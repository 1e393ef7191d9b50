/-
  What the laws on match ask of their own: the bound, lists compared, a list of one part.
-/
import Derived.Test.YtpbkjffiohfkcaaGreatDoorBs1
import Derived.Test.YtpbkjffiohfkcaaGreatDoorBs37
import Derived.Test.YtpbkjffiohfkcaaGreatDoorBs21
import Derived.Test.YtpbkjffiohfkcaaGreatDoorBs30
import Derived.Test.YtpbkjffiohfkcaaGreatDoorBs24
import Derived.Test.YtpbkjffiohfkcaaGreatDoorBs17
import Derived.Test.YtpbkjffiohfkcaaGreatDoorBs26
import Derived.Test.YtpbkjffiohfkcaaGreatDoorBs29
import Derived.Deep.Cut
import Derived.Test.YtpbkjffiohfkcaaGreatDoorBs34
namespace Go.Proofs.YtpbkjffiohfkcaaGreatDoor
open Go.RowKit
set_option linter.unusedVariables false
def By13 (w : World) (n : Nat) (e : Ending) (w' : World) : Prop := ∃ q, e = .returned (.bool q) ∧ (q = false → n ≤ 536870912) ∧ Below w.heap.size w w'
set_option maxHeartbeats 6400000 in
set_option maxRecDepth 100000 in
theorem beyond13_any (pa : Option Addr) (pl pc : Nat) (P : Nat → Pm) (gb m cq : Nat) (ad : Nat → Option Addr) (ln cp : Nat → Nat) (T : Nat → Nat → En) (w : World) (hm : m ≤ 1000) (h : ListsIn w gb m ad ln cp T) (hP : PartsIn w pa pl pc P) :
    Calls Tryz.prog 8 #[.slice pa pl pc, .slice (some ⟨gb, 0, none⟩) m cq] w fun e w' => By13 w (pl + totE P pl + smL ln m) e w' := by
 have HL := aside h
 have CW := aside (weight_any pa pl pc P w hP)
 obtain ⟨W0, hW0⟩ : ∃ W0, pl + totE P pl = W0 := ⟨_, rfl⟩
 rw [hW0] at CW ⊢
 clear h hP hW0
 go_enter Tryz.func8, Tryz.ntmps8
 go_wp2_with fail
 refine CW.out.mono ?_
 rintro e w1 ⟨c1, rfl, hc1, b1⟩
 have HC1 := aside hc1
 have B1 := aside b1
 clear b1 hc1 CW
 go_wp2
 go_loopw [5, 6] (fun n i wr => ∃ (k c : Nat), n = .int .i64 (c : Int) ∧ i = .int .i64 (k : Int) ∧ k ≤ m ∧ 0 ≤ c ∧ Hid (c ≤ 536870912 → W0 + smL ln k ≤ c) ∧ Below w.heap.size w wr) (fun _ i _ => m - (intOf i).toNat)
 case atStart => exact ⟨0, c1, rfl, rfl, Nat.zero_le _, Nat.zero_le _, fun h => by have := HC1.out h; simp only [smL]; omega, B1.out⟩
 case round =>
  obtain ⟨k, c, rfl, rfl, hk, hc, HS, hB⟩ := hrel
  have HB := aside hB
  clear hB
  by_cases hlt : (k : Int) < (m : Int)
  ·have hk0 : (0 : Int) ≤ (k : Int) := by omega
   obtain ⟨hcell, hE⟩ := HL.out k (by omega)
   have HE := aside hE
   have HCL := aside hcell
   have HLK := aside (show smL ln (k + 1) = smL ln k + ln k from rfl)
   obtain ⟨s0, hs0⟩ : ∃ s0, smL ln k = s0 := ⟨_, rfl⟩
   rw [hs0] at HS HLK
   clear hs0
   generalize ad k = a at *
   obtain ⟨n, hn⟩ : ∃ n, ln k = n := ⟨_, rfl⟩
   rw [hn] at HE HCL HLK
   generalize cp k = cpk at *
   generalize T k = Tk at *
   have hmx : (n : Int) ≤ 9223372036854775807 := by have h1 := HE.out.1; have h2 := HE.out.2.1; unfold maxLen at h2; omega
   clear hcell hE hn
   go_wp2
   go_loopw [5, 7] (fun u i wr => ∃ (j c : Nat), u = .int .i64 (c : Int) ∧ i = .int .i64 (j : Int) ∧ j ≤ n ∧ 0 ≤ c ∧ Hid (c ≤ 536870912 → W0 + (s0 + j) ≤ c) ∧ Below w.heap.size w wr) (fun _ i _ => n - (intOf i).toNat)
   case atStart => exact ⟨0, c, rfl, rfl, Nat.zero_le _, hc, HS.out, HB.out⟩
   case round =>
    obtain ⟨j, c, rfl, rfl, hj, hc, HS2, hB⟩ := hrel
    have HB2 := aside hB
    clear hB
    have gcell := cell_in HCL.out HB2.out
    by_cases hjl : (j : Int) < (n : Int)
    ·have hj0 : (0 : Int) ≤ (j : Int) := by omega
     by_cases hle : (c : Int) ≤ 536870912
     ·rcases HE.out.2.2 with h0 | ⟨b, off, rfl, -, -⟩
      ·omega
      obtain ⟨t, ht⟩ : ∃ t, Tk j = t := ⟨_, rfl⟩
      have FV := aside (ents_five (HE.out.keep HB2.out) (by omega) ht)
      obtain ⟨c0, -, -, c3, -⟩ := FV.out
      clear ht
      go_wp2_with fail
      refine wp_region_held_drew (S := fun W => Below w.heap.size w W ∧ W.cell? ⟨gb, k, none⟩ = some (.slice (some ⟨b, off, none⟩) n cpk) ∧ W.cell? ⟨b, off + j * 5, none⟩ = some (.string t.k) ∧ W.cell? ⟨b, off + j * 5 + 3, none⟩ = some (.string t.v)) (by kernel_rfl) ⟨HB2.out.drew, gcell, c0, c3⟩ (fun hHeld => ?_)
      refine tk 0 rfl _ ?_; refine tk 1 rfl _ ?_; refine tk 2 rfl _ ?_; refine tk 3 rfl _ ?_; refine tk 4 rfl _ ?_; refine tk 5 rfl _ ?_; refine tk 6 rfl _ ?_; refine tk 7 rfl _ ?_; refine tk 8 rfl _ ?_; refine tk 9 rfl _ ?_; refine tk 10 rfl _ ?_; refine tk 11 rfl _ ?_; refine tk 12 rfl _ ?_; refine tk 13 rfl _ ?_; refine tk 14 rfl _ ?_; refine tk 15 rfl _ ?_; refine tk 16 rfl _ ?_; refine tk 17 rfl _ ?_; refine tk 18 rfl _ ?_; refine tk 19 rfl _ ?_; refine tk 20 rfl _ ?_; refine tk 21 rfl _ ?_; refine tk 22 rfl _ ?_; refine tk 23 rfl _ ?_; refine tk 24 rfl _ ?_
      refine wpAnyH_done (by kernel_rfl) ?_ _
      have HB3 := aside hHeld.1
      clear hHeld c0 c3 gcell
      go_wp2
      go_roundw
      case rel => exact ⟨j + 1, c + (1 + (min t.k.size 1073741824 + min t.v.size 1073741824)), by_step c _ _ (by omega), by push_cast; rfl, by omega, by omega, fun h => by have := HS2.out (by omega); omega, HB3.out⟩
      case measure => simp [intOf]; omega
     ·go_wp2
      go_roundw
      case rel => exact ⟨k + 1, c, rfl, by push_cast; rfl, by omega, hc, fun h => by omega, HB2.out⟩
      case measure => simp [intOf]; omega
    ·have hjn : j = n := by omega
     go_wp2
     go_roundw
     case rel => exact ⟨k + 1, c, rfl, by push_cast; rfl, by omega, hc, fun h => by have := HS2.out h; rw [HLK.out]; omega, HB2.out⟩
     case measure => simp [intOf]; omega
  ·have hkl : k = m := by omega
   subst hkl
   go_wp2
   go_ret
   exact ⟨decide ((536870912 : Int) < (c : Int)), rfl, fun hq => by simp at hq; have := HS.out (by omega); omega, HB.out⟩
set_option maxHeartbeats 3200000 in
set_option maxRecDepth 100000 in
theorem same13_yes (a : Option Addr) (la ca : Nat) (A : Nat → En) (b : Option Addr) (lb cb : Nat) (B : Nat → En) (w : World) (hA : EntsIn w a la ca A) (hB : EntsIn w b lb cb B) (h : firstE A la = firstE B lb) :
    Calls Tryz.prog 17 #[.slice a la ca, .slice b lb cb] w fun e w' => e = .returned (.bool true) ∧ Below w.heap.size w w' := by
 have hll : la = lb := by have := congrArg List.length h; rwa [firstE_len, firstE_len] at this
 subst hll
 have HEQ := aside (show ∀ i, i < la → A i = B i from fun i hi => by have h1 := firstE_get A hi; rw [h, firstE_get B hi] at h1; injection h1 with h1; exact h1.symm)
 have HA := aside hA
 have HBB := aside hB
 have hmx : (la : Int) ≤ 9223372036854775807 := by have h1 := hA.1; have h2 := hA.2.1; unfold maxLen at h2; omega
 clear hA hB h
 go_enter Tryz.func17, Tryz.ntmps17
 go_wp2
 go_loopw [5] (fun i wr => ∃ j : Nat, i = .int .i64 (j : Int) ∧ j ≤ la ∧ Below w.heap.size w wr) (fun i _ => la - (intOf i).toNat)
 case atStart => exact ⟨0, rfl, Nat.zero_le _, Below.refl _ _⟩
 case round =>
  obtain ⟨j, rfl, hj, hB⟩ := hrel
  have HB := aside hB
  clear hB
  by_cases hlt : (j : Int) < (la : Int)
  ·have hj0 : (0 : Int) ≤ (j : Int) := by omega
   have eA := HA.out.keep HB.out
   have eB := HBB.out.keep HB.out
   rcases eA.2.2 with h0 | ⟨ba, oa, rfl, -, -⟩
   ·omega
   rcases eB.2.2 with h0 | ⟨bb, ob, rfl, -, -⟩
   ·omega
   obtain ⟨x, hx⟩ : ∃ x, A j = x := ⟨_, rfl⟩
   have hy : B j = x := (HEQ.out j (by omega)).symm.trans hx
   have F1 := aside (ents_five (eA.keep (Below.refl _ wr).drew) (by omega) hx)
   have F2 := aside (ents_five (eB.keep (Below.refl _ wr).drew) (by omega) hy)
   have hNE : ∀ w, (binOp .neq 77 (.agg #[.string x.k, .int .i64 x.c, .int .i64 x.n, .string x.v, .bool x.d]) (.agg #[.string x.k, .int .i64 x.c, .int .i64 x.n, .string x.v, .bool x.d])).run Tryz.prog w = .ok (.bool false) w := fun w => by rw [ent_ne, enEqB_same]; rfl
   clear eA eB hx hy
   go_wp2_with fail
   refine wp_region_held_drew (S := fun W => Below w.heap.size w W ∧ (W.cell? ⟨ba, oa + j * 5, none⟩ = some (.string x.k) ∧ W.cell? ⟨ba, oa + j * 5 + 1, none⟩ = some (.int .i64 x.c) ∧ W.cell? ⟨ba, oa + j * 5 + 2, none⟩ = some (.int .i64 x.n) ∧ W.cell? ⟨ba, oa + j * 5 + 3, none⟩ = some (.string x.v) ∧ W.cell? ⟨ba, oa + j * 5 + 4, none⟩ = some (.bool x.d)) ∧ W.cell? ⟨bb, ob + j * 5, none⟩ = some (.string x.k) ∧ W.cell? ⟨bb, ob + j * 5 + 1, none⟩ = some (.int .i64 x.c) ∧ W.cell? ⟨bb, ob + j * 5 + 2, none⟩ = some (.int .i64 x.n) ∧ W.cell? ⟨bb, ob + j * 5 + 3, none⟩ = some (.string x.v) ∧ W.cell? ⟨bb, ob + j * 5 + 4, none⟩ = some (.bool x.d)) (by kernel_rfl) ⟨HB.out.drew, F1.out, F2.out⟩ (fun hHeld => ?_)
   refine tk 0 rfl _ ?_; refine tk 1 rfl _ ?_; refine tk 2 rfl _ ?_; refine tk 3 rfl _ ?_; refine tk 4 rfl _ ?_; refine tk 5 rfl _ ?_; refine tk 6 rfl _ ?_; refine tk 7 rfl _ ?_; refine tk 8 rfl (.bool false) ?_ (by intro w hSw; go_simp)
   refine wpAnyH_done (by kernel_rfl) ?_ _
   have HB2 := aside hHeld.1
   clear hHeld hNE F1 F2
   go_wp2
   go_roundw
   case rel => exact ⟨j + 1, by go_num, by omega, HB2.out⟩
   case measure => simp [intOf]; omega
  ·have hjl : j = la := by omega
   subst hjl
   go_wp2
   go_ret
   exact ⟨rfl, HB.out⟩
set_option maxHeartbeats 3200000 in
set_option maxRecDepth 100000 in
theorem oneR_any (p : Pm) (w : World) (h : p.In w) :
    Calls Tryz.prog 38 #[.agg #[.int .i64 p.kind, .string p.lo, .string p.hi, .bool p.op, .int .i64 p.cnt, .int .u64 p.s0, .int .u64 p.s1, .slice p.ea p.el p.ec]] w fun e w' => ∃ g c, e = .returned (.slice (some ⟨g, 0, none⟩) 1 c) ∧ PartsIn w' (some ⟨g, 0, none⟩) 1 c (fun _ => p) ∧ w.heap.size ≤ g ∧ Below w.heap.size w w' := by
 have B0 := aside (bnew w (.cells #[.int .i64 p.kind, .string p.lo, .string p.hi, .bool p.op, .int .i64 p.cnt, .int .u64 p.s0, .int .u64 p.s1, .slice p.ea p.el p.ec] 47))
 have K0 := aside (heap_alloc_new w (.cells #[.int .i64 p.kind, .string p.lo, .string p.hi, .bool p.op, .int .i64 p.cnt, .int .u64 p.s0, .int .u64 p.s1, .slice p.ea p.el p.ec] 47))
 have HP := aside h
 clear h
 obtain ⟨w0, hw0⟩ : ∃ w0, w.alloc (.cells #[.int .i64 p.kind, .string p.lo, .string p.hi, .bool p.op, .int .i64 p.cnt, .int .u64 p.s0, .int .u64 p.s1, .slice p.ea p.el p.ec] 47) = w0 := ⟨_, rfl⟩
 rw [hw0] at B0 K0
 have OE := aside (ownP_empty w0 w.heap.size B0.out.size)
 have KE := aside (blk_on K0.out (bnew w0 (.cells #[] 47)))
 have BE := aside (bthen B0.out (bnew w0 (.cells #[] 47)))
 clear K0
 obtain ⟨w1, hw1⟩ : ∃ w1, w0.alloc (.cells #[] 47) = w1 := ⟨_, rfl⟩
 rw [hw1] at OE KE BE
 obtain ⟨p0, p1, p2, p3, p4, p5, p6, p7⟩ := oct KE.out
 have PI := aside (show PartsIn (w1.alloc (.cells #[.int .i64 p.kind, .string p.lo, .string p.hi, .bool p.op, .int .i64 p.cnt, .int .u64 p.s0, .int .u64 p.s1, .slice p.ea p.el p.ec] 47)) (some ⟨w1.heap.size, 0, none⟩) 1 1 (fun _ => p) from ⟨Nat.le_refl _, by unfold maxLen; omega, .inr ⟨w1.heap.size, 0, rfl, by simp, fun i hi => ⟨by
  obtain rfl : i = 0 := by omega
  exact oct (heap_alloc_new w1 (.cells #[.int .i64 p.kind, .string p.lo, .string p.hi, .bool p.op, .int .i64 p.cnt, .int .u64 p.s0, .int .u64 p.s1, .slice p.ea p.el p.ec] 47)), HP.out.keep (bthen BE.out (bnew w1 _))⟩⟩⟩)
 go_enter Tryz.func38, Tryz.ntmps38
 go_wp2_with (at_builtin; go_loud (refine wpList_plain rfl fun K hK => op_append_parts (V := w) _ _ rfl 0 _ [] (by rfl) (OE.out.alloc _) ⟨w1.heap.size, 0, none⟩ 1 1 (fun _ => p) (by rfl) PI.out (by omega) (bthen BE.out (bnew w1 _)) ?_); intro v4 w4 own4 b4 gr4; refine hK _ _ ?_; refine Hid.out ?_)
 refine aside ?_
 rw [show ([] : List Pm) ++ firstP (fun _ => p) 1 = firstP (fun _ => p) 1 from rfl] at own4
 rcases own4.2 with ⟨_, h9⟩ | ⟨g, cap, cur, rfl, h2, h3⟩
 ·omega
 have O4 := aside own4
 have B4 := aside b4
 have HG := aside h2
 clear own4 b4 gr4 h2 h3 p0 p1 p2 p3 p4 p5 p6 p7
 go_wp2
 go_ret
 exact ⟨g, cap, rfl, parts_of_row O4.out (fun i hi => HP.out.keep B4.out), HG.out, B4.out⟩
theorem ptN_all {P : Nat → Pm} : ∀ {n : Nat}, ptN P n = 0 → ∀ i, i < n → ptAt P i = 0 := by
 intro n
 induction n with
 | zero => intro _ i hi; omega
 | succ n ih =>
  intro h i hi
  have h0 : ptN P n = 0 := by
   by_cases g : ptN P n = 0
   ·exact g
   ·rw [ptN_stay g (n + 1) (by omega)] at h; exact absurd h g
  rcases Nat.lt_or_ge i n with g | g
  ·exact ih h0 i g
  ·obtain rfl : i = n := by omega
   rw [← ptN_step h0]; exact h
theorem itN_all {r : Rg} {T : Nat → En} : ∀ {n : Nat}, itN r T n = 0 → ∀ i, i < n → itAt r T i = 0 := by
 intro n
 induction n with
 | zero => intro _ i hi; omega
 | succ n ih =>
  intro h i hi
  have h0 : itN r T n = 0 := by
   by_cases g : itN r T n = 0
   ·exact g
   ·rw [itN_stay g (n + 1) (by omega)] at h; exact absurd h g
  rcases Nat.lt_or_ge i n with g | g
  ·exact ih h0 i g
  ·obtain rfl : i = n := by omega
   rw [← itN_step h0]; exact h
theorem itAt_zero {r : Rg} {T : Nat → En} {i : Nat} (h : itAt r T i = 0) : r.has (T i).k = true ∧ (0 < i → kLt (T (i - 1)).k (T i).k = true) := by
 unfold itAt at h
 by_cases g : (T i).chk = 0
 ·rw [if_neg (by simp [g])] at h
  by_cases g2 : r.has (T i).k = false ∨ (0 < i ∧ kLt (T (i - 1)).k (T i).k = false)
  ·rw [if_pos g2] at h; cases h
  ·refine ⟨?_, fun hi => ?_⟩
   ·cases e : r.has (T i).k
    ·exact absurd (.inl e) g2
    ·rfl
   ·cases e : kLt (T (i - 1)).k (T i).k
    ·exact absurd (.inr ⟨hi, e⟩) g2
    ·rfl
 ·rw [if_pos g] at h; exact absurd h g
structure GoodP (P : Nat → Pm) (i : Nat) : Prop where
 chk : (P i).rg.chk = 0
 emp : (P i).rg.emp = false
 op : ahOp P i = false
 lo : kLt (P i).lo (ahHi P i) = false
 its : ∀ k, k < (P i).el → itAt (P i).rg (P i).T k = 0
theorem good_of {P : Nat → Pm} {i : Nat} (h : ptAt P i = 0) : GoodP P i := by
 unfold ptAt Pm.chk at h
 cases h1 : (P i).alone
 ·rw [if_pos h1] at h; cases h
 ·rw [if_neg (by simp [h1])] at h
  by_cases h2 : (P i).rg.chk = 0
  ·rw [if_neg (by simp [h2])] at h
   by_cases h3 : (P i).rg.emp = true ∨ ahOp P i = true ∨ kLt (P i).lo (ahHi P i) = true
   ·rw [if_pos h3] at h; cases h
   ·rw [if_neg h3] at h
    refine ⟨h2, ?_, ?_, ?_, ?_⟩
    ·cases e : (P i).rg.emp
     ·rfl
     ·exact absurd (.inl e) h3
    ·cases e : ahOp P i
     ·rfl
     ·exact absurd (.inr (.inl e)) h3
    ·cases e : kLt (P i).lo (ahHi P i)
     ·rfl
     ·exact absurd (.inr (.inr e)) h3
    ·by_cases h4 : (P i).kind = 1
     ·unfold Pm.alone at h1
      rw [if_pos h4] at h1
      intro k hk
      have : (P i).el = 0 := by simpa using h1
      omega
     ·rw [if_neg h4] at h
      unfold Pm.its at h
      by_cases h5 : itN (P i).rg (P i).T (P i).el = 0
      ·exact fun k hk => itN_all h5 k hk
      ·rw [if_pos h5] at h; exact absurd h h5
  ·rw [if_pos h2] at h; exact absurd h h2
theorem goods {P : Nat → Pm} {n : Nat} (h : psChk P n = 0) : n ≤ 768 ∧ totE P n ≤ 256 ∧ ∀ i, i < n → GoodP P i := by
 unfold psChk at h
 by_cases g : 768 < n ∨ 256 < totE P n
 ·rw [if_pos g] at h; cases h
 ·rw [if_neg g] at h
  exact ⟨by omega, by omega, fun i hi => good_of (ptN_all h i hi)⟩
theorem good_map {P : Nat → Pm} {i : Nat} (h : GoodP P i) : MapL (firstE (P i).T (P i).el) := by
 have hc : ∀ n, n ≤ (P i).el → ckN (P i).T n = 0 := by
  intro n
  induction n with
  | zero => intro _; rfl
  | succ n ih =>
   intro hn
   have h0 := h.its n (by omega)
   have h1 := itAt_zero h0
   have h2 : ((P i).T n).chk = 0 := by
    unfold itAt at h0
    by_cases g : ((P i).T n).chk = 0
    ·exact g
    ·rw [if_pos g] at h0; exact absurd h0 g
   rw [ckN_step (ih (by omega)), ckAt_ok h2 (fun g => by rw [h1.2 g.1] at g; cases g.2)]
 exact (ck_map _).1 (hc _ (Nat.le_refl _))
def xErr (p : Pm) : Int := if psChk (fun _ => p) 1 ≠ 0 then psChk (fun _ => p) 1 else if p.kind = 1 then 114 else 0
theorem xErr_ok {p : Pm} (h : xErr p = 0) : psChk (fun _ => p) 1 = 0 ∧ p.kind ≠ 1 ∧ MapL (firstE p.T p.el) ∧ p.el ≤ 256 ∧ p.rg.chk = 0 := by
 unfold xErr at h
 by_cases h1 : psChk (fun _ => p) 1 = 0
 ·rw [if_neg (by simp [h1])] at h
  by_cases h2 : p.kind = 1
  ·rw [if_pos h2] at h; cases h
  ·obtain ⟨-, g2, g3⟩ := goods h1
   have g := g3 0 (by omega)
   simp only [totE] at g2
   exact ⟨h1, h2, good_map g, by omega, g.chk⟩
 ·rw [if_pos h1] at h; exact absurd h h1
theorem tk_ok {s : TkS} (h : MapL s.l ∧ s.l.length ≤ 256) (e : En) : MapL (tkStep s e).l ∧ (tkStep s e).l.length ≤ 256 := by
 unfold tkStep
 split
 ·rename_i hy
  obtain ⟨-, h2, h3⟩ := tk_yes hy
  exact ⟨take_map h.1 h2, take_len h.1.rises h.2 h3⟩
 ·split
  ·exact h
  ·exact h
theorem tkAll_ok {s : TkS} (h : MapL s.l ∧ s.l.length ≤ 256) (T : Nat → En) : ∀ j, MapL (tkAll s (firstE T j)).l ∧ (tkAll s (firstE T j)).l.length ≤ 256
 | 0 => h
 | j + 1 => by rw [tkAll_succ]; exact tk_ok (tkAll_ok h T j) (T j)
theorem DSt.str {w : World} {B db : Nat} {nd ck : Int} {l : List En} (h : DSt w B db nd ck l) {b k : Nat} {s : ByteArray} (hc : w.cell? ⟨b, k, none⟩ = some (.string s)) : ¬ b = db := by
 obtain ⟨v, h1, h2⟩ := h
 obtain ⟨a, c, rfl, -, -, -⟩ := own_slice h2
 rintro rfl
 simp only [World.cell?, h1] at hc
 rcases k with _ | _ | _ | k <;> simp at hc
theorem EntsIn.keepD {w w' : World} {a : Option Addr} {len cap : Nat} {T : Nat → En} {B db : Nat} {nd ck : Int} {l : List En} (h : EntsIn w a len cap T) (hs : DSt w B db nd ck l) (k : Keeps (fun x => x = db) w w') : EntsIn w' a len cap T := by
 refine ⟨h.1, h.2.1, ?_⟩
 rcases h.2.2 with h0 | ⟨b, off, rfl, hb, hc⟩
 ·exact .inl h0
 ·refine .inr ⟨b, off, rfl, Nat.lt_of_lt_of_le hb k.size, fun i hi => ?_⟩
  obtain ⟨⟨c0, c1, c2, c3, c4⟩, hk⟩ := hc i hi
  have hn := hs.str c0
  exact ⟨⟨(k.cell hb hn).trans c0, (k.cell hb hn).trans c1, (k.cell hb hn).trans c2, (k.cell hb hn).trans c3, (k.cell hb hn).trans c4⟩, hk⟩
theorem DSt.other {w : World} {B db : Nat} {nd ck : Int} {l : List En} (h : DSt w B db nd ck l) {i : Nat} {cs : Array Value} {U : TypeId} (hi : w.heap[i]? = some (.cells cs U (0, 0))) (hU : U ≠ 87) : ¬ i = db := by
 obtain ⟨v, h1, -⟩ := h
 rintro rfl
 rw [h1] at hi
 simp only [Option.some.injEq, Obj.cells.injEq] at hi
 exact hU hi.2.1.symm
theorem DSt.set2 {w w' : World} {B db : Nat} {nd ck : Int} {l : List En} (h : DSt w B db nd ck l) {i : Nat} {cs : Array Value} {U : TypeId} (hi : w.heap[i]? = some (.cells cs U (0, 0))) (h1 : U ≠ 87) (h2 : U ≠ 77) (k : Keeps (fun x => x = i) w w') : DSt w' B db nd ck l := by
 have hn := h.other hi h1
 obtain ⟨v, d1, d2⟩ := h
 refine ⟨v, blk_keep d1 k (fun e => hn e.symm), d2.1, ?_⟩
 rcases d2.2 with h0 | ⟨g, cap, cur, e1, e2, e3, e4⟩
 ·exact .inl h0
 ·refine .inr ⟨g, cap, cur, e1, e2, blk_keep e3 k (fun e => ?_), e4⟩
  subst e
  rw [e3] at hi
  simp only [Option.some.injEq, Obj.cells.injEq] at hi
  exact h2 hi.2.1.symm
structure Pq where
 kind : Int
 lo : ByteArray
 hi : ByteArray
 op : Bool
 t : Tl
 es : List En
def Pq.pm (q : Pq) (a : Option Addr) (c : Nat) : Pm := ⟨q.kind, q.lo, q.hi, q.op, q.t.n, q.t.a, q.t.b, a, q.es.length, c, nthE q.es⟩
def QAt (B : Nat) (w : World) (m : Pm) (q : Pq) : Prop := m = q.pm m.ea m.ec ∧ w.ownsRow B 77 5 (.slice m.ea q.es.length m.ec) q.es.length (entCells q.es)
def Told (B : Nat) (v : Value) (l : List Pq) (w : World) : Prop :=
 ∃ ms : List Pm, w.ownsRow B 47 8 v ms.length (ptCells ms) ∧ ms.length = l.length ∧ ∀ (i : Nat) (m : Pm) (q : Pq), ms[i]? = some m → l[i]? = some q → QAt B w m q
theorem own_keep {w w' : World} {S : Nat → Prop} {B : Nat} {e : TypeId} {s : Nat} {v : Value} {n : Nat} {xs : List Value} (h : w.ownsRow B e s v n xs) (k : Keeps S w w') (hn : ∀ i cs, w.heap[i]? = some (.cells cs e (0, 0)) → ¬ S i) : w'.ownsRow B e s v n xs := by
 refine ⟨h.1, ?_⟩
 rcases h.2 with h5 | ⟨g2, cap, cur, e1, e2, e3, e4⟩
 ·exact .inl h5
 ·exact .inr ⟨g2, cap, cur, e1, e2, blk_keep e3 k (hn _ _ e3), e4⟩
theorem QAt.keep {w w' : World} {S : Nat → Prop} {B : Nat} {m : Pm} {q : Pq} (h : QAt B w m q) (k : Keeps S w w') (hn : ∀ i cs, w.heap[i]? = some (.cells cs 77 (0, 0)) → ¬ S i) : QAt B w' m q := ⟨h.1, own_keep h.2 k hn⟩
theorem Told.keep {w w' : World} {S : Nat → Prop} {B : Nat} {v : Value} {l : List Pq} (h : Told B v l w) (k : Keeps S w w') (hp : ∀ i cs, w.heap[i]? = some (.cells cs 47 (0, 0)) → ¬ S i) (hn : ∀ i cs, w.heap[i]? = some (.cells cs 77 (0, 0)) → ¬ S i) : Told B v l w' := by
 obtain ⟨ms, h1, h2, h3⟩ := h
 exact ⟨ms, own_keep h1 k hp, h2, fun i m q e1 e2 => (h3 i m q e1 e2).keep k hn⟩
theorem Told.keepS {B : Nat} {v : Value} {l : List Pq} {w w' : World} {sb g tb : Nat} {nd ck : Int} {Ls : List En} (h : Told B v l w) (hs : Sto w sb g tb nd ck Ls) (k : Keeps (Of sb g tb) w w') : Told B v l w' :=
 h.keep k (fun i cs e => hs.not e (by decide) (by decide) (by decide)) (fun i cs e => hs.not e (by decide) (by decide) (by decide))
theorem Told.keepD {B : Nat} {v : Value} {l : List Pq} {w w' : World} {D db : Nat} {nd ck : Int} {Ls : List En} (h : Told B v l w) (hs : DSt w D db nd ck Ls) (k : Keeps (fun x => x = db) w w') : Told B v l w' :=
 h.keep k (fun i cs e => hs.other e (by decide)) (fun i cs e => hs.other e (by decide))
theorem Told.below {B : Nat} {v : Value} {l : List Pq} {w w' : World} (h : Told B v l w) (b : Below w.heap.size w w') : Told B v l w' := by
 obtain ⟨ms, h1, h2, h3⟩ := h
 exact ⟨ms, own_on h1 b, h2, fun i m q e1 e2 => ⟨(h3 i m q e1 e2).1, own_on (h3 i m q e1 e2).2 b⟩⟩
theorem Told.low {B C : Nat} {v : Value} {l : List Pq} {w : World} (h : Told B v l w) (b : C ≤ B) : Told C v l w := by
 obtain ⟨ms, h1, h2, h3⟩ := h
 exact ⟨ms, own_low h1 b, h2, fun i m q e1 e2 => ⟨(h3 i m q e1 e2).1, own_low (h3 i m q e1 e2).2 b⟩⟩
theorem Told.zero (B : Nat) (w : World) : Told B (.slice none 0 0) [] w :=
 ⟨[], ⟨rfl, .inl ⟨rfl, rfl⟩⟩, rfl, fun i m q e1 e2 => by simp at e1⟩
theorem Told.emp {B : Nat} {v : Value} {w : World} (h : w.ownsRow B 47 8 v 0 (ptCells [])) : Told B v [] w :=
 ⟨[], h, rfl, fun i m q e1 e2 => by simp at e1⟩
theorem Told.single {B g : Nat} {q : Pq} {a : Option Addr} {c : Nat} {w : World} (h : w.heap[g]? = some (.cells #[.int .i64 q.kind, .string q.lo, .string q.hi, .bool q.op, .int .i64 q.t.n, .int .u64 q.t.a, .int .u64 q.t.b, .slice a q.es.length c] 47 (0, 0))) (hB : B ≤ g) (he : w.ownsRow B 77 5 (.slice a q.es.length c) q.es.length (entCells q.es)) : Told B (.slice (some ⟨g, 0, none⟩) 1 1) [q] w := by
 refine ⟨[q.pm a c], ⟨rfl, .inr ⟨g, 1, _, rfl, hB, h, Nat.le_refl _, by unfold maxLen; omega, rfl, rfl⟩⟩, rfl, fun i m q' e1 e2 => ?_⟩
 match i, e1, e2 with
 | 0, e1, e2 =>
  simp at e1 e2
  subst e1 e2
  exact ⟨rfl, he⟩
 | i + 1, e1, e2 => simp at e1
theorem firstP_nthP (l : List Pm) : firstP (nthP l) l.length = l := by
 apply List.ext_getElem?
 intro i
 by_cases h : i < l.length
 ·unfold firstP; rw [List.getElem?_map, List.getElem?_range h]; exact (nthP_get h).symm
 ·rw [List.getElem?_eq_none (by rw [firstP_len]; omega), List.getElem?_eq_none (by omega)]
theorem Told.append {B : Nat} {v v1 v2 : Value} {l l' : List Pq} {ms ms' : List Pm} {w : World} (h : w.ownsRow B 47 8 v (ms.length + ms'.length) (ptCells (ms ++ ms'))) (h1 : ms.length = l.length) (h2 : ms'.length = l'.length) (g1 : ∀ (i : Nat) (m : Pm) (q : Pq), ms[i]? = some m → l[i]? = some q → QAt B w m q) (g2 : ∀ (i : Nat) (m : Pm) (q : Pq), ms'[i]? = some m → l'[i]? = some q → QAt B w m q) : Told B v (l ++ l') w := by
 refine ⟨ms ++ ms', by rw [List.length_append]; exact h, by rw [List.length_append, List.length_append, h1, h2], fun i m q e1 e2 => ?_⟩
 by_cases hi : i < ms.length
 ·rw [List.getElem?_append_left hi] at e1
  rw [List.getElem?_append_left (by omega)] at e2
  exact g1 i m q e1 e2
 ·rw [List.getElem?_append_right (by omega)] at e1
  rw [List.getElem?_append_right (by omega), ← h1] at e2
  exact g2 _ m q e1 e2
theorem QAt.in {B : Nat} {w : World} {m : Pm} {q : Pq} (h : QAt B w m q) (hk : KeysOk q.es) : m.In w := by
 obtain ⟨h1, h2⟩ := h
 obtain ⟨a, c, e, h3⟩ := own_ents h2 hk
 injection e with e1 e2 e3
 subst e1 e3
 rw [h1]
 exact h3
theorem Told.parts {B : Nat} {v : Value} {l : List Pq} {w : World} (h : Told B v l w) (hk : ∀ q ∈ l, KeysOk q.es) : ∃ a c ms, v = .slice a l.length c ∧ PartsIn w a l.length c (nthP ms) ∧ ms.length = l.length ∧ (∀ i, i < l.length → ∃ q ea ec, l[i]? = some q ∧ nthP ms i = q.pm ea ec) ∧ ((a = none ∧ l.length = 0 ∧ c = 0) ∨ ∃ y, a = some y) := by
 obtain ⟨ms, h1, h2, h3⟩ := h
 obtain ⟨a, c, rfl, g1, g2, g3⟩ := own_slice h1
 rw [h2] at h1 g1 g3 ⊢
 have hm : ∀ i, i < l.length → ∃ q, l[i]? = some q ∧ QAt B w (nthP ms i) q := fun i hi => ⟨l[i], List.getElem?_eq_getElem hi, h3 i _ _ (nthP_get (by omega)) (List.getElem?_eq_getElem hi)⟩
 refine ⟨a, c, ms, rfl, ?_, h2, fun i hi => ?_, ?_⟩
 ·rcases g3 with ⟨rfl, e, rfl⟩ | ⟨g, rfl, -⟩
  ·rw [e]; exact ⟨Nat.le_refl _, Nat.zero_le _, .inl rfl⟩
  ·refine parts_of_row (B := B) ?_ (fun i hi => ?_)
   ·rw [← h2, firstP_nthP, h2]; exact h1
   ·obtain ⟨q, e1, e2⟩ := hm i hi
    exact e2.in (hk q (List.mem_of_getElem? e1))
 ·obtain ⟨q, e1, e2⟩ := hm i hi
  exact ⟨q, _, _, e1, e2.1⟩
 ·rcases g3 with g3 | ⟨g, rfl, -⟩
  ·exact .inl g3
  ·exact .inr ⟨_, rfl⟩
theorem Told.same {B B' : Nat} {v v' : Value} {l : List Pq} {w : World} (h : Told B v l w) (h' : Told B' v' l w) (hk : ∀ q ∈ l, KeysOk q.es) :
    Calls Tryz.prog 16 #[v, v'] w fun e w' => e = .returned (.bool true) ∧ Below w.heap.size w w' := by
 obtain ⟨a, c, ms, rfl, h1, -, h2, -⟩ := h.parts hk
 obtain ⟨a', c', ms', rfl, h1', -, h2', -⟩ := h'.parts hk
 refine samePs_yes a l.length c (nthP ms) a' c' (nthP ms') w h1 h1' (fun i hi => ?_)
 obtain ⟨q, x, y, e1, e2⟩ := h2 i hi
 obtain ⟨q', x', y', e1', e2'⟩ := h2' i hi
 rw [e1] at e1'
 injection e1' with e1'
 subst e1'
 rw [e2, e2']
 exact ⟨rfl, rfl, rfl, rfl, rfl, rfl, rfl, rfl, fun k _ => rfl⟩
def prQ (Ls : List En) (r : Rg) : Pq := ⟨1, r.lo, r.hi, r.op, foldV r.lo r.hi r.op Ls, []⟩
def keysIn (r : Rg) (Ls : List En) : List ByteArray := (thruL r.lo r.hi r.op true Ls).map (fun e => e.k)
def cutR (r : Rg) (Ls : List En) (q i : Nat) : Rg := piece r (bdr (keysIn r Ls).length (q + 1) (nthS (keysIn r Ls))) q i
def spQ (r : Rg) (Ls : List En) (q : Nat) : List Pq := (List.range (q + 1)).map (fun i => prQ Ls (cutR r Ls q i))
def cmpQ (b lf : Int) (r : Rg) (cnt s0 s1 : Int) (Ls : List En) : List Pq :=
 if (foldV r.lo r.hi r.op Ls).n = cnt ∧ (foldV r.lo r.hi r.op Ls).a = s0 ∧ (foldV r.lo r.hi r.op Ls).b = s1 then []
 else if (foldV r.lo r.hi r.op Ls).n ≤ lf then [⟨2, r.lo, r.hi, r.op, tZero, thruL r.lo r.hi r.op true Ls⟩]
 else spQ r Ls ((min b (foldV r.lo r.hi r.op Ls).n).toNat - 1)
def rpQ (p : Pm) (Ls : List En) : List Pq := match rpL p Ls with
 | [] => []
 | x :: r => [⟨3, p.lo, p.hi, p.op, tZero, x :: r⟩]
theorem rpQ_nil {p : Pm} {Ls : List En} (h : rpL p Ls = []) : rpQ p Ls = [] := by unfold rpQ; rw [h]
theorem rpQ_one {p : Pm} {Ls : List En} (h : rpL p Ls ≠ []) : rpQ p Ls = [⟨3, p.lo, p.hi, p.op, tZero, rpL p Ls⟩] := by
 unfold rpQ
 cases hx : rpL p Ls with
 | nil => exact absurd hx h
 | cons x r => rfl
theorem RpAt.told {B : Nat} {p : Pm} {Ls : List En} {v : Value} {w : World} (h : RpAt B p (rpL p Ls) v w) : Told B v (rpQ p Ls) w := by
 rcases h with ⟨h, rfl⟩ | ⟨h0, g, a, c, rfl, h2, h3, h4⟩
 ·rw [rpQ_nil h]; exact Told.zero _ _
 ·rw [rpQ_one h0]; exact Told.single (q := ⟨3, p.lo, p.hi, p.op, tZero, rpL p Ls⟩) h3 h2 h4
theorem thru_inL {lo hi : ByteArray} {op : Bool} {l : List En} (h : Rg.chk ⟨lo, hi, op⟩ = 0) (hm : MapL l) : thruL lo hi op true l = inL ⟨lo, hi, op⟩ l := by
 rw [inL_thru h hm]
 unfold thruL
 rw [List.filter_eq_self]
 intro e _
 rfl
theorem thru_true (lo hi : ByteArray) (op : Bool) (Ls : List En) : thruL lo hi op true Ls = Ls.filter (inR lo hi op) := by
 unfold thruL
 rw [List.filter_eq_self]
 intro e _
 rfl
theorem keysR_in {T : Tr En Tl} {Ls : List En} {r : Rg} (hH : Hol T Ls) (h : r.op = true ∨ kLt r.hi r.lo = false) : keysR T r.lo r.hi r.op Ls = keysIn r Ls := by
 unfold keysR keysIn spanL
 rw [thru_true]
 have h1 := belE_le r.lo Ls
 have h2 := endE_le r.hi r.op Ls
 rw [show (max (belE r.lo Ls : Int) 0).toNat = belE r.lo Ls from by omega, show (min (endE r.hi r.op Ls : Int) (T.cnt : Int)).toNat = endE r.hi r.op Ls from by rw [hH.cnt]; omega, hH.rows, seg_map, seg_range hH.rises h, List.map_map]
 rfl
theorem keysIn_len (r : Rg) (Ls : List En) : (keysIn r Ls).length = (thruL r.lo r.hi r.op true Ls).length := by unfold keysIn; rw [List.length_map]
theorem keysIn_le (r : Rg) (Ls : List En) : (keysIn r Ls).length ≤ Ls.length := by rw [keysIn_len]; exact thru_len _ _ _ _
theorem fold_n {r : Rg} {Ls : List En} (hc : r.chk = 0) (hl : Ls.length ≤ 1000000) : (foldV r.lo r.hi r.op Ls).n = ((keysIn r Ls).length : Int) := by
 unfold foldV
 rw [if_pos hc, keysIn_len, thru_true]
 exact tal_n _ (by have := List.length_filter_le (inR r.lo r.hi r.op) Ls; omega)
theorem nthS_get {l : List ByteArray} {i : Nat} (h : i < l.length) : l[i]? = some (nthS l i) := by
 unfold nthS; rw [List.getD, List.getElem?_eq_getElem h]; rfl
theorem keysIn_at {r : Rg} {Ls : List En} {i : Nat} (h : i < (keysIn r Ls).length) : ∃ e, (Ls.filter (inR r.lo r.hi r.op))[i]? = some e ∧ nthS (keysIn r Ls) i = e.k ∧ e ∈ Ls ∧ inR r.lo r.hi r.op e = true := by
 have h1 := nthS_get h
 unfold keysIn at h1
 rw [List.getElem?_map, thru_true] at h1
 obtain ⟨e, e1, e2⟩ := Option.map_eq_some_iff.1 h1
 have := List.mem_filter.1 (List.mem_of_getElem? e1)
 exact ⟨e, e1, by unfold keysIn; rw [thru_true]; exact e2.symm, this.1, this.2⟩
theorem keysIn_up {r : Rg} {Ls : List En} (hm : MapL Ls) : KeysUp (nthS (keysIn r Ls)) (keysIn r Ls).length := by
 constructor
 ·intro i hi
  obtain ⟨e, -, e2, e3, -⟩ := keysIn_at hi
  rw [e2]
  have := (chk_pos (hm.chk e e3)).2.1
  omega
 ·intro i j hij hj
  obtain ⟨e, e1, e2, -, -⟩ := keysIn_at (r := r) (Ls := Ls) (i := i) (by omega)
  obtain ⟨f, f1, f2, -, -⟩ := keysIn_at hj
  rw [e2, f2]
  have hp : (Ls.filter (inR r.lo r.hi r.op)).Pairwise (fun a b => kLt a.k b.k = true) := hm.rises.sublist List.filter_sublist
  obtain ⟨hi', rfl⟩ := List.getElem?_eq_some_iff.1 e1
  obtain ⟨hj', rfl⟩ := List.getElem?_eq_some_iff.1 f1
  exact List.pairwise_iff_getElem.1 hp i j hi' hj' hij
theorem may_of_chk {r : Rg} (h : r.chk = 0) : r.may = true := by unfold Rg.may; rw [h]; rfl
theorem keysIn_has {r : Rg} {Ls : List En} (hm : MapL Ls) (hc : r.chk = 0) : ∀ i, i < (keysIn r Ls).length → r.has (nthS (keysIn r Ls) i) = true := by
 intro i hi
 obtain ⟨e, -, e2, e3, e4⟩ := keysIn_at hi
 rw [e2]
 unfold inR at e4
 rw [Bool.and_eq_true] at e4
 unfold Rg.has
 rw [may_of_chk hc]
 have := (chk_pos (hm.chk e e3)).2.1
 rw [Bool.true_and, Bool.and_eq_true, Bool.and_eq_true]
 exact ⟨⟨decide_eq_true (by omega), e4.1⟩, e4.2⟩
theorem chk_of_may {r : Rg} (h : r.may = true) : r.chk = 0 := by
 unfold Rg.may at h
 simpa using h
theorem cut_ok {r : Rg} {Ls : List En} (hm : MapL Ls) (hc : r.chk = 0) {q : Nat} (hq : q + 1 ≤ (keysIn r Ls).length) {i : Nat} (hi : i < q + 1) : prErr (cutR r Ls q i) = 0 := by
 have h := pieces_up (keysIn_up (r := r) hm) (keysIn_has hm hc) hq
 have h1 : (cutR r Ls q i).may = true := rises_may h hi
 have h2 : (cutR r Ls q i).emp = false := by
  simp only [rises, Bool.and_eq_true, Bool.not_eq_true'] at h
  cases he : (cutR r Ls q i).emp
  ·rfl
  ·have h9 := anyE_true (T := cutR r Ls q) (j := i) hi he
   exact absurd (h9.symm.trans h.1) (by simp)
 unfold prErr
 rw [if_neg (by rw [chk_of_may h1]; simp), if_neg (by rw [h2]; simp)]
theorem keys_keyE {r : Rg} {Ls : List En} (hm : MapL Ls) : keyE (nthS (keysIn r Ls)) (keysIn r Ls).length = 0 := keyE_zero (keysIn_up hm)
theorem keys_allK {r : Rg} {Ls : List En} (hm : MapL Ls) (hc : r.chk = 0) : allK r (nthS (keysIn r Ls)) (keysIn r Ls).length = true := allK_true (keysIn_has hm hc)
set_option maxHeartbeats 3200000 in
set_option maxRecDepth 100000 in
theorem qsplit_ok (r : Rg) (q : Nat) {w : World} {sb g tb : Nat} {nd ck : Int} {Ls : List En} (h : Sto w sb g tb nd ck Ls) (hm : MapL Ls) (hl : Ls.length ≤ 256) (hc : r.chk = 0) (hq : q + 1 ≤ (keysIn r Ls).length) :
    Calls Tryz.prog 94 #[.pointer (some ⟨sb, 0, none⟩), .agg #[.string r.lo, .string r.hi, .bool r.op], .int .i64 ((q : Int) + 1)] w fun e w' => ∃ g cp, e = .returned (.tuple #[.slice (some ⟨g, 0, none⟩) (q + 1) cp, .int .i64 0]) ∧ w'.ownsRow w.heap.size 40 3 (.slice (some ⟨g, 0, none⟩) (q + 1) cp) (q + 1) (rgCells (cutR r Ls q) (q + 1)) ∧ Below w.heap.size w w' := by
 obtain ⟨T, n, h1, hH⟩ := h
 have hk := keysR_in (r := r) hH (chk_may hc)
 refine (ssplit r.lo r.hi r.op ((q : Int) + 1) h1 hH (by omega) (fun W v c X => c = 0 ∧ ∃ g cp, v = .slice (some ⟨g, 0, none⟩) (q + 1) cp ∧ X.ownsRow W.heap.size 40 3 (.slice (some ⟨g, 0, none⟩) (q + 1) cp) (q + 1) (rgCells (cutR r Ls q) (q + 1))) ?_ ?_).mono ?_
 ·rintro V v c X D ⟨e1, g2, cp, e2, e3⟩ - hD
  refine ⟨e1, g2, cp, e2, e3.1, ?_⟩
  rcases e3.2 with h5 | ⟨g3, cap, cur, f1, f2, f3, f4⟩
  ·exact .inl h5
  ·refine .inr ⟨g3, cap, cur, f1, f2, ?_, f4⟩
   exact (World.putObj_heap_other (fun e => by subst e; rw [hD] at f3; cases f3)).trans f3
 ·intro W a m c b hs hlen
  rw [hk] at hs hlen
  subst hlen
  refine (ranges_ok r.lo r.hi r.op a (keysIn r Ls).length c _ q W hs hc (keys_keyE hm) (keys_allK hm hc) hq (Nat.le_trans (keysIn_le _ _) hl)).mono ?_
  rintro e w' ⟨g2, cp, rfl, o, -, b2⟩
  exact ⟨_, _, rfl, ⟨rfl, g2, cp, rfl, o⟩, b2⟩
 ·rintro e w' ⟨W, v, c, rfl, ⟨rfl, g2, cp, rfl, o⟩, hs, b⟩
  exact ⟨g2, cp, rfl, own_low o hs, b⟩
end Go.Proofs.YtpbkjffiohfkcaaGreatDoor
