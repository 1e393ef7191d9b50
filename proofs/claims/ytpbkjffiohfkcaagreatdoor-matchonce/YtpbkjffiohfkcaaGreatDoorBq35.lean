/-
  Same of the document's: frames that are the same.
-/
import Derived.Test.YtpbkjffiohfkcaaGreatDoorBq1
import Derived.Test.YtpbkjffiohfkcaaGreatDoorBq28
import Derived.Deep.CutBlock
import Derived.Test.YtpbkjffiohfkcaaGreatDoorBq24
import Derived.Deep.Cut
import Derived.Test.YtpbkjffiohfkcaaGreatDoorBq34
import Derived.Test.YtpbkjffiohfkcaaGreatDoorBq29
import Derived.Test.YtpbkjffiohfkcaaGreatDoorBq33
import Derived.Test.YtpbkjffiohfkcaaGreatDoorBq32
namespace Go.Proofs.YtpbkjffiohfkcaaGreatDoor
open Go.RowKit
set_option linter.unusedVariables false
def SamePm (p q : Pm) : Prop := p.kind = q.kind ∧ p.lo = q.lo ∧ p.hi = q.hi ∧ p.op = q.op ∧ p.cnt = q.cnt ∧ p.s0 = q.s0 ∧ p.s1 = q.s1 ∧ p.el = q.el ∧ ∀ k, k < p.el → p.T k = q.T k
theorem rg_ne_same (lo hi : ByteArray) (op : Bool) (w : World) : (binOp .neq 40 (.agg #[.string lo, .string hi, .bool op]) (.agg #[.string lo, .string hi, .bool op])).run Tryz.prog w = .ok (.bool false) w := by
 rw [rg_ne_run]; simp
theorem ent_ne_sameF (k : ByteArray) (c n : Int) (v : ByteArray) (d : Bool) (w : World) : (binOp .neq 77 (.agg #[.string k, .int .i64 c, .int .i64 n, .string v, .bool d]) (.agg #[.string k, .int .i64 c, .int .i64 n, .string v, .bool d])).run Tryz.prog w = .ok (.bool false) w := by
 rw [run_neq_struct, show (10000 : Nat) = 9999 + 1 from rfl]
 go_simp
set_option maxHeartbeats 6400000 in
set_option maxRecDepth 100000 in
theorem samePs_yes (a : Option Addr) (len ca : Nat) (P : Nat → Pm) (b : Option Addr) (cb : Nat) (Q : Nat → Pm) (w : World) (hA : PartsIn w a len ca P) (hB : PartsIn w b len cb Q) (hS : ∀ i, i < len → SamePm (P i) (Q i)) :
    Calls Tryz.prog 16 #[.slice a len ca, .slice b len cb] w fun e w' => e = .returned (.bool true) ∧ Below w.heap.size w w' := by
 have HA := aside hA
 have HQ := aside hB
 have HS := aside hS
 have hmx : (len : Int) ≤ 9223372036854775807 := by have h1 := hA.1; have h2 := hA.2.1; unfold maxLen at h2; omega
 clear hA hB hS
 go_enter Tryz.func16, Tryz.ntmps16
 go_wp2
 go_loopw [5] (fun i wr => ∃ j : Nat, i = .int .i64 (j : Int) ∧ j ≤ len ∧ Below w.heap.size w wr) (fun i _ => len - (intOf i).toNat)
 case atStart => exact ⟨0, rfl, Nat.zero_le _, Below.refl _ _⟩
 case round =>
  obtain ⟨j, rfl, hj, hBB⟩ := hrel
  have HB := aside hBB
  clear hBB
  by_cases hlt : (j : Int) < (len : Int)
  ·have hj0 : (0 : Int) ≤ (j : Int) := by omega
   rcases (HA.out.keep HB.out).2.2 with h0 | ⟨b1, off1, rfl, hb1, hc1⟩
   ·omega
   rcases (HQ.out.keep HB.out).2.2 with h0 | ⟨b2, off2, rfl, hb2, hc2⟩
   ·omega
   obtain ⟨hat1, hin1⟩ := hc1 j (by omega)
   obtain ⟨hat2, hin2⟩ := hc2 j (by omega)
   have hsm := HS.out j (by omega)
   obtain ⟨p, hp⟩ : ∃ p, P j = p := ⟨_, rfl⟩
   obtain ⟨q, hq⟩ : ∃ q, Q j = q := ⟨_, rfl⟩
   rw [hp] at hat1 hin1 hsm
   rw [hq] at hat2 hin2 hsm
   clear hp hq hc1 hc2
   obtain ⟨kind, lo, hi, op, cnt, s0, s1, ea, el, ec, T⟩ := p
   obtain ⟨kind2, lo2, hi2, op2, cnt2, s02, s12, fa, el2, fc, U⟩ := q
   unfold SamePm at hsm
   dsimp only at hsm
   obtain ⟨rfl, rfl, rfl, rfl, rfl, rfl, rfl, rfl, hTU⟩ := hsm
   obtain ⟨c0, c1, c2, c3, c4, c5, c6, c7⟩ := hat1
   obtain ⟨d0, d1, d2, d3, d4, d5, d6, d7⟩ := hat2
   dsimp only at c0 c1 c2 c3 c4 c5 c6 c7 d0 d1 d2 d3 d4 d5 d6 d7
   have HTU := aside hTU
   have HI1 := aside (show EntsIn wr ea el ec T from hin1)
   have HI2 := aside (show EntsIn wr fa el fc U from hin2)
   clear hTU hin1 hin2
   have RQ := fun W => rg_ne_same lo hi op W
   have TQ := fun W => tal_ne_same cnt s0 s1 W
   have hmy : (el : Int) ≤ 9223372036854775807 := by have h1 := HI1.out.1; have h2 := HI1.out.2.1; unfold maxLen at h2; omega
   go_upto_region 7 with fail
   have K1 := heap_alloc_new wr (.cells #[.int .i64 kind, .string lo, .string hi, .bool op, .int .i64 cnt, .int .u64 s0, .int .u64 s1, .slice ea el ec] 47)
   have BA := bnew wr (.cells #[.int .i64 kind, .string lo, .string hi, .bool op, .int .i64 cnt, .int .u64 s0, .int .u64 s1, .slice ea el ec] 47)
   replace d0 := cell_in d0 BA
   replace d1 := cell_in d1 BA
   replace d2 := cell_in d2 BA
   replace d3 := cell_in d3 BA
   replace d4 := cell_in d4 BA
   replace d5 := cell_in d5 BA
   replace d6 := cell_in d6 BA
   replace d7 := cell_in d7 BA
   obtain ⟨g1, hg1⟩ : ∃ g, wr.heap.size = g := ⟨_, rfl⟩
   rw [hg1] at K1 ⊢
   clear c0 c1 c2 c3 c4 c5 c6 c7 hg1
   generalize wr.alloc (.cells #[.int .i64 kind, .string lo, .string hi, .bool op, .int .i64 cnt, .int .u64 s0, .int .u64 s1, .slice ea el ec] 47) = X1 at K1 BA d0 d1 d2 d3 d4 d5 d6 d7 ⊢
   go_upto_region 8 with fail
   have K2 := heap_alloc_new X1 (.cells #[.int .i64 kind, .string lo, .string hi, .bool op, .int .i64 cnt, .int .u64 s0, .int .u64 s1, .slice fa el fc] 47)
   have BB := bnew X1 (.cells #[.int .i64 kind, .string lo, .string hi, .bool op, .int .i64 cnt, .int .u64 s0, .int .u64 s1, .slice fa el fc] 47)
   replace K1 := blk_on K1 BB
   have BX2 := aside (bthen BA BB)
   obtain ⟨g2, hg2⟩ : ∃ g, X1.heap.size = g := ⟨_, rfl⟩
   rw [hg2] at K2 ⊢
   clear d0 d1 d2 d3 d4 d5 d6 d7 hg2 BA
   generalize X1.alloc (.cells #[.int .i64 kind, .string lo, .string hi, .bool op, .int .i64 cnt, .int .u64 s0, .int .u64 s1, .slice fa el fc] 47) = X2 at K1 K2 BB BX2 ⊢
   have KK1 := aside K1
   have KK2 := aside K2
   have BW2 := aside (HB.out.trans (BX2.out.mono HB.out.size))
   have HJ1 := aside (HI1.out.keep BX2.out)
   have HJ2 := aside (HI2.out.keep BX2.out)
   obtain ⟨c0, c1, c2, c3, c4, c5, c6, c7⟩ := oct8 K1
   obtain ⟨d0, d1, d2, d3, d4, d5, d6, d7⟩ := oct8 K2
   clear K1 K2 BB BX2 HI1 HI2 HB
   go_wp2
   clear c0 c1 c2 c3 c4 c5 c6 c7 d0 d1 d2 d3 d4 d5 d6 d7 RQ TQ
   go_loopw [8] (fun i wr => ∃ k : Nat, i = .int .i64 (k : Int) ∧ k ≤ el ∧ Below X2.heap.size X2 wr) (fun i _ => el - (intOf i).toNat)
   case atStart => exact ⟨0, rfl, Nat.zero_le _, Below.refl _ _⟩
   case round =>
    obtain ⟨k, rfl, hk, hBB⟩ := hrel
    have HB := aside hBB
    clear hBB
    obtain ⟨-, -, -, -, -, -, -, c7⟩ := oct8 (blk_on KK1.out HB.out)
    obtain ⟨-, -, -, -, -, -, -, d7⟩ := oct8 (blk_on KK2.out HB.out)
    by_cases hlk : (k : Int) < (el : Int)
    ·have hk0 : (0 : Int) ≤ (k : Int) := by omega
     rcases (HJ1.out.keep HB.out).2.2 with h0 | ⟨x1, o1, rfl, hx1, hy1⟩
     ·omega
     rcases (HJ2.out.keep HB.out).2.2 with h0 | ⟨x2, o2, rfl, hx2, hy2⟩
     ·omega
     obtain ⟨⟨m0, m1, m2, m3, m4⟩, -⟩ := hy1 k (by omega)
     obtain ⟨⟨n0, n1, n2, n3, n4⟩, -⟩ := hy2 k (by omega)
     obtain ⟨t, ht⟩ : ∃ t, T k = t := ⟨_, rfl⟩
     have hu : U k = t := by rw [← HTU.out k (by omega)]; exact ht
     rw [ht] at m0 m1 m2 m3 m4
     rw [hu] at n0 n1 n2 n3 n4
     clear hy1 hy2 ht hu
     have SZ := aside (fun W (bb : Below wr.heap.size wr W) => (show W.cell? ⟨g1, 7, none⟩ = some (.slice (some ⟨x1, o1, none⟩) el ec) ∧ W.cell? ⟨g2, 7, none⟩ = some (.slice (some ⟨x2, o2, none⟩) el fc) ∧ (W.cell? ⟨x1, o1 + k * 5, none⟩ = some (.string t.k) ∧ W.cell? ⟨x1, o1 + k * 5 + 1, none⟩ = some (.int .i64 t.c) ∧ W.cell? ⟨x1, o1 + k * 5 + 2, none⟩ = some (.int .i64 t.n) ∧ W.cell? ⟨x1, o1 + k * 5 + 3, none⟩ = some (.string t.v) ∧ W.cell? ⟨x1, o1 + k * 5 + 4, none⟩ = some (.bool t.d)) ∧ (W.cell? ⟨x2, o2 + k * 5, none⟩ = some (.string t.k) ∧ W.cell? ⟨x2, o2 + k * 5 + 1, none⟩ = some (.int .i64 t.c) ∧ W.cell? ⟨x2, o2 + k * 5 + 2, none⟩ = some (.int .i64 t.n) ∧ W.cell? ⟨x2, o2 + k * 5 + 3, none⟩ = some (.string t.v) ∧ W.cell? ⟨x2, o2 + k * 5 + 4, none⟩ = some (.bool t.d)) from ⟨cell_in c7 bb, cell_in d7 bb, ⟨cell_in m0 bb, cell_in m1 bb, cell_in m2 bb, cell_in m3 bb, cell_in m4 bb⟩, cell_in n0 bb, cell_in n1 bb, cell_in n2 bb, cell_in n3 bb, cell_in n4 bb⟩))
     have EQ := fun W => ent_ne_sameF t.k t.c t.n t.v t.d W
     clear m0 m1 m2 m3 m4 n0 n1 n2 n3 n4
     go_wp2_with fail
     clear c7 d7
     refine wp_region_held_drew (S := fun W => (W.cell? ⟨g1, 7, none⟩ = some (.slice (some ⟨x1, o1, none⟩) el ec) ∧ W.cell? ⟨g2, 7, none⟩ = some (.slice (some ⟨x2, o2, none⟩) el fc) ∧ (W.cell? ⟨x1, o1 + k * 5, none⟩ = some (.string t.k) ∧ W.cell? ⟨x1, o1 + k * 5 + 1, none⟩ = some (.int .i64 t.c) ∧ W.cell? ⟨x1, o1 + k * 5 + 2, none⟩ = some (.int .i64 t.n) ∧ W.cell? ⟨x1, o1 + k * 5 + 3, none⟩ = some (.string t.v) ∧ W.cell? ⟨x1, o1 + k * 5 + 4, none⟩ = some (.bool t.d)) ∧ (W.cell? ⟨x2, o2 + k * 5, none⟩ = some (.string t.k) ∧ W.cell? ⟨x2, o2 + k * 5 + 1, none⟩ = some (.int .i64 t.c) ∧ W.cell? ⟨x2, o2 + k * 5 + 2, none⟩ = some (.int .i64 t.n) ∧ W.cell? ⟨x2, o2 + k * 5 + 3, none⟩ = some (.string t.v) ∧ W.cell? ⟨x2, o2 + k * 5 + 4, none⟩ = some (.bool t.d))) ∧ Below wr.heap.size wr W) (by kernel_rfl) ⟨SZ.out _ (Below.refl _ wr).drew, (Below.refl _ wr).drew⟩ (fun hHeld => ?_)
     refine tk 0 rfl _ ?_
     refine tk 1 rfl _ ?_
     refine tk 2 rfl _ ?_
     refine tk 3 rfl _ ?_
     refine tk 4 rfl _ ?_
     refine tk 5 rfl _ ?_
     refine tk 6 rfl _ ?_
     refine tk 7 rfl _ ?_
     refine tk 8 rfl _ ?_
     refine tk 9 rfl _ ?_
     refine wpAnyH_take (i := 10) (v := .bool false) rfl (by kernel_rfl) (by kernel_rfl) (by kernel_rfl) (fun _ _ _ h => h) (Or.inl ⟨by rfl, ?_⟩) (by assumption) ?_
     ·intro w hSw
      go_simp
      try exact EQ _
     simp only [Act.put, List.getElem_toArray, List.getElem_cons_zero, List.getElem_cons_succ, List.setIfInBounds_toArray, List.set_cons_zero, List.set_cons_succ]
     refine wpAnyH_done (by kernel_rfl) ?_ _
     have B9 := aside hHeld.2
     clear hHeld SZ
     go_wp2
     go_roundw
     case rel => exact ⟨k + 1, by go_num, by omega, HB.out.trans (B9.out.mono HB.out.size)⟩
     case measure => simp [intOf]; omega
    ·go_wp2
     go_roundw
     case rel => exact ⟨j + 1, by go_num, by omega, BW2.out.trans (HB.out.mono BW2.out.size)⟩
     case measure => simp [intOf]; omega
  ·go_wp2
   go_ret
   exact ⟨rfl, HB.out⟩
end Go.Proofs.YtpbkjffiohfkcaaGreatDoor
namespace Go.Proofs.YtpbkjffiohfkcaaGreatDoor
open Go.RowKit
set_option linter.unusedVariables false
theorem DSt.keeps {w w' : World} {B db sb g tb : Nat} {nd ck nd' ck' : Int} {l Ls : List En} (h : DSt w B db nd ck l) (hs : Sto w sb g tb nd' ck' Ls) (k : Keeps (Of sb g tb) w w') : DSt w' B db nd ck l := by
 obtain ⟨v, h1, h2⟩ := h
 refine ⟨v, blk_keep h1 k (hs.not h1 (by decide) (by decide) (by decide)), h2.1, ?_⟩
 rcases h2.2 with h0 | ⟨g2, cap, cur, e1, e2, e3, e4⟩
 ·exact .inl h0
 ·exact .inr ⟨g2, cap, cur, e1, e2, blk_keep e3 k (hs.not e3 (by decide) (by decide) (by decide)), e4⟩
end Go.Proofs.YtpbkjffiohfkcaaGreatDoor
namespace Go.Proofs.YtpbkjffiohfkcaaGreatDoor
open Go.RowKit
set_option linter.unusedVariables false
def rqP (p : Pm) (m : List En) : Pm := ⟨3, p.lo, p.hi, p.op, 0, 0, 0, none, m.length, 0, nthE m⟩
theorem RpAt.parts {B : Nat} {p : Pm} {m : List En} {v : Value} {w : World} (h : RpAt B p m v w) (hk : KeysOk m) : ∃ a c P, v = .slice a (if m = [] then 0 else 1) c ∧ PartsIn w a (if m = [] then 0 else 1) c P ∧ ∀ i, i < (if m = [] then 0 else 1) → SamePm (P i) (rqP p m) := by
 rcases h with ⟨rfl, rfl⟩ | ⟨h0, g, a, c, rfl, h2, h3, h4⟩
 ·refine ⟨none, 0, fun _ => rqP p [], rfl, ⟨Nat.le_refl _, by unfold maxLen; simp, .inl rfl⟩, fun i hi => by simp at hi⟩
 ·rw [if_neg h0]
  obtain ⟨a2, c2, e2, hE⟩ := own_ents h4 hk
  simp only [Value.slice.injEq, true_and] at e2
  obtain ⟨rfl, rfl⟩ := e2
  refine ⟨some ⟨g, 0, none⟩, 1, fun _ => ⟨3, p.lo, p.hi, p.op, 0, 0, 0, a, m.length, c, nthE m⟩, rfl, ⟨Nat.le_refl _, by unfold maxLen; omega, .inr ⟨g, 0, rfl, (Array.getElem?_eq_some_iff.1 h3).1, fun i hi => ⟨?_, hE⟩⟩⟩, fun i hi => ⟨rfl, rfl, rfl, rfl, rfl, rfl, rfl, rfl, fun _ _ => rfl⟩⟩
  obtain rfl : i = 0 := by omega
  exact oct (p := ⟨3, p.lo, p.hi, p.op, 0, 0, 0, a, m.length, c, nthE m⟩) h3
theorem SamePm.symm' {p q : Pm} (h : SamePm p q) : SamePm q p := by
 obtain ⟨h1, h2, h3, h4, h5, h6, h7, h8, h9⟩ := h
 exact ⟨h1.symm, h2.symm, h3.symm, h4.symm, h5.symm, h6.symm, h7.symm, h8.symm, fun k hk => (h9 k (by omega)).symm⟩
theorem SamePm.trans' {p q r : Pm} (h : SamePm p q) (k : SamePm q r) : SamePm p r := by
 obtain ⟨h1, h2, h3, h4, h5, h6, h7, h8, h9⟩ := h
 obtain ⟨k1, k2, k3, k4, k5, k6, k7, k8, k9⟩ := k
 exact ⟨h1.trans k1, h2.trans k2, h3.trans k3, h4.trans k4, h5.trans k5, h6.trans k6, h7.trans k7, h8.trans k8, fun i hi => (h9 i hi).trans (k9 i (by omega))⟩
theorem own_keepS {w w' : World} {B : Nat} {v : Value} {n : Nat} {xs : List Value} {sb g tb : Nat} {nd ck : Int} {Ls : List En} (h : w.ownsRow B 77 5 v n xs) (hs : Sto w sb g tb nd ck Ls) (k : Keeps (Of sb g tb) w w') : w'.ownsRow B 77 5 v n xs := by
 refine ⟨h.1, ?_⟩
 rcases h.2 with h5 | ⟨g2, cap, cur, e1, e2, e3, e4⟩
 ·exact .inl h5
 ·exact .inr ⟨g2, cap, cur, e1, e2, blk_keep e3 k (hs.not e3 (by decide) (by decide) (by decide)), e4⟩
theorem own_keepD {w w' : World} {B B' db : Nat} {v : Value} {n : Nat} {xs : List Value} {nd ck : Int} {l : List En} (h : w.ownsRow B 77 5 v n xs) (hd : DSt w B' db nd ck l) (k : Keeps (fun x => x = db) w w') : w'.ownsRow B 77 5 v n xs := by
 refine ⟨h.1, ?_⟩
 rcases h.2 with h5 | ⟨g2, cap, cur, e1, e2, e3, e4⟩
 ·exact .inl h5
 ·exact .inr ⟨g2, cap, cur, e1, e2, blk_keep e3 k (hd.other e3 (by decide)), e4⟩
theorem RpAt.keepD {B B' db : Nat} {p : Pm} {m : List En} {v : Value} {w w' : World} {nd ck : Int} {l : List En} (h : RpAt B p m v w) (hd : DSt w B' db nd ck l) (k : Keeps (fun x => x = db) w w') : RpAt B p m v w' := by
 rcases h with h | ⟨h0, g, a, c, h1, h2, h3, h4⟩
 ·exact .inl h
 ·exact .inr ⟨h0, g, a, c, h1, h2, blk_keep h3 k (hd.other h3 (by decide)), own_keepD h4 hd k⟩
theorem Sto.keepD {w w' : World} {sb g tb B db : Nat} {nd ck nd' ck' : Int} {Ls l : List En} (h : Sto w sb g tb nd ck Ls) (hd : DSt w B db nd' ck' l) (k : Keeps (fun x => x = db) w w') : Sto w' sb g tb nd ck Ls := by
 obtain ⟨v, d1, -⟩ := hd
 exact h.set d1 (by decide) (by decide) (by decide) (by decide) k
theorem Lanes.small {w : World} (L : Lanes w) {cs : Array Value} {T : TypeId} (h : w.heap[0]? = some (.cells cs T (0, 0))) (hs : cs.size ≤ 5) : False := by
 have h5 := L.c5
 simp only [World.cell?, h] at h5
 have : cs[5]? = none := by rw [Array.getElem?_eq_none_iff]; omega
 simp [this] at h5
theorem Lanes.doc {w : World} (L : Lanes w) {B db : Nat} {nd ck : Int} {l : List En} (h : DSt w B db nd ck l) : ¬ 0 = db := by
 rintro rfl
 obtain ⟨v, d, -⟩ := h
 exact L.small d (by simp)
theorem rp_again {p : Pm} {s : TkS} (h : MapL s.l ∧ s.l.length ≤ 256) (hE : MapL (firstE p.T p.el)) : rpL p (tkAll s (firstE p.T p.el)).l = rpL p s.l := by
 unfold rpL
 split
 ·unfold thruL
  rw [List.filter_filter, List.filter_filter]
  exact lk_again h hE _
 ·rfl
theorem rp_keys {p : Pm} {l : List En} (h : MapL l) (hE : MapL (firstE p.T p.el)) : KeysOk (rpL p l) := by
 unfold rpL
 split
 ·exact fun e he => key_small ((thru_map h).chk e ((lk_sub _ _ (thru_map h) hE).subset he))
 ·intro e he; cases he
end Go.Proofs.YtpbkjffiohfkcaaGreatDoor
namespace Go.Proofs.YtpbkjffiohfkcaaGreatDoor
open Go.RowKit
set_option linter.unusedVariables false
set_option maxHeartbeats 6400000 in
set_option maxRecDepth 100000 in
theorem still13_any {w : World} {B sb g tb db : Nat} {nd ck : Int} {l : List En} (h : Pair2 w B sb g tb db nd ck l) (hm : MapL l) (hl : l.length ≤ 256) :
    Calls Tryz.prog 13 #[.agg #[.pointer (some ⟨sb, 0, none⟩), .pointer (some ⟨db, 0, none⟩)]] w fun e w' => e = .returned (.bool true) ∧ Below w.heap.size w w' := by
 have BX := aside (bnew w (.cells #[.pointer (some ⟨sb, 0, none⟩), .pointer (some ⟨db, 0, none⟩)] 29))
 have KP := aside (heap_alloc_new w (.cells #[.pointer (some ⟨sb, 0, none⟩), .pointer (some ⟨db, 0, none⟩)] 29))
 obtain ⟨X, hX⟩ : ∃ X, w.alloc (.cells #[.pointer (some ⟨sb, 0, none⟩), .pointer (some ⟨db, 0, none⟩)] 29) = X := ⟨_, rfl⟩
 rw [hX] at BX KP
 have H := aside (h.below BX.out)
 obtain ⟨a, c, hd, hA, -⟩ := H.out.doc.ents hm
 have CH := aside (fun W (b : Below X.heap.size X W) => held13_any (H.out.code.below b) hl)
 have CC := aside (fun W (b : Below X.heap.size X W) => qclock (H.out.code.below b))
 have HA := aside hA
 have HK := aside (show KeysOk l from fun e he => key_small (hm.chk e he))
 obtain ⟨d0, d1, d2⟩ := box3r hd
 obtain ⟨p0, p1⟩ := two_cells KP.out
 clear hd hA h hm hl
 go_enter Tryz.func13, Tryz.ntmps13
 go_wp2_with fail
 refine wp_region_held_drew (S := fun W => Below X.heap.size X W ∧ W.cell? ⟨w.heap.size, 0, none⟩ = some (.pointer (some ⟨sb, 0, none⟩)) ∧ W.cell? ⟨w.heap.size, 1, none⟩ = some (.pointer (some ⟨db, 0, none⟩)) ∧ W.cell? ⟨db, 1, none⟩ = some (.int .i64 ck) ∧ W.cell? ⟨db, 2, none⟩ = some (.slice a l.length c)) (by kernel_rfl) ⟨(Below.refl _ X).drew, p0, p1, d1, d2⟩ (fun hHeld => ?_)
 refine tk 0 rfl _ ?_
 refine tk 1 rfl _ ?_
 refine tk 3 rfl _ ?_
 refine tk 4 rfl _ ?_
 refine tk 5 rfl _ ?_
 refine tk 6 rfl _ ?_
 refine tk 7 rfl _ ?_
 clear p0 p1 d0 d1 d2
 refine wpAnyH_ready (rs := [2]) (by kernel_rfl) (by simp) ?_
 refine AllReadyH.cons rfl (fun K hK => ?_) AllReadyH.nil
 go_simp
 refine (CH.out _ hHeld.1).mono ?_
 rintro e w9 ⟨v1, rfl, o1, bb⟩
 refine hK.out _ _ (⟨hHeld.1.trans (bb.mono hHeld.1.size), cell_in hHeld.2.1 bb, cell_in hHeld.2.2.1 bb, cell_in hHeld.2.2.2.1 bb, cell_in hHeld.2.2.2.2 bb⟩) (fun hHeld => ?_)
 clear hK K 
 obtain ⟨a1, c1, rfl, hE1⟩ := own_ents o1 HK.out
 have CS : Hid (∀ W, Below X.heap.size X W → Below w9.heap.size w9 W → Calls Tryz.prog 17 #[.slice a1 l.length c1, .slice a l.length c] W fun e w' => e = .returned (.bool true) ∧ Below W.heap.size W w') := fun W b1 b2 => same13_yes a1 l.length c1 (nthE l) a l.length c (nthE l) W (hE1.keep b2) (HA.out.keep b1) rfl
 clear o1 hE1 CH
 refine wpAnyH_ready (rs := [8]) (by kernel_rfl) (by simp) ?_
 refine AllReadyH.cons rfl (fun K hK => ?_) AllReadyH.nil
 go_simp
 refine (CS.out _ hHeld.1 (Below.refl _ _)).mono ?_
 rintro e w10 ⟨rfl, b8⟩
 refine hK.out _ _ (⟨hHeld.1.trans (b8.mono hHeld.1.size), cell_in hHeld.2.1 b8, cell_in hHeld.2.2.1 b8, cell_in hHeld.2.2.2.1 b8, cell_in hHeld.2.2.2.2 b8⟩) (fun hHeld => ?_)
 clear hK K 
 refine tk 9 rfl _ ?_
 refine tk 10 rfl _ ?_
 refine tk 11 rfl _ ?_
 refine tk 13 rfl _ ?_
 refine tk 14 rfl _ ?_
 refine tk 15 rfl _ ?_
 refine tk 16 rfl _ ?_
 refine tk 17 rfl _ ?_
 refine wpAnyH_ready (rs := [12]) (by kernel_rfl) (by simp) ?_
 refine AllReadyH.cons rfl (fun K hK => ?_) AllReadyH.nil
 go_simp
 refine (CC.out _ hHeld.1).mono ?_
 rintro e w11 ⟨rfl, rfl⟩
 refine hK.out _ _ (hHeld) (fun hHeld => ?_)
 clear hK K 
 refine tk 18 rfl _ ?_
 refine tk 19 rfl _ ?_
 refine tk 20 rfl _ ?_
 refine wpAnyH_done (by kernel_rfl) ?_ _
 have BB := aside (BX.out.trans (hHeld.1.mono BX.out.size))
 clear hHeld
 go_wp2
 go_ret
 exact ⟨rfl, BB.out⟩
end Go.Proofs.YtpbkjffiohfkcaaGreatDoor
