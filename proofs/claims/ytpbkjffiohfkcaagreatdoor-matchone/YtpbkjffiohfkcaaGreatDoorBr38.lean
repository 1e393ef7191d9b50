/-
  The code's Load, of what a store can be made of.
-/
import Derived.Test.YtpbkjffiohfkcaaGreatDoorBr1
import Derived.Test.YtpbkjffiohfkcaaGreatDoorBr18
import Derived.Test.YtpbkjffiohfkcaaGreatDoorBr19
import Derived.Test.YtpbkjffiohfkcaaGreatDoorBr33
import Derived.Deep.CutBlock
import Derived.Test.YtpbkjffiohfkcaaGreatDoorBr37
import Derived.Test.YtpbkjffiohfkcaaGreatDoorBr34
import Derived.Test.YtpbkjffiohfkcaaGreatDoorBr14
namespace Go.Proofs.YtpbkjffiohfkcaaGreatDoor
open Go.RowKit
set_option linter.unusedVariables false
set_option maxHeartbeats 3200000 in
set_option maxRecDepth 100000 in
theorem qhold (e : En) {w : World} {sb g tb : Nat} {nd ck : Int} {Ls : List En} (h : Sto w sb g tb nd ck Ls) (L : Lanes w) (hl : Ls.length ≤ 1000000) (hk : e.k.size ≤ 140737488351232) :
    Calls Tryz.prog 57 #[.pointer (some ⟨sb, 0, none⟩), .agg #[.string e.k, .int .i64 e.c, .int .i64 e.n, .string e.v, .bool e.d]] w fun r w' => r = .returned (.tuple #[]) ∧ Sto w' sb g tb nd (ckm ck e.c) (insE e Ls) ∧ Keeps (Of sb g tb) w w' ∧ Lanes w' := by
 obtain ⟨T, n, h1, h2⟩ := h
 exact (shold e h1 L h2 hl hk).mono fun r w' ⟨e1, e2, e3⟩ => ⟨e1, ⟨_, _, e2, h2.put e⟩, e3, L.keeps e3 (L.apart h1)⟩
set_option maxHeartbeats 3200000 in
set_option maxRecDepth 100000 in
theorem sload (nd ck : Int) (a : Option Addr) (len cap : Nat) (T : Nat → En) (w : World) (h : EntsIn w a len cap T) (L : Lanes w) (hO : LdOk nd ck (firstE T len)) :
    Calls Tryz.prog 30 #[.int .i64 nd, .int .i64 ck, .slice a len cap] w fun e w' => Below w.heap.size w w' ∧ Lanes w' ∧ ∃ sb g tb, e = .returned (.tuple #[.pointer (some ⟨sb, 0, none⟩), .int .i64 0]) ∧ Sto w' sb g tb nd ck (firstE T len) ∧ w.heap.size ≤ sb ∧ w.heap.size ≤ g ∧ w.heap.size ≤ tb := by
 have HE := aside h
 have HO := aside hO
 have L0 := aside L
 clear L h
 have hnd : 0 ≤ nd ∧ nd < 8 := by have := hO.nd; simpa [nodeB] using this
 obtain ⟨hn1, hn2⟩ := hnd
 have h1 : ¬ nd < 0 := by omega
 have h2 : ¬ 8 ≤ nd := by omega
 have h3 : ¬ ck < 0 := by have := hO.c0; omega
 have h4 : ¬ 1099511627776 < ck := by have := hO.c1; omega
 have h5 : ¬ (256 : Int) < (len : Int) := by have := hO.len; rw [firstE_len] at this; omega
 have hmx : (len : Int) ≤ 9223372036854775807 := by omega
 clear hO hn1 hn2
 have C := aside (sempty nd ck w)
 go_enter Tryz.func30, Tryz.ntmps30
 go_wp2_with fail
 refine C.out.mono ?_
 rintro e w0 ⟨sb, g, tb, rfl, hs, b0, l1, l2, l3⟩
 have HS0 := aside (show Sto w0 sb g tb nd ck (firstE T 0) from ⟨_, _, hs, Hol.nil⟩)
 have B0 := aside b0
 have LL := aside (L0.out.keep b0)
 have HG := aside (show w.heap.size ≤ sb ∧ w.heap.size ≤ g ∧ w.heap.size ≤ tb from ⟨l1, l2, l3⟩)
 clear hs b0 l1 l2 l3 C h1 h2 h3 h4
 go_wp2
 go_loopw [36] (fun i wr => ∃ j : Nat, i = .int .i64 (j : Int) ∧ j ≤ len ∧ Sto wr sb g tb nd ck (firstE T j) ∧ Lanes wr ∧ Below w.heap.size w wr) (fun i _ => len - (intOf i).toNat)
 case atStart => exact ⟨0, rfl, Nat.zero_le _, HS0.out, LL.out, B0.out⟩
 case round =>
  obtain ⟨j, rfl, hj, hS, hL, hB⟩ := hrel
  have HB := aside hB
  have HS1 := aside hS
  have HL1 := aside hL
  clear hB hS hL LL B0 HS0
  by_cases hlt : (j : Int) < (len : Int)
  ·have hE := HE.out.keep HB.out
   rcases hE.2.2 with h0 | ⟨b, off, rfl, hb, hc⟩
   ·omega
   obtain ⟨⟨c0, c1, c2, c3, c4⟩, -⟩ := hc j (by omega)
   have hq : (T j).chk = 0 := HO.out.map.chk _ (first_mem (by omega))
   have HQ := aside hq
   have hver : (T j).c ≤ ck := HO.out.ver _ (first_mem (by omega))
   have HV := aside hver
   have hj0 : (0 : Int) ≤ (j : Int) := by omega
   have HCC := aside hc
   clear hc hE hver
   obtain ⟨t, ht⟩ : ∃ t, T j = t := ⟨_, rfl⟩
   have HT := aside ht
   rw [ht] at c0 c1 c2 c3 c4 hq HQ HV
   have CQ := aside (fun W => chk_of t W hq _ ichk_any)
   clear ht hq
   go_wp2_with fail
   refine (CQ.out _).mono ?_
   rintro e w1 ⟨rfl, b1⟩
   have BN := bthen (bnew wr (.cells #[.string t.k, .int .i64 t.c, .int .i64 t.n, .string t.v, .bool t.d] 77)) b1
   have B2 := aside (HB.out.trans (BN.mono HB.out.size))
   have HS := aside (HS1.out.below BN)
   have HL := aside (HL1.out.keep BN)
   have KB := aside (blk_on (heap_alloc_new wr (.cells #[.string t.k, .int .i64 t.c, .int .i64 t.n, .string t.v, .bool t.d] 77)) b1)
   obtain ⟨⟨e0, -⟩, -⟩ := box5 KB.out
   have HC2 := aside (fun (i : Nat) (hi : i < len) => cell_in (HCC.out i hi).1.1 BN)
   generalize wr.heap.size = bx at *
   clear b1 c0 c1 c2 c3 c4 CQ HCC BN HS1 HL1
   cases j with
   | zero =>
    go_wp2_with fail
    refine wp_region_held_drew (S := fun W => Below w1.heap.size w1 W) (by kernel_rfl) ((Below.refl _ w1).drew) (fun hHeld => ?_)
    refine tk 0 rfl _ ?_
    refine tk 1 rfl _ ?_
    refine tk 2 rfl _ ?_
    refine tn 3 rfl ?_
    refine tn 4 rfl ?_
    refine tn 5 rfl ?_
    refine tn 6 rfl ?_
    refine tn 7 rfl ?_
    refine tn 8 rfl ?_
    refine tn 9 rfl ?_
    refine tn 10 rfl ?_
    refine tn 11 rfl ?_
    refine tk 12 rfl _ ?_
    refine tk 13 rfl _ ?_
    refine wpAnyH_done (by kernel_rfl) ?_ _
    have B3 := aside hHeld
    clear hHeld e0
    have KX := aside (blk_on KB.out B3.out)
    obtain ⟨⟨y0, y1, y2, y3, y4⟩, -⟩ := box5 KX.out
    have hv : ¬ ck < t.c := by have := HV.out; omega
    have hS9 := HS.out.below B3.out
    have CH := aside (fun W (hW : Sto W sb g tb nd ck (firstE T 0)) (hL : Lanes W) => qhold t hW hL (by rw [firstE_len]; have := HO.out.len; rw [firstE_len] at this; omega) (key_small HQ.out))
    go_wp2_with fail
    refine (CH.out _ hS9 (HL.out.keep B3.out)).mono ?_
    rintro e9 w9 ⟨rfl, s9, k9, l9⟩
    rw [ckm_low HV.out, ← HT.out, ld_step HO.out.map (by omega)] at s9
    have S9 := aside s9
    have L9 := aside l9
    have B9 := aside (B2.out.trans ((B3.out.mono B2.out.size).trans (k9.below (by have := B2.out.size; have := B3.out.size; omega) (fun k hk => by have := HG.out; unfold Of; omega))))
    clear s9 l9 k9 CH y0 y1 y2 y3 y4 hS9
    go_wp2
    go_roundw
    case rel => exact ⟨0 + 1, by go_num, by omega, S9.out, L9.out, B9.out⟩
    case measure => simp [intOf]; omega
   | succ k =>
    have d0 := HC2.out k (by omega)
    have hris : kLt (T k).k (T (k + 1)).k = true := by
     have h9 := (mapL_sub HO.out.map (first_sub T (show k + 2 ≤ len by omega))).rises
     rw [firstE_succ, rises_snoc] at h9
     exact h9.2 _ (first_mem (by omega))
    rw [HT.out] at hris
    obtain ⟨u, hu⟩ : ∃ u, T k = u := ⟨_, rfl⟩
    rw [hu] at d0 hris
    have HR := aside hris
    clear hu HC2 hris
    have hk0 : (0 : Int) ≤ (k : Int) := by omega
    have hk1 : (k : Int) < (len : Int) := by omega
    have hk2 : (0 : Int) ≤ (k : Int) + 1 := by omega
    have hk3 : (0 : Int) < (k : Int) + 1 := by omega
    have hk4 : (k : Int) + 1 < (len : Int) := by omega
    have hw2 : IntKind.i64.wrap (k : Int) = (k : Int) := by simp only [IntKind.wrap_i64]; omega
    go_wp2_with fail
    refine wp_region_held_drew (S := fun W => Below w1.heap.size w1 W ∧ W.cell? ⟨b, off + k * 5, none⟩ = some (.string u.k) ∧ W.cell? ⟨bx, 0, none⟩ = some (.string t.k)) (by kernel_rfl) ⟨(Below.refl _ w1).drew, d0, e0⟩ (fun hHeld => ?_)
    refine tk 0 rfl _ ?_
    refine tk 1 rfl _ ?_
    refine tk 2 rfl _ ?_
    refine tk 3 rfl _ ?_
    refine tk 4 rfl _ ?_
    refine tk 5 rfl _ ?_
    refine tk 6 rfl _ ?_
    refine tk 7 rfl _ ?_
    refine tk 8 rfl _ ?_
    refine tk 9 rfl _ ?_
    refine tk 10 rfl _ ?_
    refine wpAnyH_take (i := 11) (v := .bool (!kLt u.k t.k)) rfl (by kernel_rfl) (by kernel_rfl) (by kernel_rfl) (fun _ _ _ h => h) (Or.inl ⟨by rfl, ?_⟩) (by assumption) ?_
    ·intro w hSw
     go_simp
     exact leq_eq _ _
    simp only [Act.put, List.getElem_toArray, List.getElem_cons_zero, List.getElem_cons_succ, List.setIfInBounds_toArray, List.set_cons_zero, List.set_cons_succ]
    refine tk 12 rfl _ ?_
    refine tk 13 rfl _ ?_
    refine wpAnyH_done (by kernel_rfl) ?_ _
    have B3 := aside hHeld.1
    clear hHeld hw2 e0 d0
    cases hkk : kLt u.k t.k
    ·rw [HR.out] at hkk
     cases hkk
    ·clear hkk
     have KX := aside (blk_on KB.out B3.out)
     obtain ⟨⟨y0, y1, y2, y3, y4⟩, -⟩ := box5 KX.out
     have hv : ¬ ck < t.c := by have := HV.out; omega
     have hS9 := HS.out.below B3.out
     have CH := aside (fun W (hW : Sto W sb g tb nd ck (firstE T (k + 1))) (hL : Lanes W) => qhold t hW hL (by rw [firstE_len]; have := HO.out.len; rw [firstE_len] at this; omega) (key_small HQ.out))
     go_wp2_with fail
     refine (CH.out _ hS9 (HL.out.keep B3.out)).mono ?_
     rintro e9 w9 ⟨rfl, s9, k9, l9⟩
     rw [ckm_low HV.out, ← HT.out, ld_step HO.out.map (by omega)] at s9
     have S9 := aside s9
     have L9 := aside l9
     have B9 := aside (B2.out.trans ((B3.out.mono B2.out.size).trans (k9.below (by have := B2.out.size; have := B3.out.size; omega) (fun k hk => by have := HG.out; unfold Of; omega))))
     clear s9 l9 k9 CH y0 y1 y2 y3 y4 hS9
     go_wp2
     go_roundw
     case rel => exact ⟨(k + 1) + 1, by go_num, by omega, S9.out, L9.out, B9.out⟩
     case measure => simp [intOf]; omega
  ·have hjl : j = len := by omega
   subst hjl
   go_wp2
   go_ret2
   refine ⟨HB.out, HL1.out, ?_⟩
   exact ⟨sb, rfl, g, tb, HS1.out, HG.out⟩
end Go.Proofs.YtpbkjffiohfkcaaGreatDoor
namespace Go.Proofs.YtpbkjffiohfkcaaGreatDoor
open Go.RowKit
set_option linter.unusedVariables false
theorem two_cells {w : World} {i : Nat} {a b : Value} {T : TypeId} (h : w.heap[i]? = some (.cells #[a, b] T (0, 0))) : w.cell? ⟨i, 0, none⟩ = some a ∧ w.cell? ⟨i, 1, none⟩ = some b := ⟨by simp [World.cell?, h], by simp [World.cell?, h]⟩
theorem Lanes.apart0 {w : World} (L : Lanes w) : ∀ (cs : Array Value) (T : TypeId), w.heap[0]? = some (.cells cs T (0, 0)) → cs.size = 2 → False := fun cs T h hs => by
 have h5 := L.c5
 simp only [World.cell?, h] at h5
 have : cs[5]? = none := by rw [Array.getElem?_eq_none_iff]; omega
 simp [this] at h5
def RtSay (w : World) (nd : Int) (l : List En) (e : Ending) (w' : World) : Prop := ∃ q, e = .returned (.bool q) ∧ (q = true ↔ LdOk nd 1099511627776 l) ∧ Below w.heap.size w w'
set_option maxHeartbeats 3200000 in
set_option maxRecDepth 100000 in
theorem right13_any (nd : Int) (a : Option Addr) (len cap : Nat) (T : Nat → En) (w : World) (h : EntsIn w a len cap T) (hform : (a = none ∧ len = 0 ∧ cap = 0) ∨ ∃ y, a = some y) : Calls Tryz.prog 9 #[.int .i64 nd, .slice a len cap] w fun e w' => RtSay w nd (firstE T len) e w' := by
 have C := aside (rload nd 1099511627776 a len cap T w h hform)
 clear h hform
 go_enter Tryz.func9, Tryz.ntmps9
 go_wp2_with fail
 refine C.out.mono ?_
 rintro e w1 ⟨b1, ⟨hO, db, rfl, -, -⟩ | ⟨hN, c, hc, rfl⟩⟩
 ·have HO := aside hO
  have B1 := aside b1
  clear b1 hO C
  go_wp2
  go_ret
  exact ⟨true, rfl, ⟨fun _ => HO.out, fun _ => rfl⟩, B1.out⟩
 ·have HN := aside hN
  have B1 := aside b1
  have hcb : (c == 0) = false := by simpa using hc
  clear b1 hN C
  go_wp2
  go_ret
  exact ⟨false, rfl, ⟨fun e => (by cases e), fun e => absurd e HN.out⟩, B1.out⟩
theorem DSt.set {w : World} {B db : Nat} {nd ck : Int} {l : List En} (h : DSt w B db nd ck l) {b : Nat} (hb : b < B) (hd : B ≤ db) (k : Nat) (u : Value) : DSt (w.setCell ⟨b, k, none⟩ u) B db nd ck l := by
 obtain ⟨v, h1, h2⟩ := h
 exact ⟨v, by rw [heap_setCell_other _ _ _ _ (by simp; omega)]; exact h1, own_set h2 hb k u⟩
structure Pair2 (w : World) (B sb g tb db : Nat) (nd ck : Int) (l : List En) : Prop where
 code : Sto w sb g tb nd ck l
 doc : DSt w B db nd ck l
 lanes : Lanes w
 s : B ≤ sb
 g : B ≤ g
 t : B ≤ tb
 d : B ≤ db
theorem Pair2.below {w w' : World} {B sb g tb db : Nat} {nd ck : Int} {l : List En} (h : Pair2 w B sb g tb db nd ck l) (b : Below w.heap.size w w') : Pair2 w' B sb g tb db nd ck l :=
 ⟨h.code.below b, h.doc.below b, h.lanes.keep b, h.s, h.g, h.t, h.d⟩
def MkSay (w : World) (nd : Int) (l : List En) (e : Ending) (w' : World) : Prop := ∃ sb g tb db, e = .returned (.tuple #[.agg #[.pointer (some ⟨sb, 0, none⟩), .pointer (some ⟨db, 0, none⟩)], .bool true]) ∧ Pair2 w' (w.heap.size + 1) sb g tb db nd 1099511627776 l ∧ Below w.heap.size w w'
set_option maxHeartbeats 3200000 in
set_option maxRecDepth 100000 in
theorem made13_any (nd : Int) (a : Option Addr) (len cap : Nat) (T : Nat → En) (w : World) (h : EntsIn w a len cap T) (hform : (a = none ∧ len = 0 ∧ cap = 0) ∨ ∃ y, a = some y) (L : Lanes w) (hO : LdOk nd 1099511627776 (firstE T len)) : Calls Tryz.prog 10 #[.int .i64 nd, .slice a len cap] w fun e w' => MkSay w nd (firstE T len) e w' := by
 have BZ := aside (bnew w (.cells #[.pointer none, .pointer none] 29))
 have KZ := aside (heap_alloc_new w (.cells #[.pointer none, .pointer none] 29))
 have C1 := aside (rload nd 1099511627776 a len cap T _ (h.keep BZ.out) hform)
 have C2 := aside (fun W (b : Below w.heap.size w W) => sload nd 1099511627776 a len cap T W (h.keep b) (L.keep b) hO)
 have HO := aside hO
 clear h hform L hO
 go_enter Tryz.func10, Tryz.ntmps10
 go_wp2_with fail
 refine C1.out.mono ?_
 rintro e w1 ⟨b1, ⟨-, db, rfl, hd, ds⟩ | ⟨hN, c, hc, rfl⟩⟩
 rotate_left
 ·exact absurd HO.out hN
 have B1 := aside (bthen BZ.out b1)
 have K1 := aside (blk_on KZ.out b1)
 have D1 := aside ds
 have HD := aside (show w.heap.size + 1 ≤ db from by simpa using hd)
 clear b1 ds hd KZ BZ C1
 go_wp2_with fail
 refine (C2.out _ B1.out).mono ?_
 rintro e w2 ⟨b2, l2, sb, g, tb, rfl, s2, h1, h2, h3⟩
 have K2 := aside (blk_on K1.out b2)
 have HG := aside (show w1.heap.size ≤ sb ∧ w1.heap.size ≤ g ∧ w1.heap.size ≤ tb from ⟨h1, h2, h3⟩)
 have Z1 := aside (show w.heap.size + 1 ≤ w1.heap.size from lt_of_blk K1.out)
 have B2 := aside (bthen B1.out b2)
 have D2 := aside (D1.out.below b2)
 rw [World.size_alloc] at D2
 have S2 := aside s2
 have L2 := aside l2
 clear b2 s2 l2 h1 h2 h3 K1 D1 B1 C2
 obtain ⟨pb, hpb⟩ : ∃ pb, w.heap.size = pb := ⟨_, rfl⟩
 rw [hpb] at K2 D2 HD Z1 ⊢
 have z0 := (two_cells K2.out).1
 have z1 := (two_cells K2.out).2
 have y0 := frozen_of_row _ _ 0 _ _ K2.out
 have y1 := frozen_of_row _ _ 1 _ _ K2.out
 have KR := set_in 1 (.pointer (some ⟨db, 0, none⟩)) (set_in 0 (.pointer (some ⟨sb, 0, none⟩)) K2.out)
 simp only [List.setIfInBounds_toArray, List.set_cons_zero, List.set_cons_succ] at KR
 have HKR := aside KR
 have KF := aside (((Keeps.refl (fun x => x = pb) w2).setCell (p := ⟨pb, 0, none⟩) (fun _ => rfl) (.pointer (some ⟨sb, 0, none⟩))).setCell (p := ⟨pb, 1, none⟩) (fun _ => rfl) (.pointer (some ⟨db, 0, none⟩)))
 have SF := aside (S2.out.set K2.out (by decide) (by decide) (by decide) (by decide) KF.out)
 have LF := aside (L2.out.keeps KF.out (fun e => by have h9 := L2.out.apart0; have h8 := K2.out; subst e; exact h9 _ _ h8 rfl))
 have DF := aside ((D2.out.set (b := pb) (by omega) HD.out 0 (.pointer (some ⟨sb, 0, none⟩))).set (b := pb) (by omega) HD.out 1 (.pointer (some ⟨db, 0, none⟩)))
 have BF := aside ((B2.out.setCell (p := ⟨pb, 0, none⟩) (by simp; omega) (.pointer (some ⟨sb, 0, none⟩))).setCell (p := ⟨pb, 1, none⟩) (by simp; omega) (.pointer (some ⟨db, 0, none⟩)))
 clear KR KF D2 S2 L2 B2
 go_wp2
 obtain ⟨r0, r1⟩ := two_cells HKR.out
 exact bodyPost_ret (v := .tuple #[.agg #[.pointer (some ⟨sb, 0, none⟩), .pointer (some ⟨db, 0, none⟩)], .bool true]) (by simp [results, Tryz.results10, go_sem, r0, r1]) rfl ⟨sb, g, tb, db, rfl, ⟨SF.out, by rw [hpb]; exact DF.out, LF.out, by have h1 := HG.out; have h2 := Z1.out; omega, by have h1 := HG.out; have h2 := Z1.out; omega, by have h1 := HG.out; have h2 := Z1.out; omega, by have h1 := HD.out; omega⟩, BF.out⟩
end Go.Proofs.YtpbkjffiohfkcaaGreatDoor
namespace Go.Proofs.YtpbkjffiohfkcaaGreatDoor
open Go.RowKit
set_option linter.unusedVariables false
def SamePm (p q : Pm) : Prop := p.kind = q.kind ∧ p.lo = q.lo ∧ p.hi = q.hi ∧ p.op = q.op ∧ p.cnt = q.cnt ∧ p.s0 = q.s0 ∧ p.s1 = q.s1 ∧ p.el = q.el ∧ ∀ k, k < p.el → p.T k = q.T k
theorem rg_ne_same (lo hi : ByteArray) (op : Bool) (w : World) : (binOp .neq 40 (.agg #[.string lo, .string hi, .bool op]) (.agg #[.string lo, .string hi, .bool op])).run Tryz.prog w = .ok (.bool false) w := by
 rw [rg_ne_run]; simp
theorem ent_ne_sameF (k : ByteArray) (c n : Int) (v : ByteArray) (d : Bool) (w : World) : (binOp .neq 77 (.agg #[.string k, .int .i64 c, .int .i64 n, .string v, .bool d]) (.agg #[.string k, .int .i64 c, .int .i64 n, .string v, .bool d])).run Tryz.prog w = .ok (.bool false) w := by
 rw [run_neq_struct, show (10000 : Nat) = 9999 + 1 from rfl]
 go_simp
set_option maxHeartbeats 6400000 in
set_option maxRecDepth 100000 in
theorem samePs_yes (a : Option Addr) (len ca : Nat) (P : Nat → Pm) (b : Option Addr) (cb : Nat) (Q : Nat → Pm) (w : World) (hA : PartsIn w a len ca P) (hB : PartsIn w b len cb Q) (hS : ∀ i, i < len → SamePm (P i) (Q i)) :
    Calls Tryz.prog 16 #[.slice a len ca, .slice b len cb] w fun e w' => e = .returned (.bool true) ∧ Below w.heap.size w w' := by
 have HA := aside hA
 have HQ := aside hB
 have HS := aside hS
 have hmx : (len : Int) ≤ 9223372036854775807 := by have h1 := hA.1; have h2 := hA.2.1; unfold maxLen at h2; omega
 clear hA hB hS
 go_enter Tryz.func16, Tryz.ntmps16
 go_wp2
 go_loopw [5] (fun i wr => ∃ j : Nat, i = .int .i64 (j : Int) ∧ j ≤ len ∧ Below w.heap.size w wr) (fun i _ => len - (intOf i).toNat)
 case atStart => exact ⟨0, rfl, Nat.zero_le _, Below.refl _ _⟩
 case round =>
  obtain ⟨j, rfl, hj, hBB⟩ := hrel
  have HB := aside hBB
  clear hBB
  by_cases hlt : (j : Int) < (len : Int)
  ·have hj0 : (0 : Int) ≤ (j : Int) := by omega
   rcases (HA.out.keep HB.out).2.2 with h0 | ⟨b1, off1, rfl, hb1, hc1⟩
   ·omega
   rcases (HQ.out.keep HB.out).2.2 with h0 | ⟨b2, off2, rfl, hb2, hc2⟩
   ·omega
   obtain ⟨hat1, hin1⟩ := hc1 j (by omega)
   obtain ⟨hat2, hin2⟩ := hc2 j (by omega)
   have hsm := HS.out j (by omega)
   obtain ⟨p, hp⟩ : ∃ p, P j = p := ⟨_, rfl⟩
   obtain ⟨q, hq⟩ : ∃ q, Q j = q := ⟨_, rfl⟩
   rw [hp] at hat1 hin1 hsm
   rw [hq] at hat2 hin2 hsm
   clear hp hq hc1 hc2
   obtain ⟨kind, lo, hi, op, cnt, s0, s1, ea, el, ec, T⟩ := p
   obtain ⟨kind2, lo2, hi2, op2, cnt2, s02, s12, fa, el2, fc, U⟩ := q
   unfold SamePm at hsm
   dsimp only at hsm
   obtain ⟨rfl, rfl, rfl, rfl, rfl, rfl, rfl, rfl, hTU⟩ := hsm
   obtain ⟨c0, c1, c2, c3, c4, c5, c6, c7⟩ := hat1
   obtain ⟨d0, d1, d2, d3, d4, d5, d6, d7⟩ := hat2
   dsimp only at c0 c1 c2 c3 c4 c5 c6 c7 d0 d1 d2 d3 d4 d5 d6 d7
   have HTU := aside hTU
   have HI1 := aside (show EntsIn wr ea el ec T from hin1)
   have HI2 := aside (show EntsIn wr fa el fc U from hin2)
   clear hTU hin1 hin2
   have RQ := fun W => rg_ne_same lo hi op W
   have TQ := fun W => tal_ne_same cnt s0 s1 W
   have hmy : (el : Int) ≤ 9223372036854775807 := by have h1 := HI1.out.1; have h2 := HI1.out.2.1; unfold maxLen at h2; omega
   go_upto_region 7 with fail
   have K1 := heap_alloc_new wr (.cells #[.int .i64 kind, .string lo, .string hi, .bool op, .int .i64 cnt, .int .u64 s0, .int .u64 s1, .slice ea el ec] 47)
   have BA := bnew wr (.cells #[.int .i64 kind, .string lo, .string hi, .bool op, .int .i64 cnt, .int .u64 s0, .int .u64 s1, .slice ea el ec] 47)
   replace d0 := cell_in d0 BA
   replace d1 := cell_in d1 BA
   replace d2 := cell_in d2 BA
   replace d3 := cell_in d3 BA
   replace d4 := cell_in d4 BA
   replace d5 := cell_in d5 BA
   replace d6 := cell_in d6 BA
   replace d7 := cell_in d7 BA
   obtain ⟨g1, hg1⟩ : ∃ g, wr.heap.size = g := ⟨_, rfl⟩
   rw [hg1] at K1 ⊢
   clear c0 c1 c2 c3 c4 c5 c6 c7 hg1
   generalize wr.alloc (.cells #[.int .i64 kind, .string lo, .string hi, .bool op, .int .i64 cnt, .int .u64 s0, .int .u64 s1, .slice ea el ec] 47) = X1 at K1 BA d0 d1 d2 d3 d4 d5 d6 d7 ⊢
   go_upto_region 8 with fail
   have K2 := heap_alloc_new X1 (.cells #[.int .i64 kind, .string lo, .string hi, .bool op, .int .i64 cnt, .int .u64 s0, .int .u64 s1, .slice fa el fc] 47)
   have BB := bnew X1 (.cells #[.int .i64 kind, .string lo, .string hi, .bool op, .int .i64 cnt, .int .u64 s0, .int .u64 s1, .slice fa el fc] 47)
   replace K1 := blk_on K1 BB
   have BX2 := aside (bthen BA BB)
   obtain ⟨g2, hg2⟩ : ∃ g, X1.heap.size = g := ⟨_, rfl⟩
   rw [hg2] at K2 ⊢
   clear d0 d1 d2 d3 d4 d5 d6 d7 hg2 BA
   generalize X1.alloc (.cells #[.int .i64 kind, .string lo, .string hi, .bool op, .int .i64 cnt, .int .u64 s0, .int .u64 s1, .slice fa el fc] 47) = X2 at K1 K2 BB BX2 ⊢
   have KK1 := aside K1
   have KK2 := aside K2
   have BW2 := aside (HB.out.trans (BX2.out.mono HB.out.size))
   have HJ1 := aside (HI1.out.keep BX2.out)
   have HJ2 := aside (HI2.out.keep BX2.out)
   obtain ⟨c0, c1, c2, c3, c4, c5, c6, c7⟩ := oct8 K1
   obtain ⟨d0, d1, d2, d3, d4, d5, d6, d7⟩ := oct8 K2
   clear K1 K2 BB BX2 HI1 HI2 HB
   go_wp2
   clear c0 c1 c2 c3 c4 c5 c6 c7 d0 d1 d2 d3 d4 d5 d6 d7 RQ TQ
   go_loopw [8] (fun i wr => ∃ k : Nat, i = .int .i64 (k : Int) ∧ k ≤ el ∧ Below X2.heap.size X2 wr) (fun i _ => el - (intOf i).toNat)
   case atStart => exact ⟨0, rfl, Nat.zero_le _, Below.refl _ _⟩
   case round =>
    obtain ⟨k, rfl, hk, hBB⟩ := hrel
    have HB := aside hBB
    clear hBB
    obtain ⟨-, -, -, -, -, -, -, c7⟩ := oct8 (blk_on KK1.out HB.out)
    obtain ⟨-, -, -, -, -, -, -, d7⟩ := oct8 (blk_on KK2.out HB.out)
    by_cases hlk : (k : Int) < (el : Int)
    ·have hk0 : (0 : Int) ≤ (k : Int) := by omega
     rcases (HJ1.out.keep HB.out).2.2 with h0 | ⟨x1, o1, rfl, hx1, hy1⟩
     ·omega
     rcases (HJ2.out.keep HB.out).2.2 with h0 | ⟨x2, o2, rfl, hx2, hy2⟩
     ·omega
     obtain ⟨⟨m0, m1, m2, m3, m4⟩, -⟩ := hy1 k (by omega)
     obtain ⟨⟨n0, n1, n2, n3, n4⟩, -⟩ := hy2 k (by omega)
     obtain ⟨t, ht⟩ : ∃ t, T k = t := ⟨_, rfl⟩
     have hu : U k = t := by rw [← HTU.out k (by omega)]; exact ht
     rw [ht] at m0 m1 m2 m3 m4
     rw [hu] at n0 n1 n2 n3 n4
     clear hy1 hy2 ht hu
     have SZ := aside (fun W (bb : Below wr.heap.size wr W) => (show W.cell? ⟨g1, 7, none⟩ = some (.slice (some ⟨x1, o1, none⟩) el ec) ∧ W.cell? ⟨g2, 7, none⟩ = some (.slice (some ⟨x2, o2, none⟩) el fc) ∧ (W.cell? ⟨x1, o1 + k * 5, none⟩ = some (.string t.k) ∧ W.cell? ⟨x1, o1 + k * 5 + 1, none⟩ = some (.int .i64 t.c) ∧ W.cell? ⟨x1, o1 + k * 5 + 2, none⟩ = some (.int .i64 t.n) ∧ W.cell? ⟨x1, o1 + k * 5 + 3, none⟩ = some (.string t.v) ∧ W.cell? ⟨x1, o1 + k * 5 + 4, none⟩ = some (.bool t.d)) ∧ (W.cell? ⟨x2, o2 + k * 5, none⟩ = some (.string t.k) ∧ W.cell? ⟨x2, o2 + k * 5 + 1, none⟩ = some (.int .i64 t.c) ∧ W.cell? ⟨x2, o2 + k * 5 + 2, none⟩ = some (.int .i64 t.n) ∧ W.cell? ⟨x2, o2 + k * 5 + 3, none⟩ = some (.string t.v) ∧ W.cell? ⟨x2, o2 + k * 5 + 4, none⟩ = some (.bool t.d)) from ⟨cell_in c7 bb, cell_in d7 bb, ⟨cell_in m0 bb, cell_in m1 bb, cell_in m2 bb, cell_in m3 bb, cell_in m4 bb⟩, cell_in n0 bb, cell_in n1 bb, cell_in n2 bb, cell_in n3 bb, cell_in n4 bb⟩))
     have EQ := fun W => ent_ne_sameF t.k t.c t.n t.v t.d W
     clear m0 m1 m2 m3 m4 n0 n1 n2 n3 n4
     go_wp2_with fail
     clear c7 d7
     refine wp_region_held_drew (S := fun W => (W.cell? ⟨g1, 7, none⟩ = some (.slice (some ⟨x1, o1, none⟩) el ec) ∧ W.cell? ⟨g2, 7, none⟩ = some (.slice (some ⟨x2, o2, none⟩) el fc) ∧ (W.cell? ⟨x1, o1 + k * 5, none⟩ = some (.string t.k) ∧ W.cell? ⟨x1, o1 + k * 5 + 1, none⟩ = some (.int .i64 t.c) ∧ W.cell? ⟨x1, o1 + k * 5 + 2, none⟩ = some (.int .i64 t.n) ∧ W.cell? ⟨x1, o1 + k * 5 + 3, none⟩ = some (.string t.v) ∧ W.cell? ⟨x1, o1 + k * 5 + 4, none⟩ = some (.bool t.d)) ∧ (W.cell? ⟨x2, o2 + k * 5, none⟩ = some (.string t.k) ∧ W.cell? ⟨x2, o2 + k * 5 + 1, none⟩ = some (.int .i64 t.c) ∧ W.cell? ⟨x2, o2 + k * 5 + 2, none⟩ = some (.int .i64 t.n) ∧ W.cell? ⟨x2, o2 + k * 5 + 3, none⟩ = some (.string t.v) ∧ W.cell? ⟨x2, o2 + k * 5 + 4, none⟩ = some (.bool t.d))) ∧ Below wr.heap.size wr W) (by kernel_rfl) ⟨SZ.out _ (Below.refl _ wr).drew, (Below.refl _ wr).drew⟩ (fun hHeld => ?_)
     refine tk 0 rfl _ ?_
     refine tk 1 rfl _ ?_
     refine tk 2 rfl _ ?_
     refine tk 3 rfl _ ?_
     refine tk 4 rfl _ ?_
     refine tk 5 rfl _ ?_
     refine tk 6 rfl _ ?_
     refine tk 7 rfl _ ?_
     refine tk 8 rfl _ ?_
     refine tk 9 rfl _ ?_
     refine wpAnyH_take (i := 10) (v := .bool false) rfl (by kernel_rfl) (by kernel_rfl) (by kernel_rfl) (fun _ _ _ h => h) (Or.inl ⟨by rfl, ?_⟩) (by assumption) ?_
     ·intro w hSw
      go_simp
      try exact EQ _
     simp only [Act.put, List.getElem_toArray, List.getElem_cons_zero, List.getElem_cons_succ, List.setIfInBounds_toArray, List.set_cons_zero, List.set_cons_succ]
     refine wpAnyH_done (by kernel_rfl) ?_ _
     have B9 := aside hHeld.2
     clear hHeld SZ
     go_wp2
     go_roundw
     case rel => exact ⟨k + 1, by go_num, by omega, HB.out.trans (B9.out.mono HB.out.size)⟩
     case measure => simp [intOf]; omega
    ·go_wp2
     go_roundw
     case rel => exact ⟨j + 1, by go_num, by omega, BW2.out.trans (HB.out.mono BW2.out.size)⟩
     case measure => simp [intOf]; omega
  ·go_wp2
   go_ret
   exact ⟨rfl, HB.out⟩
end Go.Proofs.YtpbkjffiohfkcaaGreatDoor
namespace Go.Proofs.YtpbkjffiohfkcaaGreatDoor
open Go.RowKit
set_option linter.unusedVariables false
theorem DSt.keeps {w w' : World} {B db sb g tb : Nat} {nd ck nd' ck' : Int} {l Ls : List En} (h : DSt w B db nd ck l) (hs : Sto w sb g tb nd' ck' Ls) (k : Keeps (Of sb g tb) w w') : DSt w' B db nd ck l := by
 obtain ⟨v, h1, h2⟩ := h
 refine ⟨v, blk_keep h1 k (hs.not h1 (by decide) (by decide) (by decide)), h2.1, ?_⟩
 rcases h2.2 with h0 | ⟨g2, cap, cur, e1, e2, e3, e4⟩
 ·exact .inl h0
 ·exact .inr ⟨g2, cap, cur, e1, e2, blk_keep e3 k (hs.not e3 (by decide) (by decide) (by decide)), e4⟩
end Go.Proofs.YtpbkjffiohfkcaaGreatDoor
namespace Go.Proofs.YtpbkjffiohfkcaaGreatDoor
open Go.RowKit
set_option linter.unusedVariables false
def rqP (p : Pm) (m : List En) : Pm := ⟨3, p.lo, p.hi, p.op, 0, 0, 0, none, m.length, 0, nthE m⟩
theorem RpAt.parts {B : Nat} {p : Pm} {m : List En} {v : Value} {w : World} (h : RpAt B p m v w) (hk : KeysOk m) : ∃ a c P, v = .slice a (if m = [] then 0 else 1) c ∧ PartsIn w a (if m = [] then 0 else 1) c P ∧ ∀ i, i < (if m = [] then 0 else 1) → SamePm (P i) (rqP p m) := by
 rcases h with ⟨rfl, rfl⟩ | ⟨h0, g, a, c, rfl, h2, h3, h4⟩
 ·refine ⟨none, 0, fun _ => rqP p [], rfl, ⟨Nat.le_refl _, by unfold maxLen; simp, .inl rfl⟩, fun i hi => by simp at hi⟩
 ·rw [if_neg h0]
  obtain ⟨a2, c2, e2, hE⟩ := own_ents h4 hk
  simp only [Value.slice.injEq, true_and] at e2
  obtain ⟨rfl, rfl⟩ := e2
  refine ⟨some ⟨g, 0, none⟩, 1, fun _ => ⟨3, p.lo, p.hi, p.op, 0, 0, 0, a, m.length, c, nthE m⟩, rfl, ⟨Nat.le_refl _, by unfold maxLen; omega, .inr ⟨g, 0, rfl, (Array.getElem?_eq_some_iff.1 h3).1, fun i hi => ⟨?_, hE⟩⟩⟩, fun i hi => ⟨rfl, rfl, rfl, rfl, rfl, rfl, rfl, rfl, fun _ _ => rfl⟩⟩
  obtain rfl : i = 0 := by omega
  exact oct (p := ⟨3, p.lo, p.hi, p.op, 0, 0, 0, a, m.length, c, nthE m⟩) h3
theorem own_keepD {w w' : World} {B B' db : Nat} {v : Value} {n : Nat} {xs : List Value} {nd ck : Int} {l : List En} (h : w.ownsRow B 77 5 v n xs) (hd : DSt w B' db nd ck l) (k : Keeps (fun x => x = db) w w') : w'.ownsRow B 77 5 v n xs := by
 refine ⟨h.1, ?_⟩
 rcases h.2 with h5 | ⟨g2, cap, cur, e1, e2, e3, e4⟩
 ·exact .inl h5
 ·exact .inr ⟨g2, cap, cur, e1, e2, blk_keep e3 k (hd.other e3 (by decide)), e4⟩
theorem RpAt.keepD {B B' db : Nat} {p : Pm} {m : List En} {v : Value} {w w' : World} {nd ck : Int} {l : List En} (h : RpAt B p m v w) (hd : DSt w B' db nd ck l) (k : Keeps (fun x => x = db) w w') : RpAt B p m v w' := by
 rcases h with h | ⟨h0, g, a, c, h1, h2, h3, h4⟩
 ·exact .inl h
 ·exact .inr ⟨h0, g, a, c, h1, h2, blk_keep h3 k (hd.other h3 (by decide)), own_keepD h4 hd k⟩
theorem Sto.keepD {w w' : World} {sb g tb B db : Nat} {nd ck nd' ck' : Int} {Ls l : List En} (h : Sto w sb g tb nd ck Ls) (hd : DSt w B db nd' ck' l) (k : Keeps (fun x => x = db) w w') : Sto w' sb g tb nd ck Ls := by
 obtain ⟨v, d1, -⟩ := hd
 exact h.set d1 (by decide) (by decide) (by decide) (by decide) k
theorem Lanes.small {w : World} (L : Lanes w) {cs : Array Value} {T : TypeId} (h : w.heap[0]? = some (.cells cs T (0, 0))) (hs : cs.size ≤ 5) : False := by
 have h5 := L.c5
 simp only [World.cell?, h] at h5
 have : cs[5]? = none := by rw [Array.getElem?_eq_none_iff]; omega
 simp [this] at h5
theorem Lanes.doc {w : World} (L : Lanes w) {B db : Nat} {nd ck : Int} {l : List En} (h : DSt w B db nd ck l) : ¬ 0 = db := by
 rintro rfl
 obtain ⟨v, d, -⟩ := h
 exact L.small d (by simp)
theorem rp_keys {p : Pm} {l : List En} (h : MapL l) (hE : MapL (firstE p.T p.el)) : KeysOk (rpL p l) := by
 unfold rpL
 split
 ·exact fun e he => key_small ((thru_map h).chk e ((lk_sub _ _ (thru_map h) hE).subset he))
 ·intro e he; cases he
end Go.Proofs.YtpbkjffiohfkcaaGreatDoor
namespace Go.Proofs.YtpbkjffiohfkcaaGreatDoor
open Go.RowKit
set_option linter.unusedVariables false
set_option maxHeartbeats 6400000 in
set_option maxRecDepth 100000 in
theorem still13_any {w : World} {B sb g tb db : Nat} {nd ck : Int} {l : List En} (h : Pair2 w B sb g tb db nd ck l) (hm : MapL l) (hl : l.length ≤ 256) :
    Calls Tryz.prog 13 #[.agg #[.pointer (some ⟨sb, 0, none⟩), .pointer (some ⟨db, 0, none⟩)]] w fun e w' => e = .returned (.bool true) ∧ Below w.heap.size w w' := by
 have BX := aside (bnew w (.cells #[.pointer (some ⟨sb, 0, none⟩), .pointer (some ⟨db, 0, none⟩)] 29))
 have KP := aside (heap_alloc_new w (.cells #[.pointer (some ⟨sb, 0, none⟩), .pointer (some ⟨db, 0, none⟩)] 29))
 obtain ⟨X, hX⟩ : ∃ X, w.alloc (.cells #[.pointer (some ⟨sb, 0, none⟩), .pointer (some ⟨db, 0, none⟩)] 29) = X := ⟨_, rfl⟩
 rw [hX] at BX KP
 have H := aside (h.below BX.out)
 obtain ⟨a, c, hd, hA, -⟩ := H.out.doc.ents hm
 have CH := aside (fun W (b : Below X.heap.size X W) => held13_any (H.out.code.below b) hl)
 have CC := aside (fun W (b : Below X.heap.size X W) => qclock (H.out.code.below b))
 have HA := aside hA
 have HK := aside (show KeysOk l from fun e he => key_small (hm.chk e he))
 obtain ⟨d0, d1, d2⟩ := box3r hd
 obtain ⟨p0, p1⟩ := two_cells KP.out
 clear hd hA h hm hl
 go_enter Tryz.func13, Tryz.ntmps13
 go_wp2_with fail
 refine wp_region_held_drew (S := fun W => Below X.heap.size X W ∧ W.cell? ⟨w.heap.size, 0, none⟩ = some (.pointer (some ⟨sb, 0, none⟩)) ∧ W.cell? ⟨w.heap.size, 1, none⟩ = some (.pointer (some ⟨db, 0, none⟩)) ∧ W.cell? ⟨db, 1, none⟩ = some (.int .i64 ck) ∧ W.cell? ⟨db, 2, none⟩ = some (.slice a l.length c)) (by kernel_rfl) ⟨(Below.refl _ X).drew, p0, p1, d1, d2⟩ (fun hHeld => ?_)
 refine tk 0 rfl _ ?_
 refine tk 1 rfl _ ?_
 refine tk 3 rfl _ ?_
 refine tk 4 rfl _ ?_
 refine tk 5 rfl _ ?_
 refine tk 6 rfl _ ?_
 refine tk 7 rfl _ ?_
 clear p0 p1 d0 d1 d2
 refine wpAnyH_ready (rs := [2]) (by kernel_rfl) (by simp) ?_
 refine AllReadyH.cons rfl (fun K hK => ?_) AllReadyH.nil
 go_simp
 refine (CH.out _ hHeld.1).mono ?_
 rintro e w9 ⟨v1, rfl, o1, bb⟩
 refine hK.out _ _ (⟨hHeld.1.trans (bb.mono hHeld.1.size), cell_in hHeld.2.1 bb, cell_in hHeld.2.2.1 bb, cell_in hHeld.2.2.2.1 bb, cell_in hHeld.2.2.2.2 bb⟩) (fun hHeld => ?_)
 clear hK K 
 obtain ⟨a1, c1, rfl, hE1⟩ := own_ents o1 HK.out
 have CS : Hid (∀ W, Below X.heap.size X W → Below w9.heap.size w9 W → Calls Tryz.prog 17 #[.slice a1 l.length c1, .slice a l.length c] W fun e w' => e = .returned (.bool true) ∧ Below W.heap.size W w') := fun W b1 b2 => same13_yes a1 l.length c1 (nthE l) a l.length c (nthE l) W (hE1.keep b2) (HA.out.keep b1) rfl
 clear o1 hE1 CH
 refine wpAnyH_ready (rs := [8]) (by kernel_rfl) (by simp) ?_
 refine AllReadyH.cons rfl (fun K hK => ?_) AllReadyH.nil
 go_simp
 refine (CS.out _ hHeld.1 (Below.refl _ _)).mono ?_
 rintro e w10 ⟨rfl, b8⟩
 refine hK.out _ _ (⟨hHeld.1.trans (b8.mono hHeld.1.size), cell_in hHeld.2.1 b8, cell_in hHeld.2.2.1 b8, cell_in hHeld.2.2.2.1 b8, cell_in hHeld.2.2.2.2 b8⟩) (fun hHeld => ?_)
 clear hK K 
 refine tk 9 rfl _ ?_
 refine tk 10 rfl _ ?_
 refine tk 11 rfl _ ?_
 refine tk 13 rfl _ ?_
 refine tk 14 rfl _ ?_
 refine tk 15 rfl _ ?_
 refine tk 16 rfl _ ?_
 refine tk 17 rfl _ ?_
 refine wpAnyH_ready (rs := [12]) (by kernel_rfl) (by simp) ?_
 refine AllReadyH.cons rfl (fun K hK => ?_) AllReadyH.nil
 go_simp
 refine (CC.out _ hHeld.1).mono ?_
 rintro e w11 ⟨rfl, rfl⟩
 refine hK.out _ _ (hHeld) (fun hHeld => ?_)
 clear hK K 
 refine tk 18 rfl _ ?_
 refine tk 19 rfl _ ?_
 refine tk 20 rfl _ ?_
 refine wpAnyH_done (by kernel_rfl) ?_ _
 have BB := aside (BX.out.trans (hHeld.1.mono BX.out.size))
 clear hHeld
 go_wp2
 go_ret
 exact ⟨rfl, BB.out⟩
end Go.Proofs.YtpbkjffiohfkcaaGreatDoor
namespace Go.Proofs.YtpbkjffiohfkcaaGreatDoor
theorem countP_lt {α : Type} (p q : α → Bool) : ∀ (S : List α) (x : α), (∀ z, p z = true → q z = true) → x ∈ S → p x = false → q x = true → S.countP p < S.countP q
 | s :: S, x, h, hm, hp, hq => by
  rcases List.mem_cons.1 hm with rfl | hm
  ·have := List.countP_mono_left (p := p) (q := q) (l := S) (fun z _ hz => h z hz)
   simp [hp, hq]; omega
  ·have := countP_lt p q S x h hm hp hq
   cases hs : p s
   ·cases hs2 : q s <;> simp [hs, hs2] <;> omega
   ·simp [hs, h s hs]; omega
def rk (S : List (List UInt8)) (x : List UInt8) : Nat := S.countP fun z => Op.bytesLess z x
theorem rk_of_lt {S : List (List UInt8)} {x y : List UInt8} (hx : x ∈ S) (h : Op.bytesLess x y = true) : rk S x < rk S y :=
 countP_lt _ _ S x (fun z hz => L_trans z x y hz h) hx (L_irrefl x) h
theorem rk_lt {S : List (List UInt8)} {x y : List UInt8} (hx : x ∈ S) (hy : y ∈ S) : Op.bytesLess x y = decide (rk S x < rk S y) := by
 cases h : Op.bytesLess x y
 ·cases h2 : Op.bytesLess y x
  ·rw [L_total x y h h2]; simp
  ·have := rk_of_lt hy h2
   symm; apply decide_eq_false; omega
 ·have := rk_of_lt hx h
  symm; exact decide_eq_true this
theorem rk_eq {S : List (List UInt8)} {x y : List UInt8} (hx : x ∈ S) (hy : y ∈ S) : (x == y) = decide (rk S x = rk S y) := by
 by_cases e : x = y
 ·subst e; simp
 ·have h1 := rk_lt hx hy; have h2 := rk_lt hy hx
  have : rk S x ≠ rk S y := by
   intro e2
   apply e
   apply L_total
   ·rw [h1]; apply decide_eq_false; omega
   ·rw [h2]; apply decide_eq_false; omega
  rw [decide_eq_false this]
  simpa using e
end Go.Proofs.YtpbkjffiohfkcaaGreatDoor
