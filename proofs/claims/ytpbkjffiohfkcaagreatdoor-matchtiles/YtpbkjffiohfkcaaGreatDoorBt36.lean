/-
  The code's Load, of what a store can be made of.
-/
import Derived.Test.YtpbkjffiohfkcaaGreatDoorBt1
import Derived.Test.YtpbkjffiohfkcaaGreatDoorBt16
import Derived.Test.YtpbkjffiohfkcaaGreatDoorBt25
import Derived.Test.YtpbkjffiohfkcaaGreatDoorBt35
import Derived.Test.YtpbkjffiohfkcaaGreatDoorBt31
import Derived.Test.YtpbkjffiohfkcaaGreatDoorBt15
import Derived.Test.YtpbkjffiohfkcaaGreatDoorBt20
import Derived.Test.YtpbkjffiohfkcaaGreatDoorBt22
import Derived.Test.YtpbkjffiohfkcaaGreatDoorBt17
import Derived.Test.YtpbkjffiohfkcaaGreatDoorBt30
import Derived.Test.YtpbkjffiohfkcaaGreatDoorBt24
import Derived.Deep.Cut
import Derived.Deep.CutBlock
import Derived.Test.YtpbkjffiohfkcaaGreatDoorBt32
import Derived.Test.YtpbkjffiohfkcaaGreatDoorBt27
import Derived.Test.YtpbkjffiohfkcaaGreatDoorBt3
import Derived.Laws.AppendOwnNone
import Derived.Scope
namespace Go.Proofs.YtpbkjffiohfkcaaGreatDoor
open Go.RowKit
set_option linter.unusedVariables false
set_option maxHeartbeats 3200000 in
set_option maxRecDepth 100000 in
theorem qhold (e : En) {w : World} {sb g tb : Nat} {nd ck : Int} {Ls : List En} (h : Sto w sb g tb nd ck Ls) (L : Lanes w) (hl : Ls.length ≤ 1000000) (hk : e.k.size ≤ 140737488351232) :
    Calls Tryz.prog 57 #[.pointer (some ⟨sb, 0, none⟩), .agg #[.string e.k, .int .i64 e.c, .int .i64 e.n, .string e.v, .bool e.d]] w fun r w' => r = .returned (.tuple #[]) ∧ Sto w' sb g tb nd (ckm ck e.c) (insE e Ls) ∧ Keeps (Of sb g tb) w w' ∧ Lanes w' := by
 obtain ⟨T, n, h1, h2⟩ := h
 exact (shold e h1 L h2 hl hk).mono fun r w' ⟨e1, e2, e3⟩ => ⟨e1, ⟨_, _, e2, h2.put e⟩, e3, L.keeps e3 (L.apart h1)⟩
set_option maxHeartbeats 3200000 in
set_option maxRecDepth 100000 in
theorem sload (nd ck : Int) (a : Option Addr) (len cap : Nat) (T : Nat → En) (w : World) (h : EntsIn w a len cap T) (L : Lanes w) (hO : LdOk nd ck (firstE T len)) :
    Calls Tryz.prog 30 #[.int .i64 nd, .int .i64 ck, .slice a len cap] w fun e w' => Below w.heap.size w w' ∧ Lanes w' ∧ ∃ sb g tb, e = .returned (.tuple #[.pointer (some ⟨sb, 0, none⟩), .int .i64 0]) ∧ Sto w' sb g tb nd ck (firstE T len) ∧ w.heap.size ≤ sb ∧ w.heap.size ≤ g ∧ w.heap.size ≤ tb := by
 have HE := aside h
 have HO := aside hO
 have L0 := aside L
 clear L h
 have hnd : 0 ≤ nd ∧ nd < 8 := by have := hO.nd; simpa [nodeB] using this
 obtain ⟨hn1, hn2⟩ := hnd
 have h1 : ¬ nd < 0 := by omega
 have h2 : ¬ 8 ≤ nd := by omega
 have h3 : ¬ ck < 0 := by have := hO.c0; omega
 have h4 : ¬ 1099511627776 < ck := by have := hO.c1; omega
 have h5 : ¬ (256 : Int) < (len : Int) := by have := hO.len; rw [firstE_len] at this; omega
 have hmx : (len : Int) ≤ 9223372036854775807 := by omega
 clear hO hn1 hn2
 have C := aside (sempty nd ck w)
 go_enter Tryz.func30, Tryz.ntmps30
 go_wp2_with fail
 refine C.out.mono ?_
 rintro e w0 ⟨sb, g, tb, rfl, hs, b0, l1, l2, l3⟩
 have HS0 := aside (show Sto w0 sb g tb nd ck (firstE T 0) from ⟨_, _, hs, Hol.nil⟩)
 have B0 := aside b0
 have LL := aside (L0.out.keep b0)
 have HG := aside (show w.heap.size ≤ sb ∧ w.heap.size ≤ g ∧ w.heap.size ≤ tb from ⟨l1, l2, l3⟩)
 clear hs b0 l1 l2 l3 C h1 h2 h3 h4
 go_wp2
 go_loopw [36] (fun i wr => ∃ j : Nat, i = .int .i64 (j : Int) ∧ j ≤ len ∧ Sto wr sb g tb nd ck (firstE T j) ∧ Lanes wr ∧ Below w.heap.size w wr) (fun i _ => len - (intOf i).toNat)
 case atStart => exact ⟨0, rfl, Nat.zero_le _, HS0.out, LL.out, B0.out⟩
 case round =>
  obtain ⟨j, rfl, hj, hS, hL, hB⟩ := hrel
  have HB := aside hB
  have HS1 := aside hS
  have HL1 := aside hL
  clear hB hS hL LL B0 HS0
  by_cases hlt : (j : Int) < (len : Int)
  ·have hE := HE.out.keep HB.out
   rcases hE.2.2 with h0 | ⟨b, off, rfl, hb, hc⟩
   ·omega
   obtain ⟨⟨c0, c1, c2, c3, c4⟩, -⟩ := hc j (by omega)
   have hq : (T j).chk = 0 := HO.out.map.chk _ (first_mem (by omega))
   have HQ := aside hq
   have hver : (T j).c ≤ ck := HO.out.ver _ (first_mem (by omega))
   have HV := aside hver
   have hj0 : (0 : Int) ≤ (j : Int) := by omega
   have HCC := aside hc
   clear hc hE hver
   obtain ⟨t, ht⟩ : ∃ t, T j = t := ⟨_, rfl⟩
   have HT := aside ht
   rw [ht] at c0 c1 c2 c3 c4 hq HQ HV
   have CQ := aside (fun W => chk_of t W hq _ ichk_any)
   clear ht hq
   go_wp2_with fail
   refine (CQ.out _).mono ?_
   rintro e w1 ⟨rfl, b1⟩
   have BN := bthen (bnew wr (.cells #[.string t.k, .int .i64 t.c, .int .i64 t.n, .string t.v, .bool t.d] 77)) b1
   have B2 := aside (HB.out.trans (BN.mono HB.out.size))
   have HS := aside (HS1.out.below BN)
   have HL := aside (HL1.out.keep BN)
   have KB := aside (blk_on (heap_alloc_new wr (.cells #[.string t.k, .int .i64 t.c, .int .i64 t.n, .string t.v, .bool t.d] 77)) b1)
   obtain ⟨⟨e0, -⟩, -⟩ := box5 KB.out
   have HC2 := aside (fun (i : Nat) (hi : i < len) => cell_in (HCC.out i hi).1.1 BN)
   generalize wr.heap.size = bx at *
   clear b1 c0 c1 c2 c3 c4 CQ HCC BN HS1 HL1
   cases j with
   | zero =>
    go_wp2_with fail
    refine wp_region_held_drew (S := fun W => Below w1.heap.size w1 W) (by kernel_rfl) ((Below.refl _ w1).drew) (fun hHeld => ?_)
    refine tk 0 rfl _ ?_; refine tk 1 rfl _ ?_; refine tk 2 rfl _ ?_; refine tn 3 rfl ?_; refine tn 4 rfl ?_; refine tn 5 rfl ?_; refine tn 6 rfl ?_; refine tn 7 rfl ?_; refine tn 8 rfl ?_; refine tn 9 rfl ?_; refine tn 10 rfl ?_; refine tn 11 rfl ?_; refine tk 12 rfl _ ?_; refine tk 13 rfl _ ?_
    refine wpAnyH_done (by kernel_rfl) ?_ _
    have B3 := aside hHeld
    clear hHeld e0
    have KX := aside (blk_on KB.out B3.out)
    obtain ⟨⟨y0, y1, y2, y3, y4⟩, -⟩ := box5 KX.out
    have hv : ¬ ck < t.c := by have := HV.out; omega
    have hS9 := HS.out.below B3.out
    have CH := aside (fun W (hW : Sto W sb g tb nd ck (firstE T 0)) (hL : Lanes W) => qhold t hW hL (by rw [firstE_len]; have := HO.out.len; rw [firstE_len] at this; omega) (key_small HQ.out))
    go_wp2_with fail
    refine (CH.out _ hS9 (HL.out.keep B3.out)).mono ?_
    rintro e9 w9 ⟨rfl, s9, k9, l9⟩
    rw [ckm_low HV.out, ← HT.out, ld_step HO.out.map (by omega)] at s9
    have S9 := aside s9
    have L9 := aside l9
    have B9 := aside (B2.out.trans ((B3.out.mono B2.out.size).trans (k9.below (by have := B2.out.size; have := B3.out.size; omega) (fun k hk => by have := HG.out; unfold Of; omega))))
    clear s9 l9 k9 CH y0 y1 y2 y3 y4 hS9
    go_wp2
    go_roundw
    case rel => exact ⟨0 + 1, by go_num, by omega, S9.out, L9.out, B9.out⟩
    case measure => simp [intOf]; omega
   | succ k =>
    have d0 := HC2.out k (by omega)
    have hris : kLt (T k).k (T (k + 1)).k = true := by
     have h9 := (mapL_sub HO.out.map (first_sub T (show k + 2 ≤ len by omega))).rises
     rw [firstE_succ, rises_snoc] at h9
     exact h9.2 _ (first_mem (by omega))
    rw [HT.out] at hris
    obtain ⟨u, hu⟩ : ∃ u, T k = u := ⟨_, rfl⟩
    rw [hu] at d0 hris
    have HR := aside hris
    clear hu HC2 hris
    have hk0 : (0 : Int) ≤ (k : Int) := by omega
    have hk1 : (k : Int) < (len : Int) := by omega
    have hk2 : (0 : Int) ≤ (k : Int) + 1 := by omega
    have hk3 : (0 : Int) < (k : Int) + 1 := by omega
    have hk4 : (k : Int) + 1 < (len : Int) := by omega
    have hw2 : IntKind.i64.wrap (k : Int) = (k : Int) := by simp only [IntKind.wrap_i64]; omega
    go_wp2_with fail
    refine wp_region_held_drew (S := fun W => Below w1.heap.size w1 W ∧ W.cell? ⟨b, off + k * 5, none⟩ = some (.string u.k) ∧ W.cell? ⟨bx, 0, none⟩ = some (.string t.k)) (by kernel_rfl) ⟨(Below.refl _ w1).drew, d0, e0⟩ (fun hHeld => ?_)
    refine tk 0 rfl _ ?_; refine tk 1 rfl _ ?_; refine tk 2 rfl _ ?_; refine tk 3 rfl _ ?_; refine tk 4 rfl _ ?_; refine tk 5 rfl _ ?_; refine tk 6 rfl _ ?_; refine tk 7 rfl _ ?_; refine tk 8 rfl _ ?_; refine tk 9 rfl _ ?_; refine tk 10 rfl _ ?_; refine tk 11 rfl (.bool (!kLt u.k t.k)) ?_ (by intro w hSw; go_simp; exact leq_eq _ _); refine tk 12 rfl _ ?_; refine tk 13 rfl _ ?_
    refine wpAnyH_done (by kernel_rfl) ?_ _
    have B3 := aside hHeld.1
    clear hHeld hw2 e0 d0
    cases hkk : kLt u.k t.k
    ·rw [HR.out] at hkk
     cases hkk
    ·clear hkk
     have KX := aside (blk_on KB.out B3.out)
     obtain ⟨⟨y0, y1, y2, y3, y4⟩, -⟩ := box5 KX.out
     have hv : ¬ ck < t.c := by have := HV.out; omega
     have hS9 := HS.out.below B3.out
     have CH := aside (fun W (hW : Sto W sb g tb nd ck (firstE T (k + 1))) (hL : Lanes W) => qhold t hW hL (by rw [firstE_len]; have := HO.out.len; rw [firstE_len] at this; omega) (key_small HQ.out))
     go_wp2_with fail
     refine (CH.out _ hS9 (HL.out.keep B3.out)).mono ?_
     rintro e9 w9 ⟨rfl, s9, k9, l9⟩
     rw [ckm_low HV.out, ← HT.out, ld_step HO.out.map (by omega)] at s9
     have S9 := aside s9
     have L9 := aside l9
     have B9 := aside (B2.out.trans ((B3.out.mono B2.out.size).trans (k9.below (by have := B2.out.size; have := B3.out.size; omega) (fun k hk => by have := HG.out; unfold Of; omega))))
     clear s9 l9 k9 CH y0 y1 y2 y3 y4 hS9
     go_wp2
     go_roundw
     case rel => exact ⟨(k + 1) + 1, by go_num, by omega, S9.out, L9.out, B9.out⟩
     case measure => simp [intOf]; omega
  ·have hjl : j = len := by omega
   subst hjl
   go_wp2
   go_ret2
   refine ⟨HB.out, HL1.out, ?_⟩
   exact ⟨sb, rfl, g, tb, HS1.out, HG.out⟩
theorem two_cells {w : World} {i : Nat} {a b : Value} {T : TypeId} (h : w.heap[i]? = some (.cells #[a, b] T (0, 0))) : w.cell? ⟨i, 0, none⟩ = some a ∧ w.cell? ⟨i, 1, none⟩ = some b := ⟨by simp [World.cell?, h], by simp [World.cell?, h]⟩
theorem Lanes.apart0 {w : World} (L : Lanes w) : ∀ (cs : Array Value) (T : TypeId), w.heap[0]? = some (.cells cs T (0, 0)) → cs.size = 2 → False := fun cs T h hs => by
 have h5 := L.c5
 simp only [World.cell?, h] at h5
 have : cs[5]? = none := by rw [Array.getElem?_eq_none_iff]; omega
 simp [this] at h5
def RtSay (w : World) (nd : Int) (l : List En) (e : Ending) (w' : World) : Prop := ∃ q, e = .returned (.bool q) ∧ (q = true ↔ LdOk nd 1099511627776 l) ∧ Below w.heap.size w w'
set_option maxHeartbeats 3200000 in
set_option maxRecDepth 100000 in
theorem right13_any (nd : Int) (a : Option Addr) (len cap : Nat) (T : Nat → En) (w : World) (h : EntsIn w a len cap T) (hform : (a = none ∧ len = 0 ∧ cap = 0) ∨ ∃ y, a = some y) : Calls Tryz.prog 9 #[.int .i64 nd, .slice a len cap] w fun e w' => RtSay w nd (firstE T len) e w' := by
 have C := aside (rload nd 1099511627776 a len cap T w h hform)
 clear h hform
 go_enter Tryz.func9, Tryz.ntmps9
 go_wp2_with fail
 refine C.out.mono ?_
 rintro e w1 ⟨b1, ⟨hO, db, rfl, -, -⟩ | ⟨hN, c, hc, rfl⟩⟩
 ·have HO := aside hO
  have B1 := aside b1
  clear b1 hO C
  go_wp2
  go_ret
  exact ⟨true, rfl, ⟨fun _ => HO.out, fun _ => rfl⟩, B1.out⟩
 ·have HN := aside hN
  have B1 := aside b1
  have hcb : (c == 0) = false := by simpa using hc
  clear b1 hN C
  go_wp2
  go_ret
  exact ⟨false, rfl, ⟨fun e => (by cases e), fun e => absurd e HN.out⟩, B1.out⟩
theorem DSt.set {w : World} {B db : Nat} {nd ck : Int} {l : List En} (h : DSt w B db nd ck l) {b : Nat} (hb : b < B) (hd : B ≤ db) (k : Nat) (u : Value) : DSt (w.setCell ⟨b, k, none⟩ u) B db nd ck l := by
 obtain ⟨v, h1, h2⟩ := h
 exact ⟨v, by rw [heap_setCell_other _ _ _ _ (by simp; omega)]; exact h1, own_set h2 hb k u⟩
structure Pair2 (w : World) (B sb g tb db : Nat) (nd ck : Int) (l : List En) : Prop where
 code : Sto w sb g tb nd ck l
 doc : DSt w B db nd ck l
 lanes : Lanes w
 s : B ≤ sb
 g : B ≤ g
 t : B ≤ tb
 d : B ≤ db
theorem Pair2.below {w w' : World} {B sb g tb db : Nat} {nd ck : Int} {l : List En} (h : Pair2 w B sb g tb db nd ck l) (b : Below w.heap.size w w') : Pair2 w' B sb g tb db nd ck l :=
 ⟨h.code.below b, h.doc.below b, h.lanes.keep b, h.s, h.g, h.t, h.d⟩
def MkSay (w : World) (nd : Int) (l : List En) (e : Ending) (w' : World) : Prop := ∃ sb g tb db, e = .returned (.tuple #[.agg #[.pointer (some ⟨sb, 0, none⟩), .pointer (some ⟨db, 0, none⟩)], .bool true]) ∧ Pair2 w' (w.heap.size + 1) sb g tb db nd 1099511627776 l ∧ Below w.heap.size w w'
set_option maxHeartbeats 3200000 in
set_option maxRecDepth 100000 in
theorem made13_any (nd : Int) (a : Option Addr) (len cap : Nat) (T : Nat → En) (w : World) (h : EntsIn w a len cap T) (hform : (a = none ∧ len = 0 ∧ cap = 0) ∨ ∃ y, a = some y) (L : Lanes w) (hO : LdOk nd 1099511627776 (firstE T len)) : Calls Tryz.prog 10 #[.int .i64 nd, .slice a len cap] w fun e w' => MkSay w nd (firstE T len) e w' := by
 have BZ := aside (bnew w (.cells #[.pointer none, .pointer none] 29))
 have KZ := aside (heap_alloc_new w (.cells #[.pointer none, .pointer none] 29))
 have C1 := aside (rload nd 1099511627776 a len cap T _ (h.keep BZ.out) hform)
 have C2 := aside (fun W (b : Below w.heap.size w W) => sload nd 1099511627776 a len cap T W (h.keep b) (L.keep b) hO)
 have HO := aside hO
 clear h hform L hO
 go_enter Tryz.func10, Tryz.ntmps10
 go_wp2_with fail
 refine C1.out.mono ?_
 rintro e w1 ⟨b1, ⟨-, db, rfl, hd, ds⟩ | ⟨hN, c, hc, rfl⟩⟩
 rotate_left
 ·exact absurd HO.out hN
 have B1 := aside (bthen BZ.out b1)
 have K1 := aside (blk_on KZ.out b1)
 have D1 := aside ds
 have HD := aside (show w.heap.size + 1 ≤ db from by simpa using hd)
 clear b1 ds hd KZ BZ C1
 go_wp2_with fail
 refine (C2.out _ B1.out).mono ?_
 rintro e w2 ⟨b2, l2, sb, g, tb, rfl, s2, h1, h2, h3⟩
 have K2 := aside (blk_on K1.out b2)
 have HG := aside (show w1.heap.size ≤ sb ∧ w1.heap.size ≤ g ∧ w1.heap.size ≤ tb from ⟨h1, h2, h3⟩)
 have Z1 := aside (show w.heap.size + 1 ≤ w1.heap.size from lt_of_blk K1.out)
 have B2 := aside (bthen B1.out b2)
 have D2 := aside (D1.out.below b2)
 rw [World.size_alloc] at D2
 have S2 := aside s2
 have L2 := aside l2
 clear b2 s2 l2 h1 h2 h3 K1 D1 B1 C2
 obtain ⟨pb, hpb⟩ : ∃ pb, w.heap.size = pb := ⟨_, rfl⟩
 rw [hpb] at K2 D2 HD Z1 ⊢
 have z0 := (two_cells K2.out).1
 have z1 := (two_cells K2.out).2
 have y0 := frozen_of_row _ _ 0 _ _ K2.out
 have y1 := frozen_of_row _ _ 1 _ _ K2.out
 have KR := set_in 1 (.pointer (some ⟨db, 0, none⟩)) (set_in 0 (.pointer (some ⟨sb, 0, none⟩)) K2.out)
 simp only [List.setIfInBounds_toArray, List.set_cons_zero, List.set_cons_succ] at KR
 have HKR := aside KR
 have KF := aside (((Keeps.refl (fun x => x = pb) w2).setCell (p := ⟨pb, 0, none⟩) (fun _ => rfl) (.pointer (some ⟨sb, 0, none⟩))).setCell (p := ⟨pb, 1, none⟩) (fun _ => rfl) (.pointer (some ⟨db, 0, none⟩)))
 have SF := aside (S2.out.set K2.out (by decide) (by decide) (by decide) (by decide) KF.out)
 have LF := aside (L2.out.keeps KF.out (fun e => by have h9 := L2.out.apart0; have h8 := K2.out; subst e; exact h9 _ _ h8 rfl))
 have DF := aside ((D2.out.set (b := pb) (by omega) HD.out 0 (.pointer (some ⟨sb, 0, none⟩))).set (b := pb) (by omega) HD.out 1 (.pointer (some ⟨db, 0, none⟩)))
 have BF := aside ((B2.out.setCell (p := ⟨pb, 0, none⟩) (by simp; omega) (.pointer (some ⟨sb, 0, none⟩))).setCell (p := ⟨pb, 1, none⟩) (by simp; omega) (.pointer (some ⟨db, 0, none⟩)))
 clear KR KF D2 S2 L2 B2
 go_wp2
 obtain ⟨r0, r1⟩ := two_cells HKR.out
 exact bodyPost_ret (v := .tuple #[.agg #[.pointer (some ⟨sb, 0, none⟩), .pointer (some ⟨db, 0, none⟩)], .bool true]) (by simp [results, Tryz.results10, go_sem, r0, r1]) rfl ⟨sb, g, tb, db, rfl, ⟨SF.out, by rw [hpb]; exact DF.out, LF.out, by have h1 := HG.out; have h2 := Z1.out; omega, by have h1 := HG.out; have h2 := Z1.out; omega, by have h1 := HG.out; have h2 := Z1.out; omega, by have h1 := HD.out; omega⟩, BF.out⟩
def cQ (b lf : Int) (p : Pm) (Ls : List En) : List Pq := if cErr b lf p = 0 then cmpQ b lf p.rg p.cnt p.s0 p.s1 Ls else []
theorem cQ_no {b lf : Int} {p : Pm} {Ls : List En} (h : cErr b lf p ≠ 0) : cQ b lf p Ls = [] := by unfold cQ; rw [if_neg h]
theorem cQ_yes {b lf : Int} {p : Pm} {Ls : List En} (h : cErr b lf p = 0) : cQ b lf p Ls = cmpQ b lf p.rg p.cnt p.s0 p.s1 Ls := by unfold cQ; rw [if_pos h]
set_option maxHeartbeats 6400000 in
set_option maxRecDepth 100000 in
theorem cmpX_any (b lf : Int) (p : Pm) {w : World} {sb g tb : Nat} {nd ck : Int} {Ls : List En} (h : Sto w sb g tb nd ck Ls) (L : Lanes w) (hm : MapL Ls) (hl : Ls.length ≤ 256) (hP : p.In w) (hz : p.el ≤ 4611686018427387904) :
    Calls Tryz.prog 14 #[.pointer (some ⟨sb, 0, none⟩), .int .i64 b, .int .i64 lf, .agg #[.int .i64 p.kind, .string p.lo, .string p.hi, .bool p.op, .int .i64 p.cnt, .int .u64 p.s0, .int .u64 p.s1, .slice p.ea p.el p.ec]] w fun r w' => ∃ v, r = .returned (.tuple #[v, .int .i64 (cErr b lf p)]) ∧ Told w.heap.size v (cQ b lf p Ls) w' ∧ Sto w' sb g tb nd ck Ls ∧ Keeps (Of sb g tb) w w' ∧ Lanes w' := by
 have BX := aside (bnew w (.cells #[.int .i64 p.kind, .string p.lo, .string p.hi, .bool p.op, .int .i64 p.cnt, .int .u64 p.s0, .int .u64 p.s1, .slice p.ea p.el p.ec] 47))
 have KX := aside (heap_alloc_new w (.cells #[.int .i64 p.kind, .string p.lo, .string p.hi, .bool p.op, .int .i64 p.cnt, .int .u64 p.s0, .int .u64 p.s1, .slice p.ea p.el p.ec] 47))
 have CI := aside (fun W => inb_any b lf W)
 have CK := aside (fun (W : World) (bb : Below w.heap.size w W) => parts_any (some ⟨W.heap.size, 0, none⟩) 1 1 (fun _ => p) (W.alloc (.cells #[.int .i64 p.kind, .string p.lo, .string p.hi, .bool p.op, .int .i64 p.cnt, .int .u64 p.s0, .int .u64 p.s1, .slice p.ea p.el p.ec] 47)) ⟨Nat.le_refl _, by unfold maxLen; omega, .inr ⟨W.heap.size, 0, rfl, by simp, fun i hi => ⟨by
  obtain rfl : i = 0 := by omega
  exact oct (heap_alloc_new W (.cells #[.int .i64 p.kind, .string p.lo, .string p.hi, .bool p.op, .int .i64 p.cnt, .int .u64 p.s0, .int .u64 p.s1, .slice p.ea p.el p.ec] 47)), hP.keep (bthen bb (bnew W _))⟩⟩⟩ (by simp only [totE]; omega))
 have H := aside h
 have LL := aside L
 have HM := aside hm
 have HL := aside hl
 obtain ⟨q, hq⟩ : ∃ q, psChk (fun _ => p) 1 = q := ⟨_, rfl⟩
 have HCE := aside (show cErr b lf p = if inB b lf = false then 1 else if q ≠ 0 then q else if p.kind = 1 then 0 else 114 from by unfold cErr; rw [hq])
 rw [hq] at CK
 clear h L hl hm hP hz hq
 obtain ⟨pb, hpb⟩ : ∃ pb, w.heap.size = pb := ⟨_, rfl⟩
 have HPB := aside hpb
 rw [hpb] at KX
 obtain ⟨X, hX⟩ : ∃ X, w.alloc (.cells #[.int .i64 p.kind, .string p.lo, .string p.hi, .bool p.op, .int .i64 p.cnt, .int .u64 p.s0, .int .u64 p.s1, .slice p.ea p.el p.ec] 47) = X := ⟨_, rfl⟩
 rw [hX] at BX KX
 cases hI : inB b lf
 ·rw [hI] at CI
  have HE := aside (show cErr b lf p = 1 from by rw [HCE.out, if_pos hI])
  go_enter Tryz.func14, Tryz.ntmps14
  go_wp2_with fail
  refine (CI.out _).mono ?_
  rintro e w1 ⟨rfl, b1⟩
  have B1 := aside (bthen BX.out b1)
  have K1 := aside (blk_on KX.out b1)
  clear b1 CI BX KX hX
  go_wp2
  go_ret2
  exact ⟨_, by rw [HE.out] <;> rfl, by rw [cQ_no (by rw [HE.out]; decide)]; exact Told.zero _ _, H.out.below B1.out, Keeps.of_below B1.out _, LL.out.keep B1.out⟩
 rw [hI] at CI
 have HCE2 := aside (show cErr b lf p = if q ≠ 0 then q else if p.kind = 1 then 0 else 114 from by rw [HCE.out, if_neg (by rw [hI]; simp)])
 have HI := aside hI
 clear HCE hI
 go_enter Tryz.func14, Tryz.ntmps14
 go_wp2_with fail
 refine (CI.out _).mono ?_
 rintro e w1 ⟨rfl, b1⟩
 have B1 := aside (bthen BX.out b1)
 have K1 := aside (blk_on KX.out b1)
 clear b1 CI BX KX hX
 obtain ⟨p0, p1, p2, p3, p4, p5, p6, p7⟩ := oct K1.out
 go_wp2_with fail
 refine (CK.out _ B1.out).mono ?_
 rintro e w2 ⟨rfl, b2⟩
 have B2 := aside (bthen B1.out (bthen (bnew w1 _) b2))
 have K2 := aside (blk_on K1.out (bthen (bnew w1 _) b2))
 clear b2 CK B1 K1 p0 p1 p2 p3 p4 p5 p6 p7
 by_cases hq0 : q = 0
 rotate_left
 ·have hqb : (q == 0) = false := by simpa using hq0
  have HE := aside (show cErr b lf p = q from by rw [HCE2.out, if_pos hq0])
  have HQ0 := aside hq0
  go_wp2
  go_ret2
  exact ⟨_, by rw [HE.out] <;> rfl, by rw [cQ_no (by rw [HE.out]; exact HQ0.out)]; exact Told.zero _ _, H.out.below B2.out, Keeps.of_below B2.out _, LL.out.keep B2.out⟩
 subst hq0
 obtain ⟨p0, p1, p2, p3, p4, p5, p6, p7⟩ := oct K2.out
 by_cases hk : p.kind = 1
 rotate_left
 ·have hkb : (p.kind == 1) = false := by simpa using hk
  have HE := aside (show cErr b lf p = 114 from by rw [HCE2.out, if_neg (by simp), if_neg hk])
  go_wp2
  go_ret2
  exact ⟨_, by rw [HE.out] <;> rfl, by rw [cQ_no (by rw [HE.out]; decide)]; exact Told.zero _ _, H.out.below B2.out, Keeps.of_below B2.out _, LL.out.keep B2.out⟩
 have hkb : (p.kind == 1) = true := by simpa using hk
 have HC0 := aside (show cErr b lf p = 0 from by rw [HCE2.out, if_neg (by simp), if_pos hk])
 have CM := aside (cmpC_any b lf p (H.out.below B2.out) (LL.out.keep B2.out) HM.out HL.out HI.out (cErr_ok HC0.out).2.2.2)
 clear hk HCE2
 go_wp2_with fail
 refine CM.out.mono ?_
 rintro e w3 ⟨v3, rfl, t3, s3, k3, l3⟩
 have T3 := aside (t3.low B2.out.size)
 have S3 := aside s3
 have L3 := aside l3
 have K3 := aside ((Keeps.of_below B2.out _).trans k3)
 clear t3 s3 l3 k3 CM p0 p1 p2 p3 p4 p5 p6 p7
 go_wp2
 go_ret2
 exact ⟨_, by rw [HC0.out] <;> rfl, by rw [cQ_yes HC0.out]; exact T3.out, S3.out, K3.out, L3.out⟩
theorem rcmpU (b lf : Int) (p : Pm) {w : World} {B db : Nat} {nd ck : Int} {l : List En} (h : DSt w B db nd ck l) (hm : MapL l) (hl : l.length ≤ 256) (hP : p.In w) :
    Calls Tryz.prog 24 #[.pointer (some ⟨db, 0, none⟩), .int .i64 b, .int .i64 lf, .agg #[.int .i64 p.kind, .string p.lo, .string p.hi, .bool p.op, .int .i64 p.cnt, .int .u64 p.s0, .int .u64 p.s1, .slice p.ea p.el p.ec]] w fun r w' => ∃ v, r = .returned (.tuple #[v, .int .i64 (cErr b lf p)]) ∧ Told w.heap.size v (cQ b lf p l) w' ∧ Below w.heap.size w w' := by
 refine (rcmp_any b lf p h hm hl hP).mono ?_
 rintro e w' (⟨h0, rfl, b1⟩ | ⟨h0, v, rfl, t1, b1⟩)
 ·exact ⟨_, rfl, by rw [cQ_no h0]; exact Told.zero _ _, b1⟩
 ·exact ⟨_, by rw [h0], by rw [cQ_yes h0]; exact t1, b1⟩
theorem op_append_rgP {w : World} {o : Oper} {act : Act} {K : Act → World → Prop} {Q : Exit → Act → World → Prop} (s x : Operand)
    (ho : o.op = .call { callee := .builtin .append, args := #[s, x], argTypes := #[67, 67] })
    (B n : Nat) (v : Value) (f : Nat → Rg) (hs : act.eval s = v) (hown : w.ownsRow B 40 3 v n (rgCells f n)) (b c : Nat) (hx : act.eval x = .slice (some ⟨b, 0, none⟩) 1 c)
    (hb : w.heap[b]? = some (.cells #[.string (f n).lo, .string (f n).hi, .bool (f n).op] 40 (0, 0))) (hlen : n * 40 ≤ 140737488351232) (hB : B ≤ w.heap.size)
    (h : ∀ v' w', w'.ownsRow B 40 3 v' (n + 1) (rgCells f (n + 1)) → w.grownBy w' v.ownBlock → K (act.put o.dst v') w') : o.wp Tryz.prog act w K Q := by
 obtain ⟨i0, hi, hz0, hz1, hz2⟩ := info_parts info23
 refine wp_append_own w s x _ ho B 40 i0 _ 3 40 Tryz.underlying67 hi hz0 hz1 hz2 rfl (by decide) _ _ _ hs hown ⟨b, 0, none⟩ 1 c [.string (f n).lo, .string (f n).hi, .bool (f n).op] hx rfl ?_ (fun u hu => by simp at hu; rcases hu with rfl | rfl | rfl <;> rfl) (by unfold maxLen; omega) (by omega) hB ?_
 ·exact World.news_of_block (cs := #[.string (f n).lo, .string (f n).hi, .bool (f n).op]) (t := 40) (fr := (0, 0)) hb
 ·intro v' w' ho' hg _
  exact h v' w' ho' hg
theorem grown_rowR {w w' : World} {B n : Nat} {v : Value} {xs : List Value} (o : w.ownsRow B 40 3 v n xs) (hg : w.grownBy w' v.ownBlock) : Below w.heap.size w w' ∨ ∃ g cs, B ≤ g ∧ w.heap[g]? = some (.cells cs 40 (0, 0)) ∧ Keeps (fun x => x = g) w w' := by
 rcases o.2 with ⟨rfl, -⟩ | ⟨g, cap, cur, rfl, hb, hgk, -⟩
 ·exact .inl ((Below.refl _ w).grown hg (Nat.le_refl _) (fun k e => by cases e))
 ·exact .inr ⟨g, _, hb, hgk, (Keeps.refl (fun x => x = g) w).grown hg (fun k e _ => by cases e; rfl)⟩
theorem Sto.grownR {w w' : World} {sb g tb : Nat} {nd ck : Int} {Ls : List En} (h : Sto w sb g tb nd ck Ls) {B n : Nat} {v : Value} {xs : List Value} (o : w.ownsRow B 40 3 v n xs) (hg : w.grownBy w' v.ownBlock) : Sto w' sb g tb nd ck Ls := by
 rcases grown_rowR o hg with b | ⟨g2, cs, -, h2, k⟩
 ·exact h.below b
 ·exact h.set h2 (by decide) (by decide) (by decide) (by decide) k
theorem Lanes.grownR {w w' : World} (h : Lanes w) {B n : Nat} (hB : 0 < B) {v : Value} {xs : List Value} (o : w.ownsRow B 40 3 v n xs) (hg : w.grownBy w' v.ownBlock) : Lanes w' := by
 rcases grown_rowR o hg with b | ⟨g2, cs, h1, h2, k⟩
 ·exact h.keep b
 ·exact h.keeps k (fun (e : 0 = g2) => by omega)
theorem keeps_grownR {S : Nat → Prop} {a w w' : World} {B n : Nat} {v : Value} {xs : List Value} (h : Keeps S a w) (o : w.ownsRow B 40 3 v n xs) (hB : a.heap.size ≤ B) (hg : w.grownBy w' v.ownBlock) : Keeps S a w' :=
 h.grown hg (fun k e hk => by have := (o.lt k e).1; omega)
theorem blk_grownR {w w' : World} {B n : Nat} {v : Value} {xs : List Value} (o : w.ownsRow B 40 3 v n xs) (hg : w.grownBy w' v.ownBlock) {i : Nat} {cs : Array Value} {U : TypeId} (h : w.heap[i]? = some (.cells cs U (0, 0))) (hU : U ≠ 40) : w'.heap[i]? = some (.cells cs U (0, 0)) := by
 rcases grown_rowR o hg with b | ⟨g2, cs2, h1, h2, k⟩
 ·exact blk_on h b
 ·exact blk_keep h k (fun e => by subst e; rw [h2] at h; simp only [Option.some.injEq, Obj.cells.injEq] at h; exact hU h.2.1.symm)
theorem spQ_len (r : Rg) (Ls : List En) (q : Nat) : (spQ r Ls q).length = q + 1 := by unfold spQ; rw [List.length_map, List.length_range]
theorem spQ_at (r : Rg) (Ls : List En) (q : Nat) {i : Nat} (h : i < q + 1) : (spQ r Ls q)[i]? = some (prQ Ls (cutR r Ls q i)) := by unfold spQ; rw [List.getElem?_map, List.getElem?_range h]; rfl
theorem cQ_two {b lf : Int} {p : Pm} {l : List En} (hl : l.length ≤ 256) (h0 : cErr b lf p = 0) (h2 : 2 ≤ (cQ b lf p l).length) : ∃ q : Nat, cQ b lf p l = spQ p.rg l q ∧ q + 1 ≤ (keysIn p.rg l).length ∧ (q : Int) + 1 ≤ b := by
 obtain ⟨hI, -, -, hc⟩ := cErr_ok h0
 rw [cQ_yes h0] at h2 ⊢
 by_cases hs : (foldV p.rg.lo p.rg.hi p.rg.op l).n = p.cnt ∧ (foldV p.rg.lo p.rg.hi p.rg.op l).a = p.s0 ∧ (foldV p.rg.lo p.rg.hi p.rg.op l).b = p.s1
 ·rw [cmpQ_same hs] at h2; simp at h2
 ·by_cases hle : (foldV p.rg.lo p.rg.hi p.rg.op l).n ≤ lf
  ·rw [cmpQ_items hs hle] at h2; simp at h2
  ·obtain ⟨q, hq1, hq2, hq3⟩ := min_cut hI hle
   rw [cmpQ_split hs hle, hq2]
   rw [fold_n hc (by omega)] at hq3 hq1
   exact ⟨q, rfl, by omega, by omega⟩
theorem Told.slice {B : Nat} {v : Value} {l : List Pq} {w : World} (h : Told B v l w) : ∃ a c, v = .slice a l.length c := by
 obtain ⟨ms, g1, g2, -⟩ := h
 obtain ⟨a, c, e, -, -, -⟩ := own_slice g1
 exact ⟨a, c, by rw [← g2]; exact e⟩
theorem PartsIn.keepS {w w' : World} {a : Option Addr} {len cap : Nat} {P : Nat → Pm} {sb g tb : Nat} {nd ck : Int} {Ls : List En} (h : PartsIn w a len cap P) (hs : Sto w sb g tb nd ck Ls) (k : Keeps (Of sb g tb) w w') : PartsIn w' a len cap P := by
 refine ⟨h.1, h.2.1, ?_⟩
 rcases h.2.2 with h0 | ⟨b, off, rfl, hb, hc⟩
 ·exact .inl h0
 ·refine .inr ⟨b, off, rfl, Nat.lt_of_lt_of_le hb k.size, fun i hi => ?_⟩
  obtain ⟨⟨c0, c1, c2, c3, c4, c5, c6, c7⟩, hin⟩ := hc i hi
  have hn := hs.str c1
  exact ⟨⟨(k.cell hb hn).trans c0, (k.cell hb hn).trans c1, (k.cell hb hn).trans c2, (k.cell hb hn).trans c3, (k.cell hb hn).trans c4, (k.cell hb hn).trans c5, (k.cell hb hn).trans c6, (k.cell hb hn).trans c7⟩, EntsIn.keepS hin hs k⟩
end Go.Proofs.YtpbkjffiohfkcaaGreatDoor
