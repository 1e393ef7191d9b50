/-
  lay of the document's store.
-/
import Derived.Test.YtpbkjffiohfkcaaGreatDoorBs1
import Derived.Test.YtpbkjffiohfkcaaGreatDoorBs35
import Derived.Test.YtpbkjffiohfkcaaGreatDoorBs26
import Derived.Test.YtpbkjffiohfkcaaGreatDoorBs30
import Derived.Test.YtpbkjffiohfkcaaGreatDoorBs18
import Derived.Test.YtpbkjffiohfkcaaGreatDoorBs17
namespace Go.Proofs.YtpbkjffiohfkcaaGreatDoor
open Go.RowKit
set_option linter.unusedVariables false
theorem op_append_list {V w : World} {o : Oper} {act : Act} {K : Act → World → Prop} {Q : Exit → Act → World → Prop} (s x : Operand)
    (ho : o.op = .call { callee := .builtin .append, args := #[s, x], argTypes := #[22, 22] })
    (n : Nat) (v : Value) (A : List En) (hs : act.eval s = v) (hA : w.ownsRow V.heap.size 77 5 v n (entCells A)) (a : Option Addr) (len cap : Nat) (T : Nat → En) (hx : act.eval x = .slice a len cap) (hL : EntsIn w a len cap T)
    (hform : (a = none ∧ len = 0 ∧ cap = 0) ∨ ∃ y, a = some y) (hlen : (n + len) * 56 ≤ 140737488351232) (hB : Below V.heap.size V w)
    (h : ∀ v' w', w'.ownsRow V.heap.size 77 5 v' (n + len) (entCells (A ++ firstE T len)) → Below V.heap.size V w' → K (act.put o.dst v') w') : o.wp Tryz.prog act w K Q := by
 obtain ⟨i0, hi, hz0, hz1, hz2⟩ := info_parts infoEnt
 rcases hform with ⟨rfl, rfl, rfl⟩ | ⟨y, rfl⟩
 ·have hrun := run_append_owned_none (P := Tryz.prog) (w := w) V.heap.size 22 o.type 77 i0 5 Tryz.underlying22 hi _ _ _ hA
  unfold Oper.wp
  simp [execOp, ho, resolve, invoke, builtin, hs, hx, hrun, Result.andThen]
  have hA' : w.ownsRow V.heap.size 77 5 v (n + 0) (entCells (A ++ firstE T 0)) := by rw [show firstE T 0 = [] from rfl, List.append_nil]; exact hA
  exact h v w hA' hB
 ·refine wp_append_own w s x _ ho V.heap.size 77 i0 _ 5 56 Tryz.underlying22 hi hz0 hz1 hz2 rfl (by decide) _ _ _ hs hA y len cap (entCells ((List.range len).map T)) hx (by rw [entCells_length]; simp) (ents_cells hL) (entCells_one _) (by unfold maxLen; omega) (by omega) hB.size ?_
  intro v' w' ho' hg' _
  rw [← entCells_append] at ho'
  exact h v' w' ho' (hB.grown hg' hB.size (fun k hk => (hA.lt k hk).1))
theorem nth_take (l : List En) {i : Nat} (h : i ≤ l.length) : firstE (fun t => nthE l (0 + t)) i = l.take i := by
 refine List.ext_getElem? (fun k => ?_)
 unfold firstE
 simp only [Nat.zero_add]
 by_cases hk : k < i
 ·simp [hk, nthE, List.getElem?_eq_getElem (show k < l.length by omega)]
 ·simp [hk]
  omega
theorem nth_drop (l : List En) {i : Nat} (h : i ≤ l.length) : firstE (fun t => nthE l (i + t)) (l.length - i) = l.drop i := by
 refine List.ext_getElem? (fun k => ?_)
 unfold firstE
 by_cases hk : k < l.length - i
 ·simp [hk, nthE, List.getElem?_eq_getElem (show i + k < l.length by omega)]
 ·simp [hk]
theorem one_ent (w : World) (e : En) (hk : e.k.size ≤ 140737488351232) : EntsIn (w.alloc (.cells #[.string e.k, .int .i64 e.c, .int .i64 e.n, .string e.v, .bool e.d] 77)) (some ⟨w.heap.size, 0, none⟩) 1 1 (fun _ => e) :=
 ⟨Nat.le_refl _, by unfold maxLen; omega, .inr ⟨w.heap.size, 0, rfl, by simp, fun i hi => by
  obtain rfl : i = 0 := by omega
  obtain ⟨⟨h0, h1, h2, h3, h4⟩, -⟩ := box5 (heap_alloc_new w (.cells #[.string e.k, .int .i64 e.c, .int .i64 e.n, .string e.v, .bool e.d] 77))
  exact ⟨⟨h0, h1, h2, h3, h4⟩, hk⟩⟩⟩
set_option maxHeartbeats 6400000 in
set_option maxRecDepth 100000 in
theorem lay_any (e : En) {w : World} {B db : Nat} {nd ck : Int} {l : List En} (h : DSt w B db nd ck l) (hm : MapL l) (hl : l.length ≤ 256) (hB : B ≤ w.heap.size) (hk : e.k.size ≤ 140737488351232) :
    Calls Tryz.prog 73 #[.pointer (some ⟨db, 0, none⟩), .agg #[.string e.k, .int .i64 e.c, .int .i64 e.n, .string e.v, .bool e.d]] w fun r w' => r = .returned (.tuple #[]) ∧ DSt w' B db nd (ckm ck e.c) (insE e l) ∧ Keeps (fun x => x = db) w w' := by
 have BX := aside (bnew w (.cells #[.string e.k, .int .i64 e.c, .int .i64 e.n, .string e.v, .bool e.d] 77))
 have KE := aside (heap_alloc_new w (.cells #[.string e.k, .int .i64 e.c, .int .i64 e.n, .string e.v, .bool e.d] 77))
 have CP := aside (fun (_ : Unit) => place_any e.k (h.below BX.out) hm)
 have HKO := aside (show KeysOk l from fun x hx => key_small (hm.chk x hx))
 have HK := aside hk
 have HL := aside hl
 have HBB := aside hB
 have HIN := aside (insE_plc e l)
 have HPL := aside (plc_le e.k l)
 obtain ⟨v0, hd0, ho0⟩ := h
 obtain ⟨a, c, rfl, hlc, hcm, hf⟩ := own_slice ho0
 have HD := aside hd0
 have HO := aside ho0
 obtain ⟨i, hi⟩ : ∃ i, plc e.k l = i := ⟨_, rfl⟩
 rw [hi] at CP HIN HPL
 obtain ⟨q, hq⟩ : ∃ q, isP e.k l = q := ⟨_, rfl⟩
 have HQ := aside (show q = true → i < l.length from fun g => by rw [← hi]; exact isP_lt (by rw [hq, g]))
 rw [hq] at CP HIN
 obtain ⟨eb, heb⟩ : ∃ eb, w.heap.size = eb := ⟨_, rfl⟩
 rw [heb] at KE
 obtain ⟨X, hX⟩ : ∃ X, w.alloc (.cells #[.string e.k, .int .i64 e.c, .int .i64 e.n, .string e.v, .bool e.d] 77) = X := ⟨_, rfl⟩
 rw [hX] at BX KE CP
 clear hd0 ho0 hm hk hl hB hi hq
 obtain ⟨e0, e1, e2, e3, e4⟩ := (box5 KE.out).1
 rcases hf with ⟨rfl, hn0, rfl⟩ | ⟨g, rfl, -⟩
 ·cases q with
  | true => exact absurd (HQ.out rfl) (by omega)
  | false =>
   obtain rfl : i = 0 := by have := HPL.out; omega
   go_enter Tryz.func73, Tryz.ntmps73
   go_wp2_with fail
   refine (CP.out ()).mono ?_
   rintro r w1 ⟨rfl, b1⟩
   have B1 := aside (bthen BX.out b1)
   have KE1 := aside (blk_on KE.out b1)
   have HD1 := aside (blk_on HD.out B1.out)
   have HO1 := aside (own_on HO.out B1.out)
   clear b1 CP KE e0 e1 e2 e3 e4 BX hX
   obtain ⟨d0, d1, d2⟩ := box3r HD1.out
   have EA1 := aside (show EntsIn w1 none 0 0 (fun t => nthE l (0 + t)) from ⟨Nat.le_refl _, by unfold maxLen; omega, .inl rfl⟩)
   go_wp2_with (at_builtin; go_loud (refine wpList_plain rfl fun K hK => op_append_list (V := w1) _ _ rfl _ _ ([]) (by rfl) (World.ownsRow_nil _ _ _ _) (none) (0) (0) (fun t => nthE l (0 + t)) (by rfl) (EA1.out) (by first | exact .inl ⟨rfl, rfl, rfl⟩ | exact .inr ⟨_, rfl⟩) (by have := HL.out; omega) (Below.refl _ _) ?_); intro v2 w2 own2 b2; refine hK _ _ ?_; refine Hid.out ?_)
   refine aside ?_
   obtain ⟨a2, c2, rfl, -, -, -⟩ := own_slice own2
   rw [List.nil_append, nth_take l (by omega)] at own2
   have O2 := aside own2
   have B2 := aside b2
   have KE2 := aside (blk_on KE1.out b2)
   clear own2 b2 EA1 d0 d1 d2
   obtain ⟨e0, e1, e2, e3, e4⟩ := (box5 KE2.out).1
   have EA2 := aside (one_ent w2 e HK.out)
   go_wp2_with (at_builtin; go_loud (refine wpList_plain rfl fun K hK => op_append_list (V := w1) _ _ rfl _ _ (l.take 0) (by rfl) (O2.out.alloc _) (some ⟨w2.heap.size, 0, none⟩) (1) (1) (fun _ => e) (by rfl) (EA2.out) (by first | exact .inl ⟨rfl, rfl, rfl⟩ | exact .inr ⟨_, rfl⟩) (by have := HL.out; omega) (bthen B2.out (bnew w2 _)) ?_); intro v3 w3 own3 b3; refine hK _ _ ?_; refine Hid.out ?_)
   refine aside ?_
   obtain ⟨a3, c3, rfl, -, -, -⟩ := own_slice own3
   have O3 := aside own3
   have B3 := aside b3
   have KE3 := aside (blk_on KE1.out B3.out)
   have HD3 := aside (blk_on HD1.out B3.out)
   have HO3 := aside (own_on HO1.out B3.out)
   clear own3 b3 EA2 KE2 O2 B2 e0 e1 e2 e3 e4
   obtain ⟨d0, d1, d2⟩ := box3r HD3.out
   have EA3 := aside (show EntsIn w3 none 0 0 (fun t => nthE l (0 + t)) from ⟨Nat.le_refl _, by unfold maxLen; omega, .inl rfl⟩)
   go_wp2_with (at_builtin; go_loud (refine wpList_plain rfl fun K hK => op_append_list (V := w1) _ _ rfl _ _ (l.take 0 ++ firstE (fun _ => e) 1) (by rfl) (O3.out) (none) (0) (0) (fun t => nthE l (0 + t)) (by rfl) (EA3.out) (by first | exact .inl ⟨rfl, rfl, rfl⟩ | exact .inr ⟨_, rfl⟩) (by have := HL.out; omega) (B3.out) ?_); intro v4 w4 own4 b4; refine hK _ _ ?_; refine Hid.out ?_)
   refine aside ?_
   obtain ⟨a4, c4, rfl, -, -, -⟩ := own_slice own4
   have E4 : l.take 0 ++ firstE (fun _ => e) 1 ++ firstE (fun t => nthE l (0 + t)) 0 = insE e l := by
    rw [HIN.out]
    rw [if_neg (by simp), List.eq_nil_of_length_eq_zero hn0]
    simp [firstE]
   rw [E4] at own4
   obtain ⟨m4, hm4⟩ : ∃ m4, 0 + 0 + 1 + 0 = m4 := ⟨_, rfl⟩
   rw [hm4] at own4 ⊢
   have L4 := aside (show m4 = (insE e l).length from by
    have h9 := own4.1
    rw [entCells_length] at h9
    omega)
   have O4 := aside own4
   have B4 := aside b4
   have HD4 := aside (blk_on HD1.out b4)
   have KE4 := aside (blk_on KE1.out b4)
   clear own4 b4 EA3 O3 B3 HD3 HO3 KE3 E4 d0 d1 d2 hm4
   obtain ⟨d0, d1, d2⟩ := box3r HD4.out
   have y2 := frozen_of_row _ _ 2 _ _ HD4.out
   have V5 : Value := .int .i64 0
   clear V5
   have HD5 := set_in 2 (.slice a4 m4 c4) HD4.out
   simp only [List.setIfInBounds_toArray, List.set_cons_zero, List.set_cons_succ] at HD5
   have hne : db ≠ eb := by
    intro g9
    have h8 := HD4.out
    rw [g9, KE4.out] at h8
    simp at h8
   have LDB := aside (show db < w.heap.size from lt_of_blk HD.out)
   have HDY := aside (blk_on HD5 (Below.refl _ _).drew)
   have KEY := aside (blk_on (show (w4.setCell ⟨db, 2, none⟩ (.slice a4 m4 c4)).heap[eb]? = some (.cells #[.string e.k, .int .i64 e.c, .int .i64 e.n, .string e.v, .bool e.d] 77 (0, 0)) from by rw [heap_setCell_other _ _ _ _ (by simp; omega)]; exact KE4.out) (Below.refl _ _).drew)
   have OY := aside (own_on (own_set O4.out (show db < w1.heap.size from by have h1 := LDB.out; have h2 := B1.out.size; omega) 2 (.slice a4 m4 c4)) (Below.refl _ _).drew)
   have KY := aside (((Keeps.of_below (bthen B1.out B4.out) (fun x => x = db)).setCell (p := ⟨db, 2, none⟩) (fun _ => rfl) (.slice a4 m4 c4)).drew)
   go_wp2_with fail
   clear d0 d1 d2 y2 HD5
   refine wp_region_held_drew (S := fun W => W.cell? ⟨eb, 1, none⟩ = some (.int .i64 e.c)) (by kernel_rfl) ((box5 KEY.out).1.2.1) (fun hHeld => ?_)
   refine tk 0 rfl _ ?_; refine tk 1 rfl _ ?_; refine tk 2 rfl _ ?_; refine tk 3 rfl _ ?_; refine tk 5 rfl _ ?_; refine tk 6 rfl _ ?_; refine tk 7 rfl _ ?_
   generalize World.drew _ = Y at *
   have z1 := (box3r HDY.out).2.1
   have y1 := frozen_of_row _ _ 1 _ _ HDY.out
   refine rd 4 rfl fun K hK => ?_
   go_simp
   refine hK.out _ _ (hHeld) (fun hHeld => ?_)
   clear hK K
   refine tk 8 rfl _ ?_
   generalize hmx : (if ck < e.c then e.c else ck) = mh
   have HM := aside (show ckm ck e.c = mh from hmx)
   clear hmx
   refine tk 9 rfl _ ?_; refine tk 10 rfl _ ?_
   refine rd 11 rfl fun K hK => ?_
   go_simp
   have HDZ := set_in 1 (.int .i64 mh) HDY.out
   simp only [List.setIfInBounds_toArray, List.set_cons_zero, List.set_cons_succ] at HDZ
   refine hK.out _ _ (by rw [World.cell?_of_block (w := Y) (by rw [heap_setCell_other _ _ _ _ (by simp; omega)])]; exact hHeld) (fun hHeld => ?_)
   clear hK K
   refine wpAnyH_done (by kernel_rfl) ?_ _
   go_wp2
   go_end0
   rw [HM.out]
   exact ⟨rfl, ⟨_, HDZ, by rw [← L4.out]; exact own_low (own_set OY.out (show db < w1.heap.size from by have h1 := LDB.out; have h2 := B1.out.size; omega) 1 (.int .i64 mh)) (by have h1 := HBB.out; have h2 := B1.out.size; omega)⟩, KY.out.setCell (p := ⟨db, 1, none⟩) (fun _ => rfl) (.int .i64 mh)⟩
 ·have hcm' := hcm
  cases q with
  | true =>
   have hil : i < l.length := HQ.out rfl
   go_enter Tryz.func73, Tryz.ntmps73
   go_wp2_with fail
   refine (CP.out ()).mono ?_
   rintro r w1 ⟨rfl, b1⟩
   have B1 := aside (bthen BX.out b1)
   have KE1 := aside (blk_on KE.out b1)
   have HD1 := aside (blk_on HD.out B1.out)
   have HO1 := aside (own_on HO.out B1.out)
   clear b1 CP KE e0 e1 e2 e3 e4 BX hX
   obtain ⟨d0, d1, d2⟩ := box3r HD1.out
   have hi0 : (0 : Int) ≤ (i : Int) := by omega
   have hic : (i : Int) ≤ (c : Int) := by omega
   have hic2 : i ≤ c := by omega
   have EA1 := aside (ents_of_row HO1.out HKO.out (o := 0) (m := i) (c := c) (by omega) hic2 hcm (a := some ⟨g, 0, none⟩) (.inr (by simp)))
   go_wp2_with (at_builtin; go_loud (refine wpList_plain rfl fun K hK => op_append_list (V := w1) _ _ rfl _ _ ([]) (by rfl) (World.ownsRow_nil _ _ _ _) (some ⟨g, 0, none⟩) (i) (c) (fun t => nthE l (0 + t)) (by rfl) (EA1.out) (by first | exact .inl ⟨rfl, rfl, rfl⟩ | exact .inr ⟨_, rfl⟩) (by have := HL.out; omega) (Below.refl _ _) ?_); intro v2 w2 own2 b2; refine hK _ _ ?_; refine Hid.out ?_)
   refine aside ?_
   obtain ⟨a2, c2, rfl, -, -, -⟩ := own_slice own2
   rw [List.nil_append, nth_take l (by omega)] at own2
   have O2 := aside own2
   have B2 := aside b2
   have KE2 := aside (blk_on KE1.out b2)
   clear own2 b2 EA1 d0 d1 d2
   obtain ⟨e0, e1, e2, e3, e4⟩ := (box5 KE2.out).1
   have EA2 := aside (one_ent w2 e HK.out)
   go_wp2_with (at_builtin; go_loud (refine wpList_plain rfl fun K hK => op_append_list (V := w1) _ _ rfl _ _ (l.take i) (by rfl) (O2.out.alloc _) (some ⟨w2.heap.size, 0, none⟩) (1) (1) (fun _ => e) (by rfl) (EA2.out) (by first | exact .inl ⟨rfl, rfl, rfl⟩ | exact .inr ⟨_, rfl⟩) (by have := HL.out; omega) (bthen B2.out (bnew w2 _)) ?_); intro v3 w3 own3 b3; refine hK _ _ ?_; refine Hid.out ?_)
   refine aside ?_
   obtain ⟨a3, c3, rfl, -, -, -⟩ := own_slice own3
   have O3 := aside own3
   have B3 := aside b3
   have KE3 := aside (blk_on KE1.out B3.out)
   have HD3 := aside (blk_on HD1.out B3.out)
   have HO3 := aside (own_on HO1.out B3.out)
   clear own3 b3 EA2 KE2 O2 B2 e0 e1 e2 e3 e4
   obtain ⟨d0, d1, d2⟩ := box3r HD3.out
   have hw1 : IntKind.i64.wrap ((i : Int) + 1) = ((i + 1 : Nat) : Int) := by rw [IntKind.wrap_i64]; push_cast; have := HL.out; omega
   have hj0 : (0 : Int) ≤ ((i + 1 : Nat) : Int) := by omega
   have hjl : ((i + 1 : Nat) : Int) ≤ (l.length : Int) := by omega
   have hjc : ((i + 1 : Nat) : Int) ≤ (c : Int) := by omega
   obtain ⟨j, hj⟩ : ∃ j, i + 1 = j := ⟨_, rfl⟩
   rw [hj] at hw1 hj0 hjl hjc
   by_cases hcj : c = j
   ·have hcj1 : c ≤ j := by omega
    have hcj2 : c - j = 0 := by omega
    have EA3 := aside (show EntsIn w3 (some ⟨g, 0, none⟩) (l.length - j) 0 (fun t => nthE l (j + t)) from ⟨by omega, by unfold maxLen; omega, .inl (by omega)⟩)
    go_wp2_with (at_builtin; go_loud (refine wpList_plain rfl fun K hK => op_append_list (V := w1) _ _ rfl _ _ (l.take i ++ firstE (fun _ => e) 1) (by rfl) (O3.out) (some ⟨g, 0, none⟩) (l.length - j) (0) (fun t => nthE l (j + t)) (by rfl) (EA3.out) (by first | exact .inl ⟨rfl, rfl, rfl⟩ | exact .inr ⟨_, rfl⟩) (by have := HL.out; omega) (B3.out) ?_); intro v4 w4 own4 b4; refine hK _ _ ?_; refine Hid.out ?_)
    refine aside ?_
    obtain ⟨a4, c4, rfl, -, -, -⟩ := own_slice own4
    have E4 : l.take i ++ firstE (fun _ => e) 1 ++ firstE (fun t => nthE l (j + t)) (l.length - j) = insE e l := by
     rw [HIN.out]
     rw [nth_drop l (by omega), if_pos (by first | rfl | trivial), hj]
     simp [firstE]
    rw [E4] at own4
    obtain ⟨m4, hm4⟩ : ∃ m4, 0 + i + 1 + (l.length - j) = m4 := ⟨_, rfl⟩
    rw [hm4] at own4 ⊢
    have L4 := aside (show m4 = (insE e l).length from by
     have h9 := own4.1
     rw [entCells_length] at h9
     omega)
    have O4 := aside own4
    have B4 := aside b4
    have HD4 := aside (blk_on HD1.out b4)
    have KE4 := aside (blk_on KE1.out b4)
    clear own4 b4 EA3 O3 B3 HD3 HO3 KE3 E4 d0 d1 d2 hm4
    obtain ⟨d0, d1, d2⟩ := box3r HD4.out
    have y2 := frozen_of_row _ _ 2 _ _ HD4.out
    have V5 : Value := .int .i64 0
    clear V5
    have HD5 := set_in 2 (.slice a4 m4 c4) HD4.out
    simp only [List.setIfInBounds_toArray, List.set_cons_zero, List.set_cons_succ] at HD5
    have hne : db ≠ eb := by
     intro g9
     have h8 := HD4.out
     rw [g9, KE4.out] at h8
     simp at h8
    have LDB := aside (show db < w.heap.size from lt_of_blk HD.out)
    have HDY := aside (blk_on HD5 (Below.refl _ _).drew)
    have KEY := aside (blk_on (show (w4.setCell ⟨db, 2, none⟩ (.slice a4 m4 c4)).heap[eb]? = some (.cells #[.string e.k, .int .i64 e.c, .int .i64 e.n, .string e.v, .bool e.d] 77 (0, 0)) from by rw [heap_setCell_other _ _ _ _ (by simp; omega)]; exact KE4.out) (Below.refl _ _).drew)
    have OY := aside (own_on (own_set O4.out (show db < w1.heap.size from by have h1 := LDB.out; have h2 := B1.out.size; omega) 2 (.slice a4 m4 c4)) (Below.refl _ _).drew)
    have KY := aside (((Keeps.of_below (bthen B1.out B4.out) (fun x => x = db)).setCell (p := ⟨db, 2, none⟩) (fun _ => rfl) (.slice a4 m4 c4)).drew)
    go_wp2_with fail
    clear d0 d1 d2 y2 HD5
    refine wp_region_held_drew (S := fun W => W.cell? ⟨eb, 1, none⟩ = some (.int .i64 e.c)) (by kernel_rfl) ((box5 KEY.out).1.2.1) (fun hHeld => ?_)
    refine tk 0 rfl _ ?_; refine tk 1 rfl _ ?_; refine tk 2 rfl _ ?_; refine tk 3 rfl _ ?_; refine tk 5 rfl _ ?_; refine tk 6 rfl _ ?_; refine tk 7 rfl _ ?_
    generalize World.drew _ = Y at *
    have z1 := (box3r HDY.out).2.1
    have y1 := frozen_of_row _ _ 1 _ _ HDY.out
    refine rd 4 rfl fun K hK => ?_
    go_simp
    refine hK.out _ _ (hHeld) (fun hHeld => ?_)
    clear hK K
    refine tk 8 rfl _ ?_
    generalize hmx : (if ck < e.c then e.c else ck) = mh
    have HM := aside (show ckm ck e.c = mh from hmx)
    clear hmx
    refine tk 9 rfl _ ?_; refine tk 10 rfl _ ?_
    refine rd 11 rfl fun K hK => ?_
    go_simp
    have HDZ := set_in 1 (.int .i64 mh) HDY.out
    simp only [List.setIfInBounds_toArray, List.set_cons_zero, List.set_cons_succ] at HDZ
    refine hK.out _ _ (by rw [World.cell?_of_block (w := Y) (by rw [heap_setCell_other _ _ _ _ (by simp; omega)])]; exact hHeld) (fun hHeld => ?_)
    clear hK K
    refine wpAnyH_done (by kernel_rfl) ?_ _
    go_wp2
    go_end0
    rw [HM.out]
    exact ⟨rfl, ⟨_, HDZ, by rw [← L4.out]; exact own_low (own_set OY.out (show db < w1.heap.size from by have h1 := LDB.out; have h2 := B1.out.size; omega) 1 (.int .i64 mh)) (by have h1 := HBB.out; have h2 := B1.out.size; omega)⟩, KY.out.setCell (p := ⟨db, 1, none⟩) (fun _ => rfl) (.int .i64 mh)⟩
   ·have hcj1 : ¬ c ≤ j := by omega
    have hcj2 : ¬ c - j = 0 := by omega
    have EA3 := aside (ents_of_row HO3.out HKO.out (o := j) (m := l.length - j) (c := c - j) (by omega) (by omega) (by omega) (a := some ⟨g, j * 5, none⟩) (.inr rfl))
    go_wp2_with (at_builtin; go_loud (refine wpList_plain rfl fun K hK => op_append_list (V := w1) _ _ rfl _ _ (l.take i ++ firstE (fun _ => e) 1) (by rfl) (O3.out) (some ⟨g, j * 5, none⟩) (l.length - j) (c - j) (fun t => nthE l (j + t)) (by rfl) (EA3.out) (by first | exact .inl ⟨rfl, rfl, rfl⟩ | exact .inr ⟨_, rfl⟩) (by have := HL.out; omega) (B3.out) ?_); intro v4 w4 own4 b4; refine hK _ _ ?_; refine Hid.out ?_)
    refine aside ?_
    obtain ⟨a4, c4, rfl, -, -, -⟩ := own_slice own4
    have E4 : l.take i ++ firstE (fun _ => e) 1 ++ firstE (fun t => nthE l (j + t)) (l.length - j) = insE e l := by
     rw [HIN.out]
     rw [nth_drop l (by omega), if_pos (by first | rfl | trivial), hj]
     simp [firstE]
    rw [E4] at own4
    obtain ⟨m4, hm4⟩ : ∃ m4, 0 + i + 1 + (l.length - j) = m4 := ⟨_, rfl⟩
    rw [hm4] at own4 ⊢
    have L4 := aside (show m4 = (insE e l).length from by
     have h9 := own4.1
     rw [entCells_length] at h9
     omega)
    have O4 := aside own4
    have B4 := aside b4
    have HD4 := aside (blk_on HD1.out b4)
    have KE4 := aside (blk_on KE1.out b4)
    clear own4 b4 EA3 O3 B3 HD3 HO3 KE3 E4 d0 d1 d2 hm4
    obtain ⟨d0, d1, d2⟩ := box3r HD4.out
    have y2 := frozen_of_row _ _ 2 _ _ HD4.out
    have V5 : Value := .int .i64 0
    clear V5
    have HD5 := set_in 2 (.slice a4 m4 c4) HD4.out
    simp only [List.setIfInBounds_toArray, List.set_cons_zero, List.set_cons_succ] at HD5
    have hne : db ≠ eb := by
     intro g9
     have h8 := HD4.out
     rw [g9, KE4.out] at h8
     simp at h8
    have LDB := aside (show db < w.heap.size from lt_of_blk HD.out)
    have HDY := aside (blk_on HD5 (Below.refl _ _).drew)
    have KEY := aside (blk_on (show (w4.setCell ⟨db, 2, none⟩ (.slice a4 m4 c4)).heap[eb]? = some (.cells #[.string e.k, .int .i64 e.c, .int .i64 e.n, .string e.v, .bool e.d] 77 (0, 0)) from by rw [heap_setCell_other _ _ _ _ (by simp; omega)]; exact KE4.out) (Below.refl _ _).drew)
    have OY := aside (own_on (own_set O4.out (show db < w1.heap.size from by have h1 := LDB.out; have h2 := B1.out.size; omega) 2 (.slice a4 m4 c4)) (Below.refl _ _).drew)
    have KY := aside (((Keeps.of_below (bthen B1.out B4.out) (fun x => x = db)).setCell (p := ⟨db, 2, none⟩) (fun _ => rfl) (.slice a4 m4 c4)).drew)
    go_wp2_with fail
    clear d0 d1 d2 y2 HD5
    refine wp_region_held_drew (S := fun W => W.cell? ⟨eb, 1, none⟩ = some (.int .i64 e.c)) (by kernel_rfl) ((box5 KEY.out).1.2.1) (fun hHeld => ?_)
    refine tk 0 rfl _ ?_; refine tk 1 rfl _ ?_; refine tk 2 rfl _ ?_; refine tk 3 rfl _ ?_; refine tk 5 rfl _ ?_; refine tk 6 rfl _ ?_; refine tk 7 rfl _ ?_
    generalize World.drew _ = Y at *
    have z1 := (box3r HDY.out).2.1
    have y1 := frozen_of_row _ _ 1 _ _ HDY.out
    refine rd 4 rfl fun K hK => ?_
    go_simp
    refine hK.out _ _ (hHeld) (fun hHeld => ?_)
    clear hK K
    refine tk 8 rfl _ ?_
    generalize hmx : (if ck < e.c then e.c else ck) = mh
    have HM := aside (show ckm ck e.c = mh from hmx)
    clear hmx
    refine tk 9 rfl _ ?_; refine tk 10 rfl _ ?_
    refine rd 11 rfl fun K hK => ?_
    go_simp
    have HDZ := set_in 1 (.int .i64 mh) HDY.out
    simp only [List.setIfInBounds_toArray, List.set_cons_zero, List.set_cons_succ] at HDZ
    refine hK.out _ _ (by rw [World.cell?_of_block (w := Y) (by rw [heap_setCell_other _ _ _ _ (by simp; omega)])]; exact hHeld) (fun hHeld => ?_)
    clear hK K
    refine wpAnyH_done (by kernel_rfl) ?_ _
    go_wp2
    go_end0
    rw [HM.out]
    exact ⟨rfl, ⟨_, HDZ, by rw [← L4.out]; exact own_low (own_set OY.out (show db < w1.heap.size from by have h1 := LDB.out; have h2 := B1.out.size; omega) 1 (.int .i64 mh)) (by have h1 := HBB.out; have h2 := B1.out.size; omega)⟩, KY.out.setCell (p := ⟨db, 1, none⟩) (fun _ => rfl) (.int .i64 mh)⟩
  | false =>
   have hil : i ≤ l.length := HPL.out
   go_enter Tryz.func73, Tryz.ntmps73
   go_wp2_with fail
   refine (CP.out ()).mono ?_
   rintro r w1 ⟨rfl, b1⟩
   have B1 := aside (bthen BX.out b1)
   have KE1 := aside (blk_on KE.out b1)
   have HD1 := aside (blk_on HD.out B1.out)
   have HO1 := aside (own_on HO.out B1.out)
   clear b1 CP KE e0 e1 e2 e3 e4 BX hX
   obtain ⟨d0, d1, d2⟩ := box3r HD1.out
   have hi0 : (0 : Int) ≤ (i : Int) := by omega
   have hic : (i : Int) ≤ (c : Int) := by omega
   have hic2 : i ≤ c := by omega
   have EA1 := aside (ents_of_row HO1.out HKO.out (o := 0) (m := i) (c := c) (by omega) hic2 hcm (a := some ⟨g, 0, none⟩) (.inr (by simp)))
   go_wp2_with (at_builtin; go_loud (refine wpList_plain rfl fun K hK => op_append_list (V := w1) _ _ rfl _ _ ([]) (by rfl) (World.ownsRow_nil _ _ _ _) (some ⟨g, 0, none⟩) (i) (c) (fun t => nthE l (0 + t)) (by rfl) (EA1.out) (by first | exact .inl ⟨rfl, rfl, rfl⟩ | exact .inr ⟨_, rfl⟩) (by have := HL.out; omega) (Below.refl _ _) ?_); intro v2 w2 own2 b2; refine hK _ _ ?_; refine Hid.out ?_)
   refine aside ?_
   obtain ⟨a2, c2, rfl, -, -, -⟩ := own_slice own2
   rw [List.nil_append, nth_take l (by omega)] at own2
   have O2 := aside own2
   have B2 := aside b2
   have KE2 := aside (blk_on KE1.out b2)
   clear own2 b2 EA1 d0 d1 d2
   obtain ⟨e0, e1, e2, e3, e4⟩ := (box5 KE2.out).1
   have EA2 := aside (one_ent w2 e HK.out)
   go_wp2_with (at_builtin; go_loud (refine wpList_plain rfl fun K hK => op_append_list (V := w1) _ _ rfl _ _ (l.take i) (by rfl) (O2.out.alloc _) (some ⟨w2.heap.size, 0, none⟩) (1) (1) (fun _ => e) (by rfl) (EA2.out) (by first | exact .inl ⟨rfl, rfl, rfl⟩ | exact .inr ⟨_, rfl⟩) (by have := HL.out; omega) (bthen B2.out (bnew w2 _)) ?_); intro v3 w3 own3 b3; refine hK _ _ ?_; refine Hid.out ?_)
   refine aside ?_
   obtain ⟨a3, c3, rfl, -, -, -⟩ := own_slice own3
   have O3 := aside own3
   have B3 := aside b3
   have KE3 := aside (blk_on KE1.out B3.out)
   have HD3 := aside (blk_on HD1.out B3.out)
   have HO3 := aside (own_on HO1.out B3.out)
   clear own3 b3 EA2 KE2 O2 B2 e0 e1 e2 e3 e4
   obtain ⟨d0, d1, d2⟩ := box3r HD3.out
   have hjl : (i : Int) ≤ (l.length : Int) := by omega
   by_cases hcj : c = i
   ·have hcj1 : c ≤ i := by omega
    have hcj2 : c - i = 0 := by omega
    have EA3 := aside (show EntsIn w3 (some ⟨g, 0, none⟩) (l.length - i) 0 (fun t => nthE l (i + t)) from ⟨by omega, by unfold maxLen; omega, .inl (by omega)⟩)
    go_wp2_with (at_builtin; go_loud (refine wpList_plain rfl fun K hK => op_append_list (V := w1) _ _ rfl _ _ (l.take i ++ firstE (fun _ => e) 1) (by rfl) (O3.out) (some ⟨g, 0, none⟩) (l.length - i) (0) (fun t => nthE l (i + t)) (by rfl) (EA3.out) (by first | exact .inl ⟨rfl, rfl, rfl⟩ | exact .inr ⟨_, rfl⟩) (by have := HL.out; omega) (B3.out) ?_); intro v4 w4 own4 b4; refine hK _ _ ?_; refine Hid.out ?_)
    refine aside ?_
    obtain ⟨a4, c4, rfl, -, -, -⟩ := own_slice own4
    have E4 : l.take i ++ firstE (fun _ => e) 1 ++ firstE (fun t => nthE l (i + t)) (l.length - i) = insE e l := by
     rw [HIN.out]
     rw [nth_drop l (by omega), if_neg (by simp)]
     simp [firstE]
    rw [E4] at own4
    obtain ⟨m4, hm4⟩ : ∃ m4, 0 + i + 1 + (l.length - i) = m4 := ⟨_, rfl⟩
    rw [hm4] at own4 ⊢
    have L4 := aside (show m4 = (insE e l).length from by
     have h9 := own4.1
     rw [entCells_length] at h9
     omega)
    have O4 := aside own4
    have B4 := aside b4
    have HD4 := aside (blk_on HD1.out b4)
    have KE4 := aside (blk_on KE1.out b4)
    clear own4 b4 EA3 O3 B3 HD3 HO3 KE3 E4 d0 d1 d2 hm4
    obtain ⟨d0, d1, d2⟩ := box3r HD4.out
    have y2 := frozen_of_row _ _ 2 _ _ HD4.out
    have V5 : Value := .int .i64 0
    clear V5
    have HD5 := set_in 2 (.slice a4 m4 c4) HD4.out
    simp only [List.setIfInBounds_toArray, List.set_cons_zero, List.set_cons_succ] at HD5
    have hne : db ≠ eb := by
     intro g9
     have h8 := HD4.out
     rw [g9, KE4.out] at h8
     simp at h8
    have LDB := aside (show db < w.heap.size from lt_of_blk HD.out)
    have HDY := aside (blk_on HD5 (Below.refl _ _).drew)
    have KEY := aside (blk_on (show (w4.setCell ⟨db, 2, none⟩ (.slice a4 m4 c4)).heap[eb]? = some (.cells #[.string e.k, .int .i64 e.c, .int .i64 e.n, .string e.v, .bool e.d] 77 (0, 0)) from by rw [heap_setCell_other _ _ _ _ (by simp; omega)]; exact KE4.out) (Below.refl _ _).drew)
    have OY := aside (own_on (own_set O4.out (show db < w1.heap.size from by have h1 := LDB.out; have h2 := B1.out.size; omega) 2 (.slice a4 m4 c4)) (Below.refl _ _).drew)
    have KY := aside (((Keeps.of_below (bthen B1.out B4.out) (fun x => x = db)).setCell (p := ⟨db, 2, none⟩) (fun _ => rfl) (.slice a4 m4 c4)).drew)
    go_wp2_with fail
    clear d0 d1 d2 y2 HD5
    refine wp_region_held_drew (S := fun W => W.cell? ⟨eb, 1, none⟩ = some (.int .i64 e.c)) (by kernel_rfl) ((box5 KEY.out).1.2.1) (fun hHeld => ?_)
    refine tk 0 rfl _ ?_; refine tk 1 rfl _ ?_; refine tk 2 rfl _ ?_; refine tk 3 rfl _ ?_; refine tk 5 rfl _ ?_; refine tk 6 rfl _ ?_; refine tk 7 rfl _ ?_
    generalize World.drew _ = Y at *
    have z1 := (box3r HDY.out).2.1
    have y1 := frozen_of_row _ _ 1 _ _ HDY.out
    refine rd 4 rfl fun K hK => ?_
    go_simp
    refine hK.out _ _ (hHeld) (fun hHeld => ?_)
    clear hK K
    refine tk 8 rfl _ ?_
    generalize hmx : (if ck < e.c then e.c else ck) = mh
    have HM := aside (show ckm ck e.c = mh from hmx)
    clear hmx
    refine tk 9 rfl _ ?_; refine tk 10 rfl _ ?_
    refine rd 11 rfl fun K hK => ?_
    go_simp
    have HDZ := set_in 1 (.int .i64 mh) HDY.out
    simp only [List.setIfInBounds_toArray, List.set_cons_zero, List.set_cons_succ] at HDZ
    refine hK.out _ _ (by rw [World.cell?_of_block (w := Y) (by rw [heap_setCell_other _ _ _ _ (by simp; omega)])]; exact hHeld) (fun hHeld => ?_)
    clear hK K
    refine wpAnyH_done (by kernel_rfl) ?_ _
    go_wp2
    go_end0
    rw [HM.out]
    exact ⟨rfl, ⟨_, HDZ, by rw [← L4.out]; exact own_low (own_set OY.out (show db < w1.heap.size from by have h1 := LDB.out; have h2 := B1.out.size; omega) 1 (.int .i64 mh)) (by have h1 := HBB.out; have h2 := B1.out.size; omega)⟩, KY.out.setCell (p := ⟨db, 1, none⟩) (fun _ => rfl) (.int .i64 mh)⟩
   ·have hcj1 : ¬ c ≤ i := by omega
    have hcj2 : ¬ c - i = 0 := by omega
    have EA3 := aside (ents_of_row HO3.out HKO.out (o := i) (m := l.length - i) (c := c - i) (by omega) (by omega) (by omega) (a := some ⟨g, i * 5, none⟩) (.inr rfl))
    go_wp2_with (at_builtin; go_loud (refine wpList_plain rfl fun K hK => op_append_list (V := w1) _ _ rfl _ _ (l.take i ++ firstE (fun _ => e) 1) (by rfl) (O3.out) (some ⟨g, i * 5, none⟩) (l.length - i) (c - i) (fun t => nthE l (i + t)) (by rfl) (EA3.out) (by first | exact .inl ⟨rfl, rfl, rfl⟩ | exact .inr ⟨_, rfl⟩) (by have := HL.out; omega) (B3.out) ?_); intro v4 w4 own4 b4; refine hK _ _ ?_; refine Hid.out ?_)
    refine aside ?_
    obtain ⟨a4, c4, rfl, -, -, -⟩ := own_slice own4
    have E4 : l.take i ++ firstE (fun _ => e) 1 ++ firstE (fun t => nthE l (i + t)) (l.length - i) = insE e l := by
     rw [HIN.out]
     rw [nth_drop l (by omega), if_neg (by simp)]
     simp [firstE]
    rw [E4] at own4
    obtain ⟨m4, hm4⟩ : ∃ m4, 0 + i + 1 + (l.length - i) = m4 := ⟨_, rfl⟩
    rw [hm4] at own4 ⊢
    have L4 := aside (show m4 = (insE e l).length from by
     have h9 := own4.1
     rw [entCells_length] at h9
     omega)
    have O4 := aside own4
    have B4 := aside b4
    have HD4 := aside (blk_on HD1.out b4)
    have KE4 := aside (blk_on KE1.out b4)
    clear own4 b4 EA3 O3 B3 HD3 HO3 KE3 E4 d0 d1 d2 hm4
    obtain ⟨d0, d1, d2⟩ := box3r HD4.out
    have y2 := frozen_of_row _ _ 2 _ _ HD4.out
    have V5 : Value := .int .i64 0
    clear V5
    have HD5 := set_in 2 (.slice a4 m4 c4) HD4.out
    simp only [List.setIfInBounds_toArray, List.set_cons_zero, List.set_cons_succ] at HD5
    have hne : db ≠ eb := by
     intro g9
     have h8 := HD4.out
     rw [g9, KE4.out] at h8
     simp at h8
    have LDB := aside (show db < w.heap.size from lt_of_blk HD.out)
    have HDY := aside (blk_on HD5 (Below.refl _ _).drew)
    have KEY := aside (blk_on (show (w4.setCell ⟨db, 2, none⟩ (.slice a4 m4 c4)).heap[eb]? = some (.cells #[.string e.k, .int .i64 e.c, .int .i64 e.n, .string e.v, .bool e.d] 77 (0, 0)) from by rw [heap_setCell_other _ _ _ _ (by simp; omega)]; exact KE4.out) (Below.refl _ _).drew)
    have OY := aside (own_on (own_set O4.out (show db < w1.heap.size from by have h1 := LDB.out; have h2 := B1.out.size; omega) 2 (.slice a4 m4 c4)) (Below.refl _ _).drew)
    have KY := aside (((Keeps.of_below (bthen B1.out B4.out) (fun x => x = db)).setCell (p := ⟨db, 2, none⟩) (fun _ => rfl) (.slice a4 m4 c4)).drew)
    go_wp2_with fail
    clear d0 d1 d2 y2 HD5
    refine wp_region_held_drew (S := fun W => W.cell? ⟨eb, 1, none⟩ = some (.int .i64 e.c)) (by kernel_rfl) ((box5 KEY.out).1.2.1) (fun hHeld => ?_)
    refine tk 0 rfl _ ?_; refine tk 1 rfl _ ?_; refine tk 2 rfl _ ?_; refine tk 3 rfl _ ?_; refine tk 5 rfl _ ?_; refine tk 6 rfl _ ?_; refine tk 7 rfl _ ?_
    generalize World.drew _ = Y at *
    have z1 := (box3r HDY.out).2.1
    have y1 := frozen_of_row _ _ 1 _ _ HDY.out
    refine rd 4 rfl fun K hK => ?_
    go_simp
    refine hK.out _ _ (hHeld) (fun hHeld => ?_)
    clear hK K
    refine tk 8 rfl _ ?_
    generalize hmx : (if ck < e.c then e.c else ck) = mh
    have HM := aside (show ckm ck e.c = mh from hmx)
    clear hmx
    refine tk 9 rfl _ ?_; refine tk 10 rfl _ ?_
    refine rd 11 rfl fun K hK => ?_
    go_simp
    have HDZ := set_in 1 (.int .i64 mh) HDY.out
    simp only [List.setIfInBounds_toArray, List.set_cons_zero, List.set_cons_succ] at HDZ
    refine hK.out _ _ (by rw [World.cell?_of_block (w := Y) (by rw [heap_setCell_other _ _ _ _ (by simp; omega)])]; exact hHeld) (fun hHeld => ?_)
    clear hK K
    refine wpAnyH_done (by kernel_rfl) ?_ _
    go_wp2
    go_end0
    rw [HM.out]
    exact ⟨rfl, ⟨_, HDZ, by rw [← L4.out]; exact own_low (own_set OY.out (show db < w1.heap.size from by have h1 := LDB.out; have h2 := B1.out.size; omega) 1 (.int .i64 mh)) (by have h1 := HBB.out; have h2 := B1.out.size; omega)⟩, KY.out.setCell (p := ⟨db, 1, none⟩) (fun _ => rfl) (.int .i64 mh)⟩
end Go.Proofs.YtpbkjffiohfkcaaGreatDoor
