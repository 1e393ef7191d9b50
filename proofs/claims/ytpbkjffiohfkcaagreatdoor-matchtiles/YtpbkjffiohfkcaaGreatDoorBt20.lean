/-
  The document's store: what All goes through, what Fold tells.
-/
import Derived.Test.YtpbkjffiohfkcaaGreatDoorBt16
import Derived.Test.YtpbkjffiohfkcaaGreatDoorBt17
import Derived.Test.YtpbkjffiohfkcaaGreatDoorBt19
import Derived.Test.YtpbkjffiohfkcaaGreatDoorBt13
import Derived.Laws.StructEq
import Derived.Test.YtpbkjffiohfkcaaGreatDoorBt14
import Derived.Test.YtpbkjffiohfkcaaGreatDoorBt15
import Derived.Test.YtpbkjffiohfkcaaGreatDoorBt1
import Derived.Deep.RegionHeld
namespace Go.Proofs.YtpbkjffiohfkcaaGreatDoor
open Go.RowKit
set_option linter.unusedVariables false
theorem inL_thru {lo hi : ByteArray} {op : Bool} {l : List En} (h : Rg.chk ⟨lo, hi, op⟩ = 0) (hm : MapL l) : inL ⟨lo, hi, op⟩ l = l.filter (inR lo hi op) := by
 unfold inL
 refine List.filter_congr (fun e he => ?_)
 have h1 := (chk_pos (hm.chk e he)).2.1
 unfold Rg.has inR Rg.may
 simp only [h]
 have h2 : decide ((e.k.size : Int) ≤ 16) = true := by simp; omega
 rw [h2]
 rfl
theorem DSt.ents {w : World} {B db : Nat} {nd ck : Int} {l : List En} (h : DSt w B db nd ck l) (hm : MapL l) : ∃ a c, w.heap[db]? = some (.cells #[.int .i64 nd, .int .i64 ck, .slice a l.length c] 87 (0, 0)) ∧ EntsIn w a l.length c (nthE l) ∧ l.length ≤ 9223372036854775807 := by
 obtain ⟨v, h1, h2⟩ := h
 obtain ⟨a, c, rfl, -, -, -⟩ := own_slice h2
 have hk : KeysOk l := fun e he => key_small (hm.chk e he)
 rcases h2.2 with ⟨h3, h4⟩ | ⟨g, cap, cur, h3, h4⟩
 ·refine ⟨a, c, h1, ?_, by omega⟩
  simp only [Value.slice.injEq] at h3
  obtain ⟨rfl, h6, rfl⟩ := h3
  rw [h4]
  exact ⟨by omega, by unfold maxLen; omega, .inl rfl⟩
 ·simp only [Value.slice.injEq] at h3
  obtain ⟨rfl, -, rfl⟩ := h3
  obtain ⟨m1, m2⟩ := row_max h2
  have := ents_of_row h2 hk (o := 0) (m := l.length) (c := c) (by omega) m1 m2 (a := some ⟨g, 0, none⟩) (.inr (by simp))
  simp only [Nat.zero_add] at this
  exact ⟨_, _, h1, this, by unfold maxLen at m2; omega⟩
set_option maxHeartbeats 6400000 in
set_option maxRecDepth 100000 in
theorem rallS (lo hi : ByteArray) (op : Bool) {w : World} {B db : Nat} {nd ck : Int} {l : List En} (h : DSt w B db nd ck l) (hm : MapL l) (hl : l.length ≤ 1000000) :
    Calls Tryz.prog 39 #[.pointer (some ⟨db, 0, none⟩), .agg #[.string lo, .string hi, .bool op]] w fun e w' => Below w.heap.size w w' ∧ ∃ v, e = .returned (.tuple #[v, .int .i64 (Rg.chk ⟨lo, hi, op⟩)]) ∧ w'.ownsRow w.heap.size 77 5 v (outL (Rg.chk ⟨lo, hi, op⟩) (inL ⟨lo, hi, op⟩ l)).length (entCells (outL (Rg.chk ⟨lo, hi, op⟩) (inL ⟨lo, hi, op⟩ l))) := by
 obtain ⟨r, hr⟩ : ∃ r, Rg.chk ⟨lo, hi, op⟩ = r := ⟨_, rfl⟩
 have CR := aside (fun W => checkRef_at hr W)
 obtain ⟨a, ca, hd, hA, hmx0⟩ := h.ents hm
 have HD := aside hd
 have HA := aside hA
 have hmx : (l.length : Int) ≤ 9223372036854775807 := by omega
 have HL := aside hl
 rw [hr]
 have hfl : Hid (firstE (nthE l) l.length = l) := firstE_nth l
 obtain ⟨la, hla⟩ : ∃ la, l.length = la := ⟨_, rfl⟩
 rw [hla] at HD HA hmx HL hfl
 rw [← hfl.out]
 generalize nthE l = A at *
 clear hd hA hmx0 hr hm h hl hla hfl
 have B0 := aside (bnew w (.cells #[.string lo, .string hi, .bool op] 40))
 have K0 := aside (heap_alloc_new w (.cells #[.string lo, .string hi, .bool op] 40))
 by_cases h1 : r = 0
 ·subst h1
  rw [outL_ok _ rfl]
  go_enter Tryz.func39, Tryz.ntmps39
  go_wp2_with fail
  refine (CR.out _).mono ?_
  rintro e w2 ⟨rfl, b2⟩
  have K1 := aside (blk_on K0.out b2)
  have B1 := aside (bthen B0.out b2)
  obtain ⟨rb, hrb⟩ : ∃ rb, w.heap.size = rb := ⟨_, rfl⟩
  rw [hrb] at K1 ⊢
  clear b2 CR hrb K0 B0
  obtain ⟨d0, d1, d2⟩ := box3r (blk_on HD.out B1.out)
  go_wp2
  clear d0 d1 d2
  go_loopw [7, 20] (fun v i wr => ∃ j : Nat, i = .int .i64 (j : Int) ∧ j ≤ la ∧ wr.ownsRow w.heap.size 77 5 v (inL ⟨lo, hi, op⟩ (firstE A j)).length (entCells (inL ⟨lo, hi, op⟩ (firstE A j))) ∧ wr.heap[rb]? = some (.cells #[.string lo, .string hi, .bool op] 40 (0, 0)) ∧ Below w.heap.size w wr) (fun _ i _ => la - (intOf i).toNat)
  case atStart => exact ⟨0, rfl, Nat.zero_le _, World.ownsRow_nil _ _ _ _, K1.out, B1.out⟩
  case round =>
   obtain ⟨j, rfl, hj, hO, hK, hB⟩ := hrel
   have HO := aside hO
   have HK := aside hK
   have HB := aside hB
   have hj0 : (0 : Int) ≤ (j : Int) := by omega
   obtain ⟨r0, r1, r2⟩ := box3r hK
   have hrl : rb < wr.heap.size := (Array.getElem?_eq_some_iff.1 hK).1
   clear hO hK hB
   by_cases hlt : (j : Int) < (la : Int)
   ·have eA := HA.out.keep HB.out
    rcases eA.2.2 with h0 | ⟨ba, oa, rfl, hba, -⟩
    ·omega
    obtain ⟨x, hx⟩ : ∃ x, A j = x := ⟨_, rfl⟩
    obtain ⟨c0, c1, c2, c3, c4⟩ := ents_five eA (by omega) hx
    have HSN := aside (inL_snoc ⟨lo, hi, op⟩ (firstE A j) x)
    rw [← hx, ← firstE_succ, hx] at HSN
    have HLN := aside (show (inL ⟨lo, hi, op⟩ (firstE A j)).length ≤ la from by have h1 := inL_len ⟨lo, hi, op⟩ (firstE A j); rw [firstE_len] at h1; omega)
    have BN := aside (bnew wr (.cells #[.string x.k, .int .i64 x.c, .int .i64 x.n, .string x.v, .bool x.d] 77))
    have KX := aside (heap_alloc_new wr (.cells #[.string x.k, .int .i64 x.c, .int .i64 x.n, .string x.v, .bool x.d] 77))
    clear eA hx
    cases hh : Rg.has ⟨lo, hi, op⟩ x.k
    ·have CH := aside (fun W => holdsRef_at hh W)
     rw [hh] at HSN
     simp only [Bool.false_eq_true, if_false, List.append_nil] at HSN
     clear hh
     go_wp2_with fail
     refine (CH.out _).mono ?_
     rintro e w3 ⟨rfl, b3⟩
     have B3 := aside (bthen BN.out b3)
     clear b3 CH c0 c1 c2 c3 c4 r0 r1 r2
     go_wp2
     go_roundw
     case rel => exact ⟨j + 1, by go_num, by omega, by rw [HSN.out]; exact own_on HO.out B3.out, blk_on HK.out B3.out, bthen HB.out B3.out⟩
     case measure => simp [intOf]; omega
    ·have CH := aside (fun W => holdsRef_at hh W)
     rw [hh] at HSN
     simp only [if_true] at HSN
     clear hh
     go_wp2_with fail
     refine (CH.out _).mono ?_
     rintro e w3 ⟨rfl, b3⟩
     have B3 := aside (bthen BN.out b3)
     replace KX := aside (blk_on KX.out b3)
     replace HO := aside (own_on HO.out B3.out)
     replace HK := aside (blk_on HK.out B3.out)
     replace HB := aside (bthen HB.out B3.out)
     obtain ⟨⟨x0, x1, x2, x3, x4⟩, -⟩ := box5 KX.out
     clear b3 CH c0 c1 c2 c3 c4 r0 r1 r2
     go_wp2_with (at_builtin; go_loud (refine wpList_plain rfl fun K hK => op_append_ent _ _ rfl w.heap.size _ _ _ (by rfl) (HO.out.alloc _) w3.heap.size 1 x (by rfl) (heap_alloc_new w3 _) (by have := HLN.out; have := HL.out; omega) (by have := HB.out.size; simp; omega) ?_); intro g4 cap4 w4 own4 gr4; refine hK _ _ ?_; refine Hid.out ?_)
     refine aside ?_
     have B4 := aside ((HB.out.alloc HB.out.size (.cells #[.string x.k, .int .i64 x.c, .int .i64 x.n, .string x.v, .bool x.d] 77)).grown gr4 (by have := HB.out.size; simp; omega) (fun k e => (HO.out.lt k e).1))
     have O4 := aside own4
     have K4 := aside (show w4.heap[rb]? = some (.cells #[.string lo, .string hi, .bool op] 40 (0, 0)) from by
      rw [gr4.block rb (by have := (Array.getElem?_eq_some_iff.1 HK.out).1; simp; omega) (fun e => by
       obtain ⟨-, cs, h3⟩ := row_blkM HO.out e.symm
       rw [HK.out] at h3; simp at h3)]
      exact blk_on HK.out (bnew _ _))
     clear own4 gr4 x0 x1 x2 x3 x4
     go_wp2
     go_roundw
     case rel => exact ⟨j + 1, by go_num, by omega, by rw [HSN.out, List.length_append]; exact O4.out, K4.out, B4.out⟩
     case measure => simp [intOf]; omega
   ·have hjl : j = la := by omega
    subst hjl
    go_wp2
    go_ret2
    exact ⟨HB.out, _, rfl, HO.out⟩
 ·have h1' : (r == 0) = false := by simpa using h1
  have HR := aside h1
  clear h1
  go_enter Tryz.func39, Tryz.ntmps39
  go_wp2_with fail
  refine (CR.out _).mono ?_
  rintro e w2 ⟨rfl, b2⟩
  have B1 := aside (bthen B0.out b2)
  clear b2 CR
  go_wp2
  go_ret2
  rw [outL_bad _ HR.out]
  exact ⟨B1.out, _, rfl, World.ownsRow_nil _ _ _ _⟩
end Go.Proofs.YtpbkjffiohfkcaaGreatDoor
namespace Go.Proofs.YtpbkjffiohfkcaaGreatDoor
open Go.RowKit Go.Shelf
set_option linter.unusedVariables false
attribute [local go_sem] Oper.semAt_some
structure LstE (B : Nat) (vb : Nat) (l : List En) (X : World) : Prop where
 ex : ∃ v, X.heap[vb]? = some (.cells #[v] 22 (0, 0)) ∧ X.ownsRow B 77 5 v l.length (entCells l)
theorem ownsRow_own {A B' : World} {row : Option Nat} {base : Nat} {e : TypeId} {size : Nat} {v : Value} {n : Nat} {xs : List Value} (h : A.ownsRow base e size v n xs) (hg : A.grownBy B' row) (hr : ∀ r, row = some r → ∃ o : Obj, A.heap[r]? = some o ∧ o.isCells = false) : B'.ownsRow base e size v n xs := by
 refine ⟨h.1, ?_⟩
 rcases h.2 with hn | ⟨g, cap, cur, rfl, hb, hgk, r⟩
 ·exact .inl hn
 ·exact .inr ⟨g, cap, cur, rfl, hb, cells_own hgk hg hr, r⟩
theorem LstE.own {B vb : Nat} {l : List En} {A X : World} {row : Option Nat} (h : LstE B vb l A) (hg : A.grownBy X row) (hr : ∀ r, row = some r → ∃ o : Obj, A.heap[r]? = some o ∧ o.isCells = false) : LstE B vb l X := by
 obtain ⟨v, h1, h2⟩ := h.ex
 exact ⟨v, cells_own h1 hg hr, ownsRow_own h2 hg hr⟩
theorem row_blk {X : World} {B n : Nat} {v : Value} {xs : List Value} (h : X.ownsRow B 77 5 v n xs) {r : Nat} (hr : v.ownBlock = some r) : B ≤ r ∧ ∃ cs, X.heap[r]? = some (.cells cs 77 (0, 0)) := by
 rcases h.2 with ⟨rfl, -⟩ | ⟨g, cap, cur, rfl, hb, hgk, -⟩
 ·cases hr
 ·cases hr; exact ⟨hb, _, hgk⟩
theorem lst_step {w X X1 : World} {vb C : Nat} {l : List En} {x : En} {v v' : Value} {o : Obj} (hB : Below w.heap.size w X) (hvb : w.heap.size ≤ vb) (h1 : X.heap[vb]? = some (.cells #[v] 22 (0, 0))) (h2 : X.ownsRow w.heap.size 77 5 v l.length (entCells l))
    (ho : X1.ownsRow w.heap.size 77 5 v' (l.length + 1) (entCells l ++ entVals x)) (hg : (X.alloc o).grownBy X1 v.ownBlock) :
    X1.heap[vb]? = some (.cells #[v] 22 (0, 0)) ∧ LstE w.heap.size vb (l ++ [x]) (X1.setCell ⟨vb, 0, none⟩ v') ∧ Below w.heap.size w (X1.setCell ⟨vb, 0, none⟩ v') ∧ KeepsFrom C X (X1.setCell ⟨vb, 0, none⟩ v') ∧ KpT X (X1.setCell ⟨vb, 0, none⟩ v') := by
 have hne : some vb ≠ v.ownBlock := fun e => by
  obtain ⟨-, cs, h3⟩ := row_blk h2 e.symm
  rw [h1] at h3; simp at h3
 have hvb1 : X1.heap[vb]? = some (.cells #[v] 22 (0, 0)) := by
  rw [hg.block vb (by have := lt_of_blk h1; simp; omega) hne]
  exact blk_on h1 (bnew _ _)
 have st : ∀ T, T ≠ 77 → T ≠ 22 → Stay T X (X1.setCell ⟨vb, 0, none⟩ v') := fun T n1 n2 => by
  refine (((Stay.refl T X).alloc o).grown hg ?_).setCell _ (fun cs e => by dsimp only at e; rw [hvb1] at e; simp at e; exact n2 e.2.symm)
  intro r e cs hcs
  obtain ⟨-, cs', h3⟩ := row_blk h2 e
  rw [blk_on h3 (bnew _ _)] at hcs
  simp at hcs
  exact n1 hcs.2.symm
 refine ⟨hvb1, ⟨v', by rw [heap_setCell_same X1 vb 0 _ _ v' hvb1]; rfl, ?_⟩, ?_, ?_, st _ (by decide) (by decide), st _ (by decide) (by decide), st _ (by decide) (by decide)⟩
 ·rw [List.length_append, entCells_append]
  have hx : entCells [x] = entVals x := by simp [entCells]
  rw [hx]
  refine ownsRow_keep (S := fun i => i = vb) ho ((Keeps.refl (fun i => i = vb) X1).setCell (p := ⟨vb, 0, none⟩) (fun _ => rfl) _) (fun j e1 e2 => ?_)
  subst e2
  obtain ⟨-, cs, h3⟩ := row_blk ho e1
  rw [hvb1] at h3; simp at h3
 ·exact (((hB.alloc hB.size o).grown hg (by have := hB.size; simp; omega) (fun j e => (row_blk h2 e).1)).setCell (p := ⟨vb, 0, none⟩) hvb _)
 ·have k1 : KeepsFrom C (X.alloc o) X1 := ⟨hg.size, fun i ob _ hi hob => (hg.block i (Array.getElem?_eq_some_iff.1 hi).1 (fun e => by
    obtain ⟨-, cs, h3⟩ := row_blk h2 e.symm
    rw [blk_on h3 (bnew _ _)] at hi
    injection hi with hi
    subst hi
    cases hob)).trans hi⟩
  exact ((KeepsFrom.of_grownBy (World.grownBy_alloc X o none) (fun j e => by cases e)).trans k1).trans ((KeepsOthers.setCell _ _ _).from _)
end Go.Proofs.YtpbkjffiohfkcaaGreatDoor
namespace Go.Proofs.YtpbkjffiohfkcaaGreatDoor
open Go.RowKit Go.Shelf
set_option linter.unusedVariables false
attribute [local go_sem] Oper.semAt_some
set_option maxHeartbeats 8000000 in
set_option maxRecDepth 100000 in
theorem appendSeq_any {w : World} {lb : Array Value} {es : List En} (hs : SeqE w lb es) :
    Calls Tryz.prog 117 #[.slice none 0 0, .func (.func 99) #[] lb] w fun r w' => ∃ v, r = .returned v ∧ w'.ownsRow w.heap.size 77 5 v es.length (entCells es) ∧ Below w.heap.size w w' := by
 have b3 := bnew w (.cells #[.slice none 0 0] 22)
 have B3 := aside b3
 obtain ⟨N, hN, hNl, hSq⟩ := hs
 have SQ := aside hSq
 have HNN := aside hN
 have I0 := aside (show LstE w.heap.size w.heap.size [] (w.alloc (.cells #[.slice none 0 0] 22)) from ⟨.slice none 0 0, heap_alloc_new w _, ⟨rfl, .inl ⟨rfl, rfl⟩⟩⟩)
 obtain ⟨V, hV⟩ : ∃ V, w.alloc (.cells #[.slice none 0 0] 22) = V := ⟨_, rfl⟩
 rw [hV] at B3 I0
 clear b3 hN hNl hSq
 have HVV := aside (show w.heap.size ≤ V.heap.size from B3.out.size)
 have ownI : OwnFrom V.heap.size (fun (pre : List En) X => LstE w.heap.size w.heap.size pre X ∧ Below w.heap.size w X) := fun s A Y row hs hg hr =>
  ⟨hs.1.own hg (fun r e => (hr r e).2), ownFrom_below (β := Unit) (Nat.le_refl w.heap.size) HVV.out () A Y row hs.2 hg hr⟩
 obtain ⟨vb, hvb⟩ : ∃ vb, w.heap.size = vb := ⟨_, rfl⟩
 have HVB := aside (show w.heap.size ≤ vb from by omega)
 have I1 := aside (show LstE w.heap.size vb [] V from by rw [← hvb]; exact I0.out)
 have ownJ : OwnFrom V.heap.size (fun (pre : List En) X => LstE w.heap.size vb pre X ∧ Below w.heap.size w X) := by rw [← hvb]; exact ownI
 clear I0 ownI
 refine (callsIn_wide (n := 5)).1 ?_
 refine callsIn_of_wp_marks Tryz.func117 rfl trivial ?_ rfl
 simp only [Tryz.ntmps117, List.size_toArray, List.length_cons, List.length_nil, Nat.reduceAdd, Nat.reduceSub, Array.replicate_succ, Array.replicate_zero, List.push_toArray, List.append_toArray, List.nil_append, List.cons_append]
 gi_wp2_with fail
 refine rangeO rfl (enters_of Tryz.func99 (by kernel_rfl) rfl) SQ.out KpT.t (fun W l o o' _ h ho => KpT.b W l o o' h ho) B3.out (fun _ => rfl)
  (fun (pre : List En) X => LstE w.heap.size vb pre X ∧ Below w.heap.size w X) (fun _ _ _ => False) ownJ (fun _ _ _ _ _ h => h.elim) ⟨I1.out, B3.out⟩
  (fun x a' X => ∃ eb : Nat, a' = ⟨#[.slice none 0 0, .func (.func 99) #[] lb, .pointer (some ⟨vb, 0, none⟩), undef, .slice none 0 0, .pointer (some ⟨eb, 0, none⟩), .func (.func 99) #[] lb, .agg #[.string x.k, .int .i64 x.c, .int .i64 x.n, .string x.v, .bool x.d], undef, undef, undef, undef, undef], []⟩ ∧ X.heap[eb]? = some (.cells #[.string x.k, .int .i64 x.c, .int .i64 x.n, .string x.v, .bool x.d] 77 (0, 0)))
  (fun x a' _ A Y row hs hg hr => by
   obtain ⟨eb, h1, h2⟩ := hs
   exact ⟨eb, h1, cells_own h2 hg (fun r e => (hr r e).2)⟩) ?assign ?body ?done ?stop
 case assign =>
  intro l' pre x X K hi hK
  dsimp only [encE]
  gi_wp2
  refine hK _ _ ?_ ?_ ?_ ⟨_, rfl, heap_alloc_new X _⟩
  ·exact KeepsFrom.of_grownBy (World.grownBy_alloc X _ none) (fun j e => by cases e)
  ·exact (KpT.refl X).alloc _
  ·exact ownJ.alloc _ hi
 case body =>
  rintro l' pre x a' X ⟨hls, hbx⟩ ⟨eb, rfl, he⟩ hlen
  obtain ⟨v, hv, ho⟩ := hls.ex
  obtain ⟨i0, hi0, hz0, hz1, hz2⟩ := info_parts infoEnt
  obtain ⟨e0, e1, e2, e3, e4, -⟩ := penta he
  have v0 := cell_one hv
  have HV := aside hv
  have HO := aside ho
  have HB := aside hbx
  have HLN := aside (show pre.length ≤ 1000000 from by have := HNN.out; omega)
  have HI := aside hi0
  clear hls hv ho hbx he hlen hi0
  gi_wp2_with (gi_at_builtin; go_loud (refine wpListIn_append_own _ rfl _ _ _ rfl w.heap.size 77 i0 (.agg #[.string ⟨#[]⟩, .int .i64 0, .int .i64 0, .string ⟨#[]⟩, .bool false]) 5 56 Tryz.underlying22 HI.out hz0 hz1 hz2 rfl (by decide) v pre.length (entCells pre) (by rfl) (HO.out.alloc _) ⟨X.heap.size, 0, none⟩ 1 1 (entVals x) (by rfl) (by rfl) (World.news_of_block (cs := #[.string x.k, .int .i64 x.c, .int .i64 x.n, .string x.v, .bool x.d]) (t := 77) (fr := (0, 0)) (heap_alloc_new X _)) (by intro u hu; exact entCells_one [x] u (by simpa [entCells] using hu)) (by have := HLN.out; unfold maxLen; omega) (by have := HLN.out; omega) (by have := HB.out.size; simp; omega) ?_); intro v' X1 hown1 hgrow hiff; refine Hid.out ?_)
  refine aside ?_
  obtain ⟨g', cap', rfl⟩ : ∃ g' cap', v' = .slice (some ⟨g', 0, none⟩) (pre.length + 1) cap' := by
   rcases hown1.2 with ⟨_, h⟩ | ⟨g', cap', cur, e, _⟩
   ·omega
   ·exact ⟨g', cap', e⟩
  have ST := aside (lst_step (x := x) (C := V.heap.size) HB.out HVB.out HV.out HO.out hown1 hgrow)
  have v1 := cell_one ST.out.1
  have z1 := frozen_one ST.out.1
  clear hown1 hgrow hiff v0 e0 e1 e2 e3 e4
  gi_wp2
  exact ⟨ST.out.2.2.2.1, ST.out.2.2.2.2, ST.out.2.1, ST.out.2.2.1⟩
 case done =>
  rintro D xs X hD rfl ⟨hls, hbx⟩ hK
  obtain ⟨v, hv, ho⟩ := hls.ex
  have v0 := cell_one hv
  have FO := aside (ownsRow_own ho (grownBy_putObj' X D (.deferred none)) (fun r e => by cases e; exact ⟨_, hK, rfl⟩))
  have FB := aside (ownFrom_below (β := Unit) (Nat.le_refl w.heap.size) HVV.out () X _ (some D) hbx (grownBy_putObj' X D (.deferred none)) (fun r e => by cases e; exact ⟨hD, _, hK, rfl⟩))
  clear hls hbx hv ho
  gi_wp2
  refine ⟨by simp, .inl ⟨_, _, rfl, run_takeDeferred hK, ?_⟩⟩
  exact ⟨v, by simp [results, Tryz.f117, go_sem], by first | exact ⟨v, rfl, FO.out, FB.out⟩ | (rw [← hvb]; exact ⟨v, rfl, FO.out, FB.out⟩)⟩
 case stop =>
  rintro D c pre X hD _ h
  exact h.elim
end Go.Proofs.YtpbkjffiohfkcaaGreatDoor
namespace Go.Proofs.YtpbkjffiohfkcaaGreatDoor
open Go.RowKit
set_option linter.unusedVariables false
def Nm.chk (a l n : Int) : Int := if a < 0 ∨ 8 ≤ a then 110 else if l < 1 ∨ 1048576 < l ∨ n < 1 ∨ 1048576 < n then 111 else 0
end Go.Proofs.YtpbkjffiohfkcaaGreatDoor
namespace Go.Proofs.YtpbkjffiohfkcaaGreatDoor
open Go.RowKit
set_option linter.unusedVariables false
structure Pm where
 kind : Int
 lo : ByteArray
 hi : ByteArray
 op : Bool
 cnt : Int
 s0 : Int
 s1 : Int
 ea : Option Addr
 el : Nat
 ec : Nat
 T : Nat → En
def Pm.rg (p : Pm) : Rg := ⟨p.lo, p.hi, p.op⟩
def Pm.alone (p : Pm) : Bool := if p.kind = 1 then p.el == 0 else if p.kind = 2 ∨ p.kind = 3 then p.cnt == 0 && (p.s0 == 0 && p.s1 == 0) else false
def tlChk (c a b : Int) : Int := if c < 0 ∨ 256 < c then 117 else if c = 0 ∧ ¬ (a = 0 ∧ b = 0) then 117 else 0
def itAt (r : Rg) (T : Nat → En) (i : Nat) : Int := if (T i).chk ≠ 0 then (T i).chk else if r.has (T i).k = false ∨ (0 < i ∧ kLt (T (i - 1)).k (T i).k = false) then 116 else 0
def itN (r : Rg) (T : Nat → En) : Nat → Int
 | 0 => 0
 | n + 1 => if itN r T n ≠ 0 then itN r T n else itAt r T n
def Pm.its (p : Pm) : Int := if itN p.rg p.T p.el ≠ 0 then itN p.rg p.T p.el else if p.kind = 3 ∧ p.el = 0 then 116 else 0
def Pm.chk (p : Pm) (hi : ByteArray) (op : Bool) : Int :=
 if p.alone = false then 114 else if p.rg.chk ≠ 0 then p.rg.chk else if p.rg.emp = true ∨ op = true ∨ kLt p.lo hi = true then 115 else if p.kind = 1 then tlChk p.cnt p.s0 p.s1 else p.its
def ahHi (P : Nat → Pm) : Nat → ByteArray
 | 0 => ⟨#[]⟩
 | n + 1 => (P n).hi
def ahOp (P : Nat → Pm) : Nat → Bool
 | 0 => false
 | n + 1 => (P n).op
def ahLo (P : Nat → Pm) : Nat → ByteArray
 | 0 => ⟨#[]⟩
 | n + 1 => (P n).lo
def ptAt (P : Nat → Pm) (i : Nat) : Int := (P i).chk (ahHi P i) (ahOp P i)
def ptN (P : Nat → Pm) : Nat → Int
 | 0 => 0
 | n + 1 => if ptN P n ≠ 0 then ptN P n else ptAt P n
def totE (P : Nat → Pm) : Nat → Nat
 | 0 => 0
 | n + 1 => totE P n + (P n).el
def psChk (P : Nat → Pm) (n : Nat) : Int := if 768 < n ∨ 256 < totE P n then 113 else ptN P n
theorem totE_mono (P : Nat → Pm) : ∀ {i n : Nat}, i ≤ n → totE P i ≤ totE P n := by
 intro i n h
 induction n with
 | zero => obtain rfl : i = 0 := by omega
           exact Nat.le_refl _
 | succ n ih =>
  rcases Nat.lt_or_ge n i with g | g
  ·obtain rfl : i = n + 1 := by omega
   exact Nat.le_refl _
  ·have := ih g
   simp only [totE]; omega
theorem el_totE (P : Nat → Pm) {i n : Nat} (h : i < n) : totE P i + (P i).el ≤ totE P n := totE_mono P (i := i + 1) h
section
variable {r : Rg} {T : Nat → En}
theorem itN_step {n : Nat} (h : itN r T n = 0) : itN r T (n + 1) = itAt r T n := by unfold itN; rw [if_neg (by simp [h])]
theorem itN_stay {n : Nat} (h : itN r T n ≠ 0) : ∀ m, n ≤ m → itN r T m = itN r T n := by
 intro m hm
 induction m with
 | zero => obtain rfl : n = 0 := by omega
           rfl
 | succ m ih =>
  rcases Nat.lt_or_ge m n with g | g
  ·obtain rfl : n = m + 1 := by omega
   rfl
  ·have := ih g
   simp only [itN]; rw [if_pos (by rw [this]; exact h), this]
theorem itN_bad {i n : Nat} (h0 : itN r T i = 0) (hi : i < n) (h : itAt r T i ≠ 0) : itN r T n = itAt r T i := by
 have h1 := itN_step h0
 rw [← h1] at h
 rw [itN_stay h n (by omega), h1]
theorem itAt_ent {i : Nat} (h : (T i).chk ≠ 0) : itAt r T i = (T i).chk := by unfold itAt; rw [if_pos h]
theorem itAt_out {i : Nat} (h : (T i).chk = 0) (h2 : r.has (T i).k = false) : itAt r T i = 116 := by unfold itAt; rw [if_neg (by simp [h]), if_pos (.inl h2)]
theorem itAt_ord {i : Nat} (h : (T i).chk = 0) (h2 : 0 < i ∧ kLt (T (i - 1)).k (T i).k = false) : itAt r T i = 116 := by unfold itAt; rw [if_neg (by simp [h]), if_pos (.inr h2)]
theorem itAt_ok {i : Nat} (h : (T i).chk = 0) (h1 : r.has (T i).k = true) (h2 : ¬ (0 < i ∧ kLt (T (i - 1)).k (T i).k = false)) : itAt r T i = 0 := by
 unfold itAt
 rw [if_neg (by simp [h]), if_neg]
 rintro (g | g)
 ·rw [h1] at g; cases g
 ·exact h2 g
end
section
variable {P : Nat → Pm}
theorem ptN_step {n : Nat} (h : ptN P n = 0) : ptN P (n + 1) = ptAt P n := by unfold ptN; rw [if_neg (by simp [h])]
theorem ptN_stay {n : Nat} (h : ptN P n ≠ 0) : ∀ m, n ≤ m → ptN P m = ptN P n := by
 intro m hm
 induction m with
 | zero => obtain rfl : n = 0 := by omega
           rfl
 | succ m ih =>
  rcases Nat.lt_or_ge m n with g | g
  ·obtain rfl : n = m + 1 := by omega
   rfl
  ·have := ih g
   simp only [ptN]; rw [if_pos (by rw [this]; exact h), this]
theorem ptN_bad {i n : Nat} (h0 : ptN P i = 0) (hi : i < n) (h : ptAt P i ≠ 0) : ptN P n = ptAt P i := by
 have h1 := ptN_step h0
 rw [← h1] at h
 rw [ptN_stay h n (by omega), h1]
end
theorem leqF (x y : ByteArray) : (Op.bytesLess x.toList y.toList || x.toList == y.toList) = !kLt y x := by
 unfold kLt
 cases h1 : Op.bytesLess x.toList y.toList <;> cases h2 : Op.bytesLess y.toList x.toList
 ·have e := L_total _ _ h1 h2
  simp [e]
 ·have e : (x.toList == y.toList) = false := by
    rw [beq_eq_false_iff_ne]; intro e; rw [e, L_irrefl] at h2; cases h2
  simp [e]
 ·simp
 ·have := L_trans _ _ _ h1 h2
  rw [L_irrefl] at this
  cases this
end Go.Proofs.YtpbkjffiohfkcaaGreatDoor
namespace Go.Proofs.YtpbkjffiohfkcaaGreatDoor
open Go.RowKit
set_option linter.unusedVariables false
def PmAt (w : World) (b off : Nat) (p : Pm) : Prop := w.cell? ⟨b, off, none⟩ = some (.int .i64 p.kind) ∧ w.cell? ⟨b, off + 1, none⟩ = some (.string p.lo) ∧ w.cell? ⟨b, off + 2, none⟩ = some (.string p.hi) ∧ w.cell? ⟨b, off + 3, none⟩ = some (.bool p.op) ∧ w.cell? ⟨b, off + 4, none⟩ = some (.int .i64 p.cnt) ∧ w.cell? ⟨b, off + 5, none⟩ = some (.int .u64 p.s0) ∧ w.cell? ⟨b, off + 6, none⟩ = some (.int .u64 p.s1) ∧ w.cell? ⟨b, off + 7, none⟩ = some (.slice p.ea p.el p.ec)
theorem PmAt.keep {w w' : World} {b off : Nat} {p : Pm} (h : PmAt w b off p) (k : Below w.heap.size w w') : PmAt w' b off p := by
 obtain ⟨c0, c1, c2, c3, c4, c5, c6, c7⟩ := h
 exact ⟨cell_in c0 k, cell_in c1 k, cell_in c2 k, cell_in c3 k, cell_in c4 k, cell_in c5 k, cell_in c6 k, cell_in c7 k⟩
def Pm.In (w : World) (p : Pm) : Prop := EntsIn w p.ea p.el p.ec p.T
theorem Pm.In.keep {w w' : World} {p : Pm} (h : p.In w) (k : Below w.heap.size w w') : p.In w' := EntsIn.keep h k
def PartsIn (w : World) (a : Option Addr) (len cap : Nat) (P : Nat → Pm) : Prop :=
 len ≤ cap ∧ cap ≤ maxLen ∧ (len = 0 ∨ ∃ b off, a = some ⟨b, off, none⟩ ∧ b < w.heap.size ∧ ∀ i, i < len → PmAt w b (off + i * 8) (P i) ∧ (P i).In w)
theorem PartsIn.keep {w w' : World} {a : Option Addr} {len cap : Nat} {P : Nat → Pm} (h : PartsIn w a len cap P) (k : Below w.heap.size w w') : PartsIn w' a len cap P := by
 obtain ⟨h1, h2, h3⟩ := h
 refine ⟨h1, h2, ?_⟩
 rcases h3 with h3 | ⟨bb, off, rfl, hb, hc⟩
 ·exact .inl h3
 ·exact .inr ⟨bb, off, rfl, by have := k.size; omega, fun i hi => ⟨(hc i hi).1.keep k, (hc i hi).2.keep k⟩⟩
theorem oct {w : World} {i : Nat} {p : Pm} (h : w.heap[i]? = some (.cells #[.int .i64 p.kind, .string p.lo, .string p.hi, .bool p.op, .int .i64 p.cnt, .int .u64 p.s0, .int .u64 p.s1, .slice p.ea p.el p.ec] 47 (0, 0))) : w.cell? ⟨i, 0, none⟩ = some (.int .i64 p.kind) ∧ w.cell? ⟨i, 1, none⟩ = some (.string p.lo) ∧ w.cell? ⟨i, 2, none⟩ = some (.string p.hi) ∧ w.cell? ⟨i, 3, none⟩ = some (.bool p.op) ∧ w.cell? ⟨i, 4, none⟩ = some (.int .i64 p.cnt) ∧ w.cell? ⟨i, 5, none⟩ = some (.int .u64 p.s0) ∧ w.cell? ⟨i, 6, none⟩ = some (.int .u64 p.s1) ∧ w.cell? ⟨i, 7, none⟩ = some (.slice p.ea p.el p.ec) :=
 ⟨by simp [World.cell?, h], by simp [World.cell?, h], by simp [World.cell?, h], by simp [World.cell?, h], by simp [World.cell?, h], by simp [World.cell?, h], by simp [World.cell?, h], by simp [World.cell?, h]⟩
set_option maxHeartbeats 1600000 in
theorem alone_any (p : Pm) (w : World) : Calls Tryz.prog 74 #[.agg #[.int .i64 p.kind, .string p.lo, .string p.hi, .bool p.op, .int .i64 p.cnt, .int .u64 p.s0, .int .u64 p.s1, .slice p.ea p.el p.ec]] w fun e w' => e = .returned (.bool p.alone) ∧ Below w.heap.size w w' := by
 obtain ⟨kind, lo, hi, op, cnt, s0, s1, ea, el, ec, T⟩ := p
 dsimp only
 by_cases h1 : kind = 1
 ·subst h1
  by_cases h0 : el = 0
  ·subst h0
   go_enter Tryz.func74, Tryz.ntmps74
   go_wp2
   go_ret
   exact ⟨ret_bool (by simp [Pm.alone]), bnew w _⟩
  ·have h0' : ((el : Int) == 0) = false := by simp; omega
   have H0 := aside h0
   go_enter Tryz.func74, Tryz.ntmps74
   go_wp2
   go_ret
   exact ⟨ret_bool (by simp [Pm.alone, H0.out]), bnew w _⟩
 ·by_cases h2 : kind = 2 ∨ kind = 3
  ·obtain ⟨q, hq⟩ : ∃ q, (cnt == 0 && (s0 == 0 && s1 == 0)) = q := ⟨_, rfl⟩
   have TQ := fun W => tal_run cnt s0 s1 0 0 0 W
   rw [hq] at TQ
   have HQ := aside hq
   clear hq h1
   rcases h2 with rfl | rfl
   ·skip
    go_enter Tryz.func74, Tryz.ntmps74
    go_wp2
    go_ret
    exact ⟨ret_bool (by simp only [Pm.alone]; rw [if_neg (by decide), if_pos (by decide)]; exact HQ.out.symm), bnew w _⟩
   ·skip
    go_enter Tryz.func74, Tryz.ntmps74
    go_wp2
    go_ret
    exact ⟨ret_bool (by simp only [Pm.alone]; rw [if_neg (by decide), if_pos (by decide)]; exact HQ.out.symm), bnew w _⟩
  ·have b1 : (kind == 1) = false := by simpa using h1
   have b2 : (kind == 2) = false := by simp; omega
   have b3 : (kind == 3) = false := by simp; omega
   have H1 := aside h1
   have H2 := aside h2
   go_enter Tryz.func74, Tryz.ntmps74
   go_wp2
   go_ret
   exact ⟨ret_bool (by simp only [Pm.alone]; rw [if_neg H1.out, if_neg H2.out]), bnew w _⟩
set_option maxHeartbeats 1600000 in
theorem tlchk_any (c a b : Int) (w : World) : Calls Tryz.prog 76 #[.agg #[.int .i64 c, .int .u64 a, .int .u64 b]] w fun e w' => e = .returned (.int .i64 (tlChk c a b)) ∧ Below w.heap.size w w' := by
 by_cases h1 : c < 0
 ·skip
  go_enter Tryz.func76, Tryz.ntmps76
  go_wp2
  go_ret
  exact ⟨ret_i64 (by unfold tlChk; rw [if_pos (by omega)]), bnew w _⟩
 ·by_cases h2 : 256 < c
  ·skip
   go_enter Tryz.func76, Tryz.ntmps76
   go_wp2
   go_ret
   exact ⟨ret_i64 (by unfold tlChk; rw [if_pos (by omega)]), bnew w _⟩
  ·by_cases h3 : c = 0
   ·subst h3
    by_cases h4 : a = 0 ∧ b = 0
    ·have TQ := fun W => tal_ne_run 0 a b 0 0 0 W
     obtain ⟨rfl, rfl⟩ := h4
     go_enter Tryz.func76, Tryz.ntmps76
     go_wp2
     go_ret
     exact ⟨ret_i64 (by unfold tlChk; rw [if_neg (by omega), if_neg (by omega)]), bnew w _⟩
    ·have TQ := fun W => tal_ne_run 0 a b 0 0 0 W
     have hq : (a == 0 && b == 0) = false := by
      cases h : (a == 0 && b == 0)
      ·rfl
      ·exact absurd (by simpa using h) h4
     rw [hq] at TQ
     have H4 := aside h4
     clear hq h4
     go_enter Tryz.func76, Tryz.ntmps76
     go_wp2
     go_ret
     exact ⟨ret_i64 (by unfold tlChk; rw [if_neg (by omega), if_pos ⟨rfl, H4.out⟩]), bnew w _⟩
   ·have b3 : (c == 0) = false := by simpa using h3
    go_enter Tryz.func76, Tryz.ntmps76
    go_wp2
    go_ret
    exact ⟨ret_i64 (by unfold tlChk; rw [if_neg (by omega), if_neg (by omega)]), bnew w _⟩
end Go.Proofs.YtpbkjffiohfkcaaGreatDoor
