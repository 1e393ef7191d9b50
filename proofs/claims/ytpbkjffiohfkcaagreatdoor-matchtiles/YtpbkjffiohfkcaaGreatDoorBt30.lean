/-
  Split of a store: the keys that it holds in a range, and the ranges that are cut at them.
-/
import Derived.Test.YtpbkjffiohfkcaaGreatDoorBt20
import Derived.Test.YtpbkjffiohfkcaaGreatDoorBt29
import Derived.Test.YtpbkjffiohfkcaaGreatDoorBt16
import Derived.Test.YtpbkjffiohfkcaaGreatDoorBt17
import Derived.Laws.StructEq
import Derived.Test.YtpbkjffiohfkcaaGreatDoorBt1
import Derived.Deep.RegionHeld
import Derived.Deep.CutBlock
import Derived.Deep.DeepCutAuto
import Derived.Test.YtpbkjffiohfkcaaGreatDoorBt25
namespace Go.Proofs.YtpbkjffiohfkcaaGreatDoor
open Go.RowKit Go.Shelf
set_option linter.unusedVariables false
attribute [local go_sem] Oper.semAt_some
structure LstS (B : Nat) (vb : Nat) (l : List ByteArray) (X : World) : Prop where
 ex : ∃ v, X.heap[vb]? = some (.cells #[v] 143 (0, 0)) ∧ X.ownsRow B 9 1 v l.length (strCells l)
theorem LstS.own {B vb : Nat} {l : List ByteArray} {A X : World} {row : Option Nat} (h : LstS B vb l A) (hg : A.grownBy X row) (hr : ∀ r, row = some r → ∃ o : Obj, A.heap[r]? = some o ∧ o.isCells = false) : LstS B vb l X := by
 obtain ⟨v, h1, h2⟩ := h.ex
 exact ⟨v, cells_own h1 hg hr, ownsRow_own h2 hg hr⟩
theorem row_blkS {X : World} {B n : Nat} {v : Value} {xs : List Value} (h : X.ownsRow B 9 1 v n xs) {r : Nat} (hr : v.ownBlock = some r) : B ≤ r ∧ ∃ cs, X.heap[r]? = some (.cells cs 9 (0, 0)) := by
 rcases h.2 with ⟨rfl, -⟩ | ⟨g, cap, cur, rfl, hb, hgk, -⟩
 ·cases hr
 ·cases hr; exact ⟨hb, _, hgk⟩
theorem lst_stepS {w X X1 : World} {vb C : Nat} {l : List ByteArray} {x : ByteArray} {v v' : Value} {o : Obj} (hB : Below w.heap.size w X) (hvb : w.heap.size ≤ vb) (h1 : X.heap[vb]? = some (.cells #[v] 143 (0, 0))) (h2 : X.ownsRow w.heap.size 9 1 v l.length (strCells l))
    (ho : X1.ownsRow w.heap.size 9 1 v' (l.length + 1) (strCells l ++ [.string x])) (hg : (X.alloc o).grownBy X1 v.ownBlock) :
    X1.heap[vb]? = some (.cells #[v] 143 (0, 0)) ∧ LstS w.heap.size vb (l ++ [x]) (X1.setCell ⟨vb, 0, none⟩ v') ∧ Below w.heap.size w (X1.setCell ⟨vb, 0, none⟩ v') ∧ KeepsFrom C X (X1.setCell ⟨vb, 0, none⟩ v') ∧ KpT X (X1.setCell ⟨vb, 0, none⟩ v') := by
 have hne : some vb ≠ v.ownBlock := fun e => by
  obtain ⟨-, cs, h3⟩ := row_blkS h2 e.symm
  rw [h1] at h3; simp at h3
 have hvb1 : X1.heap[vb]? = some (.cells #[v] 143 (0, 0)) := by
  rw [hg.block vb (by have := lt_of_blk h1; simp; omega) hne]
  exact blk_on h1 (bnew _ _)
 have st : ∀ T, T ≠ 9 → T ≠ 143 → Stay T X (X1.setCell ⟨vb, 0, none⟩ v') := fun T n1 n2 => by
  refine (((Stay.refl T X).alloc o).grown hg ?_).setCell _ (fun cs e => by dsimp only at e; rw [hvb1] at e; simp at e; exact n2 e.2.symm)
  intro r e cs hcs
  obtain ⟨-, cs', h3⟩ := row_blkS h2 e
  rw [blk_on h3 (bnew _ _)] at hcs
  simp at hcs
  exact n1 hcs.2.symm
 refine ⟨hvb1, ⟨v', by rw [heap_setCell_same X1 vb 0 _ _ v' hvb1]; rfl, ?_⟩, ?_, ?_, st _ (by decide) (by decide), st _ (by decide) (by decide), st _ (by decide) (by decide)⟩
 ·have e : strCells (l ++ [x]) = strCells l ++ [.string x] := by simp [strCells]
  rw [List.length_append, e]
  refine ownsRow_keep (S := fun i => i = vb) ho ((Keeps.refl (fun i => i = vb) X1).setCell (p := ⟨vb, 0, none⟩) (fun _ => rfl) _) (fun j e1 e2 => ?_)
  subst e2
  obtain ⟨-, cs, h3⟩ := row_blkS ho e1
  rw [hvb1] at h3; simp at h3
 ·exact (((hB.alloc hB.size o).grown hg (by have := hB.size; simp; omega) (fun j e => (row_blkS h2 e).1)).setCell (p := ⟨vb, 0, none⟩) hvb _)
 ·have k1 : KeepsFrom C (X.alloc o) X1 := ⟨hg.size, fun i ob _ hi hob => (hg.block i (Array.getElem?_eq_some_iff.1 hi).1 (fun e => by
    obtain ⟨-, cs, h3⟩ := row_blkS h2 e.symm
    rw [blk_on h3 (bnew _ _)] at hi
    injection hi with hi
    subst hi
    cases hob)).trans hi⟩
  exact ((KeepsFrom.of_grownBy (World.grownBy_alloc X o none) (fun j e => by cases e)).trans k1).trans ((KeepsOthers.setCell _ _ _).from _)
theorem infoStrS : (Tryz.prog.info? 9).map (fun i => (i.zero, i.size, i.bytes)) = some (some (.string ⟨#[]⟩), 1, 16) := by kernel_rfl
def nthS (l : List ByteArray) (i : Nat) : ByteArray := l.getD i ⟨#[]⟩
theorem upto_nth (l : List ByteArray) : strUpto (nthS l) l.length = l := by
 apply List.ext_getElem?
 intro i
 by_cases h : i < l.length
 ·simp [strUpto, nthS, h]
 ·simp [strUpto, h]
theorem strs_row {w : World} {B n : Nat} {a : Option Addr} {c : Nat} {l : List ByteArray} (h : w.ownsRow B 9 1 (.slice a n c) n (strCells l)) (hl : l.length = n) (hn : n ≤ 1000000) : StrsIn w.heap.size w a n c (nthS l) := by
 obtain ⟨_, _, e1, h2, h3, hf⟩ := own_slice h
 injection e1 with e1 _ e3
 subst e1 e3
 rcases hf with ⟨rfl, rfl, rfl⟩ | ⟨g, rfl, -⟩
 ·exact ⟨Nat.le_refl _, Nat.zero_le _, .inl rfl⟩
 ·refine strs_own (B := B) ?_ (by omega)
  rw [← hl, upto_nth, hl]
  exact h
def keysR (T : Tr En Tl) (lo hi : ByteArray) (op : Bool) (Ls : List En) : List ByteArray := (spanL T (belE lo Ls : Int) (endE hi op Ls : Int)).map (fun r => r.k)
set_option maxHeartbeats 8000000 in
set_option maxRecDepth 100000 in
theorem ssplit (lo hi : ByteArray) (op : Bool) (p : Int) {Ls : List En} {w : World} {sb g tb : Nat} {nd ck : Int} {T : Tr En Tl} {n : Nat} (h : IsSt w sb g tb nd ck T n) (hH : Hol T Ls) (hl : Ls.length ≤ 1000000) (R : World → Value → Int → World → Prop)
    (hown : ∀ V v c (X : World) (D : Nat), R V v c X → V.heap.size ≤ X.heap.size → X.heap[D]? = some (.deferred (some [])) → R V v c (X.putObj D (.deferred none)))
    (hC : ∀ (W : World) (a : Option Addr) (m c : Nat), Below w.heap.size w W → StrsIn W.heap.size W a m c (nthS (keysR T lo hi op Ls)) → (keysR T lo hi op Ls).length = m → Calls Tryz.prog 118 #[.agg #[.string lo, .string hi, .bool op], .slice a m c, .int .i64 p] W fun e W' => ∃ v c, e = .returned (.tuple #[v, .int .i64 c]) ∧ R W v c W' ∧ Below W.heap.size W W') :
    Calls Tryz.prog 94 #[.pointer (some ⟨sb, 0, none⟩), .agg #[.string lo, .string hi, .bool op], .int .i64 p] w fun e w' => ∃ W v c, e = .returned (.tuple #[v, .int .i64 c]) ∧ R W v c w' ∧ w.heap.size ≤ W.heap.size ∧ Below w.heap.size w w' := by
 have B0 := aside (bnew w (.cells #[.string lo, .string hi, .bool op] 40))
 have K0 := aside (heap_alloc_new w (.cells #[.string lo, .string hi, .bool op] 40))
 have H := aside (h.below B0.out)
 have CR := aside (fun (W : World) (h : IsSt W sb g tb nd ck T n) => srows lo hi op h hH hl)
 have HH := aside hH
 have HLE := aside hl
 have HC := aside hC
 clear h hH hl hC
 refine (callsIn_wide (n := 7)).1 ?_
 refine callsIn_of_wp_marks Tryz.func94 rfl trivial ?_ rfl
 simp only [Tryz.ntmps94, List.size_toArray, List.length_cons, List.length_nil, Nat.reduceAdd, Nat.reduceSub, Array.replicate_succ, Array.replicate_zero, List.push_toArray, List.append_toArray, List.nil_append, List.cons_append]
 obtain ⟨r0, r1, r2, -⟩ := tri K0.out
 gi_wp2_with fail
 refine ⟨trivial, ?_⟩
 refine (callsIn_wide.2 (CR.out _ H.out)).mono ?_
 rintro e w1 ⟨rfl, b1⟩
 replace B0 := aside (bthen B0.out b1)
 replace K0 := aside (blk_on K0.out b1)
 replace H := aside (H.out.below b1)
 obtain ⟨rb, hrb⟩ : ∃ rb, w.heap.size = rb := ⟨_, rfl⟩
 have HRB := aside hrb
 rw [hrb] at K0 ⊢
 have bV := bnew w1 (.cells #[.slice none 0 0] 143)
 have KV := aside (heap_alloc_new w1 (.cells #[.slice none 0 0] 143))
 replace B0 := aside (bthen B0.out bV)
 replace K0 := aside (blk_on K0.out bV)
 replace H := aside (H.out.below bV)
 obtain ⟨vb, hvb⟩ : ∃ vb, w1.heap.size = vb := ⟨_, rfl⟩
 have HVB := aside (show w.heap.size ≤ vb from by rw [← hvb]; have h1 := b1.size; rw [World.size_alloc] at h1; omega)
 obtain ⟨-, -, -, c3, -⟩ := quad H.out.blk
 obtain ⟨pp, ht, hT⟩ := H.out.tree
 have HT := aside hT
 have CS := aside (yspan (belE lo Ls : Int) (endE hi op Ls : Int) ht)
 clear b1 bV r0 r1 r2 hrb ht hT CR
 gi_wp2_with fail
 refine ⟨trivial, ?_⟩
 refine (callsIn_wide.2 (CS.out)).mono ?_
 rintro e w3 ⟨lbS, rfl, hs, b3⟩
 have HS := aside hs
 rw [hvb] at KV
 replace KV := aside (blk_on KV.out b3)
 replace K0 := aside (blk_on K0.out b3)
 replace B0 := aside (bthen B0.out b3)
 replace HT := aside (HT.out.on (fun _ _ e => blk_on e b3))
 clear hs b3 CS c3 hvb H
 gi_wp2_with fail
 have hcn := HH.out.cnt
 have hle := HLE.out
 have hsp : (spanL T (belE lo Ls : Int) (endE hi op Ls : Int)).length ≤ 1000000 := by
  unfold spanL seg
  have := Tr.rows_length T
  simp only [List.length_drop, List.length_take]
  omega
 have HSP := aside hsp
 have SQ := aside (SeqO.of_stops fun n => span1 (Kp := KpT) HS.out HT.out (by omega) (by have := endE_le hi op Ls; omega) (Nat.le_refl _) (fun A B h => h.1))
 have I0 := aside (show LstS w.heap.size vb [] w3 from ⟨.slice none 0 0, KV.out, ⟨rfl, .inl ⟨rfl, rfl⟩⟩⟩)
 have HVV := aside (show w.heap.size ≤ w3.heap.size from B0.out.size)
 have K0V := aside K0.out
 have HKS := aside (show keysR T lo hi op Ls = (spanL T (belE lo Ls : Int) (endE hi op Ls : Int)).map (fun r => r.k) from rfl)
 clear hcn hle hsp KV
 have ownI : OwnFrom w3.heap.size (fun (pre : List (Rw En Tl)) X => LstS w.heap.size vb (pre.map (fun r => r.k)) X ∧ X.heap[rb]? = some (.cells #[.string lo, .string hi, .bool op] 40 (0, 0)) ∧ Below w.heap.size w X) := fun s A Y row hs hg hr =>
  ⟨hs.1.own hg (fun r e => (hr r e).2), cells_own hs.2.1 hg (fun r e => (hr r e).2), ownFrom_below (β := Unit) (Nat.le_refl w.heap.size) HVV.out () A Y row hs.2.2 hg hr⟩
 refine rangeO rfl (enters_of Tryz.func124 (by kernel_rfl) rfl) SQ.out KpT.t (fun W l o o' _ h ho => KpT.b W l o o' h ho) (Below.refl _ _) (fun _ => rfl)
  (fun (pre : List (Rw En Tl)) X => LstS w.heap.size vb (pre.map (fun r => r.k)) X ∧ X.heap[rb]? = some (.cells #[.string lo, .string hi, .bool op] 40 (0, 0)) ∧ Below w.heap.size w X) (fun _ _ _ => False) ownI (fun _ _ _ _ _ h => h.elim) ⟨I0.out, K0.out, B0.out⟩
  (fun x a' X => a' = ⟨#[.pointer (some ⟨sb, 0, none⟩), .agg #[.string lo, .string hi, .bool op], .int .i64 p, undef, .pointer (some ⟨rb, 0, none⟩), undef, .slice none 0 0, .int .i64 0, .int .i64 (belE lo Ls : Int), .int .i64 (endE hi op Ls : Int), .pointer (some ⟨vb, 0, none⟩), .string x.k, .tuple #[.int .i64 (belE lo Ls : Int), .int .i64 (endE hi op Ls : Int)], .pointer (some ⟨sb, 0, none⟩), .agg #[.string lo, .string hi, .bool op], .tuple #[.int .i64 (belE lo Ls : Int), .int .i64 (endE hi op Ls : Int)], .int .i64 (belE lo Ls : Int), .int .i64 (endE hi op Ls : Int), .pointer (some ⟨sb, 0, none⟩), .pointer (some ⟨sb, 0, none⟩), .pointer (some ⟨sb, 3, none⟩), .pointer (some ⟨tb, 0, none⟩), .int .i64 (belE lo Ls : Int), .int .i64 (endE hi op Ls : Int), .func (.func 124) #[] lbS, .string x.k, .agg #[.string x.v.k, .int .i64 x.v.c, .int .i64 x.v.n, .string x.v.v, .bool x.v.d], undef, undef, undef, undef, undef, undef, undef, undef, undef, undef], []⟩)
  (fun x a' _ A Y row hs hg hr => hs) ?assign ?body ?done ?stop
 case assign =>
  intro l' pre x X K hi hK
  dsimp only [encs2]
  gi_wp2
  exact hK _ _ (KeepsFrom.refl _ _) (KpT.refl X) hi rfl
 case body =>
  rintro l' pre x a' X ⟨hls, hk0, hbx⟩ rfl hlen
  obtain ⟨v, hv, ho⟩ := hls.ex
  obtain ⟨i0, hi0, hz0, hz1, hz2⟩ := info_parts infoStrS
  have v0 := cell_one hv
  have HV := aside hv
  have HO := aside ho
  have HB := aside hbx
  have HK0 := aside hk0
  have HLN := aside (show (pre.map (fun r => r.k)).length ≤ 1000000 from by have := HSP.out; rw [List.length_map]; omega)
  have HI := aside hi0
  obtain ⟨ks, hks⟩ : ∃ ks, pre.map (fun r => r.k) = ks := ⟨_, rfl⟩
  have HKN := aside (show (pre ++ [x]).map (fun r => r.k) = ks ++ [x.k] from by rw [List.map_append, hks]; rfl)
  rw [hks] at HO HLN
  clear hls hv ho hbx hlen hi0 hk0 hks
  gi_wp2_with (gi_at_builtin; go_loud (refine wpListIn_append_own _ rfl _ _ _ rfl w.heap.size 9 i0 (.string ⟨#[]⟩) 1 16 Tryz.underlying143 HI.out hz0 hz1 hz2 rfl (by decide) v ks.length (strCells ks) (by rfl) (HO.out.alloc _) ⟨X.heap.size, 0, none⟩ 1 1 [.string x.k] (by rfl) (by rfl) (World.news_of_block (cs := #[.string x.k]) (t := 9) (fr := (0, 0)) (heap_alloc_new X _)) (by intro u hu; rw [List.mem_singleton] at hu; subst hu; rfl) (by have := HLN.out; unfold maxLen; omega) (by have := HLN.out; omega) (by have := HB.out.size; simp; omega) ?_); intro v' X2 hown1 hgrow hiff; refine Hid.out ?_)
  refine aside ?_
  obtain ⟨g', cap', rfl⟩ : ∃ g' cap', v' = .slice (some ⟨g', 0, none⟩) (ks.length + 1) cap' := by
   rcases hown1.2 with ⟨_, h⟩ | ⟨g', cap', cur, e, _⟩
   ·omega
   ·exact ⟨g', cap', e⟩
  have ST := aside (lst_stepS (x := x.k) (C := w3.heap.size) HB.out HVB.out HV.out HO.out hown1 hgrow)
  have KB := aside (show (X2.setCell ⟨vb, 0, none⟩ (.slice (some ⟨g', 0, none⟩) (ks.length + 1) cap')).heap[rb]? = some (.cells #[.string lo, .string hi, .bool op] 40 (0, 0)) from by
   rw [Below.heap_setCell _ _ _ _ (fun e => by subst e; rw [HK0.out] at HV; simp at HV; exact absurd HV.out (by simp))]
   rw [hgrow.block rb (by have := lt_of_blk HK0.out; simp; omega) (fun e => by obtain ⟨-, cs, h3⟩ := row_blkS HO.out e.symm; rw [HK0.out] at h3; simp at h3)]
   exact blk_on HK0.out (bnew _ _))
  have v1 := cell_one ST.out.1
  have z1 := frozen_one ST.out.1
  clear hown1 hgrow hiff v0
  gi_wp2
  exact ⟨ST.out.2.2.2.1, ST.out.2.2.2.2, by rw [HKN.out]; exact ST.out.2.1, KB.out, ST.out.2.2.1⟩
 case done =>
  rintro D xs X hD rfl ⟨hls, hk0, hbx⟩ hK
  rw [← HKS.out] at hls
  obtain ⟨v, hv, ho⟩ := hls.ex
  obtain ⟨a, c, rfl, -⟩ := own_slice ho
  have v0 := cell_one hv
  obtain ⟨r0, r1, r2, -⟩ := tri hk0
  have HLK := aside (show (keysR T lo hi op Ls).length ≤ 1000000 from by have := HSP.out; rw [HKS.out, List.length_map]; exact this)
  have HST := aside (strs_row ho rfl HLK.out)
  have HBX := aside hbx
  have HKD := aside hK
  obtain ⟨m, hm⟩ : ∃ m, (keysR T lo hi op Ls).length = m := ⟨_, rfl⟩
  have HM := aside hm
  rw [hm] at v0 HST
  clear hls hv ho hbx hK hm hk0
  gi_wp2_with fail
  refine ⟨trivial, ?_⟩
  refine (callsIn_wide.2 (HC.out _ a m c HBX.out HST.out HM.out)).mono ?_
  rintro e Y ⟨v, c, rfl, hr, b5⟩
  have HR := aside hr
  have B5 := aside b5
  have HKY := aside (blk_on HKD.out b5)
  clear hr b5 v0 r0 r1 r2
  gi_wp2
  refine ⟨by simp, .inl ⟨_, _, rfl, run_takeDeferred HKY.out, ?_⟩⟩
  refine ⟨.tuple #[v, .int .i64 c], by simp [results, Tryz.f94, go_sem], X, v, c, rfl, hown _ _ _ _ _ HR.out B5.out.size HKY.out, HBX.out.size, ?_⟩
  exact ownFrom_below (β := Unit) (Nat.le_refl w.heap.size) HVV.out () Y _ (some D) (bthen HBX.out B5.out) (grownBy_putObj' Y D (.deferred none)) (fun r e => by cases e; exact ⟨hD, _, HKY.out, rfl⟩)
 case stop =>
  rintro D c pre X hD _ h
  exact h.elim
end Go.Proofs.YtpbkjffiohfkcaaGreatDoor
namespace Go.Proofs.YtpbkjffiohfkcaaGreatDoor
open Go.RowKit Go.Shelf
set_option linter.unusedVariables false
attribute [local go_sem] Oper.semAt_some
end Go.Proofs.YtpbkjffiohfkcaaGreatDoor
namespace Go.Proofs.YtpbkjffiohfkcaaGreatDoor
open Go.RowKit Go.Shelf
set_option linter.unusedVariables false
attribute [local go_sem] Oper.semAt_some
end Go.Proofs.YtpbkjffiohfkcaaGreatDoor
namespace Go.Proofs.YtpbkjffiohfkcaaGreatDoor
open Go.RowKit
set_option linter.unusedVariables false
def smL (ln : Nat → Nat) : Nat → Nat
 | 0 => 0
 | k + 1 => smL ln k + ln k
def ListsIn (w : World) (gb m : Nat) (ad : Nat → Option Addr) (ln cp : Nat → Nat) (T : Nat → Nat → En) : Prop := ∀ k, k < m → w.cell? ⟨gb, k, none⟩ = some (.slice (ad k) (ln k) (cp k)) ∧ EntsIn w (ad k) (ln k) (cp k) (T k)
theorem by_step (c x y : Nat) (hc : c ≤ 1073741824) : Value.int .i64 (IntKind.i64.wrap ((c : Int) + IntKind.i64.wrap (IntKind.i64.wrap (1 + (if (1073741824 : Int) < (x : Int) then 1073741824 else (x : Int))) + if (1073741824 : Int) < (y : Int) then 1073741824 else (y : Int)))) = .int .i64 ((c + (1 + (min x 1073741824 + min y 1073741824)) : Nat) : Int) := by
 congr 1
 rw [IntKind.wrap_i64, IntKind.wrap_i64, IntKind.wrap_i64]
 split <;> split <;> omega
theorem int_eqF {a b : Int} (h : a = b) : Value.int .i64 a = .int .i64 b := by rw [h]
theorem wt_step (m x y : Nat) (hm : m ≤ 2147483648) : Value.int .i64 (IntKind.i64.wrap (IntKind.i64.wrap (IntKind.i64.wrap ((m : Int) + 1) + (if (2147483648 : Int) < (x : Int) then 2147483648 else (x : Int))) + (if (2147483648 : Int) < (y : Int) then 2147483648 else (y : Int)))) = .int .i64 ((m + 1 + min x 2147483648 + min y 2147483648 : Nat) : Int) := by
 refine int_eqF ?_
 rw [IntKind.wrap_i64, IntKind.wrap_i64, IntKind.wrap_i64]
 split <;> split <;> omega
set_option maxHeartbeats 6400000 in
set_option maxRecDepth 100000 in
theorem weight_any (a : Option Addr) (len cap : Nat) (P : Nat → Pm) (w : World) (h : PartsIn w a len cap P) :
    Calls Tryz.prog 28 #[.slice a len cap] w fun e w' => ∃ m : Nat, e = .returned (.int .i64 (m : Int)) ∧ (m ≤ 536870912 → len + totE P len ≤ m) ∧ Below w.heap.size w w' := by
 have HE := aside h
 have hmx : (len : Int) ≤ 9223372036854775807 := by have h1 := h.1; have h2 := h.2.1; unfold maxLen at h2; omega
 clear h
 go_enter Tryz.func28, Tryz.ntmps28
 go_wp2
 go_loopw [3, 4] (fun c i wr => ∃ (j m : Nat), c = .int .i64 (m : Int) ∧ i = .int .i64 (j : Int) ∧ j ≤ len ∧ (Hid (j + totE P j ≤ m ∨ 2147483648 ≤ m)) ∧ m ≤ 6442450944 ∧ Hid (Below w.heap.size w wr)) (fun c i _ => len - (intOf i).toNat)
 case atStart => exact ⟨0, 0, rfl, rfl, Nat.zero_le _, Or.inl (Nat.le_refl _), by omega, Below.refl _ _⟩
 case round =>
  obtain ⟨j, m, rfl, rfl, hj, HJ, hm, HB⟩ := hrel
  by_cases hlt : (j : Int) < (len : Int)
  ·by_cases hm31 : (m : Int) < 2147483648
   ·skip
    rcases HE.out.2.2 with h0 | ⟨b, off, rfl, hb, hc⟩
    ·omega
    obtain ⟨hat, hin⟩ := hc j (by omega)
    obtain ⟨p, hp⟩ : ∃ p, P j = p := ⟨_, rfl⟩
    have HP := aside hp
    rw [hp] at hat hin
    clear hp hc
    obtain ⟨kind, lo, hi, op, cnt, s0, s1, ea, el, ec, T⟩ := p
    obtain ⟨-, c1, c2, -, -, -, -, c7⟩ := hat
    dsimp only at c1 c2 c7
    have hj0 : (0 : Int) ≤ (j : Int) := by omega
    have HIN := aside (show EntsIn w ea el ec T from hin)
    have hel : (el : Int) ≤ 9223372036854775807 := by have h1 := HIN.out.1; have h2 := HIN.out.2.1; unfold maxLen at h2; omega
    clear hin
    have C7 := aside (fun W (bb : Below w.heap.size w W) => cell_in c7 bb)
    replace c1 := cell_in c1 HB.out
    replace c2 := cell_in c2 HB.out
    clear c7
    go_upto_region 5 with fail
    go_cut [3] (fun s9 wx => ∃ m1 : Nat, s9 = .int .i64 (m1 : Int) ∧ Hid (j + 1 + totE P j + 0 ≤ m1 ∨ 2147483648 ≤ m1) ∧ Hid (m1 ≤ 6442450944) ∧ Hid (Below w.heap.size w wx))
    case first =>
     have HJ1 := aside (show j + 1 + totE P j + 0 ≤ m + 1 + min lo.size 2147483648 + min hi.size 2147483648 ∨ 2147483648 ≤ m + 1 + min lo.size 2147483648 + min hi.size 2147483648 from by have := HJ.out; omega)
     have HM1 := aside (show m + 1 + min lo.size 2147483648 + min hi.size 2147483648 ≤ 6442450944 from by omega)
     have HM9 := aside (show m ≤ 2147483647 from by omega)
     clear hm hm31
     have SX := aside (fun W (bb : Below wr.heap.size wr W) => (show Below wr.heap.size wr W ∧ W.cell? ⟨b, off + j * 8 + 1, none⟩ = some (.string lo) ∧ W.cell? ⟨b, off + j * 8 + 2, none⟩ = some (.string hi) from ⟨bb, cell_in c1 bb, cell_in c2 bb⟩))
     clear c1 c2
     refine wp_region_held_drew (S := fun W => Below wr.heap.size wr W ∧ W.cell? ⟨b, off + j * 8 + 1, none⟩ = some (.string lo) ∧ W.cell? ⟨b, off + j * 8 + 2, none⟩ = some (.string hi)) (by kernel_rfl) (SX.out _ (Below.refl _ wr).drew) (fun hHeld => ?_)
     refine tk 0 rfl _ ?_; refine tk 1 rfl _ ?_; refine tk 2 rfl _ ?_; refine tk 3 rfl _ ?_; refine tk 4 rfl _ ?_; refine tk 5 rfl _ ?_; refine tk 6 rfl _ ?_; refine tk 7 rfl _ ?_; refine tk 8 rfl _ ?_; refine tk 9 rfl _ ?_; refine tk 10 rfl _ ?_; refine tk 11 rfl _ ?_; refine tk 12 rfl _ ?_; refine tk 13 rfl _ ?_; refine tk 14 rfl _ ?_; refine tk 15 rfl _ ?_; refine tk 16 rfl _ ?_; refine tk 17 rfl _ ?_; refine tk 18 rfl _ ?_; refine tk 19 rfl _ ?_; refine tk 20 rfl _ ?_
     refine wpAnyH_done (by kernel_rfl) ?_ _
     have B9 := aside (HB.out.trans (hHeld.1.mono HB.out.size))
     clear hHeld
     generalize hX : (if (2147483648 : Int) < (lo.size : Int) then (2147483648 : Int) else (lo.size : Int)) = X
     generalize hY : (if (2147483648 : Int) < (hi.size : Int) then (2147483648 : Int) else (hi.size : Int)) = Y
     have HX := aside hX
     have HY := aside hY
     clear hX hY
     go_wp2
     go_meet
     exact ⟨m + 1 + min lo.size 2147483648 + min hi.size 2147483648, by rw [← HX.out, ← HY.out]; exact wt_step m lo.size hi.size (by have := HM9.out; omega), HJ1, HM1, B9⟩
    case rest =>
     obtain ⟨m1, rfl, HJ1, HM1, HB1⟩ := hcut
     clear c1 c2 HJ hm hm31 HB
     go_wp2
     go_loopw [3, 5] (fun c i wr => ∃ (k m : Nat), c = .int .i64 (m : Int) ∧ i = .int .i64 (k : Int) ∧ k ≤ el ∧ (Hid (j + 1 + totE P j + k ≤ m ∨ 2147483648 ≤ m)) ∧ m ≤ 6442450944 ∧ Hid (Below w.heap.size w wr)) (fun c i _ => el - (intOf i).toNat)
     case atStart => exact ⟨0, m1, rfl, rfl, Nat.zero_le _, HJ1, HM1.out, HB1⟩
     case round =>
      obtain ⟨k, m, rfl, rfl, hk, HJ, hm, HB⟩ := hrel
      have c7 := C7.out _ HB.out
      by_cases hlk : (k : Int) < (el : Int)
      ·by_cases hm31 : (m : Int) < 2147483648
       ·have hk0 : (0 : Int) ≤ (k : Int) := by omega
        rcases (HIN.out.keep HB.out).2.2 with h0 | ⟨b2, o2, rfl, hb2, hc2⟩
        ·omega
        obtain ⟨⟨d0, -, -, d3, -⟩, -⟩ := hc2 k (by omega)
        obtain ⟨t, ht⟩ : ∃ t, T k = t := ⟨_, rfl⟩
        rw [ht] at d0 d3
        clear hc2 ht hb2
        obtain ⟨tkz, htkz⟩ : ∃ tkz, t.k = tkz := ⟨_, rfl⟩
        obtain ⟨tv, htv⟩ : ∃ tv, t.v = tv := ⟨_, rfl⟩
        rw [htkz] at d0
        rw [htv] at d3
        clear htkz htv
        go_upto_region 9 with fail
        have HM9 := aside (show m ≤ 2147483647 from by omega)
        clear hm hm31
        have SX := aside (fun W (bb : Below wr.heap.size wr W) => (show Below wr.heap.size wr W ∧ W.cell? ⟨b, off + j * 8 + 7, none⟩ = some (.slice (some ⟨b2, o2, none⟩) el ec) ∧ W.cell? ⟨b2, o2 + k * 5, none⟩ = some (.string tkz) ∧ W.cell? ⟨b2, o2 + k * 5 + 3, none⟩ = some (.string tv) from ⟨bb, cell_in c7 bb, cell_in d0 bb, cell_in d3 bb⟩))
        clear c7 d0 d3
        refine wp_region_held_drew (S := fun W => Below wr.heap.size wr W ∧ W.cell? ⟨b, off + j * 8 + 7, none⟩ = some (.slice (some ⟨b2, o2, none⟩) el ec) ∧ W.cell? ⟨b2, o2 + k * 5, none⟩ = some (.string tkz) ∧ W.cell? ⟨b2, o2 + k * 5 + 3, none⟩ = some (.string tv)) (by kernel_rfl) (SX.out _ (Below.refl _ wr).drew) (fun hHeld => ?_)
        refine tk 0 rfl _ ?_; refine tk 1 rfl _ ?_; refine tk 2 rfl _ ?_; refine tk 3 rfl _ ?_; refine tk 4 rfl _ ?_; refine tk 5 rfl _ ?_; refine tk 6 rfl _ ?_; refine tk 7 rfl _ ?_; refine tk 8 rfl _ ?_; refine tk 9 rfl _ ?_; refine tk 10 rfl _ ?_; refine tk 11 rfl _ ?_; refine tk 12 rfl _ ?_; refine tk 13 rfl _ ?_; refine tk 14 rfl _ ?_; refine tk 15 rfl _ ?_; refine tk 16 rfl _ ?_; refine tk 17 rfl _ ?_; refine tk 18 rfl _ ?_; refine tk 19 rfl _ ?_; refine tk 20 rfl _ ?_; refine tk 21 rfl _ ?_; refine tk 22 rfl _ ?_; refine tk 23 rfl _ ?_; refine tk 24 rfl _ ?_; refine tk 25 rfl _ ?_; refine tk 26 rfl _ ?_
        refine wpAnyH_done (by kernel_rfl) ?_ _
        have B9 := aside (HB.out.trans (hHeld.1.mono HB.out.size))
        clear hHeld
        go_wp2
        go_roundw
        case rel => exact ⟨k + 1, m + 1 + min tkz.size 2147483648 + min tv.size 2147483648, wt_step m tkz.size tv.size (by have := HM9.out; omega), by go_num, by omega, show _ ∨ _ from by have := HJ.out; omega, by have := HM9.out; omega, B9⟩
        case measure => simp [intOf]; omega
       ·go_wp2
        go_roundw
        case rel => exact ⟨j + 1, m, rfl, by go_num, by omega, Or.inr (by omega), hm, HB⟩
        case measure => simp [intOf]; omega
      ·have HL := aside (show totE P (j + 1) = totE P j + el from by simp only [totE, HP.out])
       go_wp2
       go_roundw
       case rel => exact ⟨j + 1, m, rfl, by go_num, by omega, show _ ∨ _ from by have h1 := HJ.out; have h2 := HL.out; omega, hm, HB⟩
       case measure => simp [intOf]; omega
   ·go_wp2
    go_ret
    exact ⟨m, rfl, fun g => by omega, HB.out⟩
  ·have hjl : j = len := by omega
   subst hjl
   go_wp2
   go_ret
   exact ⟨m, rfl, fun g => by have := HJ.out; omega, HB.out⟩
def By13 (w : World) (n : Nat) (e : Ending) (w' : World) : Prop := ∃ q, e = .returned (.bool q) ∧ (q = false → n ≤ 536870912) ∧ Below w.heap.size w w'
set_option maxHeartbeats 6400000 in
set_option maxRecDepth 100000 in
theorem beyond13_any (pa : Option Addr) (pl pc : Nat) (P : Nat → Pm) (gb m cq : Nat) (ad : Nat → Option Addr) (ln cp : Nat → Nat) (T : Nat → Nat → En) (w : World) (hm : m ≤ 1000) (h : ListsIn w gb m ad ln cp T) (hP : PartsIn w pa pl pc P) :
    Calls Tryz.prog 8 #[.slice pa pl pc, .slice (some ⟨gb, 0, none⟩) m cq] w fun e w' => By13 w (pl + totE P pl + smL ln m) e w' := by
 have HL := aside h
 have CW := aside (weight_any pa pl pc P w hP)
 obtain ⟨W0, hW0⟩ : ∃ W0, pl + totE P pl = W0 := ⟨_, rfl⟩
 rw [hW0] at CW ⊢
 clear h hP hW0
 go_enter Tryz.func8, Tryz.ntmps8
 go_wp2_with fail
 refine CW.out.mono ?_
 rintro e w1 ⟨c1, rfl, hc1, b1⟩
 have HC1 := aside hc1
 have B1 := aside b1
 clear b1 hc1 CW
 go_wp2
 go_loopw [5, 6] (fun n i wr => ∃ (k c : Nat), n = .int .i64 (c : Int) ∧ i = .int .i64 (k : Int) ∧ k ≤ m ∧ 0 ≤ c ∧ Hid (c ≤ 536870912 → W0 + smL ln k ≤ c) ∧ Below w.heap.size w wr) (fun _ i _ => m - (intOf i).toNat)
 case atStart => exact ⟨0, c1, rfl, rfl, Nat.zero_le _, Nat.zero_le _, fun h => by have := HC1.out h; simp only [smL]; omega, B1.out⟩
 case round =>
  obtain ⟨k, c, rfl, rfl, hk, hc, HS, hB⟩ := hrel
  have HB := aside hB
  clear hB
  by_cases hlt : (k : Int) < (m : Int)
  ·have hk0 : (0 : Int) ≤ (k : Int) := by omega
   obtain ⟨hcell, hE⟩ := HL.out k (by omega)
   have HE := aside hE
   have HCL := aside hcell
   have HLK := aside (show smL ln (k + 1) = smL ln k + ln k from rfl)
   obtain ⟨s0, hs0⟩ : ∃ s0, smL ln k = s0 := ⟨_, rfl⟩
   rw [hs0] at HS HLK
   clear hs0
   generalize ad k = a at *
   obtain ⟨n, hn⟩ : ∃ n, ln k = n := ⟨_, rfl⟩
   rw [hn] at HE HCL HLK
   generalize cp k = cpk at *
   generalize T k = Tk at *
   have hmx : (n : Int) ≤ 9223372036854775807 := by have h1 := HE.out.1; have h2 := HE.out.2.1; unfold maxLen at h2; omega
   clear hcell hE hn
   go_wp2
   go_loopw [5, 7] (fun u i wr => ∃ (j c : Nat), u = .int .i64 (c : Int) ∧ i = .int .i64 (j : Int) ∧ j ≤ n ∧ 0 ≤ c ∧ Hid (c ≤ 536870912 → W0 + (s0 + j) ≤ c) ∧ Below w.heap.size w wr) (fun _ i _ => n - (intOf i).toNat)
   case atStart => exact ⟨0, c, rfl, rfl, Nat.zero_le _, hc, HS.out, HB.out⟩
   case round =>
    obtain ⟨j, c, rfl, rfl, hj, hc, HS2, hB⟩ := hrel
    have HB2 := aside hB
    clear hB
    have gcell := cell_in HCL.out HB2.out
    by_cases hjl : (j : Int) < (n : Int)
    ·have hj0 : (0 : Int) ≤ (j : Int) := by omega
     by_cases hle : (c : Int) ≤ 536870912
     ·rcases HE.out.2.2 with h0 | ⟨b, off, rfl, -, -⟩
      ·omega
      obtain ⟨t, ht⟩ : ∃ t, Tk j = t := ⟨_, rfl⟩
      have FV := aside (ents_five (HE.out.keep HB2.out) (by omega) ht)
      obtain ⟨c0, -, -, c3, -⟩ := FV.out
      clear ht
      go_wp2_with fail
      refine wp_region_held_drew (S := fun W => Below w.heap.size w W ∧ W.cell? ⟨gb, k, none⟩ = some (.slice (some ⟨b, off, none⟩) n cpk) ∧ W.cell? ⟨b, off + j * 5, none⟩ = some (.string t.k) ∧ W.cell? ⟨b, off + j * 5 + 3, none⟩ = some (.string t.v)) (by kernel_rfl) ⟨HB2.out.drew, gcell, c0, c3⟩ (fun hHeld => ?_)
      refine tk 0 rfl _ ?_; refine tk 1 rfl _ ?_; refine tk 2 rfl _ ?_; refine tk 3 rfl _ ?_; refine tk 4 rfl _ ?_; refine tk 5 rfl _ ?_; refine tk 6 rfl _ ?_; refine tk 7 rfl _ ?_; refine tk 8 rfl _ ?_; refine tk 9 rfl _ ?_; refine tk 10 rfl _ ?_; refine tk 11 rfl _ ?_; refine tk 12 rfl _ ?_; refine tk 13 rfl _ ?_; refine tk 14 rfl _ ?_; refine tk 15 rfl _ ?_; refine tk 16 rfl _ ?_; refine tk 17 rfl _ ?_; refine tk 18 rfl _ ?_; refine tk 19 rfl _ ?_; refine tk 20 rfl _ ?_; refine tk 21 rfl _ ?_; refine tk 22 rfl _ ?_; refine tk 23 rfl _ ?_; refine tk 24 rfl _ ?_
      refine wpAnyH_done (by kernel_rfl) ?_ _
      have HB3 := aside hHeld.1
      clear hHeld c0 c3 gcell
      go_wp2
      go_roundw
      case rel => exact ⟨j + 1, c + (1 + (min t.k.size 1073741824 + min t.v.size 1073741824)), by_step c _ _ (by omega), by push_cast; rfl, by omega, by omega, fun h => by have := HS2.out (by omega); omega, HB3.out⟩
      case measure => simp [intOf]; omega
     ·go_wp2
      go_roundw
      case rel => exact ⟨k + 1, c, rfl, by push_cast; rfl, by omega, hc, fun h => by omega, HB2.out⟩
      case measure => simp [intOf]; omega
    ·have hjn : j = n := by omega
     go_wp2
     go_roundw
     case rel => exact ⟨k + 1, c, rfl, by push_cast; rfl, by omega, hc, fun h => by have := HS2.out h; rw [HLK.out]; omega, HB2.out⟩
     case measure => simp [intOf]; omega
  ·have hkl : k = m := by omega
   subst hkl
   go_wp2
   go_ret
   exact ⟨decide ((536870912 : Int) < (c : Int)), rfl, fun hq => by simp at hq; have := HS.out (by omega); omega, HB.out⟩
set_option maxHeartbeats 3200000 in
set_option maxRecDepth 100000 in
theorem one_any (p : Pm) (w : World) (h : p.In w) :
    Calls Tryz.prog 19 #[.agg #[.int .i64 p.kind, .string p.lo, .string p.hi, .bool p.op, .int .i64 p.cnt, .int .u64 p.s0, .int .u64 p.s1, .slice p.ea p.el p.ec]] w fun e w' => ∃ g c, e = .returned (.slice (some ⟨g, 0, none⟩) 1 c) ∧ PartsIn w' (some ⟨g, 0, none⟩) 1 c (fun _ => p) ∧ w.heap.size ≤ g ∧ Below w.heap.size w w' := by
 have B0 := aside (bnew w (.cells #[.int .i64 p.kind, .string p.lo, .string p.hi, .bool p.op, .int .i64 p.cnt, .int .u64 p.s0, .int .u64 p.s1, .slice p.ea p.el p.ec] 47))
 have K0 := aside (heap_alloc_new w (.cells #[.int .i64 p.kind, .string p.lo, .string p.hi, .bool p.op, .int .i64 p.cnt, .int .u64 p.s0, .int .u64 p.s1, .slice p.ea p.el p.ec] 47))
 have HP := aside h
 clear h
 obtain ⟨w0, hw0⟩ : ∃ w0, w.alloc (.cells #[.int .i64 p.kind, .string p.lo, .string p.hi, .bool p.op, .int .i64 p.cnt, .int .u64 p.s0, .int .u64 p.s1, .slice p.ea p.el p.ec] 47) = w0 := ⟨_, rfl⟩
 rw [hw0] at B0 K0
 have OE := aside (ownP_empty w0 w.heap.size B0.out.size)
 have KE := aside (blk_on K0.out (bnew w0 (.cells #[] 47)))
 have BE := aside (bthen B0.out (bnew w0 (.cells #[] 47)))
 clear K0
 obtain ⟨w1, hw1⟩ : ∃ w1, w0.alloc (.cells #[] 47) = w1 := ⟨_, rfl⟩
 rw [hw1] at OE KE BE
 obtain ⟨p0, p1, p2, p3, p4, p5, p6, p7⟩ := oct KE.out
 have PI := aside (show PartsIn (w1.alloc (.cells #[.int .i64 p.kind, .string p.lo, .string p.hi, .bool p.op, .int .i64 p.cnt, .int .u64 p.s0, .int .u64 p.s1, .slice p.ea p.el p.ec] 47)) (some ⟨w1.heap.size, 0, none⟩) 1 1 (fun _ => p) from ⟨Nat.le_refl _, by unfold maxLen; omega, .inr ⟨w1.heap.size, 0, rfl, by simp, fun i hi => ⟨by
  obtain rfl : i = 0 := by omega
  exact oct (heap_alloc_new w1 (.cells #[.int .i64 p.kind, .string p.lo, .string p.hi, .bool p.op, .int .i64 p.cnt, .int .u64 p.s0, .int .u64 p.s1, .slice p.ea p.el p.ec] 47)), HP.out.keep (bthen BE.out (bnew w1 _))⟩⟩⟩)
 go_enter Tryz.func19, Tryz.ntmps19
 go_wp2_with (at_builtin; go_loud (refine wpList_plain rfl fun K hK => op_append_parts (V := w) _ _ rfl 0 _ [] (by rfl) (OE.out.alloc _) ⟨w1.heap.size, 0, none⟩ 1 1 (fun _ => p) (by rfl) PI.out (by omega) (bthen BE.out (bnew w1 _)) ?_); intro v4 w4 own4 b4 gr4; refine hK _ _ ?_; refine Hid.out ?_)
 refine aside ?_
 rw [show ([] : List Pm) ++ firstP (fun _ => p) 1 = firstP (fun _ => p) 1 from rfl] at own4
 rcases own4.2 with ⟨_, h9⟩ | ⟨g, cap, cur, rfl, h2, h3⟩
 ·omega
 have O4 := aside own4
 have B4 := aside b4
 have HG := aside h2
 clear own4 b4 gr4 h2 h3 p0 p1 p2 p3 p4 p5 p6 p7
 go_wp2
 go_ret
 exact ⟨g, cap, rfl, parts_of_row O4.out (fun i hi => HP.out.keep B4.out), HG.out, B4.out⟩
end Go.Proofs.YtpbkjffiohfkcaaGreatDoor
