/-
  Split of a store: the keys that it holds in a range, and the ranges that are cut at them.
-/
import Derived.Test.YtpbkjffiohfkcaaGreatDoorBr26
import Derived.Test.YtpbkjffiohfkcaaGreatDoorBr41
import Derived.Test.YtpbkjffiohfkcaaGreatDoorBr19
import Derived.Test.YtpbkjffiohfkcaaGreatDoorBr33
import Derived.Test.YtpbkjffiohfkcaaGreatDoorBr38
import Derived.Test.YtpbkjffiohfkcaaGreatDoorBr37
import Derived.Test.YtpbkjffiohfkcaaGreatDoorBr28
import Derived.Test.YtpbkjffiohfkcaaGreatDoorBr29
namespace Go.Proofs.YtpbkjffiohfkcaaGreatDoor
open Go.RowKit Go.Shelf
set_option linter.unusedVariables false
attribute [local go_sem] Oper.semAt_some
structure LstS (B : Nat) (vb : Nat) (l : List ByteArray) (X : World) : Prop where
 ex : ∃ v, X.heap[vb]? = some (.cells #[v] 143 (0, 0)) ∧ X.ownsRow B 9 1 v l.length (strCells l)
theorem LstS.own {B vb : Nat} {l : List ByteArray} {A X : World} {row : Option Nat} (h : LstS B vb l A) (hg : A.grownBy X row) (hr : ∀ r, row = some r → ∃ o : Obj, A.heap[r]? = some o ∧ o.isCells = false) : LstS B vb l X := by
 obtain ⟨v, h1, h2⟩ := h.ex
 exact ⟨v, cells_own h1 hg hr, ownsRow_own h2 hg hr⟩
theorem row_blkS {X : World} {B n : Nat} {v : Value} {xs : List Value} (h : X.ownsRow B 9 1 v n xs) {r : Nat} (hr : v.ownBlock = some r) : B ≤ r ∧ ∃ cs, X.heap[r]? = some (.cells cs 9 (0, 0)) := by
 rcases h.2 with ⟨rfl, -⟩ | ⟨g, cap, cur, rfl, hb, hgk, -⟩
 ·cases hr
 ·cases hr; exact ⟨hb, _, hgk⟩
theorem lst_stepS {w X X1 : World} {vb C : Nat} {l : List ByteArray} {x : ByteArray} {v v' : Value} {o : Obj} (hB : Below w.heap.size w X) (hvb : w.heap.size ≤ vb) (h1 : X.heap[vb]? = some (.cells #[v] 143 (0, 0))) (h2 : X.ownsRow w.heap.size 9 1 v l.length (strCells l))
    (ho : X1.ownsRow w.heap.size 9 1 v' (l.length + 1) (strCells l ++ [.string x])) (hg : (X.alloc o).grownBy X1 v.ownBlock) :
    X1.heap[vb]? = some (.cells #[v] 143 (0, 0)) ∧ LstS w.heap.size vb (l ++ [x]) (X1.setCell ⟨vb, 0, none⟩ v') ∧ Below w.heap.size w (X1.setCell ⟨vb, 0, none⟩ v') ∧ KeepsFrom C X (X1.setCell ⟨vb, 0, none⟩ v') ∧ KpT X (X1.setCell ⟨vb, 0, none⟩ v') := by
 have hne : some vb ≠ v.ownBlock := fun e => by
  obtain ⟨-, cs, h3⟩ := row_blkS h2 e.symm
  rw [h1] at h3; simp at h3
 have hvb1 : X1.heap[vb]? = some (.cells #[v] 143 (0, 0)) := by
  rw [hg.block vb (by have := lt_of_blk h1; simp; omega) hne]
  exact blk_on h1 (bnew _ _)
 have st : ∀ T, T ≠ 9 → T ≠ 143 → Stay T X (X1.setCell ⟨vb, 0, none⟩ v') := fun T n1 n2 => by
  refine (((Stay.refl T X).alloc o).grown hg ?_).setCell _ (fun cs e => by dsimp only at e; rw [hvb1] at e; simp at e; exact n2 e.2.symm)
  intro r e cs hcs
  obtain ⟨-, cs', h3⟩ := row_blkS h2 e
  rw [blk_on h3 (bnew _ _)] at hcs
  simp at hcs
  exact n1 hcs.2.symm
 refine ⟨hvb1, ⟨v', by rw [heap_setCell_same X1 vb 0 _ _ v' hvb1]; rfl, ?_⟩, ?_, ?_, st _ (by decide) (by decide), st _ (by decide) (by decide), st _ (by decide) (by decide)⟩
 ·have e : strCells (l ++ [x]) = strCells l ++ [.string x] := by simp [strCells]
  rw [List.length_append, e]
  refine ownsRow_keep (S := fun i => i = vb) ho ((Keeps.refl (fun i => i = vb) X1).setCell (p := ⟨vb, 0, none⟩) (fun _ => rfl) _) (fun j e1 e2 => ?_)
  subst e2
  obtain ⟨-, cs, h3⟩ := row_blkS ho e1
  rw [hvb1] at h3; simp at h3
 ·exact (((hB.alloc hB.size o).grown hg (by have := hB.size; simp; omega) (fun j e => (row_blkS h2 e).1)).setCell (p := ⟨vb, 0, none⟩) hvb _)
 ·have k1 : KeepsFrom C (X.alloc o) X1 := ⟨hg.size, fun i ob _ hi hob => (hg.block i (Array.getElem?_eq_some_iff.1 hi).1 (fun e => by
    obtain ⟨-, cs, h3⟩ := row_blkS h2 e.symm
    rw [blk_on h3 (bnew _ _)] at hi
    injection hi with hi
    subst hi
    cases hob)).trans hi⟩
  exact ((KeepsFrom.of_grownBy (World.grownBy_alloc X o none) (fun j e => by cases e)).trans k1).trans ((KeepsOthers.setCell _ _ _).from _)
theorem infoStrS : (Tryz.prog.info? 9).map (fun i => (i.zero, i.size, i.bytes)) = some (some (.string ⟨#[]⟩), 1, 16) := by kernel_rfl
def nthS (l : List ByteArray) (i : Nat) : ByteArray := l.getD i ⟨#[]⟩
theorem upto_nth (l : List ByteArray) : strUpto (nthS l) l.length = l := by
 apply List.ext_getElem?
 intro i
 by_cases h : i < l.length
 ·simp [strUpto, nthS, h]
 ·simp [strUpto, h]
theorem strs_row {w : World} {B n : Nat} {a : Option Addr} {c : Nat} {l : List ByteArray} (h : w.ownsRow B 9 1 (.slice a n c) n (strCells l)) (hl : l.length = n) (hn : n ≤ 1000000) : StrsIn w.heap.size w a n c (nthS l) := by
 obtain ⟨_, _, e1, h2, h3, hf⟩ := own_slice h
 injection e1 with e1 _ e3
 subst e1 e3
 rcases hf with ⟨rfl, rfl, rfl⟩ | ⟨g, rfl, -⟩
 ·exact ⟨Nat.le_refl _, Nat.zero_le _, .inl rfl⟩
 ·refine strs_own (B := B) ?_ (by omega)
  rw [← hl, upto_nth, hl]
  exact h
def keysR (T : Tr En Tl) (lo hi : ByteArray) (op : Bool) (Ls : List En) : List ByteArray := (spanL T (belE lo Ls : Int) (endE hi op Ls : Int)).map (fun r => r.k)
set_option maxHeartbeats 8000000 in
set_option maxRecDepth 100000 in
theorem ssplit (lo hi : ByteArray) (op : Bool) (p : Int) {Ls : List En} {w : World} {sb g tb : Nat} {nd ck : Int} {T : Tr En Tl} {n : Nat} (h : IsSt w sb g tb nd ck T n) (hH : Hol T Ls) (hl : Ls.length ≤ 1000000) (R : World → Value → Int → World → Prop)
    (hown : ∀ V v c (X : World) (D : Nat), R V v c X → V.heap.size ≤ X.heap.size → X.heap[D]? = some (.deferred (some [])) → R V v c (X.putObj D (.deferred none)))
    (hC : ∀ (W : World) (a : Option Addr) (m c : Nat), Below w.heap.size w W → StrsIn W.heap.size W a m c (nthS (keysR T lo hi op Ls)) → (keysR T lo hi op Ls).length = m → Calls Tryz.prog 118 #[.agg #[.string lo, .string hi, .bool op], .slice a m c, .int .i64 p] W fun e W' => ∃ v c, e = .returned (.tuple #[v, .int .i64 c]) ∧ R W v c W' ∧ Below W.heap.size W W') :
    Calls Tryz.prog 94 #[.pointer (some ⟨sb, 0, none⟩), .agg #[.string lo, .string hi, .bool op], .int .i64 p] w fun e w' => ∃ W v c, e = .returned (.tuple #[v, .int .i64 c]) ∧ R W v c w' ∧ w.heap.size ≤ W.heap.size ∧ Below w.heap.size w w' := by
 have B0 := aside (bnew w (.cells #[.string lo, .string hi, .bool op] 40))
 have K0 := aside (heap_alloc_new w (.cells #[.string lo, .string hi, .bool op] 40))
 have H := aside (h.below B0.out)
 have CR := aside (fun (W : World) (h : IsSt W sb g tb nd ck T n) => srows lo hi op h hH hl)
 have HH := aside hH
 have HLE := aside hl
 have HC := aside hC
 clear h hH hl hC
 refine (callsIn_wide (n := 7)).1 ?_
 refine callsIn_of_wp_marks Tryz.func94 rfl trivial ?_ rfl
 simp only [Tryz.ntmps94, List.size_toArray, List.length_cons, List.length_nil, Nat.reduceAdd, Nat.reduceSub, Array.replicate_succ, Array.replicate_zero, List.push_toArray, List.append_toArray, List.nil_append, List.cons_append]
 obtain ⟨r0, r1, r2, -⟩ := tri K0.out
 gi_wp2_with fail
 refine ⟨trivial, ?_⟩
 refine (callsIn_wide.2 (CR.out _ H.out)).mono ?_
 rintro e w1 ⟨rfl, b1⟩
 replace B0 := aside (bthen B0.out b1)
 replace K0 := aside (blk_on K0.out b1)
 replace H := aside (H.out.below b1)
 obtain ⟨rb, hrb⟩ : ∃ rb, w.heap.size = rb := ⟨_, rfl⟩
 have HRB := aside hrb
 rw [hrb] at K0 ⊢
 have bV := bnew w1 (.cells #[.slice none 0 0] 143)
 have KV := aside (heap_alloc_new w1 (.cells #[.slice none 0 0] 143))
 replace B0 := aside (bthen B0.out bV)
 replace K0 := aside (blk_on K0.out bV)
 replace H := aside (H.out.below bV)
 obtain ⟨vb, hvb⟩ : ∃ vb, w1.heap.size = vb := ⟨_, rfl⟩
 have HVB := aside (show w.heap.size ≤ vb from by rw [← hvb]; have h1 := b1.size; rw [World.size_alloc] at h1; omega)
 obtain ⟨-, -, -, c3, -⟩ := quad H.out.blk
 obtain ⟨pp, ht, hT⟩ := H.out.tree
 have HT := aside hT
 have CS := aside (yspan (belE lo Ls : Int) (endE hi op Ls : Int) ht)
 clear b1 bV r0 r1 r2 hrb ht hT CR
 gi_wp2_with fail
 refine ⟨trivial, ?_⟩
 refine (callsIn_wide.2 (CS.out)).mono ?_
 rintro e w3 ⟨lbS, rfl, hs, b3⟩
 have HS := aside hs
 rw [hvb] at KV
 replace KV := aside (blk_on KV.out b3)
 replace K0 := aside (blk_on K0.out b3)
 replace B0 := aside (bthen B0.out b3)
 replace HT := aside (HT.out.on (fun _ _ e => blk_on e b3))
 clear hs b3 CS c3 hvb H
 gi_wp2_with fail
 have hcn := HH.out.cnt
 have hle := HLE.out
 have hsp : (spanL T (belE lo Ls : Int) (endE hi op Ls : Int)).length ≤ 1000000 := by
  unfold spanL seg
  have := Tr.rows_length T
  simp only [List.length_drop, List.length_take]
  omega
 have HSP := aside hsp
 have SQ := aside (SeqO.of_stops fun n => span1 (Kp := KpT) HS.out HT.out (by omega) (by have := endE_le hi op Ls; omega) (Nat.le_refl _) (fun A B h => h.1))
 have I0 := aside (show LstS w.heap.size vb [] w3 from ⟨.slice none 0 0, KV.out, ⟨rfl, .inl ⟨rfl, rfl⟩⟩⟩)
 have HVV := aside (show w.heap.size ≤ w3.heap.size from B0.out.size)
 have K0V := aside K0.out
 have HKS := aside (show keysR T lo hi op Ls = (spanL T (belE lo Ls : Int) (endE hi op Ls : Int)).map (fun r => r.k) from rfl)
 clear hcn hle hsp KV
 have ownI : OwnFrom w3.heap.size (fun (pre : List (Rw En Tl)) X => LstS w.heap.size vb (pre.map (fun r => r.k)) X ∧ X.heap[rb]? = some (.cells #[.string lo, .string hi, .bool op] 40 (0, 0)) ∧ Below w.heap.size w X) := fun s A Y row hs hg hr =>
  ⟨hs.1.own hg (fun r e => (hr r e).2), cells_own hs.2.1 hg (fun r e => (hr r e).2), ownFrom_below (β := Unit) (Nat.le_refl w.heap.size) HVV.out () A Y row hs.2.2 hg hr⟩
 refine rangeO rfl (enters_of Tryz.func124 (by kernel_rfl) rfl) SQ.out KpT.t (fun W l o o' _ h ho => KpT.b W l o o' h ho) (Below.refl _ _) (fun _ => rfl)
  (fun (pre : List (Rw En Tl)) X => LstS w.heap.size vb (pre.map (fun r => r.k)) X ∧ X.heap[rb]? = some (.cells #[.string lo, .string hi, .bool op] 40 (0, 0)) ∧ Below w.heap.size w X) (fun _ _ _ => False) ownI (fun _ _ _ _ _ h => h.elim) ⟨I0.out, K0.out, B0.out⟩
  (fun x a' X => a' = ⟨#[.pointer (some ⟨sb, 0, none⟩), .agg #[.string lo, .string hi, .bool op], .int .i64 p, undef, .pointer (some ⟨rb, 0, none⟩), undef, .slice none 0 0, .int .i64 0, .int .i64 (belE lo Ls : Int), .int .i64 (endE hi op Ls : Int), .pointer (some ⟨vb, 0, none⟩), .string x.k, .tuple #[.int .i64 (belE lo Ls : Int), .int .i64 (endE hi op Ls : Int)], .pointer (some ⟨sb, 0, none⟩), .agg #[.string lo, .string hi, .bool op], .tuple #[.int .i64 (belE lo Ls : Int), .int .i64 (endE hi op Ls : Int)], .int .i64 (belE lo Ls : Int), .int .i64 (endE hi op Ls : Int), .pointer (some ⟨sb, 0, none⟩), .pointer (some ⟨sb, 0, none⟩), .pointer (some ⟨sb, 3, none⟩), .pointer (some ⟨tb, 0, none⟩), .int .i64 (belE lo Ls : Int), .int .i64 (endE hi op Ls : Int), .func (.func 124) #[] lbS, .string x.k, .agg #[.string x.v.k, .int .i64 x.v.c, .int .i64 x.v.n, .string x.v.v, .bool x.v.d], undef, undef, undef, undef, undef, undef, undef, undef, undef, undef], []⟩)
  (fun x a' _ A Y row hs hg hr => hs) ?assign ?body ?done ?stop
 case assign =>
  intro l' pre x X K hi hK
  dsimp only [encs2]
  gi_wp2
  exact hK _ _ (KeepsFrom.refl _ _) (KpT.refl X) hi rfl
 case body =>
  rintro l' pre x a' X ⟨hls, hk0, hbx⟩ rfl hlen
  obtain ⟨v, hv, ho⟩ := hls.ex
  obtain ⟨i0, hi0, hz0, hz1, hz2⟩ := info_parts infoStrS
  have v0 := cell_one hv
  have HV := aside hv
  have HO := aside ho
  have HB := aside hbx
  have HK0 := aside hk0
  have HLN := aside (show (pre.map (fun r => r.k)).length ≤ 1000000 from by have := HSP.out; rw [List.length_map]; omega)
  have HI := aside hi0
  obtain ⟨ks, hks⟩ : ∃ ks, pre.map (fun r => r.k) = ks := ⟨_, rfl⟩
  have HKN := aside (show (pre ++ [x]).map (fun r => r.k) = ks ++ [x.k] from by rw [List.map_append, hks]; rfl)
  rw [hks] at HO HLN
  clear hls hv ho hbx hlen hi0 hk0 hks
  gi_wp2_with (gi_at_builtin; go_loud (refine wpListIn_append_own _ rfl _ _ _ rfl w.heap.size 9 i0 (.string ⟨#[]⟩) 1 16 Tryz.underlying143 HI.out hz0 hz1 hz2 rfl (by decide) v ks.length (strCells ks) (by rfl) (HO.out.alloc _) ⟨X.heap.size, 0, none⟩ 1 1 [.string x.k] (by rfl) (by rfl) (World.news_of_block (cs := #[.string x.k]) (t := 9) (fr := (0, 0)) (heap_alloc_new X _)) (by intro u hu; rw [List.mem_singleton] at hu; subst hu; rfl) (by have := HLN.out; unfold maxLen; omega) (by have := HLN.out; omega) (by have := HB.out.size; simp; omega) ?_); intro v' X2 hown1 hgrow hiff; refine Hid.out ?_)
  refine aside ?_
  obtain ⟨g', cap', rfl⟩ : ∃ g' cap', v' = .slice (some ⟨g', 0, none⟩) (ks.length + 1) cap' := by
   rcases hown1.2 with ⟨_, h⟩ | ⟨g', cap', cur, e, _⟩
   ·omega
   ·exact ⟨g', cap', e⟩
  have ST := aside (lst_stepS (x := x.k) (C := w3.heap.size) HB.out HVB.out HV.out HO.out hown1 hgrow)
  have KB := aside (show (X2.setCell ⟨vb, 0, none⟩ (.slice (some ⟨g', 0, none⟩) (ks.length + 1) cap')).heap[rb]? = some (.cells #[.string lo, .string hi, .bool op] 40 (0, 0)) from by
   rw [Below.heap_setCell _ _ _ _ (fun e => by subst e; rw [HK0.out] at HV; simp at HV; exact absurd HV.out (by simp))]
   rw [hgrow.block rb (by have := lt_of_blk HK0.out; simp; omega) (fun e => by obtain ⟨-, cs, h3⟩ := row_blkS HO.out e.symm; rw [HK0.out] at h3; simp at h3)]
   exact blk_on HK0.out (bnew _ _))
  have v1 := cell_one ST.out.1
  have z1 := frozen_one ST.out.1
  clear hown1 hgrow hiff v0
  gi_wp2
  exact ⟨ST.out.2.2.2.1, ST.out.2.2.2.2, by rw [HKN.out]; exact ST.out.2.1, KB.out, ST.out.2.2.1⟩
 case done =>
  rintro D xs X hD rfl ⟨hls, hk0, hbx⟩ hK
  rw [← HKS.out] at hls
  obtain ⟨v, hv, ho⟩ := hls.ex
  obtain ⟨a, c, rfl, -⟩ := own_slice ho
  have v0 := cell_one hv
  obtain ⟨r0, r1, r2, -⟩ := tri hk0
  have HLK := aside (show (keysR T lo hi op Ls).length ≤ 1000000 from by have := HSP.out; rw [HKS.out, List.length_map]; exact this)
  have HST := aside (strs_row ho rfl HLK.out)
  have HBX := aside hbx
  have HKD := aside hK
  obtain ⟨m, hm⟩ : ∃ m, (keysR T lo hi op Ls).length = m := ⟨_, rfl⟩
  have HM := aside hm
  rw [hm] at v0 HST
  clear hls hv ho hbx hK hm hk0
  gi_wp2_with fail
  refine ⟨trivial, ?_⟩
  refine (callsIn_wide.2 (HC.out _ a m c HBX.out HST.out HM.out)).mono ?_
  rintro e Y ⟨v, c, rfl, hr, b5⟩
  have HR := aside hr
  have B5 := aside b5
  have HKY := aside (blk_on HKD.out b5)
  clear hr b5 v0 r0 r1 r2
  gi_wp2
  refine ⟨by simp, .inl ⟨_, _, rfl, run_takeDeferred HKY.out, ?_⟩⟩
  refine ⟨.tuple #[v, .int .i64 c], by simp [results, Tryz.f94, go_sem], X, v, c, rfl, hown _ _ _ _ _ HR.out B5.out.size HKY.out, HBX.out.size, ?_⟩
  exact ownFrom_below (β := Unit) (Nat.le_refl w.heap.size) HVV.out () Y _ (some D) (bthen HBX.out B5.out) (grownBy_putObj' Y D (.deferred none)) (fun r e => by cases e; exact ⟨hD, _, HKY.out, rfl⟩)
 case stop =>
  rintro D c pre X hD _ h
  exact h.elim
end Go.Proofs.YtpbkjffiohfkcaaGreatDoor
namespace Go.Proofs.YtpbkjffiohfkcaaGreatDoor
open Go.RowKit
set_option linter.unusedVariables false
structure Pq where
 kind : Int
 lo : ByteArray
 hi : ByteArray
 op : Bool
 t : Tl
 es : List En
def Pq.pm (q : Pq) (a : Option Addr) (c : Nat) : Pm := ⟨q.kind, q.lo, q.hi, q.op, q.t.n, q.t.a, q.t.b, a, q.es.length, c, nthE q.es⟩
def QAt (B : Nat) (w : World) (m : Pm) (q : Pq) : Prop := m = q.pm m.ea m.ec ∧ w.ownsRow B 77 5 (.slice m.ea q.es.length m.ec) q.es.length (entCells q.es)
def Told (B : Nat) (v : Value) (l : List Pq) (w : World) : Prop :=
 ∃ ms : List Pm, w.ownsRow B 47 8 v ms.length (ptCells ms) ∧ ms.length = l.length ∧ ∀ (i : Nat) (m : Pm) (q : Pq), ms[i]? = some m → l[i]? = some q → QAt B w m q
theorem own_keep {w w' : World} {S : Nat → Prop} {B : Nat} {e : TypeId} {s : Nat} {v : Value} {n : Nat} {xs : List Value} (h : w.ownsRow B e s v n xs) (k : Keeps S w w') (hn : ∀ i cs, w.heap[i]? = some (.cells cs e (0, 0)) → ¬ S i) : w'.ownsRow B e s v n xs := by
 refine ⟨h.1, ?_⟩
 rcases h.2 with h5 | ⟨g2, cap, cur, e1, e2, e3, e4⟩
 ·exact .inl h5
 ·exact .inr ⟨g2, cap, cur, e1, e2, blk_keep e3 k (hn _ _ e3), e4⟩
theorem QAt.keep {w w' : World} {S : Nat → Prop} {B : Nat} {m : Pm} {q : Pq} (h : QAt B w m q) (k : Keeps S w w') (hn : ∀ i cs, w.heap[i]? = some (.cells cs 77 (0, 0)) → ¬ S i) : QAt B w' m q := ⟨h.1, own_keep h.2 k hn⟩
theorem Told.keep {w w' : World} {S : Nat → Prop} {B : Nat} {v : Value} {l : List Pq} (h : Told B v l w) (k : Keeps S w w') (hp : ∀ i cs, w.heap[i]? = some (.cells cs 47 (0, 0)) → ¬ S i) (hn : ∀ i cs, w.heap[i]? = some (.cells cs 77 (0, 0)) → ¬ S i) : Told B v l w' := by
 obtain ⟨ms, h1, h2, h3⟩ := h
 exact ⟨ms, own_keep h1 k hp, h2, fun i m q e1 e2 => (h3 i m q e1 e2).keep k hn⟩
theorem Told.keepS {B : Nat} {v : Value} {l : List Pq} {w w' : World} {sb g tb : Nat} {nd ck : Int} {Ls : List En} (h : Told B v l w) (hs : Sto w sb g tb nd ck Ls) (k : Keeps (Of sb g tb) w w') : Told B v l w' :=
 h.keep k (fun i cs e => hs.not e (by decide) (by decide) (by decide)) (fun i cs e => hs.not e (by decide) (by decide) (by decide))
theorem Told.keepD {B : Nat} {v : Value} {l : List Pq} {w w' : World} {D db : Nat} {nd ck : Int} {Ls : List En} (h : Told B v l w) (hs : DSt w D db nd ck Ls) (k : Keeps (fun x => x = db) w w') : Told B v l w' :=
 h.keep k (fun i cs e => hs.other e (by decide)) (fun i cs e => hs.other e (by decide))
theorem Told.below {B : Nat} {v : Value} {l : List Pq} {w w' : World} (h : Told B v l w) (b : Below w.heap.size w w') : Told B v l w' := by
 obtain ⟨ms, h1, h2, h3⟩ := h
 exact ⟨ms, own_on h1 b, h2, fun i m q e1 e2 => ⟨(h3 i m q e1 e2).1, own_on (h3 i m q e1 e2).2 b⟩⟩
theorem Told.low {B C : Nat} {v : Value} {l : List Pq} {w : World} (h : Told B v l w) (b : C ≤ B) : Told C v l w := by
 obtain ⟨ms, h1, h2, h3⟩ := h
 exact ⟨ms, own_low h1 b, h2, fun i m q e1 e2 => ⟨(h3 i m q e1 e2).1, own_low (h3 i m q e1 e2).2 b⟩⟩
theorem Told.zero (B : Nat) (w : World) : Told B (.slice none 0 0) [] w :=
 ⟨[], ⟨rfl, .inl ⟨rfl, rfl⟩⟩, rfl, fun i m q e1 e2 => by simp at e1⟩
theorem Told.emp {B : Nat} {v : Value} {w : World} (h : w.ownsRow B 47 8 v 0 (ptCells [])) : Told B v [] w :=
 ⟨[], h, rfl, fun i m q e1 e2 => by simp at e1⟩
theorem Told.single {B g : Nat} {q : Pq} {a : Option Addr} {c : Nat} {w : World} (h : w.heap[g]? = some (.cells #[.int .i64 q.kind, .string q.lo, .string q.hi, .bool q.op, .int .i64 q.t.n, .int .u64 q.t.a, .int .u64 q.t.b, .slice a q.es.length c] 47 (0, 0))) (hB : B ≤ g) (he : w.ownsRow B 77 5 (.slice a q.es.length c) q.es.length (entCells q.es)) : Told B (.slice (some ⟨g, 0, none⟩) 1 1) [q] w := by
 refine ⟨[q.pm a c], ⟨rfl, .inr ⟨g, 1, _, rfl, hB, h, Nat.le_refl _, by unfold maxLen; omega, rfl, rfl⟩⟩, rfl, fun i m q' e1 e2 => ?_⟩
 match i, e1, e2 with
 | 0, e1, e2 =>
  simp at e1 e2
  subst e1 e2
  exact ⟨rfl, he⟩
 | i + 1, e1, e2 => simp at e1
theorem firstP_nthP (l : List Pm) : firstP (nthP l) l.length = l := by
 apply List.ext_getElem?
 intro i
 by_cases h : i < l.length
 ·unfold firstP; rw [List.getElem?_map, List.getElem?_range h]; exact (nthP_get h).symm
 ·rw [List.getElem?_eq_none (by rw [firstP_len]; omega), List.getElem?_eq_none (by omega)]
theorem Told.append {B : Nat} {v v1 v2 : Value} {l l' : List Pq} {ms ms' : List Pm} {w : World} (h : w.ownsRow B 47 8 v (ms.length + ms'.length) (ptCells (ms ++ ms'))) (h1 : ms.length = l.length) (h2 : ms'.length = l'.length) (g1 : ∀ (i : Nat) (m : Pm) (q : Pq), ms[i]? = some m → l[i]? = some q → QAt B w m q) (g2 : ∀ (i : Nat) (m : Pm) (q : Pq), ms'[i]? = some m → l'[i]? = some q → QAt B w m q) : Told B v (l ++ l') w := by
 refine ⟨ms ++ ms', by rw [List.length_append]; exact h, by rw [List.length_append, List.length_append, h1, h2], fun i m q e1 e2 => ?_⟩
 by_cases hi : i < ms.length
 ·rw [List.getElem?_append_left hi] at e1
  rw [List.getElem?_append_left (by omega)] at e2
  exact g1 i m q e1 e2
 ·rw [List.getElem?_append_right (by omega)] at e1
  rw [List.getElem?_append_right (by omega), ← h1] at e2
  exact g2 _ m q e1 e2
theorem QAt.in {B : Nat} {w : World} {m : Pm} {q : Pq} (h : QAt B w m q) (hk : KeysOk q.es) : m.In w := by
 obtain ⟨h1, h2⟩ := h
 obtain ⟨a, c, e, h3⟩ := own_ents h2 hk
 injection e with e1 e2 e3
 subst e1 e3
 rw [h1]
 exact h3
theorem Told.parts {B : Nat} {v : Value} {l : List Pq} {w : World} (h : Told B v l w) (hk : ∀ q ∈ l, KeysOk q.es) : ∃ a c ms, v = .slice a l.length c ∧ PartsIn w a l.length c (nthP ms) ∧ ms.length = l.length ∧ (∀ i, i < l.length → ∃ q ea ec, l[i]? = some q ∧ nthP ms i = q.pm ea ec) ∧ ((a = none ∧ l.length = 0 ∧ c = 0) ∨ ∃ y, a = some y) := by
 obtain ⟨ms, h1, h2, h3⟩ := h
 obtain ⟨a, c, rfl, g1, g2, g3⟩ := own_slice h1
 rw [h2] at h1 g1 g3 ⊢
 have hm : ∀ i, i < l.length → ∃ q, l[i]? = some q ∧ QAt B w (nthP ms i) q := fun i hi => ⟨l[i], List.getElem?_eq_getElem hi, h3 i _ _ (nthP_get (by omega)) (List.getElem?_eq_getElem hi)⟩
 refine ⟨a, c, ms, rfl, ?_, h2, fun i hi => ?_, ?_⟩
 ·rcases g3 with ⟨rfl, e, rfl⟩ | ⟨g, rfl, -⟩
  ·rw [e]; exact ⟨Nat.le_refl _, Nat.zero_le _, .inl rfl⟩
  ·refine parts_of_row (B := B) ?_ (fun i hi => ?_)
   ·rw [← h2, firstP_nthP, h2]; exact h1
   ·obtain ⟨q, e1, e2⟩ := hm i hi
    exact e2.in (hk q (List.mem_of_getElem? e1))
 ·obtain ⟨q, e1, e2⟩ := hm i hi
  exact ⟨q, _, _, e1, e2.1⟩
 ·rcases g3 with g3 | ⟨g, rfl, -⟩
  ·exact .inl g3
  ·exact .inr ⟨_, rfl⟩
theorem Told.same {B B' : Nat} {v v' : Value} {l : List Pq} {w : World} (h : Told B v l w) (h' : Told B' v' l w) (hk : ∀ q ∈ l, KeysOk q.es) :
    Calls Tryz.prog 16 #[v, v'] w fun e w' => e = .returned (.bool true) ∧ Below w.heap.size w w' := by
 obtain ⟨a, c, ms, rfl, h1, -, h2, -⟩ := h.parts hk
 obtain ⟨a', c', ms', rfl, h1', -, h2', -⟩ := h'.parts hk
 refine samePs_yes a l.length c (nthP ms) a' c' (nthP ms') w h1 h1' (fun i hi => ?_)
 obtain ⟨q, x, y, e1, e2⟩ := h2 i hi
 obtain ⟨q', x', y', e1', e2'⟩ := h2' i hi
 rw [e1] at e1'
 injection e1' with e1'
 subst e1'
 rw [e2, e2']
 exact ⟨rfl, rfl, rfl, rfl, rfl, rfl, rfl, rfl, fun k _ => rfl⟩
def prQ (Ls : List En) (r : Rg) : Pq := ⟨1, r.lo, r.hi, r.op, foldV r.lo r.hi r.op Ls, []⟩
def keysIn (r : Rg) (Ls : List En) : List ByteArray := (thruL r.lo r.hi r.op true Ls).map (fun e => e.k)
def cutR (r : Rg) (Ls : List En) (q i : Nat) : Rg := piece r (bdr (keysIn r Ls).length (q + 1) (nthS (keysIn r Ls))) q i
def spQ (r : Rg) (Ls : List En) (q : Nat) : List Pq := (List.range (q + 1)).map (fun i => prQ Ls (cutR r Ls q i))
def cmpQ (b lf : Int) (r : Rg) (cnt s0 s1 : Int) (Ls : List En) : List Pq :=
 if (foldV r.lo r.hi r.op Ls).n = cnt ∧ (foldV r.lo r.hi r.op Ls).a = s0 ∧ (foldV r.lo r.hi r.op Ls).b = s1 then []
 else if (foldV r.lo r.hi r.op Ls).n ≤ lf then [⟨2, r.lo, r.hi, r.op, tZero, thruL r.lo r.hi r.op true Ls⟩]
 else spQ r Ls ((min b (foldV r.lo r.hi r.op Ls).n).toNat - 1)
def rpQ (p : Pm) (Ls : List En) : List Pq := match rpL p Ls with
 | [] => []
 | x :: r => [⟨3, p.lo, p.hi, p.op, tZero, x :: r⟩]
theorem rpQ_nil {p : Pm} {Ls : List En} (h : rpL p Ls = []) : rpQ p Ls = [] := by unfold rpQ; rw [h]
theorem rpQ_one {p : Pm} {Ls : List En} (h : rpL p Ls ≠ []) : rpQ p Ls = [⟨3, p.lo, p.hi, p.op, tZero, rpL p Ls⟩] := by
 unfold rpQ
 cases hx : rpL p Ls with
 | nil => exact absurd hx h
 | cons x r => rfl
theorem RpAt.told {B : Nat} {p : Pm} {Ls : List En} {v : Value} {w : World} (h : RpAt B p (rpL p Ls) v w) : Told B v (rpQ p Ls) w := by
 rcases h with ⟨h, rfl⟩ | ⟨h0, g, a, c, rfl, h2, h3, h4⟩
 ·rw [rpQ_nil h]; exact Told.zero _ _
 ·rw [rpQ_one h0]; exact Told.single (q := ⟨3, p.lo, p.hi, p.op, tZero, rpL p Ls⟩) h3 h2 h4
theorem thru_inL {lo hi : ByteArray} {op : Bool} {l : List En} (h : Rg.chk ⟨lo, hi, op⟩ = 0) (hm : MapL l) : thruL lo hi op true l = inL ⟨lo, hi, op⟩ l := by
 rw [inL_thru h hm]
 unfold thruL
 rw [List.filter_eq_self]
 intro e _
 rfl
end Go.Proofs.YtpbkjffiohfkcaaGreatDoor
namespace Go.Proofs.YtpbkjffiohfkcaaGreatDoor
open Go.RowKit
set_option linter.unusedVariables false
theorem thru_true (lo hi : ByteArray) (op : Bool) (Ls : List En) : thruL lo hi op true Ls = Ls.filter (inR lo hi op) := by
 unfold thruL
 rw [List.filter_eq_self]
 intro e _
 rfl
theorem keysR_in {T : Tr En Tl} {Ls : List En} {r : Rg} (hH : Hol T Ls) (h : r.op = true ∨ kLt r.hi r.lo = false) : keysR T r.lo r.hi r.op Ls = keysIn r Ls := by
 unfold keysR keysIn spanL
 rw [thru_true]
 have h1 := belE_le r.lo Ls
 have h2 := endE_le r.hi r.op Ls
 rw [show (max (belE r.lo Ls : Int) 0).toNat = belE r.lo Ls from by omega, show (min (endE r.hi r.op Ls : Int) (T.cnt : Int)).toNat = endE r.hi r.op Ls from by rw [hH.cnt]; omega, hH.rows, seg_map, seg_range hH.rises h, List.map_map]
 rfl
theorem keysIn_len (r : Rg) (Ls : List En) : (keysIn r Ls).length = (thruL r.lo r.hi r.op true Ls).length := by unfold keysIn; rw [List.length_map]
theorem keysIn_le (r : Rg) (Ls : List En) : (keysIn r Ls).length ≤ Ls.length := by rw [keysIn_len]; exact thru_len _ _ _ _
theorem fold_n {r : Rg} {Ls : List En} (hc : r.chk = 0) (hl : Ls.length ≤ 1000000) : (foldV r.lo r.hi r.op Ls).n = ((keysIn r Ls).length : Int) := by
 unfold foldV
 rw [if_pos hc, keysIn_len, thru_true]
 exact tal_n _ (by have := List.length_filter_le (inR r.lo r.hi r.op) Ls; omega)
theorem nthS_get {l : List ByteArray} {i : Nat} (h : i < l.length) : l[i]? = some (nthS l i) := by
 unfold nthS; rw [List.getD, List.getElem?_eq_getElem h]; rfl
theorem keysIn_at {r : Rg} {Ls : List En} {i : Nat} (h : i < (keysIn r Ls).length) : ∃ e, (Ls.filter (inR r.lo r.hi r.op))[i]? = some e ∧ nthS (keysIn r Ls) i = e.k ∧ e ∈ Ls ∧ inR r.lo r.hi r.op e = true := by
 have h1 := nthS_get h
 unfold keysIn at h1
 rw [List.getElem?_map, thru_true] at h1
 obtain ⟨e, e1, e2⟩ := Option.map_eq_some_iff.1 h1
 have := List.mem_filter.1 (List.mem_of_getElem? e1)
 exact ⟨e, e1, by unfold keysIn; rw [thru_true]; exact e2.symm, this.1, this.2⟩
theorem keysIn_up {r : Rg} {Ls : List En} (hm : MapL Ls) : KeysUp (nthS (keysIn r Ls)) (keysIn r Ls).length := by
 constructor
 ·intro i hi
  obtain ⟨e, -, e2, e3, -⟩ := keysIn_at hi
  rw [e2]
  have := (chk_pos (hm.chk e e3)).2.1
  omega
 ·intro i j hij hj
  obtain ⟨e, e1, e2, -, -⟩ := keysIn_at (r := r) (Ls := Ls) (i := i) (by omega)
  obtain ⟨f, f1, f2, -, -⟩ := keysIn_at hj
  rw [e2, f2]
  have hp : (Ls.filter (inR r.lo r.hi r.op)).Pairwise (fun a b => kLt a.k b.k = true) := hm.rises.sublist List.filter_sublist
  obtain ⟨hi', rfl⟩ := List.getElem?_eq_some_iff.1 e1
  obtain ⟨hj', rfl⟩ := List.getElem?_eq_some_iff.1 f1
  exact List.pairwise_iff_getElem.1 hp i j hi' hj' hij
theorem may_of_chk {r : Rg} (h : r.chk = 0) : r.may = true := by unfold Rg.may; rw [h]; rfl
theorem keysIn_has {r : Rg} {Ls : List En} (hm : MapL Ls) (hc : r.chk = 0) : ∀ i, i < (keysIn r Ls).length → r.has (nthS (keysIn r Ls) i) = true := by
 intro i hi
 obtain ⟨e, -, e2, e3, e4⟩ := keysIn_at hi
 rw [e2]
 unfold inR at e4
 rw [Bool.and_eq_true] at e4
 unfold Rg.has
 rw [may_of_chk hc]
 have := (chk_pos (hm.chk e e3)).2.1
 rw [Bool.true_and, Bool.and_eq_true, Bool.and_eq_true]
 exact ⟨⟨decide_eq_true (by omega), e4.1⟩, e4.2⟩
theorem chk_of_may {r : Rg} (h : r.may = true) : r.chk = 0 := by
 unfold Rg.may at h
 simpa using h
theorem cut_ok {r : Rg} {Ls : List En} (hm : MapL Ls) (hc : r.chk = 0) {q : Nat} (hq : q + 1 ≤ (keysIn r Ls).length) {i : Nat} (hi : i < q + 1) : prErr (cutR r Ls q i) = 0 := by
 have h := pieces_up (keysIn_up (r := r) hm) (keysIn_has hm hc) hq
 have h1 : (cutR r Ls q i).may = true := rises_may h hi
 have h2 : (cutR r Ls q i).emp = false := by
  simp only [rises, Bool.and_eq_true, Bool.not_eq_true'] at h
  cases he : (cutR r Ls q i).emp
  ·rfl
  ·have h9 := anyE_true (T := cutR r Ls q) (j := i) hi he
   exact absurd (h9.symm.trans h.1) (by simp)
 unfold prErr
 rw [if_neg (by rw [chk_of_may h1]; simp), if_neg (by rw [h2]; simp)]
theorem keys_keyE {r : Rg} {Ls : List En} (hm : MapL Ls) : keyE (nthS (keysIn r Ls)) (keysIn r Ls).length = 0 := keyE_zero (keysIn_up hm)
theorem keys_allK {r : Rg} {Ls : List En} (hm : MapL Ls) (hc : r.chk = 0) : allK r (nthS (keysIn r Ls)) (keysIn r Ls).length = true := allK_true (keysIn_has hm hc)
end Go.Proofs.YtpbkjffiohfkcaaGreatDoor
namespace Go.Proofs.YtpbkjffiohfkcaaGreatDoor
open Go.RowKit
set_option linter.unusedVariables false
set_option maxHeartbeats 3200000 in
set_option maxRecDepth 100000 in
theorem qsplit_ok (r : Rg) (q : Nat) {w : World} {sb g tb : Nat} {nd ck : Int} {Ls : List En} (h : Sto w sb g tb nd ck Ls) (hm : MapL Ls) (hl : Ls.length ≤ 256) (hc : r.chk = 0) (hq : q + 1 ≤ (keysIn r Ls).length) :
    Calls Tryz.prog 94 #[.pointer (some ⟨sb, 0, none⟩), .agg #[.string r.lo, .string r.hi, .bool r.op], .int .i64 ((q : Int) + 1)] w fun e w' => ∃ g cp, e = .returned (.tuple #[.slice (some ⟨g, 0, none⟩) (q + 1) cp, .int .i64 0]) ∧ w'.ownsRow w.heap.size 40 3 (.slice (some ⟨g, 0, none⟩) (q + 1) cp) (q + 1) (rgCells (cutR r Ls q) (q + 1)) ∧ Below w.heap.size w w' := by
 obtain ⟨T, n, h1, hH⟩ := h
 have hk := keysR_in (r := r) hH (chk_may hc)
 refine (ssplit r.lo r.hi r.op ((q : Int) + 1) h1 hH (by omega) (fun W v c X => c = 0 ∧ ∃ g cp, v = .slice (some ⟨g, 0, none⟩) (q + 1) cp ∧ X.ownsRow W.heap.size 40 3 (.slice (some ⟨g, 0, none⟩) (q + 1) cp) (q + 1) (rgCells (cutR r Ls q) (q + 1))) ?_ ?_).mono ?_
 ·rintro V v c X D ⟨e1, g2, cp, e2, e3⟩ - hD
  refine ⟨e1, g2, cp, e2, e3.1, ?_⟩
  rcases e3.2 with h5 | ⟨g3, cap, cur, f1, f2, f3, f4⟩
  ·exact .inl h5
  ·refine .inr ⟨g3, cap, cur, f1, f2, ?_, f4⟩
   exact (World.putObj_heap_other (fun e => by subst e; rw [hD] at f3; cases f3)).trans f3
 ·intro W a m c b hs hlen
  rw [hk] at hs hlen
  subst hlen
  refine (ranges_ok r.lo r.hi r.op a (keysIn r Ls).length c _ q W hs hc (keys_keyE hm) (keys_allK hm hc) hq (Nat.le_trans (keysIn_le _ _) hl)).mono ?_
  rintro e w' ⟨g2, cp, rfl, o, -, b2⟩
  exact ⟨_, _, rfl, ⟨rfl, g2, cp, rfl, o⟩, b2⟩
 ·rintro e w' ⟨W, v, c, rfl, ⟨rfl, g2, cp, rfl, o⟩, hs, b⟩
  exact ⟨g2, cp, rfl, own_low o hs, b⟩
end Go.Proofs.YtpbkjffiohfkcaaGreatDoor
namespace Go.Proofs.YtpbkjffiohfkcaaGreatDoor
open Go.RowKit
set_option linter.unusedVariables false
def inB (b l : Int) : Bool := decide (2 ≤ b ∧ b ≤ 16 ∧ 1 ≤ l ∧ l ≤ 32)
set_option maxHeartbeats 3200000 in
set_option maxRecDepth 100000 in
theorem inb_any (b l : Int) (w : World) : Calls Tryz.prog 31 #[.int .i64 b, .int .i64 l] w fun e w' => e = .returned (.bool (inB b l)) ∧ Below w.heap.size w w' := by
 by_cases h1 : 2 ≤ b
 ·by_cases h2 : b ≤ 16
  ·by_cases h3 : 1 ≤ l
   ·by_cases h4 : l ≤ 32
    ·rw [show inB b l = true from by unfold inB; simp; omega]
     go_enter Tryz.func31, Tryz.ntmps31
     go_wp2
     go_ret
     exact ⟨rfl, Below.refl _ _⟩
    ·rw [show inB b l = false from by unfold inB; simp; omega]
     go_enter Tryz.func31, Tryz.ntmps31
     go_wp2
     go_ret
     exact ⟨rfl, Below.refl _ _⟩
   ·rw [show inB b l = false from by unfold inB; simp; omega]
    go_enter Tryz.func31, Tryz.ntmps31
    go_wp2
    go_ret
    exact ⟨rfl, Below.refl _ _⟩
  ·rw [show inB b l = false from by unfold inB; simp; omega]
   go_enter Tryz.func31, Tryz.ntmps31
   go_wp2
   go_ret
   exact ⟨rfl, Below.refl _ _⟩
 ·rw [show inB b l = false from by unfold inB; simp; omega]
  go_enter Tryz.func31, Tryz.ntmps31
  go_wp2
  go_ret
  exact ⟨rfl, Below.refl _ _⟩
set_option maxHeartbeats 3200000 in
set_option maxRecDepth 100000 in
theorem compare_same (b lf : Int) (p : Pm) {w : World} {sb g tb : Nat} {nd ck : Int} {Ls : List En} (h : Sto w sb g tb nd ck Ls) (L : Lanes w) (hl : Ls.length ≤ 1000000) (hn : (foldV p.lo p.hi p.op Ls).n = p.cnt) (ha : (foldV p.lo p.hi p.op Ls).a = p.s0) (hb : (foldV p.lo p.hi p.op Ls).b = p.s1) :
    Calls Tryz.prog 32 #[.pointer (some ⟨sb, 0, none⟩), .int .i64 b, .int .i64 lf, .agg #[.int .i64 p.kind, .string p.lo, .string p.hi, .bool p.op, .int .i64 p.cnt, .int .u64 p.s0, .int .u64 p.s1, .slice p.ea p.el p.ec]] w fun e w' => e = .returned (.slice none 0 0) ∧ Sto w' sb g tb nd ck Ls ∧ Keeps (Of sb g tb) w w' ∧ Lanes w' := by
 have BX := aside (bnew w (.cells #[.int .i64 p.kind, .string p.lo, .string p.hi, .bool p.op, .int .i64 p.cnt, .int .u64 p.s0, .int .u64 p.s1, .slice p.ea p.el p.ec] 47))
 have KX := aside (heap_alloc_new w (.cells #[.int .i64 p.kind, .string p.lo, .string p.hi, .bool p.op, .int .i64 p.cnt, .int .u64 p.s0, .int .u64 p.s1, .slice p.ea p.el p.ec] 47))
 have HX := aside (h.below BX.out)
 have CF := aside (printOf_any p.lo p.hi p.op HX.out (L.keep BX.out) hl)
 rw [hn, ha, hb] at CF
 clear h L hl hn ha hb
 obtain ⟨pb, hpb⟩ : ∃ pb, w.heap.size = pb := ⟨_, rfl⟩
 rw [hpb] at KX
 obtain ⟨X, hX⟩ : ∃ X, w.alloc (.cells #[.int .i64 p.kind, .string p.lo, .string p.hi, .bool p.op, .int .i64 p.cnt, .int .u64 p.s0, .int .u64 p.s1, .slice p.ea p.el p.ec] 47) = X := ⟨_, rfl⟩
 rw [hX] at BX KX HX CF
 obtain ⟨p0, p1, p2, p3, p4, p5, p6, p7⟩ := oct KX.out
 go_enter Tryz.func32, Tryz.ntmps32
 go_wp2_with fail
 refine CF.out.mono ?_
 rintro e w1 ⟨rfl, s1, k1, l1⟩
 have K1 := aside (blk_on (blk_keep KX.out k1 (HX.out.not KX.out (by decide) (by decide) (by decide))) (bnew w1 (.cells #[.int .i64 p.cnt, .int .u64 p.s0, .int .u64 p.s1] 45)))
 have KT := aside (heap_alloc_new w1 (.cells #[.int .i64 p.cnt, .int .u64 p.s0, .int .u64 p.s1] 45))
 have S1 := aside (s1.below (bnew w1 (.cells #[.int .i64 p.cnt, .int .u64 p.s0, .int .u64 p.s1] 45)))
 have L1 := aside (l1.keep (bnew w1 (.cells #[.int .i64 p.cnt, .int .u64 p.s0, .int .u64 p.s1] 45)))
 have KK := aside (((Keeps.of_below BX.out _).trans k1).alloc (.cells #[.int .i64 p.cnt, .int .u64 p.s0, .int .u64 p.s1] 45))
 clear s1 l1 k1 CF HX BX KX p0 p1 p2 p3 p4 p5 p6 p7 hX
 obtain ⟨tb2, htb⟩ : ∃ tb2, w1.heap.size = tb2 := ⟨_, rfl⟩
 rw [htb] at KT
 obtain ⟨X2, hX2⟩ : ∃ X2, w1.alloc (.cells #[.int .i64 p.cnt, .int .u64 p.s0, .int .u64 p.s1] 45) = X2 := ⟨_, rfl⟩
 rw [hX2] at K1 KT S1 L1 KK
 obtain ⟨p0, p1, p2, p3, p4, p5, p6, p7⟩ := oct K1.out
 obtain ⟨t0, t1, t2⟩ := box3r KT.out
 have SQ : ∀ W, (binOp .eql 45 (.agg #[.int .i64 p.cnt, .int .u64 p.s0, .int .u64 p.s1]) (.agg #[.int .i64 p.cnt, .int .u64 p.s0, .int .u64 p.s1])).run Tryz.prog W = .ok (.bool true) W := fun W => tal_same _ _ _ W
 have FD : ∀ W, (Instr.field 47 (.agg #[.int .i64 1, .string p.lo, .string p.hi, .bool p.op, .int .i64 p.cnt, .int .u64 p.s0, .int .u64 p.s1, .slice none 0 0]) 2).run Tryz.prog W = .ok (.agg #[.int .i64 p.cnt, .int .u64 p.s0, .int .u64 p.s1]) W := fun W => by first | rfl | kernel_rfl
 go_wp2
 go_ret
 exact ⟨rfl, S1.out, KK.out, L1.out⟩
end Go.Proofs.YtpbkjffiohfkcaaGreatDoor
