/-
  Split of a store: the keys that it holds in a range, and the ranges that are cut at them.
  Where a key stands among entries: plain.
  place and room of the document's store.
  lay of the document's store.
  Max, the code's.
  The document's Max.
  Above, the code's.
  The document's Lacks and Above.
  Take of the document's store.
  What the laws on merge ask of their own: lists compared, lists in which no two entries of one version are unlike, the bound of sizes.
  The weight of parts: what a weight within the bound says of the sizes.
  What the laws on match ask of their own: the bound, lists compared, a list of one part.
  A list of one part.
  A list of one part, by the document.
  Parts that may be: plain.
  Parts that may be have entries that are maps.
  Exchange of the document's.
  Parts that were told: their values, and their rows in memory; what Compare tells, plain.
  The keys that a map has in a range, and the parts that the range is split into: plain.
-/
import Derived.Test.YtoflalflacopdaaDoorBg23
import Derived.Test.YtoflalflacopdaaDoorBg28
import Derived.Test.YtoflalflacopdaaDoorBg20
import Derived.Test.YtoflalflacopdaaDoorBg24
import Derived.Test.YtoflalflacopdaaDoorBg21
import Derived.Deep.RegionHeld
import Derived.Deep.CutBlock
import Derived.Deep.DeepCutAuto
import Derived.Deep.Cut
namespace Go.Proofs.YtoflalflacopdaaDoor
open Go.RowKit Go.Shelf
set_option linter.unusedVariables false
attribute [local go_sem] Oper.semAt_some
/-- A list of texts in the variable at vb, its row laid from B on. -/
structure LstS (B : Nat) (vb : Nat) (l : List ByteArray) (X : World) : Prop where
  ex : ∃ v, X.heap[vb]? = some (.cells #[v] 97 (0, 0)) ∧ X.ownsRow B 9 1 v l.length (strCells l)
theorem LstS.own {B vb : Nat} {l : List ByteArray} {A X : World} {row : Option Nat} (h : LstS B vb l A) (hg : A.grownBy X row) (hr : ∀ r, row = some r → ∃ o : Obj, A.heap[r]? = some o ∧ o.isCells = false) : LstS B vb l X := by
  obtain ⟨v, h1, h2⟩ := h.ex
  exact ⟨v, cells_own h1 hg hr, ownsRow_own h2 hg hr⟩
theorem row_blkS {X : World} {B n : Nat} {v : Value} {xs : List Value} (h : X.ownsRow B 9 1 v n xs) {r : Nat} (hr : v.ownBlock = some r) : B ≤ r ∧ ∃ cs, X.heap[r]? = some (.cells cs 9 (0, 0)) := by
  rcases h.2 with ⟨rfl, -⟩ | ⟨g, cap, cur, rfl, hb, hgk, -⟩
  · cases hr
  · cases hr; exact ⟨hb, _, hgk⟩
/-- One text more. -/
theorem lst_stepS {w X X1 : World} {vb C : Nat} {l : List ByteArray} {x : ByteArray} {v v' : Value} {o : Obj} (hB : Below w.heap.size w X) (hvb : w.heap.size ≤ vb) (h1 : X.heap[vb]? = some (.cells #[v] 97 (0, 0))) (h2 : X.ownsRow w.heap.size 9 1 v l.length (strCells l))
    (ho : X1.ownsRow w.heap.size 9 1 v' (l.length + 1) (strCells l ++ [.string x])) (hg : (X.alloc o).grownBy X1 v.ownBlock) :
    X1.heap[vb]? = some (.cells #[v] 97 (0, 0)) ∧ LstS w.heap.size vb (l ++ [x]) (X1.setCell ⟨vb, 0, none⟩ v') ∧ Below w.heap.size w (X1.setCell ⟨vb, 0, none⟩ v') ∧ KeepsFrom C X (X1.setCell ⟨vb, 0, none⟩ v') ∧ KpT X (X1.setCell ⟨vb, 0, none⟩ v') := by
  have hne : some vb ≠ v.ownBlock := fun e => by
    obtain ⟨-, cs, h3⟩ := row_blkS h2 e.symm
    rw [h1] at h3; simp at h3
  have hvb1 : X1.heap[vb]? = some (.cells #[v] 97 (0, 0)) := by
    rw [hg.block vb (by have := lt_of_blk h1; simp; omega) hne]
    exact blk_on h1 (bnew _ _)
  have st : ∀ T, T ≠ 9 → T ≠ 97 → Stay T X (X1.setCell ⟨vb, 0, none⟩ v') := fun T n1 n2 => by
    refine (((Stay.refl T X).alloc o).grown hg ?_).setCell _ (fun cs e => by dsimp only at e; rw [hvb1] at e; simp at e; exact n2 e.2.symm)
    intro r e cs hcs
    obtain ⟨-, cs', h3⟩ := row_blkS h2 e
    rw [blk_on h3 (bnew _ _)] at hcs
    simp at hcs
    exact n1 hcs.2.symm
  refine ⟨hvb1, ⟨v', by rw [heap_setCell_same X1 vb 0 _ _ v' hvb1]; rfl, ?_⟩, ?_, ?_, st _ (by decide) (by decide), st _ (by decide) (by decide), st _ (by decide) (by decide)⟩
  · have e : strCells (l ++ [x]) = strCells l ++ [.string x] := by simp [strCells]
    rw [List.length_append, e]
    refine ownsRow_keep (S := fun i => i = vb) ho ((Keeps.refl (fun i => i = vb) X1).setCell (p := ⟨vb, 0, none⟩) (fun _ => rfl) _) (fun j e1 e2 => ?_)
    subst e2
    obtain ⟨-, cs, h3⟩ := row_blkS ho e1
    rw [hvb1] at h3; simp at h3
  · exact (((hB.alloc hB.size o).grown hg (by have := hB.size; simp; omega) (fun j e => (row_blkS h2 e).1)).setCell (p := ⟨vb, 0, none⟩) hvb _)
  · have k1 : KeepsFrom C (X.alloc o) X1 := ⟨hg.size, fun i ob _ hi hob => (hg.block i (Array.getElem?_eq_some_iff.1 hi).1 (fun e => by
      obtain ⟨-, cs, h3⟩ := row_blkS h2 e.symm
      rw [blk_on h3 (bnew _ _)] at hi
      injection hi with hi
      subst hi
      cases hob)).trans hi⟩
    exact ((KeepsFrom.of_grownBy (World.grownBy_alloc X o none) (fun j e => by cases e)).trans k1).trans ((KeepsOthers.setCell _ _ _).from _)
theorem infoStrS : (Tryd.prog.info? 9).map (fun i => (i.zero, i.size, i.bytes)) = some (some (.string ⟨#[]⟩), 1, 16) := by kernel_rfl
/-- Text number i of a list. -/
def nthS (l : List ByteArray) (i : Nat) : ByteArray := l.getD i ⟨#[]⟩
theorem upto_nth (l : List ByteArray) : strUpto (nthS l) l.length = l := by
  apply List.ext_getElem?
  intro i
  by_cases h : i < l.length
  · simp [strUpto, nthS, h]
  · simp [strUpto, h]
theorem strs_row {w : World} {B n : Nat} {a : Option Addr} {c : Nat} {l : List ByteArray} (h : w.ownsRow B 9 1 (.slice a n c) n (strCells l)) (hl : l.length = n) (hn : n ≤ 1000000) : StrsIn w.heap.size w a n c (nthS l) := by
  obtain ⟨_, _, e1, h2, h3, hf⟩ := own_slice h
  injection e1 with e1 _ e3
  subst e1 e3
  rcases hf with ⟨rfl, rfl, rfl⟩ | ⟨g, rfl, -⟩
  · exact ⟨Nat.le_refl _, Nat.zero_le _, .inl rfl⟩
  · refine strs_own (B := B) ?_ (by omega)
    rw [← hl, upto_nth, hl]
    exact h
/-- The keys of a range's rows. -/
def keysR (T : Tr En Tl) (lo hi : ByteArray) (op : Bool) (Ls : List En) : List ByteArray := (spanL T (belE lo Ls : Int) (endE hi op Ls : Int)).map (fun r => r.k)
set_option maxHeartbeats 8000000 in
set_option maxRecDepth 100000 in
/-- Split, with whatever cuts says of the keys: a list v and an error c of which R is known. -/
theorem ssplit (lo hi : ByteArray) (op : Bool) (p : Int) {Ls : List En} {w : World} {sb g tb : Nat} {nd ck : Int} {T : Tr En Tl} {n : Nat} (h : IsSt w sb g tb nd ck T n) (hH : Hol T Ls) (hl : Ls.length ≤ 1000000) (R : World → Value → Int → World → Prop)
    (hown : ∀ V v c (X : World) (D : Nat), R V v c X → V.heap.size ≤ X.heap.size → X.heap[D]? = some (.deferred (some [])) → R V v c (X.putObj D (.deferred none)))
    (hC : ∀ (W : World) (a : Option Addr) (m c : Nat), Below w.heap.size w W → StrsIn W.heap.size W a m c (nthS (keysR T lo hi op Ls)) → (keysR T lo hi op Ls).length = m → Calls Tryd.prog 41 #[.agg #[.string lo, .string hi, .bool op], .slice a m c, .int .i64 p] W fun e W' => ∃ v c, e = .returned (.tuple #[v, .int .i64 c]) ∧ R W v c W' ∧ Below W.heap.size W W') :
    Calls Tryd.prog 10 #[.pointer (some ⟨sb, 0, none⟩), .agg #[.string lo, .string hi, .bool op], .int .i64 p] w fun e w' => ∃ W v c, e = .returned (.tuple #[v, .int .i64 c]) ∧ R W v c w' ∧ w.heap.size ≤ W.heap.size ∧ Below w.heap.size w w' := by
  have B0 := aside (bnew w (.cells #[.string lo, .string hi, .bool op] 24))
  have K0 := aside (heap_alloc_new w (.cells #[.string lo, .string hi, .bool op] 24))
  have H := aside (h.below B0.out)
  have CR := aside (fun (W : World) (h : IsSt W sb g tb nd ck T n) => srows lo hi op h hH hl)
  have HH := aside hH
  have HLE := aside hl
  have HC := aside hC
  clear h hH hl hC
  refine (callsIn_wide (n := 7)).1 ?_
  refine callsIn_of_wp_marks Tryd.func10 rfl trivial ?_ rfl
  simp only [Tryd.ntmps10, List.size_toArray, List.length_cons, List.length_nil, Nat.reduceAdd, Nat.reduceSub, Array.replicate_succ, Array.replicate_zero, List.push_toArray, List.append_toArray, List.nil_append, List.cons_append]
  obtain ⟨r0, r1, r2, -⟩ := tri K0.out
  gi_wp2_with fail
  refine ⟨trivial, ?_⟩
  refine (callsIn_wide.2 (CR.out _ H.out)).mono ?_
  rintro e w1 ⟨rfl, b1⟩
  replace B0 := aside (bthen B0.out b1)
  replace K0 := aside (blk_on K0.out b1)
  replace H := aside (H.out.below b1)
  obtain ⟨rb, hrb⟩ : ∃ rb, w.heap.size = rb := ⟨_, rfl⟩
  have HRB := aside hrb
  rw [hrb] at K0 ⊢
  have bV := bnew w1 (.cells #[.slice none 0 0] 97)
  have KV := aside (heap_alloc_new w1 (.cells #[.slice none 0 0] 97))
  replace B0 := aside (bthen B0.out bV)
  replace K0 := aside (blk_on K0.out bV)
  replace H := aside (H.out.below bV)
  obtain ⟨vb, hvb⟩ : ∃ vb, w1.heap.size = vb := ⟨_, rfl⟩
  have HVB := aside (show w.heap.size ≤ vb from by rw [← hvb]; have h1 := b1.size; rw [World.size_alloc] at h1; omega)
  obtain ⟨-, -, -, c3, -⟩ := quad H.out.blk
  obtain ⟨pp, ht, hT⟩ := H.out.tree
  have HT := aside hT
  have CS := aside (yspan (belE lo Ls : Int) (endE hi op Ls : Int) ht)
  clear b1 bV r0 r1 r2 hrb ht hT CR
  gi_wp2_with fail
  refine ⟨trivial, ?_⟩
  refine (callsIn_wide.2 (CS.out)).mono ?_
  rintro e w3 ⟨lbS, rfl, hs, b3⟩
  have HS := aside hs
  rw [hvb] at KV
  replace KV := aside (blk_on KV.out b3)
  replace K0 := aside (blk_on K0.out b3)
  replace B0 := aside (bthen B0.out b3)
  replace HT := aside (HT.out.on (fun _ _ e => blk_on e b3))
  clear hs b3 CS c3 hvb H
  gi_wp2_with fail
  have hcn := HH.out.cnt
  have hle := HLE.out
  have hsp : (spanL T (belE lo Ls : Int) (endE hi op Ls : Int)).length ≤ 1000000 := by
    unfold spanL seg
    have := Tr.rows_length T
    simp only [List.length_drop, List.length_take]
    omega
  have HSP := aside hsp
  have SQ := aside (SeqO.of_stops fun n => span1 (Kp := KpT) HS.out HT.out (by omega) (by have := endE_le hi op Ls; omega) (Nat.le_refl _) (fun A B h => h.1))
  have I0 := aside (show LstS w.heap.size vb [] w3 from ⟨.slice none 0 0, KV.out, ⟨rfl, .inl ⟨rfl, rfl⟩⟩⟩)
  have HVV := aside (show w.heap.size ≤ w3.heap.size from B0.out.size)
  have K0V := aside K0.out
  have HKS := aside (show keysR T lo hi op Ls = (spanL T (belE lo Ls : Int) (endE hi op Ls : Int)).map (fun r => r.k) from rfl)
  clear hcn hle hsp KV
  have ownI : OwnFrom w3.heap.size (fun (pre : List (Rw En Tl)) X => LstS w.heap.size vb (pre.map (fun r => r.k)) X ∧ X.heap[rb]? = some (.cells #[.string lo, .string hi, .bool op] 24 (0, 0)) ∧ Below w.heap.size w X) := fun s A Y row hs hg hr =>
    ⟨hs.1.own hg (fun r e => (hr r e).2), cells_own hs.2.1 hg (fun r e => (hr r e).2), ownFrom_below (β := Unit) (Nat.le_refl w.heap.size) HVV.out () A Y row hs.2.2 hg hr⟩
  refine rangeO rfl (enters_of Tryd.func71 (by kernel_rfl) rfl) SQ.out KpT.t (fun W l o o' _ h ho => KpT.b W l o o' h ho) (Below.refl _ _) (fun _ => rfl)
    (fun (pre : List (Rw En Tl)) X => LstS w.heap.size vb (pre.map (fun r => r.k)) X ∧ X.heap[rb]? = some (.cells #[.string lo, .string hi, .bool op] 24 (0, 0)) ∧ Below w.heap.size w X) (fun _ _ _ => False) ownI (fun _ _ _ _ _ h => h.elim) ⟨I0.out, K0.out, B0.out⟩
    (fun x a' X => a' = ⟨#[.pointer (some ⟨sb, 0, none⟩), .agg #[.string lo, .string hi, .bool op], .int .i64 p, undef, .pointer (some ⟨rb, 0, none⟩), undef, .slice none 0 0, .int .i64 0, .int .i64 (belE lo Ls : Int), .int .i64 (endE hi op Ls : Int), .pointer (some ⟨vb, 0, none⟩), .string x.k, .tuple #[.int .i64 (belE lo Ls : Int), .int .i64 (endE hi op Ls : Int)], .pointer (some ⟨sb, 0, none⟩), .agg #[.string lo, .string hi, .bool op], .tuple #[.int .i64 (belE lo Ls : Int), .int .i64 (endE hi op Ls : Int)], .int .i64 (belE lo Ls : Int), .int .i64 (endE hi op Ls : Int), .pointer (some ⟨sb, 0, none⟩), .pointer (some ⟨sb, 0, none⟩), .pointer (some ⟨sb, 3, none⟩), .pointer (some ⟨tb, 0, none⟩), .int .i64 (belE lo Ls : Int), .int .i64 (endE hi op Ls : Int), .func (.func 71) #[] lbS, .string x.k, .agg #[.string x.v.k, .int .i64 x.v.c, .int .i64 x.v.n, .string x.v.v, .bool x.v.d], undef, undef, undef, undef, undef, undef, undef, undef, undef, undef], []⟩)
    (fun x a' _ A Y row hs hg hr => hs) ?assign ?body ?done ?stop
  case assign =>
    intro l' pre x X K hi hK
    dsimp only [encs2]
    gi_wp2
    exact hK _ _ (KeepsFrom.refl _ _) (KpT.refl X) hi rfl
  case body =>
    rintro l' pre x a' X ⟨hls, hk0, hbx⟩ rfl hlen
    obtain ⟨v, hv, ho⟩ := hls.ex
    obtain ⟨i0, hi0, hz0, hz1, hz2⟩ := info_parts infoStrS
    have v0 := cell_one hv
    have HV := aside hv
    have HO := aside ho
    have HB := aside hbx
    have HK0 := aside hk0
    have HLN := aside (show (pre.map (fun r => r.k)).length ≤ 1000000 from by have := HSP.out; rw [List.length_map]; omega)
    have HI := aside hi0
    obtain ⟨ks, hks⟩ : ∃ ks, pre.map (fun r => r.k) = ks := ⟨_, rfl⟩
    have HKN := aside (show (pre ++ [x]).map (fun r => r.k) = ks ++ [x.k] from by rw [List.map_append, hks]; rfl)
    rw [hks] at HO HLN
    clear hls hv ho hbx hlen hi0 hk0 hks
    gi_wp2_with (gi_at_builtin; go_loud (refine wpListIn_append_own _ rfl _ _ _ rfl w.heap.size 9 i0 (.string ⟨#[]⟩) 1 16 Tryd.underlying97 HI.out hz0 hz1 hz2 rfl (by decide) v ks.length (strCells ks) (by rfl) (HO.out.alloc _) ⟨X.heap.size, 0, none⟩ 1 1 [.string x.k] (by rfl) (by rfl) (World.news_of_block (cs := #[.string x.k]) (t := 9) (fr := (0, 0)) (heap_alloc_new X _)) (by intro u hu; rw [List.mem_singleton] at hu; subst hu; rfl) (by have := HLN.out; unfold maxLen; omega) (by have := HLN.out; omega) (by have := HB.out.size; simp; omega) ?_); intro v' X2 hown1 hgrow hiff; refine Hid.out ?_)
    refine aside ?_
    obtain ⟨g', cap', rfl⟩ : ∃ g' cap', v' = .slice (some ⟨g', 0, none⟩) (ks.length + 1) cap' := by
      rcases hown1.2 with ⟨_, h⟩ | ⟨g', cap', cur, e, _⟩
      · omega
      · exact ⟨g', cap', e⟩
    have ST := aside (lst_stepS (x := x.k) (C := w3.heap.size) HB.out HVB.out HV.out HO.out hown1 hgrow)
    have KB := aside (show (X2.setCell ⟨vb, 0, none⟩ (.slice (some ⟨g', 0, none⟩) (ks.length + 1) cap')).heap[rb]? = some (.cells #[.string lo, .string hi, .bool op] 24 (0, 0)) from by
      rw [Below.heap_setCell _ _ _ _ (fun e => by subst e; rw [HK0.out] at HV; simp at HV; exact absurd HV.out (by simp))]
      rw [hgrow.block rb (by have := lt_of_blk HK0.out; simp; omega) (fun e => by obtain ⟨-, cs, h3⟩ := row_blkS HO.out e.symm; rw [HK0.out] at h3; simp at h3)]
      exact blk_on HK0.out (bnew _ _))
    have v1 := cell_one ST.out.1
    have z1 := frozen_one ST.out.1
    clear hown1 hgrow hiff v0
    gi_wp2
    exact ⟨ST.out.2.2.2.1, ST.out.2.2.2.2, by rw [HKN.out]; exact ST.out.2.1, KB.out, ST.out.2.2.1⟩
  case done =>
    rintro D xs X hD rfl ⟨hls, hk0, hbx⟩ hK
    rw [← HKS.out] at hls
    obtain ⟨v, hv, ho⟩ := hls.ex
    obtain ⟨a, c, rfl, -⟩ := own_slice ho
    have v0 := cell_one hv
    obtain ⟨r0, r1, r2, -⟩ := tri hk0
    have HLK := aside (show (keysR T lo hi op Ls).length ≤ 1000000 from by have := HSP.out; rw [HKS.out, List.length_map]; exact this)
    have HST := aside (strs_row ho rfl HLK.out)
    have HBX := aside hbx
    have HKD := aside hK
    obtain ⟨m, hm⟩ : ∃ m, (keysR T lo hi op Ls).length = m := ⟨_, rfl⟩
    have HM := aside hm
    rw [hm] at v0 HST
    clear hls hv ho hbx hK hm hk0
    gi_wp2_with fail
    refine ⟨trivial, ?_⟩
    refine (callsIn_wide.2 (HC.out _ a m c HBX.out HST.out HM.out)).mono ?_
    rintro e Y ⟨v, c, rfl, hr, b5⟩
    have HR := aside hr
    have B5 := aside b5
    have HKY := aside (blk_on HKD.out b5)
    clear hr b5 v0 r0 r1 r2
    gi_wp2
    refine ⟨by simp, .inl ⟨_, _, rfl, run_takeDeferred HKY.out, ?_⟩⟩
    refine ⟨.tuple #[v, .int .i64 c], by simp [results, Tryd.f10, go_sem], X, v, c, rfl, hown _ _ _ _ _ HR.out B5.out.size HKY.out, HBX.out.size, ?_⟩
    exact ownFrom_below (β := Unit) (Nat.le_refl w.heap.size) HVV.out () Y _ (some D) (bthen HBX.out B5.out) (grownBy_putObj' Y D (.deferred none)) (fun r e => by cases e; exact ⟨hD, _, HKY.out, rfl⟩)
  case stop =>
    rintro D c pre X hD _ h
    exact h.elim
end Go.Proofs.YtoflalflacopdaaDoor
namespace Go.Proofs.YtoflalflacopdaaDoor
open Go.RowKit
set_option linter.unusedVariables false
/-- How many entries stand ahead of a key. -/
def plc (k : ByteArray) : List En → Nat
  | [] => 0
  | y :: l => if kLt y.k k = true then plc k l + 1 else 0
/-- Whether it stands there. -/
def isP (k : ByteArray) : List En → Bool
  | [] => false
  | y :: l => if kLt y.k k = true then isP k l else y.k.toList == k.toList
theorem plc_le (k : ByteArray) : ∀ l : List En, plc k l ≤ l.length
  | [] => Nat.le_refl _
  | y :: l => by
    have := plc_le k l
    unfold plc
    split <;> simp <;> omega
theorem isP_lt {k : ByteArray} : ∀ {l : List En}, isP k l = true → plc k l < l.length
  | [], h => by simp [isP] at h
  | y :: l, h => by
    unfold isP at h
    unfold plc
    by_cases g : kLt y.k k = true
    · rw [if_pos g] at h ⊢
      have := isP_lt h
      simp; omega
    · rw [if_neg g]; simp
theorem nthE_succ (y : En) (l : List En) (i : Nat) : nthE (y :: l) (i + 1) = nthE l i := by simp [nthE]
/-- An entry laid: those ahead, it, those behind. -/
theorem insE_plc (e : En) : ∀ l : List En, insE e l = l.take (plc e.k l) ++ [e] ++ l.drop (if isP e.k l = true then plc e.k l + 1 else plc e.k l)
  | [] => by simp [insE, plc, isP]
  | y :: l => by
    unfold insE plc isP
    by_cases g : kLt y.k e.k = true
    · rw [if_neg (by rw [kLt_asymm g]; simp), if_pos g, if_pos g, if_pos g, insE_plc e l]
      by_cases h : isP e.k l = true
      · rw [if_pos h, if_pos h]; simp
      · rw [if_neg h, if_neg h]; simp
    · rw [if_neg g, if_neg g, if_neg g]
      by_cases h : kLt e.k y.k = true
      · rw [if_pos h, if_neg (by
          intro c
          have : y.k = e.k := toList_inj (by simpa using c)
          rw [this, kLt_irrefl] at h; cases h)]
        simp
      · rw [if_neg h, if_pos (by
          have : y.k = e.k := kLt_total (by simpa using g) (by simpa using h)
          rw [this]; simp)]
        simp
/-- What is held under a key. -/
theorem look_plc {k : ByteArray} : ∀ {l : List En}, RisesE l → lookE k l = if isP k l = true then some (nthE l (plc k l)) else none
  | [], _ => by simp [lookE, isP]
  | y :: l, hr => by
    have h1 := rises_consE.1 hr
    unfold lookE isP plc
    by_cases g : kLt y.k k = true
    · rw [if_pos g, if_pos g]
      rw [List.find?_cons_of_neg (by simp [g])]
      have := look_plc (k := k) h1.2
      unfold lookE at this
      rw [this, nthE_succ]
    · rw [if_neg g, if_neg g]
      by_cases h : kLt k y.k = true
      · rw [List.find?_cons_of_neg (by simp [h]), if_neg (by
          intro c
          have : y.k = k := toList_inj (by simpa using c)
          rw [this, kLt_irrefl] at h; cases h)]
        rw [List.find?_eq_none]
        intro z hz
        have : kLt k z.k = true := kLt_trans h (h1.1 z hz)
        simp [this]
      · rw [List.find?_cons_of_pos (by simp [g, h]), if_pos (by
          have : y.k = k := kLt_total (by simpa using g) (by simpa using h)
          rw [this]; simp)]
        simp [nthE]
theorem room_plc {k : ByteArray} {l : List En} (h : RisesE l) : roomB k l = (isP k l || decide (l.length < 256)) := by
  unfold roomB
  rw [look_plc h]
  cases isP k l <;> simp
theorem take_map {e : En} {l : List En} (h : MapL l) (he : e.chk = 0) : MapL (insE e l) := ⟨rises_of_map (by rw [← ins_map]; exact rises_ins _ (rises_map h.rises)), fun x hx => by
  rw [insE_plc] at hx
  simp only [List.append_assoc, List.singleton_append, List.mem_append, List.mem_cons] at hx
  rcases hx with hx | rfl | hx
  · exact h.chk x (List.mem_of_mem_take hx)
  · exact he
  · exact h.chk x (List.mem_of_mem_drop hx)⟩
theorem take_len {e : En} {l : List En} (h : RisesE l) (hl : l.length ≤ 256) (hr : roomB e.k l = true) : (insE e l).length ≤ 256 := by
  rw [room_plc h] at hr
  rw [insE_plc]
  have h1 := plc_le e.k l
  cases hi : isP e.k l
  · rw [hi] at hr
    simp at hr ⊢
    omega
  · have h2 := isP_lt hi
    simp
    omega
end Go.Proofs.YtoflalflacopdaaDoor
namespace Go.Proofs.YtoflalflacopdaaDoor
open Go.RowKit
set_option linter.unusedVariables false
end Go.Proofs.YtoflalflacopdaaDoor
namespace Go.Proofs.YtoflalflacopdaaDoor
open Go.RowKit
set_option linter.unusedVariables false
end Go.Proofs.YtoflalflacopdaaDoor
namespace Go.Proofs.YtoflalflacopdaaDoor
open Go.RowKit Go.Shelf
set_option linter.unusedVariables false
attribute [local go_sem] Oper.semAt_some
end Go.Proofs.YtoflalflacopdaaDoor
namespace Go.Proofs.YtoflalflacopdaaDoor
open Go.RowKit
set_option linter.unusedVariables false
end Go.Proofs.YtoflalflacopdaaDoor
namespace Go.Proofs.YtoflalflacopdaaDoor
open Go.RowKit Go.Shelf
set_option linter.unusedVariables false
attribute [local go_sem] Oper.semAt_some
end Go.Proofs.YtoflalflacopdaaDoor
namespace Go.Proofs.YtoflalflacopdaaDoor
open Go.RowKit
set_option linter.unusedVariables false
end Go.Proofs.YtoflalflacopdaaDoor
namespace Go.Proofs.YtoflalflacopdaaDoor
open Go.RowKit
set_option linter.unusedVariables false
end Go.Proofs.YtoflalflacopdaaDoor
namespace Go.Proofs.YtoflalflacopdaaDoor
open Go.RowKit
set_option linter.unusedVariables false
end Go.Proofs.YtoflalflacopdaaDoor
namespace Go.Proofs.YtoflalflacopdaaDoor
open Go.RowKit
set_option linter.unusedVariables false
end Go.Proofs.YtoflalflacopdaaDoor
namespace Go.Proofs.YtoflalflacopdaaDoor
open Go.RowKit
set_option linter.unusedVariables false
end Go.Proofs.YtoflalflacopdaaDoor
namespace Go.Proofs.YtoflalflacopdaaDoor
open Go.RowKit
set_option linter.unusedVariables false
end Go.Proofs.YtoflalflacopdaaDoor
namespace Go.Proofs.YtoflalflacopdaaDoor
open Go.RowKit
set_option linter.unusedVariables false
end Go.Proofs.YtoflalflacopdaaDoor
namespace Go.Proofs.YtoflalflacopdaaDoor
open Go.RowKit
set_option linter.unusedVariables false
end Go.Proofs.YtoflalflacopdaaDoor
namespace Go.Proofs.YtoflalflacopdaaDoor
open Go.RowKit
set_option linter.unusedVariables false
end Go.Proofs.YtoflalflacopdaaDoor
namespace Go.Proofs.YtoflalflacopdaaDoor
open Go.RowKit
set_option linter.unusedVariables false
theorem tk_ok {s : TkS} (h : MapL s.l ∧ s.l.length ≤ 256) (e : En) : MapL (tkStep s e).l ∧ (tkStep s e).l.length ≤ 256 := by
  unfold tkStep
  split
  · rename_i hy
    obtain ⟨-, h2, h3⟩ := tk_yes hy
    exact ⟨take_map h.1 h2, take_len h.1.rises h.2 h3⟩
  · split
    · exact h
    · exact h
theorem tkAll_ok {s : TkS} (h : MapL s.l ∧ s.l.length ≤ 256) (T : Nat → En) : ∀ j, MapL (tkAll s (firstE T j)).l ∧ (tkAll s (firstE T j)).l.length ≤ 256
  | 0 => h
  | j + 1 => by rw [tkAll_succ]; exact tk_ok (tkAll_ok h T j) (T j)
end Go.Proofs.YtoflalflacopdaaDoor
namespace Go.Proofs.YtoflalflacopdaaDoor
open Go.RowKit
set_option linter.unusedVariables false
theorem own_keep {w w' : World} {S : Nat → Prop} {B : Nat} {e : TypeId} {s : Nat} {v : Value} {n : Nat} {xs : List Value} (h : w.ownsRow B e s v n xs) (k : Keeps S w w') (hn : ∀ i cs, w.heap[i]? = some (.cells cs e (0, 0)) → ¬ S i) : w'.ownsRow B e s v n xs := by
  refine ⟨h.1, ?_⟩
  rcases h.2 with h5 | ⟨g2, cap, cur, e1, e2, e3, e4⟩
  · exact .inl h5
  · exact .inr ⟨g2, cap, cur, e1, e2, blk_keep e3 k (hn _ _ e3), e4⟩
/-- The keys that are held in a range. -/
def keysIn (r : Rg) (Ls : List En) : List ByteArray := (thruL r.lo r.hi r.op true Ls).map (fun e => e.k)
/-- Part number i of a range that is split into q + 1 at its keys. -/
def cutR (r : Rg) (Ls : List En) (q i : Nat) : Rg := piece r (bdr (keysIn r Ls).length (q + 1) (nthS (keysIn r Ls))) q i
theorem thru_inL {lo hi : ByteArray} {op : Bool} {l : List En} (h : Rg.chk ⟨lo, hi, op⟩ = 0) (hm : MapL l) : thruL lo hi op true l = inL ⟨lo, hi, op⟩ l := by
  rw [inL_thru h hm]
  unfold thruL
  rw [List.filter_eq_self]
  intro e _
  rfl
end Go.Proofs.YtoflalflacopdaaDoor
namespace Go.Proofs.YtoflalflacopdaaDoor
open Go.RowKit
set_option linter.unusedVariables false
theorem thru_true (lo hi : ByteArray) (op : Bool) (Ls : List En) : thruL lo hi op true Ls = Ls.filter (inR lo hi op) := by
  unfold thruL
  rw [List.filter_eq_self]
  intro e _
  rfl
theorem keysR_in {T : Tr En Tl} {Ls : List En} {r : Rg} (hH : Hol T Ls) (h : r.op = true ∨ kLt r.hi r.lo = false) : keysR T r.lo r.hi r.op Ls = keysIn r Ls := by
  unfold keysR keysIn spanL
  rw [thru_true]
  have h1 := belE_le r.lo Ls
  have h2 := endE_le r.hi r.op Ls
  rw [show (max (belE r.lo Ls : Int) 0).toNat = belE r.lo Ls from by omega, show (min (endE r.hi r.op Ls : Int) (T.cnt : Int)).toNat = endE r.hi r.op Ls from by rw [hH.cnt]; omega, hH.rows, seg_map, seg_range hH.rises h, List.map_map]
  rfl
theorem keysIn_len (r : Rg) (Ls : List En) : (keysIn r Ls).length = (thruL r.lo r.hi r.op true Ls).length := by unfold keysIn; rw [List.length_map]
theorem keysIn_le (r : Rg) (Ls : List En) : (keysIn r Ls).length ≤ Ls.length := by rw [keysIn_len]; exact thru_len _ _ _ _
theorem fold_n {r : Rg} {Ls : List En} (hc : r.chk = 0) (hl : Ls.length ≤ 1000000) : (foldV r.lo r.hi r.op Ls).n = ((keysIn r Ls).length : Int) := by
  unfold foldV
  rw [if_pos hc, keysIn_len, thru_true]
  exact tal_n _ (by have := List.length_filter_le (inR r.lo r.hi r.op) Ls; omega)
theorem nthS_get {l : List ByteArray} {i : Nat} (h : i < l.length) : l[i]? = some (nthS l i) := by
  unfold nthS; rw [List.getD, List.getElem?_eq_getElem h]; rfl
theorem keysIn_at {r : Rg} {Ls : List En} {i : Nat} (h : i < (keysIn r Ls).length) : ∃ e, (Ls.filter (inR r.lo r.hi r.op))[i]? = some e ∧ nthS (keysIn r Ls) i = e.k ∧ e ∈ Ls ∧ inR r.lo r.hi r.op e = true := by
  have h1 := nthS_get h
  unfold keysIn at h1
  rw [List.getElem?_map, thru_true] at h1
  obtain ⟨e, e1, e2⟩ := Option.map_eq_some_iff.1 h1
  have := List.mem_filter.1 (List.mem_of_getElem? e1)
  exact ⟨e, e1, by unfold keysIn; rw [thru_true]; exact e2.symm, this.1, this.2⟩
theorem keysIn_up {r : Rg} {Ls : List En} (hm : MapL Ls) : KeysUp (nthS (keysIn r Ls)) (keysIn r Ls).length := by
  constructor
  · intro i hi
    obtain ⟨e, -, e2, e3, -⟩ := keysIn_at hi
    rw [e2]
    have := (chk_pos (hm.chk e e3)).2.1
    omega
  · intro i j hij hj
    obtain ⟨e, e1, e2, -, -⟩ := keysIn_at (r := r) (Ls := Ls) (i := i) (by omega)
    obtain ⟨f, f1, f2, -, -⟩ := keysIn_at hj
    rw [e2, f2]
    have hp : (Ls.filter (inR r.lo r.hi r.op)).Pairwise (fun a b => kLt a.k b.k = true) := hm.rises.sublist List.filter_sublist
    obtain ⟨hi', rfl⟩ := List.getElem?_eq_some_iff.1 e1
    obtain ⟨hj', rfl⟩ := List.getElem?_eq_some_iff.1 f1
    exact List.pairwise_iff_getElem.1 hp i j hi' hj' hij
theorem may_of_chk {r : Rg} (h : r.chk = 0) : r.may = true := by unfold Rg.may; rw [h]; rfl
theorem keysIn_has {r : Rg} {Ls : List En} (hm : MapL Ls) (hc : r.chk = 0) : ∀ i, i < (keysIn r Ls).length → r.has (nthS (keysIn r Ls) i) = true := by
  intro i hi
  obtain ⟨e, -, e2, e3, e4⟩ := keysIn_at hi
  rw [e2]
  unfold inR at e4
  rw [Bool.and_eq_true] at e4
  unfold Rg.has
  rw [may_of_chk hc]
  have := (chk_pos (hm.chk e e3)).2.1
  rw [Bool.true_and, Bool.and_eq_true, Bool.and_eq_true]
  exact ⟨⟨decide_eq_true (by omega), e4.1⟩, e4.2⟩
theorem chk_of_may {r : Rg} (h : r.may = true) : r.chk = 0 := by
  unfold Rg.may at h
  simpa using h
theorem cut_ok {r : Rg} {Ls : List En} (hm : MapL Ls) (hc : r.chk = 0) {q : Nat} (hq : q + 1 ≤ (keysIn r Ls).length) {i : Nat} (hi : i < q + 1) : prErr (cutR r Ls q i) = 0 := by
  have h := pieces_up (keysIn_up (r := r) hm) (keysIn_has hm hc) hq
  have h1 : (cutR r Ls q i).may = true := rises_may h hi
  have h2 : (cutR r Ls q i).emp = false := by
    simp only [rises, Bool.and_eq_true, Bool.not_eq_true'] at h
    cases he : (cutR r Ls q i).emp
    · rfl
    · have h9 := anyE_true (T := cutR r Ls q) (j := i) hi he
      exact absurd (h9.symm.trans h.1) (by simp)
  unfold prErr
  rw [if_neg (by rw [chk_of_may h1]; simp), if_neg (by rw [h2]; simp)]
theorem keys_keyE {r : Rg} {Ls : List En} (hm : MapL Ls) : keyE (nthS (keysIn r Ls)) (keysIn r Ls).length = 0 := keyE_zero (keysIn_up hm)
theorem keys_allK {r : Rg} {Ls : List En} (hm : MapL Ls) (hc : r.chk = 0) : allK r (nthS (keysIn r Ls)) (keysIn r Ls).length = true := allK_true (keysIn_has hm hc)
end Go.Proofs.YtoflalflacopdaaDoor
