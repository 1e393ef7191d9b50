/-
  Split of a store: the keys that it holds in a range, and the ranges that are cut at them.
  The steps of a script over stores, that came in.
  What the walk of StoreUp keeps: the store, the list of what it held.
  The loop over what is held, of the law StoreUp: a round as declarations of its own.
-/
import Derived.Test.YtlgcdcjhflihiaaDoorBstoreup10
import Derived.Test.YtlgcdcjhflihiaaDoorBstoreup14
import Derived.Test.YtlgcdcjhflihiaaDoorBstoreup11
import Derived.Test.YtlgcdcjhflihiaaDoorBstoreup1
import Derived.Test.YtlgcdcjhflihiaaDoorBstoreup12
namespace Go.Proofs.YtlgcdcjhflihiaaDoor
open Go.RowKit Go.Shelf
set_option linter.unusedVariables false

attribute [local go_sem] Oper.semAt_some

/-- A list of texts in the variable at vb, its row laid from B on. -/
structure LstS (B : Nat) (vb : Nat) (l : List ByteArray) (X : World) : Prop where
  ex : ∃ v, X.heap[vb]? = some (.cells #[v] 92 (0, 0)) ∧ X.ownsRow B 9 1 v l.length (strCells l)
theorem LstS.own {B vb : Nat} {l : List ByteArray} {A X : World} {row : Option Nat} (h : LstS B vb l A) (hg : A.grownBy X row) (hr : ∀ r, row = some r → ∃ o : Obj, A.heap[r]? = some o ∧ o.isCells = false) : LstS B vb l X := by
  obtain ⟨v, h1, h2⟩ := h.ex
  exact ⟨v, cells_own h1 hg hr, ownsRow_own h2 hg hr⟩
theorem row_blkS {X : World} {B n : Nat} {v : Value} {xs : List Value} (h : X.ownsRow B 9 1 v n xs) {r : Nat} (hr : v.ownBlock = some r) : B ≤ r ∧ ∃ cs, X.heap[r]? = some (.cells cs 9 (0, 0)) := by
  rcases h.2 with ⟨rfl, -⟩ | ⟨g, cap, cur, rfl, hb, hgk, -⟩
  · cases hr
  · cases hr; exact ⟨hb, _, hgk⟩
/-- One text more. -/
theorem lst_stepS {w X X1 : World} {vb C : Nat} {l : List ByteArray} {x : ByteArray} {v v' : Value} {o : Obj} (hB : Below w.heap.size w X) (hvb : w.heap.size ≤ vb) (h1 : X.heap[vb]? = some (.cells #[v] 92 (0, 0))) (h2 : X.ownsRow w.heap.size 9 1 v l.length (strCells l))
    (ho : X1.ownsRow w.heap.size 9 1 v' (l.length + 1) (strCells l ++ [.string x])) (hg : (X.alloc o).grownBy X1 v.ownBlock) :
    X1.heap[vb]? = some (.cells #[v] 92 (0, 0)) ∧ LstS w.heap.size vb (l ++ [x]) (X1.setCell ⟨vb, 0, none⟩ v') ∧ Below w.heap.size w (X1.setCell ⟨vb, 0, none⟩ v') ∧ KeepsFrom C X (X1.setCell ⟨vb, 0, none⟩ v') ∧ KpT X (X1.setCell ⟨vb, 0, none⟩ v') := by
  have hne : some vb ≠ v.ownBlock := fun e => by
    obtain ⟨-, cs, h3⟩ := row_blkS h2 e.symm
    rw [h1] at h3; simp at h3
  have hvb1 : X1.heap[vb]? = some (.cells #[v] 92 (0, 0)) := by
    rw [hg.block vb (by have := lt_of_blk h1; simp; omega) hne]
    exact blk_on h1 (bnew _ _)
  have st : ∀ T, T ≠ 9 → T ≠ 92 → Stay T X (X1.setCell ⟨vb, 0, none⟩ v') := fun T n1 n2 => by
    refine (((Stay.refl T X).alloc o).grown hg ?_).setCell _ (fun cs e => by dsimp only at e; rw [hvb1] at e; simp at e; exact n2 e.2.symm)
    intro r e cs hcs
    obtain ⟨-, cs', h3⟩ := row_blkS h2 e
    rw [blk_on h3 (bnew _ _)] at hcs
    simp at hcs
    exact n1 hcs.2.symm
  refine ⟨hvb1, ⟨v', by rw [heap_setCell_same X1 vb 0 _ _ v' hvb1]; rfl, ?_⟩, ?_, ?_, st _ (by decide) (by decide), st _ (by decide) (by decide), st _ (by decide) (by decide)⟩
  · have e : strCells (l ++ [x]) = strCells l ++ [.string x] := by simp [strCells]
    rw [List.length_append, e]
    refine ownsRow_keep (S := fun i => i = vb) ho ((Keeps.refl (fun i => i = vb) X1).setCell (p := ⟨vb, 0, none⟩) (fun _ => rfl) _) (fun j e1 e2 => ?_)
    subst e2
    obtain ⟨-, cs, h3⟩ := row_blkS ho e1
    rw [hvb1] at h3; simp at h3
  · exact (((hB.alloc hB.size o).grown hg (by have := hB.size; simp; omega) (fun j e => (row_blkS h2 e).1)).setCell (p := ⟨vb, 0, none⟩) hvb _)
  · have k1 : KeepsFrom C (X.alloc o) X1 := ⟨hg.size, fun i ob _ hi hob => (hg.block i (Array.getElem?_eq_some_iff.1 hi).1 (fun e => by
      obtain ⟨-, cs, h3⟩ := row_blkS h2 e.symm
      rw [blk_on h3 (bnew _ _)] at hi
      injection hi with hi
      subst hi
      cases hob)).trans hi⟩
    exact ((KeepsFrom.of_grownBy (World.grownBy_alloc X o none) (fun j e => by cases e)).trans k1).trans ((KeepsOthers.setCell _ _ _).from _)

theorem infoStrS : (Tryd.prog.info? 9).map (fun i => (i.zero, i.size, i.bytes)) = some (some (.string ⟨#[]⟩), 1, 16) := by kernel_rfl

/-- Text number i of a list. -/
def nthS (l : List ByteArray) (i : Nat) : ByteArray := l.getD i ⟨#[]⟩
theorem upto_nth (l : List ByteArray) : strUpto (nthS l) l.length = l := by
  apply List.ext_getElem?
  intro i
  by_cases h : i < l.length
  · simp [strUpto, nthS, h]
  · simp [strUpto, h]
theorem strs_row {w : World} {B n : Nat} {a : Option Addr} {c : Nat} {l : List ByteArray} (h : w.ownsRow B 9 1 (.slice a n c) n (strCells l)) (hl : l.length = n) (hn : n ≤ 1000000) : StrsIn w.heap.size w a n c (nthS l) := by
  obtain ⟨_, _, e1, h2, h3, hf⟩ := own_slice h
  injection e1 with e1 _ e3
  subst e1 e3
  rcases hf with ⟨rfl, rfl, rfl⟩ | ⟨g, rfl, -⟩
  · exact ⟨Nat.le_refl _, Nat.zero_le _, .inl rfl⟩
  · refine strs_own (B := B) ?_ (by omega)
    rw [← hl, upto_nth, hl]
    exact h

/-- What Split answers: a list, and an error. -/
def SplitAny (w : World) (e : Ending) (w' : World) : Prop := ∃ (v : Value) (c : Int), e = .returned (.tuple #[v, .int .i64 c]) ∧ Below w.heap.size w w'
theorem ranges_some (lo hi : ByteArray) (op : Bool) (a : Option Addr) (n cap : Nat) (S : Nat → ByteArray) (p : Int) (w : World) (h : StrsIn w.heap.size w a n cap S) :
    Calls Tryd.prog 41 #[.agg #[.string lo, .string hi, .bool op], .slice a n cap, .int .i64 p] w fun e w' => SplitAny w e w' := by
  by_cases h1 : Rg.chk ⟨lo, hi, op⟩ = 0
  · by_cases h2 : keyE S n = 0
    · cases h3 : allK ⟨lo, hi, op⟩ S n
      · refine (ranges_not lo hi op a n cap S p w h h1 h2 h3).mono ?_
        rintro e w' ⟨rfl, b⟩
        exact ⟨_, _, rfl, b⟩
      · by_cases h4 : 1 ≤ (n : Int) ∧ (n : Int) ≤ 256 ∧ 1 ≤ p ∧ p ≤ (n : Int)
        · obtain ⟨q, rfl⟩ : ∃ q : Nat, p = (q : Int) + 1 := ⟨(p - 1).toNat, by omega⟩
          refine (ranges_ok lo hi op a n cap S q w h h1 h2 h3 (by omega) (by omega)).mono ?_
          rintro e w' ⟨g, cp, rfl, -, -, b⟩
          exact ⟨_, _, rfl, b⟩
        · refine (ranges_arg lo hi op a n cap S p w h h1 h2 h3 h4).mono ?_
          rintro e w' ⟨rfl, b⟩
          exact ⟨_, _, rfl, b⟩
    · refine (ranges_key lo hi op a n cap S p w h _ h1 rfl h2).mono ?_
      rintro e w' ⟨rfl, b⟩
      exact ⟨_, _, rfl, b⟩
  · refine (ranges_chk lo hi op a n cap S p w h _ rfl h1).mono ?_
    rintro e w' ⟨rfl, b⟩
    exact ⟨_, _, rfl, b⟩

/-- The keys of a range's rows. -/
def keysR (T : Tr En Tl) (lo hi : ByteArray) (op : Bool) (Ls : List En) : List ByteArray := (spanL T (belE lo Ls : Int) (endE hi op Ls : Int)).map (fun r => r.k)

set_option maxHeartbeats 8000000 in
set_option maxRecDepth 100000 in
/-- Split, with whatever cuts says of the keys: a list v and an error c of which R is known. -/
theorem ssplit (lo hi : ByteArray) (op : Bool) (p : Int) {Ls : List En} {w : World} {sb g tb : Nat} {nd ck : Int} {T : Tr En Tl} {n : Nat} (h : IsSt w sb g tb nd ck T n) (hH : Hol T Ls) (hl : Ls.length ≤ 1000000) (R : World → Value → Int → World → Prop)
    (hown : ∀ V v c (X : World) (D : Nat), R V v c X → V.heap.size ≤ X.heap.size → X.heap[D]? = some (.deferred (some [])) → R V v c (X.putObj D (.deferred none)))
    (hC : ∀ (W : World) (a : Option Addr) (m c : Nat), Below w.heap.size w W → StrsIn W.heap.size W a m c (nthS (keysR T lo hi op Ls)) → (keysR T lo hi op Ls).length = m → Calls Tryd.prog 41 #[.agg #[.string lo, .string hi, .bool op], .slice a m c, .int .i64 p] W fun e W' => ∃ v c, e = .returned (.tuple #[v, .int .i64 c]) ∧ R W v c W' ∧ Below W.heap.size W W') :
    Calls Tryd.prog 18 #[.pointer (some ⟨sb, 0, none⟩), .agg #[.string lo, .string hi, .bool op], .int .i64 p] w fun e w' => ∃ W v c, e = .returned (.tuple #[v, .int .i64 c]) ∧ R W v c w' ∧ w.heap.size ≤ W.heap.size ∧ Below w.heap.size w w' := by
  have B0 := aside (bnew w (.cells #[.string lo, .string hi, .bool op] 35))
  have K0 := aside (heap_alloc_new w (.cells #[.string lo, .string hi, .bool op] 35))
  have H := aside (h.below B0.out)
  have CR := aside (fun (W : World) (h : IsSt W sb g tb nd ck T n) => srows lo hi op h hH hl)
  have HH := aside hH
  have HLE := aside hl
  have HC := aside hC
  clear h hH hl hC
  refine (callsIn_wide (n := 7)).1 ?_
  refine callsIn_of_wp_marks Tryd.func18 rfl trivial ?_ rfl
  simp only [Tryd.ntmps18, List.size_toArray, List.length_cons, List.length_nil, Nat.reduceAdd, Nat.reduceSub, Array.replicate_succ, Array.replicate_zero, List.push_toArray, List.append_toArray, List.nil_append, List.cons_append]
  obtain ⟨r0, r1, r2, -⟩ := tri K0.out
  gi_wp2_with fail
  refine ⟨trivial, ?_⟩
  refine (callsIn_wide.2 (CR.out _ H.out)).mono ?_
  rintro e w1 ⟨rfl, b1⟩
  replace B0 := aside (bthen B0.out b1)
  replace K0 := aside (blk_on K0.out b1)
  replace H := aside (H.out.below b1)
  obtain ⟨rb, hrb⟩ : ∃ rb, w.heap.size = rb := ⟨_, rfl⟩
  have HRB := aside hrb
  rw [hrb] at K0 ⊢
  have bV := bnew w1 (.cells #[.slice none 0 0] 92)
  have KV := aside (heap_alloc_new w1 (.cells #[.slice none 0 0] 92))
  replace B0 := aside (bthen B0.out bV)
  replace K0 := aside (blk_on K0.out bV)
  replace H := aside (H.out.below bV)
  obtain ⟨vb, hvb⟩ : ∃ vb, w1.heap.size = vb := ⟨_, rfl⟩
  have HVB := aside (show w.heap.size ≤ vb from by rw [← hvb]; have h1 := b1.size; rw [World.size_alloc] at h1; omega)
  obtain ⟨-, -, -, c3, -⟩ := quad H.out.blk
  obtain ⟨pp, ht, hT⟩ := H.out.tree
  have HT := aside hT
  have CS := aside (yspan (belE lo Ls : Int) (endE hi op Ls : Int) ht)
  clear b1 bV r0 r1 r2 hrb ht hT CR
  gi_wp2_with fail
  refine ⟨trivial, ?_⟩
  refine (callsIn_wide.2 (CS.out)).mono ?_
  rintro e w3 ⟨lbS, rfl, hs, b3⟩
  have HS := aside hs
  rw [hvb] at KV
  replace KV := aside (blk_on KV.out b3)
  replace K0 := aside (blk_on K0.out b3)
  replace B0 := aside (bthen B0.out b3)
  replace HT := aside (HT.out.on (fun _ _ e => blk_on e b3))
  clear hs b3 CS c3 hvb H
  gi_wp2_with fail
  have hcn := HH.out.cnt
  have hle := HLE.out
  have hsp : (spanL T (belE lo Ls : Int) (endE hi op Ls : Int)).length ≤ 1000000 := by
    unfold spanL seg
    have := Tr.rows_length T
    simp only [List.length_drop, List.length_take]
    omega
  have HSP := aside hsp
  have SQ := aside (SeqO.of_stops fun n => span1 (Kp := KpT) HS.out HT.out (by omega) (by have := endE_le hi op Ls; omega) (Nat.le_refl _) (fun A B h => h.1))
  have I0 := aside (show LstS w.heap.size vb [] w3 from ⟨.slice none 0 0, KV.out, ⟨rfl, .inl ⟨rfl, rfl⟩⟩⟩)
  have HVV := aside (show w.heap.size ≤ w3.heap.size from B0.out.size)
  have K0V := aside K0.out
  have HKS := aside (show keysR T lo hi op Ls = (spanL T (belE lo Ls : Int) (endE hi op Ls : Int)).map (fun r => r.k) from rfl)
  clear hcn hle hsp KV
  have ownI : OwnFrom w3.heap.size (fun (pre : List (Rw En Tl)) X => LstS w.heap.size vb (pre.map (fun r => r.k)) X ∧ X.heap[rb]? = some (.cells #[.string lo, .string hi, .bool op] 35 (0, 0)) ∧ Below w.heap.size w X) := fun s A Y row hs hg hr =>
    ⟨hs.1.own hg (fun r e => (hr r e).2), cells_own hs.2.1 hg (fun r e => (hr r e).2), ownFrom_below (β := Unit) (Nat.le_refl w.heap.size) HVV.out () A Y row hs.2.2 hg hr⟩
  refine rangeO rfl (enters_of Tryd.func58 (by kernel_rfl) rfl) SQ.out KpT.t (fun W l o o' _ h ho => KpT.b W l o o' h ho) (Below.refl _ _) (fun _ => rfl)
    (fun (pre : List (Rw En Tl)) X => LstS w.heap.size vb (pre.map (fun r => r.k)) X ∧ X.heap[rb]? = some (.cells #[.string lo, .string hi, .bool op] 35 (0, 0)) ∧ Below w.heap.size w X) (fun _ _ _ => False) ownI (fun _ _ _ _ _ h => h.elim) ⟨I0.out, K0.out, B0.out⟩
    (fun x a' X => a' = ⟨#[.pointer (some ⟨sb, 0, none⟩), .agg #[.string lo, .string hi, .bool op], .int .i64 p, undef, .pointer (some ⟨rb, 0, none⟩), undef, .slice none 0 0, .int .i64 0, .int .i64 (belE lo Ls : Int), .int .i64 (endE hi op Ls : Int), .pointer (some ⟨vb, 0, none⟩), .string x.k, .tuple #[.int .i64 (belE lo Ls : Int), .int .i64 (endE hi op Ls : Int)], .pointer (some ⟨sb, 0, none⟩), .agg #[.string lo, .string hi, .bool op], .tuple #[.int .i64 (belE lo Ls : Int), .int .i64 (endE hi op Ls : Int)], .int .i64 (belE lo Ls : Int), .int .i64 (endE hi op Ls : Int), .pointer (some ⟨sb, 0, none⟩), .pointer (some ⟨sb, 0, none⟩), .pointer (some ⟨sb, 3, none⟩), .pointer (some ⟨tb, 0, none⟩), .int .i64 (belE lo Ls : Int), .int .i64 (endE hi op Ls : Int), .func (.func 58) #[] lbS, .string x.k, .agg #[.string x.v.k, .int .i64 x.v.c, .int .i64 x.v.n, .string x.v.v, .bool x.v.d], undef, undef, undef, undef, undef, undef, undef, undef, undef, undef], []⟩)
    (fun x a' _ A Y row hs hg hr => hs) ?assign ?body ?done ?stop
  case assign =>
    intro l' pre x X K hi hK
    dsimp only [encs2]
    gi_wp2
    exact hK _ _ (KeepsFrom.refl _ _) (KpT.refl X) hi rfl
  case body =>
    rintro l' pre x a' X ⟨hls, hk0, hbx⟩ rfl hlen
    obtain ⟨v, hv, ho⟩ := hls.ex
    obtain ⟨i0, hi0, hz0, hz1, hz2⟩ := info_parts infoStrS
    have v0 := cell_one hv
    have HV := aside hv
    have HO := aside ho
    have HB := aside hbx
    have HK0 := aside hk0
    have HLN := aside (show (pre.map (fun r => r.k)).length ≤ 1000000 from by have := HSP.out; rw [List.length_map]; omega)
    have HI := aside hi0
    obtain ⟨ks, hks⟩ : ∃ ks, pre.map (fun r => r.k) = ks := ⟨_, rfl⟩
    have HKN := aside (show (pre ++ [x]).map (fun r => r.k) = ks ++ [x.k] from by rw [List.map_append, hks]; rfl)
    rw [hks] at HO HLN
    clear hls hv ho hbx hlen hi0 hk0 hks
    gi_wp2_with (gi_at_builtin; go_loud (refine wpListIn_append_own _ rfl _ _ _ rfl w.heap.size 9 i0 (.string ⟨#[]⟩) 1 16 Tryd.underlying92 HI.out hz0 hz1 hz2 rfl (by decide) v ks.length (strCells ks) (by rfl) (HO.out.alloc _) ⟨X.heap.size, 0, none⟩ 1 1 [.string x.k] (by rfl) (by rfl) (World.news_of_block (cs := #[.string x.k]) (t := 9) (fr := (0, 0)) (heap_alloc_new X _)) (by intro u hu; rw [List.mem_singleton] at hu; subst hu; rfl) (by have := HLN.out; unfold maxLen; omega) (by have := HLN.out; omega) (by have := HB.out.size; simp; omega) ?_); intro v' X2 hown1 hgrow hiff; refine Hid.out ?_)
    refine aside ?_
    obtain ⟨g', cap', rfl⟩ : ∃ g' cap', v' = .slice (some ⟨g', 0, none⟩) (ks.length + 1) cap' := by
      rcases hown1.2 with ⟨_, h⟩ | ⟨g', cap', cur, e, _⟩
      · omega
      · exact ⟨g', cap', e⟩
    have ST := aside (lst_stepS (x := x.k) (C := w3.heap.size) HB.out HVB.out HV.out HO.out hown1 hgrow)
    have KB := aside (show (X2.setCell ⟨vb, 0, none⟩ (.slice (some ⟨g', 0, none⟩) (ks.length + 1) cap')).heap[rb]? = some (.cells #[.string lo, .string hi, .bool op] 35 (0, 0)) from by
      rw [Below.heap_setCell _ _ _ _ (fun e => by subst e; rw [HK0.out] at HV; simp at HV; exact absurd HV.out (by simp))]
      rw [hgrow.block rb (by have := lt_of_blk HK0.out; simp; omega) (fun e => by obtain ⟨-, cs, h3⟩ := row_blkS HO.out e.symm; rw [HK0.out] at h3; simp at h3)]
      exact blk_on HK0.out (bnew _ _))
    have v1 := cell_one ST.out.1
    have z1 := frozen_one ST.out.1
    clear hown1 hgrow hiff v0
    gi_wp2
    exact ⟨ST.out.2.2.2.1, ST.out.2.2.2.2, by rw [HKN.out]; exact ST.out.2.1, KB.out, ST.out.2.2.1⟩
  case done =>
    rintro D xs X hD rfl ⟨hls, hk0, hbx⟩ hK
    rw [← HKS.out] at hls
    obtain ⟨v, hv, ho⟩ := hls.ex
    obtain ⟨a, c, rfl, -⟩ := own_slice ho
    have v0 := cell_one hv
    obtain ⟨r0, r1, r2, -⟩ := tri hk0
    have HLK := aside (show (keysR T lo hi op Ls).length ≤ 1000000 from by have := HSP.out; rw [HKS.out, List.length_map]; exact this)
    have HST := aside (strs_row ho rfl HLK.out)
    have HBX := aside hbx
    have HKD := aside hK
    obtain ⟨m, hm⟩ : ∃ m, (keysR T lo hi op Ls).length = m := ⟨_, rfl⟩
    have HM := aside hm
    rw [hm] at v0 HST
    clear hls hv ho hbx hK hm hk0
    gi_wp2_with fail
    refine ⟨trivial, ?_⟩
    refine (callsIn_wide.2 (HC.out _ a m c HBX.out HST.out HM.out)).mono ?_
    rintro e Y ⟨v, c, rfl, hr, b5⟩
    have HR := aside hr
    have B5 := aside b5
    have HKY := aside (blk_on HKD.out b5)
    clear hr b5 v0 r0 r1 r2
    gi_wp2
    refine ⟨by simp, .inl ⟨_, _, rfl, run_takeDeferred HKY.out, ?_⟩⟩
    refine ⟨.tuple #[v, .int .i64 c], by simp [results, Tryd.f18, go_sem], X, v, c, rfl, hown _ _ _ _ _ HR.out B5.out.size HKY.out, HBX.out.size, ?_⟩
    exact ownFrom_below (β := Unit) (Nat.le_refl w.heap.size) HVV.out () Y _ (some D) (bthen HBX.out B5.out) (grownBy_putObj' Y D (.deferred none)) (fun r e => by cases e; exact ⟨hD, _, HKY.out, rfl⟩)
  case stop =>
    rintro D c pre X hD _ h
    exact h.elim

/-- Split leaves the store as it was. -/
theorem qsplit (lo hi : ByteArray) (op : Bool) (p : Int) {w : World} {sb g tb : Nat} {nd ck : Int} {Ls : List En} (h : Sto w sb g tb nd ck Ls) (hl : Ls.length ≤ 1000000) :
    Calls Tryd.prog 18 #[.pointer (some ⟨sb, 0, none⟩), .agg #[.string lo, .string hi, .bool op], .int .i64 p] w fun e w' => SplitAny w e w' := by
  obtain ⟨T, n, h1, hH⟩ := h
  refine (ssplit lo hi op p h1 hH hl (fun _ _ _ _ => True) (fun _ _ _ _ _ _ _ _ => trivial) (fun W a m c _ hs _ => (ranges_some lo hi op a m c _ p W hs).mono ?_)).mono ?_
  · rintro e w' ⟨v, c, rfl, b⟩
    exact ⟨v, c, rfl, trivial, b⟩
  · rintro e w' ⟨W, v, c, rfl, -, -, b⟩
    exact ⟨v, c, rfl, b⟩

end Go.Proofs.YtlgcdcjhflihiaaDoor
namespace Go.Proofs.YtlgcdcjhflihiaaDoor
open Go.ChangeShapes Go.WideShapes Go.ChangeAt Go.RowKit
set_option linter.unusedVariables false

structure OpU where
  kind : Int
  store : Int
  num : Int
  key : ByteArray
  val : ByteArray
  lo : ByteArray
  hi : ByteArray
  op : Bool
  ek : ByteArray
  ec : Int
  en : Int
  ev : ByteArray
  ed : Bool

/-- The cells of one. -/
def OpUAt (w : World) (b off : Nat) (t : OpU) : Prop :=
  w.cell? ⟨b, off, none⟩ = some (.int .i64 t.kind) ∧ w.cell? ⟨b, off + 1, none⟩ = some (.int .i64 t.store) ∧ w.cell? ⟨b, off + 2, none⟩ = some (.int .i64 t.num) ∧ w.cell? ⟨b, off + 3, none⟩ = some (.string t.key) ∧ w.cell? ⟨b, off + 4, none⟩ = some (.string t.val) ∧ w.cell? ⟨b, off + 5, none⟩ = some (.string t.lo) ∧ w.cell? ⟨b, off + 6, none⟩ = some (.string t.hi) ∧ w.cell? ⟨b, off + 7, none⟩ = some (.bool t.op) ∧ w.cell? ⟨b, off + 8, none⟩ = some (.string t.ek) ∧ w.cell? ⟨b, off + 9, none⟩ = some (.int .i64 t.ec) ∧ w.cell? ⟨b, off + 10, none⟩ = some (.int .i64 t.en) ∧ w.cell? ⟨b, off + 11, none⟩ = some (.string t.ev) ∧ w.cell? ⟨b, off + 12, none⟩ = some (.bool t.ed)

/-- A list of such. -/
def OpUs (w : World) (a : Option Addr) (len cap : Nat) (T : Nat → OpU) : Prop :=
  len ≤ cap ∧ cap ≤ maxLen ∧ len * 152 ≤ 140737488351232 ∧ (len = 0 ∨ ∃ b off, a = some ⟨b, off, none⟩ ∧ b < w.heap.size ∧ ∀ i, i < len → OpUAt w b (off + i * 13) (T i))

theorem OpUAt.keep {w w' : World} {b off : Nat} {t : OpU} (h : OpUAt w b off t) (k : Below w.heap.size w w') : OpUAt w' b off t := by
  obtain ⟨c0, c1, c2, c3, c4, c5, c6, c7, c8, c9, c10, c11, c12⟩ := h
  exact ⟨cell_in c0 k, cell_in c1 k, cell_in c2 k, cell_in c3 k, cell_in c4 k, cell_in c5 k, cell_in c6 k, cell_in c7 k, cell_in c8 k, cell_in c9 k, cell_in c10 k, cell_in c11 k, cell_in c12 k⟩

theorem OpUs.keep {w w' : World} {a : Option Addr} {len cap : Nat} {T : Nat → OpU} (h : OpUs w a len cap T) (k : Below w.heap.size w w') : OpUs w' a len cap T := by
  obtain ⟨h1, h2, h3, h4⟩ := h
  refine ⟨h1, h2, h3, ?_⟩
  rcases h4 with h4 | ⟨bb, off, rfl, hb, hc⟩
  · exact .inl h4
  · exact .inr ⟨bb, off, rfl, by have := k.size; omega, fun i hi => (hc i hi).keep k⟩

theorem cellsOpU : Tryd.prog.cellsOf 41 = 13 := by kernel_rfl
theorem bytesOpU : Tryd.prog.bytesOf 41 = 152 := by kernel_rfl
theorem cellsOpU0 : Tryd.prog.cellsOf 35 = 3 := by kernel_rfl
theorem cellsOpU1 : Tryd.prog.cellsOf 37 = 2 := by kernel_rfl
theorem cellsOpU2 : Tryd.prog.cellsOf 39 = 5 := by kernel_rfl
theorem cellsOpUi : Tryd.prog.cellsOf 3 = 1 := by kernel_rfl
theorem cellsOpUs : Tryd.prog.cellsOf 9 = 1 := by kernel_rfl
theorem cellsOpUb : Tryd.prog.cellsOf 4 = 1 := by kernel_rfl

variable {H : Type} {enc : TypeId × Value → H} {W : World}

set_option maxRecDepth 100000 in
set_option maxHeartbeats 2000000 in
theorem OpU_cells {b0 : Nat} {sp : Nat → Bool} {held : Bool} {fuel : Nat} {v0 v1 v2 v3 v4 v5 v6 v7 v8 v9 v10 v11 v12 : Value} {z : DataW H × List MemPlace} (h : DataW.trod enc Tryd.prog W b0 sp held fuel 41 [v0, v1, v2, v3, v4, v5, v6, v7, v8, v9, v10, v11, v12] = some z) :
    ∃ t : OpU, v0 = .int .i64 t.kind ∧ v1 = .int .i64 t.store ∧ v2 = .int .i64 t.num ∧ v3 = .string t.key ∧ v4 = .string t.val ∧ v5 = .string t.lo ∧ v6 = .string t.hi ∧ v7 = .bool t.op ∧ v8 = .string t.ek ∧ v9 = .int .i64 t.ec ∧ v10 = .int .i64 t.en ∧ v11 = .string t.ev ∧ v12 = .bool t.ed := by
  obtain ⟨xs1, m1, hm1, hxy1, _, hxl1, hfs1⟩ := DataW.trod_struct Tryd.underlying41 h
  match xs1, hxl1 with
  | [y1_0, y1_1, y1_2, y1_3, y1_4, y1_5, y1_6], _ =>
    have g1_0 := hfs1 0 _ rfl
    have g1_1 := hfs1 1 _ rfl
    have g1_2 := hfs1 2 _ rfl
    have g1_3 := hfs1 3 _ rfl
    have g1_4 := hfs1 4 _ rfl
    have g1_5 := hfs1 5 _ rfl
    have g1_6 := hfs1 6 _ rfl
    simp [cellsOpUi, cellsOpUs, cellsOpU0, cellsOpU2] at g1_0 g1_1 g1_2 g1_3 g1_4 g1_5 g1_6
    obtain ⟨q1_0, e1_0, f1_0, w1_0⟩ := DataW.trod_int Tryd.underlying3 g1_0
    obtain ⟨q1_1, e1_1, f1_1, w1_1⟩ := DataW.trod_int Tryd.underlying3 g1_1
    obtain ⟨q1_2, e1_2, f1_2, w1_2⟩ := DataW.trod_int Tryd.underlying3 g1_2
    obtain ⟨q1_3, e1_3, f1_3, w1_3⟩ := DataW.trod_string Tryd.underlying9 g1_3
    obtain ⟨q1_4, e1_4, f1_4, w1_4⟩ := DataW.trod_string Tryd.underlying9 g1_4
    obtain ⟨xs2, m2, hm2, hxy2, _, hxl2, hfs2⟩ := DataW.trod_struct Tryd.underlying35 g1_5
    match xs2, hxl2 with
    | [y2_0, y2_1, y2_2], _ =>
      have g2_0 := hfs2 0 _ rfl
      have g2_1 := hfs2 1 _ rfl
      have g2_2 := hfs2 2 _ rfl
      simp [cellsOpUs, cellsOpUb] at g2_0 g2_1 g2_2
      obtain ⟨q2_0, e2_0, f2_0, w2_0⟩ := DataW.trod_string Tryd.underlying9 g2_0
      obtain ⟨q2_1, e2_1, f2_1, w2_1⟩ := DataW.trod_string Tryd.underlying9 g2_1
      obtain ⟨q2_2, e2_2, f2_2⟩ := DataW.trod_bool Tryd.underlying4 g2_2
      obtain ⟨xs3, m3, hm3, hxy3, _, hxl3, hfs3⟩ := DataW.trod_struct Tryd.underlying39 g1_6
      match xs3, hxl3 with
      | [y3_0, y3_1, y3_2, y3_3], _ =>
        have g3_0 := hfs3 0 _ rfl
        have g3_1 := hfs3 1 _ rfl
        have g3_2 := hfs3 2 _ rfl
        have g3_3 := hfs3 3 _ rfl
        simp [cellsOpUs, cellsOpU1, cellsOpUb] at g3_0 g3_1 g3_2 g3_3
        obtain ⟨q3_0, e3_0, f3_0, w3_0⟩ := DataW.trod_string Tryd.underlying9 g3_0
        obtain ⟨xs4, m4, hm4, hxy4, _, hxl4, hfs4⟩ := DataW.trod_struct Tryd.underlying37 g3_1
        match xs4, hxl4 with
        | [y4_0, y4_1], _ =>
          have g4_0 := hfs4 0 _ rfl
          have g4_1 := hfs4 1 _ rfl
          simp [cellsOpUi] at g4_0 g4_1
          obtain ⟨q4_0, e4_0, f4_0, w4_0⟩ := DataW.trod_int Tryd.underlying3 g4_0
          obtain ⟨q4_1, e4_1, f4_1, w4_1⟩ := DataW.trod_int Tryd.underlying3 g4_1
          obtain ⟨q3_2, e3_2, f3_2, w3_2⟩ := DataW.trod_string Tryd.underlying9 g3_2
          obtain ⟨q3_3, e3_3, f3_3⟩ := DataW.trod_bool Tryd.underlying4 g3_3
          simp only [List.cons.injEq, and_true] at e1_0 e1_1 e1_2 e1_3 e1_4 e2_0 e2_1 e2_2 e3_0 e4_0 e4_1 e3_2 e3_3
          exact ⟨⟨q1_0, q1_1, q1_2, q1_3, q1_4, q2_0, q2_1, q2_2, q3_0, q4_0, q4_1, q3_2, q3_3⟩, e1_0, e1_1, e1_2, e1_3, e1_4, e2_0, e2_1, e2_2, e3_0, e4_0, e4_1, e3_2, e3_3⟩

def OpU0 : OpU := ⟨0, 0, 0, ⟨#[]⟩, ⟨#[]⟩, ⟨#[]⟩, ⟨#[]⟩, false, ⟨#[]⟩, 0, 0, ⟨#[]⟩, false⟩

set_option maxHeartbeats 1000000 in
theorem OpUs_open {fuel : Nat} {a : Option Addr} {len cap : Nat} {d : DataW H} {ps : List MemPlace}
    (hf : DataW.trod enc Tryd.prog W 0 (fun _ => true) true fuel 29 [.slice a len cap] = some (d, ps)) (hz : ∀ n ∈ d.weights Tryd.prog 29, n ≤ reachBytes) :
    ∃ T, OpUs W a len cap T := by
  rcases Deep.open_slice Tryd.underlying29 hf with ⟨hcs, _⟩ | ⟨x, l, c, m, n, D, Pl, hcs, hb, hl, hm, hmm, hx, hel⟩
  · simp only [List.cons.injEq, Value.slice.injEq, and_true] at hcs
    obtain ⟨rfl, rfl, rfl⟩ := hcs
    exact ⟨fun _ => OpU0, Nat.le_refl _, Nat.zero_le _, by omega, .inl rfl⟩
  · simp only [List.cons.injEq, Value.slice.injEq, and_true] at hcs
    obtain ⟨rfl, rfl, rfl⟩ := hcs
    simp only [Prod.mk.injEq] at hx
    have hd := hx.1
    simp only [if_true] at hmm
    subst hmm
    rw [cellsOpU] at hel
    have hbytes : len * 152 ≤ 140737488351232 := by
      have h1 := hz _ (by rw [hd]; simp only [DataW.weights, Tryd.underlying29]; exact List.mem_cons_self)
      rw [bytesOpU] at h1
      simp only [List.length_map, List.length_range] at h1
      have : reachBytes = 140737488351232 := by decide
      omega
    have each : ∀ i, i < len → ∃ t : OpU, (W.cell? (x.add (i * 13)) = some (.int .i64 t.kind) ∧ W.cell? (x.add (i * 13 + 1)) = some (.int .i64 t.store) ∧ W.cell? (x.add (i * 13 + 2)) = some (.int .i64 t.num) ∧ W.cell? (x.add (i * 13 + 3)) = some (.string t.key) ∧ W.cell? (x.add (i * 13 + 4)) = some (.string t.val) ∧ W.cell? (x.add (i * 13 + 5)) = some (.string t.lo) ∧ W.cell? (x.add (i * 13 + 6)) = some (.string t.hi) ∧ W.cell? (x.add (i * 13 + 7)) = some (.bool t.op) ∧ W.cell? (x.add (i * 13 + 8)) = some (.string t.ek) ∧ W.cell? (x.add (i * 13 + 9)) = some (.int .i64 t.ec) ∧ W.cell? (x.add (i * 13 + 10)) = some (.int .i64 t.en) ∧ W.cell? (x.add (i * 13 + 11)) = some (.string t.ev) ∧ W.cell? (x.add (i * 13 + 12)) = some (.bool t.ed)) := by
      intro i hi
      obtain ⟨cs', h1, h2⟩ := hel i (by omega)
      obtain ⟨_, hlen, hcell⟩ := World.cells?_some h1
      match cs', hlen with
      | [v0, v1, v2, v3, v4, v5, v6, v7, v8, v9, v10, v11, v12], _ =>
        obtain ⟨t, rfl, rfl, rfl, rfl, rfl, rfl, rfl, rfl, rfl, rfl, rfl, rfl, rfl⟩ := OpU_cells h2
        have c0 := hcell 0 (by omega)
        have c1 := hcell 1 (by omega)
        have c2 := hcell 2 (by omega)
        have c3 := hcell 3 (by omega)
        have c4 := hcell 4 (by omega)
        have c5 := hcell 5 (by omega)
        have c6 := hcell 6 (by omega)
        have c7 := hcell 7 (by omega)
        have c8 := hcell 8 (by omega)
        have c9 := hcell 9 (by omega)
        have c10 := hcell 10 (by omega)
        have c11 := hcell 11 (by omega)
        have c12 := hcell 12 (by omega)
        rw [Deep.add_add] at c0 c1 c2 c3 c4 c5 c6 c7 c8 c9 c10 c11 c12
        exact ⟨t, by simpa using c0, by simpa using c1, by simpa using c2, by simpa using c3, by simpa using c4, by simpa using c5, by simpa using c6, by simpa using c7, by simpa using c8, by simpa using c9, by simpa using c10, by simpa using c11, by simpa using c12⟩
    by_cases h0 : len = 0
    · exact ⟨fun _ => OpU0, hl, hm, by omega, .inl h0⟩
    · letI : Inhabited OpU := ⟨OpU0⟩
      obtain ⟨T, hT⟩ := Deep.choose_lt each
      have hc0 := (hT 0 (by omega)).1
      obtain ⟨blk, off, spot⟩ := x
      have hspot : spot = none := by
        have := World.cell?_spot hc0
        simpa [Addr.add] using this
      subst hspot
      have hblk : blk < W.heap.size := by
        have := World.block_lt_of_cell? W _ hc0
        simpa [Addr.add] using this
      have hadd : ∀ j, (⟨blk, off, none⟩ : Addr).add j = ⟨blk, off + j, none⟩ := by intro j; unfold Addr.add; split <;> simp_all
      refine ⟨T, hl, hm, by omega, .inr ⟨blk, off, rfl, hblk, fun i hi => ?_⟩⟩
      have h5 := hT i hi
      simp only [hadd] at h5
      simpa only [Nat.add_assoc, OpUAt] using h5

end Go.Proofs.YtlgcdcjhflihiaaDoor
namespace Go.Proofs.YtlgcdcjhflihiaaDoor
open Go.RowKit
set_option linter.unusedVariables false

structure SuM (w : World) (sb g tb : Nat) (nd ck : Int) (L : List En) (wa : Option Addr) (na wc : Nat) (Lw : List En) (X : World) : Prop where
  sto : Sto X sb g tb nd ck L
  lan : Lanes X
  row : ∃ B, X.ownsRow B 39 5 (.slice wa na wc) na (entCells Lw)
  bel : Below w.heap.size w X
  fresh : w.heap.size ≤ sb ∧ w.heap.size ≤ g ∧ w.heap.size ≤ tb
  pos : 0 < w.heap.size
theorem SuM.on {w : World} {sb g tb : Nat} {nd ck : Int} {L : List En} {wa : Option Addr} {na wc : Nat} {Lw : List En} {X X' : World} (h : SuM w sb g tb nd ck L wa na wc Lw X) (b : Below X.heap.size X X') : SuM w sb g tb nd ck L wa na wc Lw X' := by
  obtain ⟨B, hr⟩ := h.row
  exact ⟨h.sto.below b, h.lan.keep b, ⟨B, own_on hr b⟩, bthen h.bel b, h.fresh, h.pos⟩
theorem SuM.turn {w : World} {sb g tb : Nat} {nd ck : Int} {L : List En} {wa : Option Addr} {na wc : Nat} {Lw : List En} {X X' : World} {ck' : Int} {L' : List En} (h : SuM w sb g tb nd ck L wa na wc Lw X) (s : Sto X' sb g tb nd ck' L') (k : Keeps (Of sb g tb) X X') (l : Lanes X') : SuM w sb g tb nd ck' L' wa na wc Lw X' := by
  obtain ⟨B, hr⟩ := h.row
  exact ⟨s, l, ⟨B, own_kept hr k (fun g cs hg => h.sto.not hg (by decide) (by decide) (by decide))⟩, h.bel.trans (k.below h.bel.size (fun i hi e => by have := h.fresh; rcases e with e | e | e <;> omega)), h.fresh, h.pos⟩
theorem SuM.box {w : World} {sb g tb : Nat} {nd ck : Int} {L : List En} {wa : Option Addr} {na wc : Nat} {Lw : List En} {X X' : World} (h : SuM w sb g tb nd ck L wa na wc Lw X) (k : Keeps (Of sb g tb) X X') {i : Nat} {cs : Array Value} {U : TypeId} (hi : X.heap[i]? = some (.cells cs U (0, 0))) (h1 : U ≠ 82) (h2 : U ≠ 111) (h3 : U ≠ 149) : X'.heap[i]? = some (.cells cs U (0, 0)) := blk_keep hi k (h.sto.not hi h1 h2 h3)
/-- Another list in the place of the one that was. -/
theorem SuM.next {w : World} {sb g tb : Nat} {nd ck : Int} {L : List En} {wa : Option Addr} {na wc : Nat} {Lw : List En} {X : World} {va : Option Addr} {nv cv B : Nat} (h : SuM w sb g tb nd ck L wa na wc Lw X) (r : X.ownsRow B 39 5 (.slice va nv cv) nv (entCells L)) : SuM w sb g tb nd ck L va nv cv L X := ⟨h.sto, h.lan, ⟨B, r⟩, h.bel, h.fresh, h.pos⟩
theorem SuM.lenw {w : World} {sb g tb : Nat} {nd ck : Int} {L : List En} {wa : Option Addr} {na wc : Nat} {Lw : List En} {X : World} (h : SuM w sb g tb nd ck L wa na wc Lw X) : Lw.length = na := by
  obtain ⟨B, hr⟩ := h.row
  exact row_len hr
theorem ver_at {X : World} {sb g tb i : Nat} {nd ck : Int} {T : Tr En Tl} {n : Nat} {x y : Value} (h : IsSt X sb g tb nd ck T n) (hb : X.heap[i]? = some (.cells #[x, y] 37 (0, 0))) (c m : Int) :
    IsSt ((X.setCell ⟨i, 0, none⟩ (.int .i64 c)).setCell ⟨i, 1, none⟩ (.int .i64 m)) sb g tb nd ck T n := by
  have hn := h.not hb (by decide) (by decide) (by decide)
  obtain ⟨p, ht, hT⟩ := h.tree
  have h1 := heap_setCell_same X i 0 _ _ (.int .i64 c) hb
  refine ⟨?_, (h.cnt.setCell (p := ⟨i, 0, none⟩) _ (fun e => hn (.inr (.inr (Option.some.inj e).symm)))).setCell (p := ⟨i, 1, none⟩) _ (fun e => hn (.inr (.inr (Option.some.inj e).symm))), ⟨p, ?_, hT.on (((Stay.refl _ X).setCell _ (fun cs e => by dsimp only at e; rw [hb] at e; simp at e)).setCell _ (fun cs e => by dsimp only at e; rw [h1] at e; simp at e))⟩⟩
  · rw [heap_setCell_other _ _ _ _ (fun e => hn (.inl e.symm)), heap_setCell_other _ _ _ _ (fun e => hn (.inl e.symm))]; exact h.blk
  · unfold TObjE; rw [heap_setCell_other _ _ _ _ (fun e => hn (.inr (.inl e.symm))), heap_setCell_other _ _ _ _ (fun e => hn (.inr (.inl e.symm)))]; exact ht
theorem duoV {w : World} {i : Nat} {a b : Value} {T : TypeId} (h : w.heap[i]? = some (.cells #[a, b] T (0, 0))) : w.cell? ⟨i, 0, none⟩ = some a ∧ w.cell? ⟨i, 1, none⟩ = some b ∧ w.frozen? ⟨i, 0, none⟩ = false ∧ w.frozen? ⟨i, 1, none⟩ = false :=
  ⟨by rw [cell_of_row _ _ 0 _ _ _ h]; rfl, by rw [cell_of_row _ _ 1 _ _ _ h]; rfl, frozen_of_row w i 0 _ _ h, frozen_of_row w i 1 _ _ h⟩
/-- Keys that rise, as <= shows it. -/
theorem leq_no {x z : ByteArray} (h : kLt z x = true) : (Op.bytesLess x.toList z.toList || x.toList == z.toList) = false := by
  have h1 : Op.bytesLess x.toList z.toList = false := by
    cases hh : Op.bytesLess x.toList z.toList
    · rfl
    · have := kLt_trans h (show kLt x z = true from hh)
      rw [kLt_irrefl] at this
      cases this
  have h2 : (x.toList == z.toList) = false := by
    cases hh : (x.toList == z.toList)
    · rfl
    · rw [beq_iff_eq] at hh
      have := toList_inj hh
      subst this
      rw [kLt_irrefl] at h
      cases h
  rw [h1, h2]
  rfl
/-- A version's box written. -/
theorem SuM.ver {w : World} {sb g tb : Nat} {nd ck : Int} {L : List En} {wa : Option Addr} {na wc : Nat} {Lw : List En} {X : World} {i : Nat} {x y : Value} (h : SuM w sb g tb nd ck L wa na wc Lw X) (hi : X.heap[i]? = some (.cells #[x, y] 37 (0, 0))) (hw : w.heap.size ≤ i) (c m : Int) :
    SuM w sb g tb nd ck L wa na wc Lw ((X.setCell ⟨i, 0, none⟩ (.int .i64 c)).setCell ⟨i, 1, none⟩ (.int .i64 m)) ∧ ((X.setCell ⟨i, 0, none⟩ (.int .i64 c)).setCell ⟨i, 1, none⟩ (.int .i64 m)).heap[i]? = some (.cells #[.int .i64 c, .int .i64 m] 37 (0, 0)) ∧ ∀ {j : Nat} {o : Obj}, j ≠ i → X.heap[j]? = some o → ((X.setCell ⟨i, 0, none⟩ (.int .i64 c)).setCell ⟨i, 1, none⟩ (.int .i64 m)).heap[j]? = some o := by
  have k : Keeps (fun j => j = i) X ((X.setCell ⟨i, 0, none⟩ (.int .i64 c)).setCell ⟨i, 1, none⟩ (.int .i64 m)) := ((Keeps.refl (fun j => j = i) X).setCell (p := ⟨i, 0, none⟩) (fun _ => rfl) _).setCell (p := ⟨i, 1, none⟩) (fun _ => rfl) _
  have hn := h.sto.not hi (by decide) (by decide) (by decide)
  obtain ⟨B, hr⟩ := h.row
  obtain ⟨T, n, hs, hH⟩ := h.sto
  refine ⟨⟨⟨T, n, ver_at hs hi c m, hH⟩, ?_, ⟨B, own_kept hr k (fun g' cs hg e => by subst e; rw [hi] at hg; simp at hg)⟩, ?_, h.fresh, h.pos⟩, ?_, fun hj ho => ?_⟩
  · exact h.lan.keeps k (fun e => by have h1 := h.pos; omega)
  · exact h.bel.trans (k.below h.bel.size (fun j hj e => by omega))
  · have h1 := heap_setCell_same X i 0 _ _ (.int .i64 c) hi
    rw [heap_setCell_same _ i 1 _ _ (.int .i64 m) h1]; rfl
  · exact (k.block _ (Array.getElem?_eq_some_iff.1 ho).1 hj).trans ho

end Go.Proofs.YtlgcdcjhflihiaaDoor
namespace Go.Proofs.YtlgcdcjhflihiaaDoor
open Go.RowKit
set_option linter.unusedVariables false

theorem put_def (a : Act) (o : Option Nat) (v : Value) : (a.put o v).defers = a.defers := by cases o <;> rfl
/-- The bodies of a code's loops. -/
def loopsOf : Code → List Code
  | .loop c => c :: loopsOf c
  | .seq a b => loopsOf a ++ loopsOf b
  | .cond _ a b => loopsOf a ++ loopsOf b
  | .block _ c => loopsOf c
  | _ => []

set_option maxRecDepth 1000000 in
/-- The frame of a round: i entries are through. -/
def UpI (c0 c1 c2 c3 c4 c6 c8 c9 c10 c11 c13 c14 c16 c19 c20 c21 c22 c23 c24 c25 c26 c27 c28 c29 c30 c31 c32 c33 c34 c35 c36 c37 c38 c39 c40 c41 c42 c43 c44 c45 c46 c47 c48 c49 c50 c51 c52 c53 c54 c55 c56 c57 c58 c59 c60 c61 c62 c63 c64 c65 c66 c67 c68 c69 c70 c71 c72 c73 c74 c75 c76 c77 c78 c79 c80 c81 c82 c83 c84 c85 c86 c87 c88 c89 c90 c91 c92 c93 c94 c95 c96 c97 c98 c99 c100 c101 c102 c103 c104 c105 c106 c107 c108 c109 c110 c111 c112 c113 c114 c115 c116 c117 c118 c119 c120 c121 c122 c123 c124 c125 c126 c127 c128 c129 c130 c131 c132 c133 c134 c135 c136 c137 c138 c139 c140 c141 c183 c184 c185 c186 c187 c188 c189 c190 c191 c192 c193 c194 c195 c196 c197 c198 c199 c200 c201 c202 c203 c204 c205 c206 c207 c208 c209 c210 c211 c212 c213 c214 c215 c216 c217 c218 c219 c220 c221 c222 c223 c224 c225 c226 c227 c228 c229 c230 c231 : Value) (sb : Nat) (wa : Option Addr) (na wq : Nat) (er : Int) (ia : Option Addr) (ni ic : Nat) (X : World) (a : Act) (w' : World) : Prop :=
  ∃ d17 d18 d145 d146 d147 d148 d149 d150 d151 d152 d153 d154 d155 d156 d157 d158 d159 d160 d161 d162 d163 d164 d165 d166 d167 d168 d169 d170 d171 d172 d173 d174 d175 d176 d177 d178 d179 d180 d181 d182 : Value, ∃ i : Nat, a = ⟨#[c0, c1, c2, c3, c4, .pointer (some ⟨sb, 0, none⟩), c6, .slice wa na wq, c8, c9, c10, c11, .int .i64 er, c13, c14, .slice ia ni ic, c16, d17, d18, c19, c20, c21, c22, c23, c24, c25, c26, c27, c28, c29, c30, c31, c32, c33, c34, c35, c36, c37, c38, c39, c40, c41, c42, c43, c44, c45, c46, c47, c48, c49, c50, c51, c52, c53, c54, c55, c56, c57, c58, c59, c60, c61, c62, c63, c64, c65, c66, c67, c68, c69, c70, c71, c72, c73, c74, c75, c76, c77, c78, c79, c80, c81, c82, c83, c84, c85, c86, c87, c88, c89, c90, c91, c92, c93, c94, c95, c96, c97, c98, c99, c100, c101, c102, c103, c104, c105, c106, c107, c108, c109, c110, c111, c112, c113, c114, c115, c116, c117, c118, c119, c120, c121, c122, c123, c124, c125, c126, c127, c128, c129, c130, c131, c132, c133, c134, c135, c136, c137, c138, c139, c140, c141, .slice ia ni ic, .int .i64 (ni : Int), .int .i64 (i : Int), d145, d146, d147, d148, d149, d150, d151, d152, d153, d154, d155, d156, d157, d158, d159, d160, d161, d162, d163, d164, d165, d166, d167, d168, d169, d170, d171, d172, d173, d174, d175, d176, d177, d178, d179, d180, d181, d182, c183, c184, c185, c186, c187, c188, c189, c190, c191, c192, c193, c194, c195, c196, c197, c198, c199, c200, c201, c202, c203, c204, c205, c206, c207, c208, c209, c210, c211, c212, c213, c214, c215, c216, c217, c218, c219, c220, c221, c222, c223, c224, c225, c226, c227, c228, c229, c230, c231], []⟩ ∧ i ≤ ni ∧ Below X.heap.size X w'
/-- How much is left. -/
def UpMu (ni : Nat) (a : Act) : Nat := ni - (intOf (a.tmps.getD 144 undef)).toNat

/-- What the loop stands on. -/
structure UpL (w : World) (sb g tb : Nat) (nd ck ck' er : Int) (L L' : List En) (wa : Option Addr) (na wq : Nat) (ia : Option Addr) (ni ic : Nat) (X : World) : Prop where
  mem : SuM w sb g tb nd ck' L' wa na wq L X
  ri : ∃ B, X.ownsRow B 39 5 (.slice ia ni ic) ni (entCells L')
  st : StepE L ck L' ck' er
  ni2 : ni ≤ 256

end Go.Proofs.YtlgcdcjhflihiaaDoor
