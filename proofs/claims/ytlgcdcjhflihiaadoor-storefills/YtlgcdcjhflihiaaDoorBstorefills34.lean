/-
  Scan and All; all that a store holds.
  The tree's All, called.
  held: all that a store holds, as a list of its own.
-/
import Derived.Test.YtlgcdcjhflihiaaDoorBstorefills29
import Derived.Test.YtlgcdcjhflihiaaDoorBstorefills33
import Derived.Laws.EntriesVeiled
import Derived.OwnWalkIn
import Derived.RangeFuncBox
namespace Go.Proofs.YtlgcdcjhflihiaaDoor
open Go.RowKit Go.Shelf
set_option linter.unusedVariables false

attribute [local go_sem] Oper.semAt_some

/-- An iterator over the entries es. -/
def SeqE (w : World) (lb : Array Value) (es : List En) : Prop := ∃ N, N ≤ 1000000 ∧ es.length ≤ N ∧ SeqO Tryd.prog 69 lb encE KpT (fun ys => ys = es) (fun q => q <+: es) N w

theorem SeqE.below {w w' : World} {lb : Array Value} {es : List En} (h : SeqE w lb es) (b : Below w.heap.size w w') : SeqE w' lb es := by
  obtain ⟨N, h1, h2, h3⟩ := h
  exact ⟨N, h1, h2, h3.of_below b⟩

/-- What is gone through: what is in the range, dead ones only if they are wanted. -/
def thruL (lo hi : ByteArray) (op dd : Bool) (Ls : List En) : List En := (Ls.filter (inR lo hi op)).filter (fun e => dd || !e.d)

theorem rows_thru {T : Tr En Tl} {Ls : List En} {lo hi : ByteArray} {op : Bool} (hH : Hol T Ls) (h : op = true ∨ kLt hi lo = false) (dd : Bool) : entsOf dd (spanL T (belE lo Ls : Int) (endE hi op Ls : Int)) = thruL lo hi op dd Ls := by
  unfold spanL entsOf thruL
  have h1 := belE_le lo Ls
  have h2 := endE_le hi op Ls
  rw [show (max (belE lo Ls : Int) 0).toNat = belE lo Ls from by omega, show (min (endE hi op Ls : Int) (T.cnt : Int)).toNat = endE hi op Ls from by rw [hH.cnt]; omega, hH.rows, seg_map, seg_range hH.rises h, List.map_map]
  congr 1
  exact List.map_id _

set_option maxHeartbeats 3200000 in
set_option maxRecDepth 100000 in
theorem sthru (lo hi : ByteArray) (op dd : Bool) {Ls : List En} {w : World} {sb g tb : Nat} {nd ck : Int} {T : Tr En Tl} {n : Nat} (h : IsSt w sb g tb nd ck T n) (hH : Hol T Ls) (hl : Ls.length ≤ 1000000) :
    Calls Tryd.prog 45 #[.pointer (some ⟨sb, 0, none⟩), .agg #[.string lo, .string hi, .bool op], .bool dd] w fun r w' => Below w.heap.size w w' ∧ ((Rg.chk ⟨lo, hi, op⟩ ≠ 0 ∧ r = .returned (.tuple #[.nilFunc, .int .i64 (Rg.chk ⟨lo, hi, op⟩)])) ∨ (Rg.chk ⟨lo, hi, op⟩ = 0 ∧ ∃ lb, r = .returned (.tuple #[.func (.func 69) #[] lb, .int .i64 0]) ∧ SeqE w' lb (thruL lo hi op dd Ls))) := by
  have hmf : ∀ (fn : Fn) (first cap : Array Value) (w : World), (Instr.makeFunc fn first cap).run Tryd.prog w = .ok (.func fn first cap) w := fun _ _ _ _ => rfl
  have b0 := bnew w (.cells #[.string lo, .string hi, .bool op] 35)
  have b1 := bnew (w.alloc (.cells #[.string lo, .string hi, .bool op] 35)) (.cells #[.bool dd] 4)
  have B := aside (bthen b0 b1)
  have G0 := aside (blk_on (heap_alloc_new w (.cells #[.string lo, .string hi, .bool op] 35)) b1)
  have g1 := heap_alloc_new (w.alloc (.cells #[.string lo, .string hi, .bool op] 35)) (.cells #[.bool dd] 4)
  simp only [World.size_alloc] at g1
  have G1 := aside g1
  have H := aside (h.below B.out)
  have C1 := aside (fun (W : World) => check_any lo hi op W)
  have CR := aside (fun (W : World) (h : IsSt W sb g tb nd ck T n) => srows lo hi op h hH hl)
  have HH := aside hH
  have HLE := aside hl
  obtain ⟨c, hc⟩ : ∃ c, Rg.chk ⟨lo, hi, op⟩ = c := ⟨_, rfl⟩
  rw [hc] at C1 ⊢
  have HC := aside hc
  clear h hH hl b0 b1 g1 hc
  obtain ⟨q0, q1, q2, -⟩ := tri G0.out
  by_cases h0 : c = 0
  · subst h0
    go_enter Tryd.func45, Tryd.ntmps45
    go_wp2_with fail
    refine (C1.out _).mono ?_
    rintro e w1 ⟨rfl, b1⟩
    have H1 := aside (H.out.below b1)
    have G1' := aside (blk_on G1.out b1)
    have B1 := aside (bthen B.out b1)
    obtain ⟨r0, r1, r2, -⟩ := tri (blk_on G0.out b1)
    clear b1 H G1 G0 B C1 q0 q1 q2
    go_wp2_with fail
    refine (CR.out _ H1.out).mono ?_
    rintro e w2 ⟨rfl, b2⟩
    have H2 := aside (H1.out.below b2)
    have G2 := aside (blk_on G1'.out b2)
    have B2 := aside (bthen B1.out b2)
    obtain ⟨-, -, -, c3, -⟩ := quad H2.out.blk
    clear b2 H1 G1' B1 CR r0 r1 r2
    go_wp2_with fail
    obtain ⟨p, ht, hT⟩ := H2.out.tree
    have HT := aside hT
    have CS := aside (yspan (belE lo Ls : Int) (endE hi op Ls : Int) ht)
    clear ht hT
    refine CS.out.mono ?_
    rintro e w3 ⟨lbS, rfl, hs, b3⟩
    have HS := aside hs
    have B3 := aside b3
    clear hs b3 CS c3
    go_wp2
    go_ret2
    have b4 := bnew w3 (.cells #[.func (.func 58) #[] lbS] 94)
    have hcn := HH.out.cnt
    have hT3 : IsTE w3 p T := HT.out.on (fun _ _ e => blk_on e B3.out)
    have hle := HLE.out
    have hsp : (spanL T (belE lo Ls : Int) (endE hi op Ls : Int)).length ≤ Ls.length := by
      unfold spanL seg
      have := Tr.rows_length T
      simp only [List.length_drop, List.length_take]
      omega
    have hq := thru1 (dd := dd) (hb := w3.heap.size) (db := w.heap.size + 1) (sg := spanL T (belE lo Ls : Int) (endE hi op Ls : Int)) (heap_alloc_new w3 (.cells #[.func (.func 58) #[] lbS] 94)) (blk_on (blk_on G2.out B3.out) b4)
      (SeqO.of_stops fun n => span1 (HS.out.below b4) (hT3.on (fun _ _ e => blk_on e b4)) (by omega) (by omega) (Nat.le_refl _) (fun A B h => h.1))
    rw [rows_thru HH.out (chk_may HC.out) dd] at hq
    refine ⟨bthen (bthen B2.out B3.out) b4, .inr ⟨by simp, _, rfl, (spanL T (belE lo Ls : Int) (endE hi op Ls : Int)).length, by omega, ?_, hq⟩⟩
    rw [← rows_thru HH.out (chk_may HC.out) dd]
    exact entsOf_length _ _
  · have h0' : (c == 0) = false := beq_eq_false_iff_ne.2 h0
    have HN := aside h0
    clear h0
    go_enter Tryd.func45, Tryd.ntmps45
    go_wp2_with fail
    refine (C1.out _).mono ?_
    rintro e w1 ⟨rfl, b1⟩
    have B1 := aside (bthen B.out b1)
    clear b1 H G1 G0 B C1 q0 q1 q2
    go_wp2
    go_ret2
    exact ⟨B1.out, .inl ⟨HN.out, rfl⟩⟩

set_option maxHeartbeats 3200000 in
set_option maxRecDepth 100000 in
theorem sall (lo hi : ByteArray) (op : Bool) {Ls : List En} {w : World} {sb g tb : Nat} {nd ck : Int} {T : Tr En Tl} {n : Nat} (h : IsSt w sb g tb nd ck T n) (hH : Hol T Ls) (hl : Ls.length ≤ 1000000) :
    Calls Tryd.prog 26 #[.pointer (some ⟨sb, 0, none⟩), .agg #[.string lo, .string hi, .bool op]] w fun r w' => Below w.heap.size w w' ∧ ((Rg.chk ⟨lo, hi, op⟩ ≠ 0 ∧ r = .returned (.tuple #[.nilFunc, .int .i64 (Rg.chk ⟨lo, hi, op⟩)])) ∨ (Rg.chk ⟨lo, hi, op⟩ = 0 ∧ ∃ lb, r = .returned (.tuple #[.func (.func 69) #[] lb, .int .i64 0]) ∧ SeqE w' lb (thruL lo hi op true Ls))) := by
  have b0 := bnew w (.cells #[.string lo, .string hi, .bool op] 35)
  have C := aside (sthru lo hi op true (h.below b0) hH hl)
  have B := aside b0
  obtain ⟨q0, q1, q2, -⟩ := tri (heap_alloc_new w (.cells #[.string lo, .string hi, .bool op] 35))
  clear h hH hl b0
  go_enter Tryd.func26, Tryd.ntmps26
  go_wp2_with fail
  refine C.out.mono ?_
  rintro r w1 ⟨b1, ⟨hc, rfl⟩ | ⟨hc, lb, rfl, hs⟩⟩
  · have B1 := aside (bthen B.out b1)
    have HC := aside hc
    clear b1 hc C q0 q1 q2
    go_wp2
    go_ret2
    exact ⟨B1.out, .inl ⟨HC.out, rfl⟩⟩
  · have B1 := aside (bthen B.out b1)
    have HC := aside hc
    have HS := aside hs
    clear b1 hc hs C q0 q1 q2
    go_wp2
    go_ret2
    exact ⟨B1.out, .inr ⟨HC.out, _, rfl, HS.out⟩⟩

theorem qall (lo hi : ByteArray) (op : Bool) {w : World} {sb g tb : Nat} {nd ck : Int} {Ls : List En} (h : Sto w sb g tb nd ck Ls) (hl : Ls.length ≤ 1000000) :
    Calls Tryd.prog 26 #[.pointer (some ⟨sb, 0, none⟩), .agg #[.string lo, .string hi, .bool op]] w fun r w' => Below w.heap.size w w' ∧ ((Rg.chk ⟨lo, hi, op⟩ ≠ 0 ∧ r = .returned (.tuple #[.nilFunc, .int .i64 (Rg.chk ⟨lo, hi, op⟩)])) ∨ (Rg.chk ⟨lo, hi, op⟩ = 0 ∧ ∃ lb, r = .returned (.tuple #[.func (.func 69) #[] lb, .int .i64 0]) ∧ SeqE w' lb (thruL lo hi op true Ls))) := by
  obtain ⟨T, n, h1, h2⟩ := h
  exact sall lo hi op h1 h2 hl



end Go.Proofs.YtlgcdcjhflihiaaDoor
namespace Go.Proofs.YtlgcdcjhflihiaaDoor
open Go.RowKit Go.Shelf
set_option linter.unusedVariables false

theorem spanL_all (T : Tr En Tl) : spanL T 0 (T.cnt : Int) = T.rows := by
  unfold spanL seg
  have := Tr.rows_length T
  rw [show (max (0 : Int) 0).toNat = 0 from rfl, show (min (T.cnt : Int) (T.cnt : Int)).toNat = T.cnt from by omega, List.drop_zero, ← this, List.take_length]

set_option maxHeartbeats 3200000 in
set_option maxRecDepth 100000 in
theorem yallE {w : World} {tb : Nat} {jv : Value} {T : Tr En Tl} (h : TreeE w tb jv T) (hc : T.cnt ≤ 1000000) {Ok : Rw En Tl → Prop} (hok : ∀ x ∈ T.rows, Ok x) :
    Calls Tryd.prog 43 #[.pointer (some ⟨tb, 0, none⟩)] w fun r w' => Below w.heap.size w w' ∧ ∃ lb, r = .returned (.func (.func 67) #[] lb) ∧ SeqW Tryd.prog 67 lb encs2 KpA Ok (fun ys => ys = T.rows) (fun q => q <+: T.rows) T.rows.length w' := by
  have hmf : ∀ (fn : Fn) (first cap : Array Value) (w : World), (Instr.makeFunc fn first cap).run Tryd.prog w = .ok (.func fn first cap) w := fun _ _ _ _ => rfl
  have CL := aside (ylenE h)
  obtain ⟨p, ht, hT⟩ := h
  have HT := aside hT
  have CS := aside (yspan 0 (T.cnt : Int) ht)
  have HC := aside hc
  have HOK := aside hok
  clear ht hT hc hok
  go_enter Tryd.func43, Tryd.ntmps43
  go_wp2_with fail
  refine CL.out.mono ?_
  rintro e w1 ⟨rfl, rfl⟩
  go_wp2_with fail
  refine CS.out.mono ?_
  rintro e w3 ⟨lbS, rfl, hs, b3⟩
  have HS := aside hs
  have B3 := aside b3
  clear hs b3 CS CL
  go_wp2
  go_ret
  have b4 := bnew w3 (.cells #[.func (.func 58) #[] lbS] 94)
  have hT3 : IsTE w3 p T := HT.out.on (fun _ _ e => blk_on e B3.out)
  have hcn := HC.out
  have hq := allT1 (hb := w3.heap.size) (sg := spanL T 0 (T.cnt : Int)) (heap_alloc_new w3 (.cells #[.func (.func 58) #[] lbS] 94))
      (spanW (HS.out.below b4) (hT3.on (fun _ _ e => blk_on e b4)) (by omega) HOK.out (by omega) (Nat.le_refl _) (fun A B h => h.1))
  rw [spanL_all] at hq
  exact ⟨bthen B3.out b4, _, rfl, hq⟩

end Go.Proofs.YtlgcdcjhflihiaaDoor
namespace Go.Proofs.YtlgcdcjhflihiaaDoor
open Go.RowKit Go.Shelf
set_option linter.unusedVariables false

attribute [local go_sem] Oper.semAt_some

theorem kLt_none (x : ByteArray) : kLt x ⟨#[]⟩ = false := by
  have h : (⟨#[]⟩ : ByteArray).toList = [] := by kernel_rfl
  unfold kLt
  rw [h]
  cases x.toList <;> rfl
theorem thru_whole (Ls : List En) : thruL ⟨#[]⟩ ⟨#[]⟩ true true Ls = Ls := by
  unfold thruL
  rw [List.filter_eq_self.2 (fun e _ => Bool.true_or _)]
  exact List.filter_eq_self.2 (fun e _ => by simp [inR, kLt_none])
theorem chk_whole : Rg.chk ⟨⟨#[]⟩, ⟨#[]⟩, true⟩ = 0 := by kernel_rfl

set_option maxHeartbeats 3200000 in
set_option maxRecDepth 100000 in
theorem whole_any (w : World) : Calls Tryd.prog 25 #[] w fun e w' => e = .returned (.agg #[.string ⟨#[]⟩, .string ⟨#[]⟩, .bool true]) ∧ Below w.heap.size w w' := by
  go_enter Tryd.func25, Tryd.ntmps25
  go_wp2
  exact bodyPost_ret (v := .agg #[.string ⟨#[]⟩, .string ⟨#[]⟩, .bool true]) (by simp [results, Tryd.results25, go_sem]) rfl ⟨rfl, bnew w _⟩

/-- A list of entries in the variable at vb, its row laid from B on. -/
structure LstE (B : Nat) (vb : Nat) (l : List En) (X : World) : Prop where
  ex : ∃ v, X.heap[vb]? = some (.cells #[v] 31 (0, 0)) ∧ X.ownsRow B 39 5 v l.length (entCells l)

theorem ownsRow_own {A B' : World} {row : Option Nat} {base : Nat} {e : TypeId} {size : Nat} {v : Value} {n : Nat} {xs : List Value} (h : A.ownsRow base e size v n xs) (hg : A.grownBy B' row) (hr : ∀ r, row = some r → ∃ o : Obj, A.heap[r]? = some o ∧ o.isCells = false) : B'.ownsRow base e size v n xs := by
  refine ⟨h.1, ?_⟩
  rcases h.2 with hn | ⟨g, cap, cur, rfl, hb, hgk, r⟩
  · exact .inl hn
  · exact .inr ⟨g, cap, cur, rfl, hb, cells_own hgk hg hr, r⟩
theorem LstE.own {B vb : Nat} {l : List En} {A X : World} {row : Option Nat} (h : LstE B vb l A) (hg : A.grownBy X row) (hr : ∀ r, row = some r → ∃ o : Obj, A.heap[r]? = some o ∧ o.isCells = false) : LstE B vb l X := by
  obtain ⟨v, h1, h2⟩ := h.ex
  exact ⟨v, cells_own h1 hg hr, ownsRow_own h2 hg hr⟩

/-- The block of a row of entries. -/
theorem row_blk {X : World} {B n : Nat} {v : Value} {xs : List Value} (h : X.ownsRow B 39 5 v n xs) {r : Nat} (hr : v.ownBlock = some r) : B ≤ r ∧ ∃ cs, X.heap[r]? = some (.cells cs 39 (0, 0)) := by
  rcases h.2 with ⟨rfl, -⟩ | ⟨g, cap, cur, rfl, hb, hgk, -⟩
  · cases hr
  · cases hr; exact ⟨hb, _, hgk⟩

/-- One entry more. -/
theorem lst_step {w X X1 : World} {vb C : Nat} {l : List En} {x : En} {v v' : Value} {o : Obj} (hB : Below w.heap.size w X) (hvb : w.heap.size ≤ vb) (h1 : X.heap[vb]? = some (.cells #[v] 31 (0, 0))) (h2 : X.ownsRow w.heap.size 39 5 v l.length (entCells l))
    (ho : X1.ownsRow w.heap.size 39 5 v' (l.length + 1) (entCells l ++ entVals x)) (hg : (X.alloc o).grownBy X1 v.ownBlock) :
    X1.heap[vb]? = some (.cells #[v] 31 (0, 0)) ∧ LstE w.heap.size vb (l ++ [x]) (X1.setCell ⟨vb, 0, none⟩ v') ∧ Below w.heap.size w (X1.setCell ⟨vb, 0, none⟩ v') ∧ KeepsFrom C X (X1.setCell ⟨vb, 0, none⟩ v') ∧ KpT X (X1.setCell ⟨vb, 0, none⟩ v') := by
  have hne : some vb ≠ v.ownBlock := fun e => by
    obtain ⟨-, cs, h3⟩ := row_blk h2 e.symm
    rw [h1] at h3; simp at h3
  have hvb1 : X1.heap[vb]? = some (.cells #[v] 31 (0, 0)) := by
    rw [hg.block vb (by have := lt_of_blk h1; simp; omega) hne]
    exact blk_on h1 (bnew _ _)
  have st : ∀ T, T ≠ 39 → T ≠ 31 → Stay T X (X1.setCell ⟨vb, 0, none⟩ v') := fun T n1 n2 => by
    refine (((Stay.refl T X).alloc o).grown hg ?_).setCell _ (fun cs e => by dsimp only at e; rw [hvb1] at e; simp at e; exact n2 e.2.symm)
    intro r e cs hcs
    obtain ⟨-, cs', h3⟩ := row_blk h2 e
    rw [blk_on h3 (bnew _ _)] at hcs
    simp at hcs
    exact n1 hcs.2.symm
  refine ⟨hvb1, ⟨v', by rw [heap_setCell_same X1 vb 0 _ _ v' hvb1]; rfl, ?_⟩, ?_, ?_, st _ (by decide) (by decide), st _ (by decide) (by decide), st _ (by decide) (by decide)⟩
  · rw [List.length_append, entCells_append]
    have hx : entCells [x] = entVals x := by simp [entCells]
    rw [hx]
    refine ownsRow_keep (S := fun i => i = vb) ho ((Keeps.refl (fun i => i = vb) X1).setCell (p := ⟨vb, 0, none⟩) (fun _ => rfl) _) (fun j e1 e2 => ?_)
    subst e2
    obtain ⟨-, cs, h3⟩ := row_blk ho e1
    rw [hvb1] at h3; simp at h3
  · exact (((hB.alloc hB.size o).grown hg (by have := hB.size; simp; omega) (fun j e => (row_blk h2 e).1)).setCell (p := ⟨vb, 0, none⟩) hvb _)
  · have k1 : KeepsFrom C (X.alloc o) X1 := ⟨hg.size, fun i ob _ hi hob => (hg.block i (Array.getElem?_eq_some_iff.1 hi).1 (fun e => by
      obtain ⟨-, cs, h3⟩ := row_blk h2 e.symm
      rw [blk_on h3 (bnew _ _)] at hi
      injection hi with hi
      subst hi
      cases hob)).trans hi⟩
    exact ((KeepsFrom.of_grownBy (World.grownBy_alloc X o none) (fun j e => by cases e)).trans k1).trans ((KeepsOthers.setCell _ _ _).from _)

set_option maxHeartbeats 8000000 in
set_option maxRecDepth 100000 in
theorem held_any {w : World} {sb g tb : Nat} {nd ck : Int} {Ls : List En} (h : Sto w sb g tb nd ck Ls) (hl : Ls.length ≤ 1000000) :
    Calls Tryd.prog 14 #[.pointer (some ⟨sb, 0, none⟩)] w fun r w' => ∃ v, r = .returned (.tuple #[v, .bool true]) ∧ w'.ownsRow w.heap.size 39 5 v Ls.length (entCells Ls) ∧ Below w.heap.size w w' := by
  have CW := aside (whole_any w)
  have CA := aside (fun (W : World) (b : Below w.heap.size w W) => qall ⟨#[]⟩ ⟨#[]⟩ true (h.below b) hl)
  rw [chk_whole, thru_whole] at CA
  have hfn : ∀ (lb : Array Value), Hid (∀ w, (binOp .eql 70 (.func (.func 69) #[] lb) .nilFunc).run Tryd.prog w = .ok (.bool false) w) := fun lb w => rfl
  clear h hl
  refine (callsIn_wide (n := 5)).1 ?_
  refine callsIn_of_wp_marks Tryd.func14 rfl trivial ?_ rfl
  simp only [Tryd.ntmps14, List.size_toArray, List.length_cons, List.length_nil, Nat.reduceAdd, Nat.reduceSub, Array.replicate_succ, Array.replicate_zero, List.push_toArray, List.append_toArray, List.nil_append, List.cons_append]
  gi_wp2_with fail
  refine ⟨trivial, ?_⟩
  refine (callsIn_wide.2 CW.out).mono ?_
  rintro e w1 ⟨rfl, b1⟩
  have B1 := aside b1
  clear b1 CW
  gi_wp2_with fail
  refine ⟨trivial, ?_⟩
  refine (callsIn_wide.2 (CA.out _ B1.out)).mono ?_
  rintro e w2 ⟨b2, ⟨h0, -⟩ | ⟨-, lb, rfl, hs⟩⟩
  · exact absurd rfl h0
  have HS := aside hs
  have B2 := aside (bthen B1.out b2)
  have hff := (hfn lb).out
  clear hs b2 CA B1 hfn
  gi_wp2_with fail
  clear hff
  have b3 := bnew w2 (.cells #[.slice none 0 0] 31)
  have B3 := aside (bthen B2.out b3)
  obtain ⟨N, hN, hNl, hSq⟩ := HS.out
  have SQ := aside hSq
  have HNN := aside hN
  have I0 := aside (show LstE w.heap.size w2.heap.size [] (w2.alloc (.cells #[.slice none 0 0] 31)) from ⟨.slice none 0 0, heap_alloc_new w2 _, ⟨rfl, .inl ⟨rfl, rfl⟩⟩⟩)
  have HVB := aside (show w.heap.size ≤ w2.heap.size from B2.out.size)
  have BV := aside b3
  clear b3 hN hNl hSq HS
  generalize w2.alloc (.cells #[.slice none 0 0] 31) = V at *
  have HVV := aside (show w.heap.size ≤ V.heap.size from B3.out.size)
  have ownI : OwnFrom V.heap.size (fun (pre : List En) X => LstE w.heap.size w2.heap.size pre X ∧ Below w.heap.size w X) := fun s A Y row hs hg hr =>
    ⟨hs.1.own hg (fun r e => (hr r e).2), ownFrom_below (β := Unit) (Nat.le_refl w.heap.size) HVV.out () A Y row hs.2 hg hr⟩
  obtain ⟨vb, hvb⟩ : ∃ vb, w2.heap.size = vb := ⟨_, rfl⟩
  rw [hvb] at I0 HVB ownI ⊢
  refine rangeO rfl (enters_of Tryd.func69 (by kernel_rfl) rfl) SQ.out KpT.t (fun W l o o' _ h ho => KpT.b W l o o' h ho) BV.out (fun _ => rfl)
    (fun (pre : List En) X => LstE w.heap.size vb pre X ∧ Below w.heap.size w X) (fun _ _ _ => False) ownI (fun _ _ _ _ _ h => h.elim) ⟨I0.out, B3.out⟩
    (fun x a' X => ∃ eb : Nat, a' = ⟨#[.pointer (some ⟨sb, 0, none⟩), undef, .slice none 0 0, .bool false, .func (.func 69) #[] lb, .int .i64 0, .pointer (some ⟨vb, 0, none⟩), .pointer (some ⟨eb, 0, none⟩), .tuple #[.func (.func 69) #[] lb, .int .i64 0], .pointer (some ⟨sb, 0, none⟩), .agg #[.string ⟨#[]⟩, .string ⟨#[]⟩, .bool true], .tuple #[.func (.func 69) #[] lb, .int .i64 0], .func (.func 69) #[] lb, .int .i64 0, .int .i64 0, .bool false, .bool false, .func (.func 69) #[] lb, .bool false, .bool false, .func (.func 69) #[] lb, .agg #[.string x.k, .int .i64 x.c, .int .i64 x.n, .string x.v, .bool x.d], undef, undef, undef, undef, undef], []⟩ ∧ X.heap[eb]? = some (.cells #[.string x.k, .int .i64 x.c, .int .i64 x.n, .string x.v, .bool x.d] 39 (0, 0)))
    (fun x a' _ A Y row hs hg hr => by
      obtain ⟨eb, h1, h2⟩ := hs
      exact ⟨eb, h1, cells_own h2 hg (fun r e => (hr r e).2)⟩) ?assign ?body ?done ?stop
  case assign =>
    intro l' pre x X K hi hK
    dsimp only [encE]
    gi_wp2
    refine hK _ _ ?_ ?_ ?_ ⟨_, rfl, heap_alloc_new X _⟩
    · exact KeepsFrom.of_grownBy (World.grownBy_alloc X _ none) (fun j e => by cases e)
    · exact (KpT.refl X).alloc _
    · exact ownI.alloc _ hi
  case body =>
    rintro l' pre x a' X ⟨hls, hbx⟩ ⟨eb, rfl, he⟩ hlen
    obtain ⟨v, hv, ho⟩ := hls.ex
    obtain ⟨i0, hi0, hz0, hz1, hz2⟩ := info_parts infoEnt
    obtain ⟨e0, e1, e2, e3, e4, -⟩ := penta he
    have v0 := cell_one hv
    have HV := aside hv
    have HO := aside ho
    have HB := aside hbx
    have HLN := aside (show pre.length ≤ 1000000 from by have := HNN.out; omega)
    have HI := aside hi0
    clear hls hv ho hbx he hlen hi0
    gi_wp2_with (gi_at_builtin; go_loud (refine wpListIn_append_own _ rfl _ _ _ rfl w.heap.size 39 i0 (.agg #[.string ⟨#[]⟩, .int .i64 0, .int .i64 0, .string ⟨#[]⟩, .bool false]) 5 56 Tryd.underlying31 HI.out hz0 hz1 hz2 rfl (by decide) v pre.length (entCells pre) (by rfl) (HO.out.alloc _) ⟨X.heap.size, 0, none⟩ 1 1 (entVals x) (by rfl) (by rfl) (World.news_of_block (cs := #[.string x.k, .int .i64 x.c, .int .i64 x.n, .string x.v, .bool x.d]) (t := 39) (fr := (0, 0)) (heap_alloc_new X _)) (by intro u hu; exact entCells_one [x] u (by simpa [entCells] using hu)) (by have := HLN.out; unfold maxLen; omega) (by have := HLN.out; omega) (by have := HB.out.size; simp; omega) ?_); intro v' X1 hown1 hgrow hiff; refine Hid.out ?_)
    refine aside ?_
    obtain ⟨g', cap', rfl⟩ : ∃ g' cap', v' = .slice (some ⟨g', 0, none⟩) (pre.length + 1) cap' := by
      rcases hown1.2 with ⟨_, h⟩ | ⟨g', cap', cur, e, _⟩
      · omega
      · exact ⟨g', cap', e⟩
    have ST := aside (lst_step (x := x) (C := V.heap.size) HB.out HVB.out HV.out HO.out hown1 hgrow)
    have v1 := cell_one ST.out.1
    have z1 := frozen_one ST.out.1
    clear hown1 hgrow hiff v0 e0 e1 e2 e3 e4
    gi_wp2
    exact ⟨ST.out.2.2.2.1, ST.out.2.2.2.2, ST.out.2.1, ST.out.2.2.1⟩
  case done =>
    rintro D xs X hD rfl ⟨hls, hbx⟩ hK
    obtain ⟨v, hv, ho⟩ := hls.ex
    have v0 := cell_one hv
    have FO := aside (ownsRow_own ho (grownBy_putObj' X D (.deferred none)) (fun r e => by cases e; exact ⟨_, hK, rfl⟩))
    have FB := aside (ownFrom_below (β := Unit) (Nat.le_refl w.heap.size) HVV.out () X _ (some D) hbx (grownBy_putObj' X D (.deferred none)) (fun r e => by cases e; exact ⟨hD, _, hK, rfl⟩))
    clear hls hbx hv ho
    gi_wp2
    refine ⟨by simp, .inl ⟨_, _, rfl, run_takeDeferred hK, ?_⟩⟩
    exact ⟨.tuple #[v, .bool true], by simp [results, Tryd.f14, go_sem], ⟨v, rfl, FO.out, FB.out⟩⟩
  case stop =>
    rintro D c pre X hD _ h
    exact h.elim

end Go.Proofs.YtlgcdcjhflihiaaDoor
