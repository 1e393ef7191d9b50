/-
  held: all that a store holds, as a list of its own.
  Entries taken in any order: plain.
  Entries and lists of entries that came in: from their reading to plain entries, with their sizes.
  Lists of numbers: that came in, and that are ours (grown, changed about).
  Entries and versions compared.
  The examples at the head of the statements on stores: they hold.
  Two stores side by side, as the law StoreTurned meets them.
-/
import Derived.Test.YtlgcdcjhflihiaaDoorBstoreturned9
import Derived.Test.YtlgcdcjhflihiaaDoorBstoreturned1
import Derived.Maps.AppendAt
import Derived.Laws.OwnMore
import Derived.Test.YtlgcdcjhflihiaaDoorBstoreturned7
import Derived.Laws.StructEq
namespace Go.Proofs.YtlgcdcjhflihiaaDoor
open Go.RowKit Go.Shelf
set_option linter.unusedVariables false

attribute [local go_sem] Oper.semAt_some

theorem kLt_none (x : ByteArray) : kLt x ⟨#[]⟩ = false := by
  have h : (⟨#[]⟩ : ByteArray).toList = [] := by kernel_rfl
  unfold kLt
  rw [h]
  cases x.toList <;> rfl
theorem thru_whole (Ls : List En) : thruL ⟨#[]⟩ ⟨#[]⟩ true true Ls = Ls := by
  unfold thruL
  rw [List.filter_eq_self.2 (fun e _ => Bool.true_or _)]
  exact List.filter_eq_self.2 (fun e _ => by simp [inR, kLt_none])
theorem chk_whole : Rg.chk ⟨⟨#[]⟩, ⟨#[]⟩, true⟩ = 0 := by kernel_rfl

set_option maxHeartbeats 3200000 in
set_option maxRecDepth 100000 in
theorem whole_any (w : World) : Calls Tryd.prog 25 #[] w fun e w' => e = .returned (.agg #[.string ⟨#[]⟩, .string ⟨#[]⟩, .bool true]) ∧ Below w.heap.size w w' := by
  go_enter Tryd.func25, Tryd.ntmps25
  go_wp2
  exact bodyPost_ret (v := .agg #[.string ⟨#[]⟩, .string ⟨#[]⟩, .bool true]) (by simp [results, Tryd.results25, go_sem]) rfl ⟨rfl, bnew w _⟩

/-- A list of entries in the variable at vb, its row laid from B on. -/
structure LstE (B : Nat) (vb : Nat) (l : List En) (X : World) : Prop where
  ex : ∃ v, X.heap[vb]? = some (.cells #[v] 31 (0, 0)) ∧ X.ownsRow B 39 5 v l.length (entCells l)

theorem ownsRow_own {A B' : World} {row : Option Nat} {base : Nat} {e : TypeId} {size : Nat} {v : Value} {n : Nat} {xs : List Value} (h : A.ownsRow base e size v n xs) (hg : A.grownBy B' row) (hr : ∀ r, row = some r → ∃ o : Obj, A.heap[r]? = some o ∧ o.isCells = false) : B'.ownsRow base e size v n xs := by
  refine ⟨h.1, ?_⟩
  rcases h.2 with hn | ⟨g, cap, cur, rfl, hb, hgk, r⟩
  · exact .inl hn
  · exact .inr ⟨g, cap, cur, rfl, hb, cells_own hgk hg hr, r⟩
theorem LstE.own {B vb : Nat} {l : List En} {A X : World} {row : Option Nat} (h : LstE B vb l A) (hg : A.grownBy X row) (hr : ∀ r, row = some r → ∃ o : Obj, A.heap[r]? = some o ∧ o.isCells = false) : LstE B vb l X := by
  obtain ⟨v, h1, h2⟩ := h.ex
  exact ⟨v, cells_own h1 hg hr, ownsRow_own h2 hg hr⟩

/-- The block of a row of entries. -/
theorem row_blk {X : World} {B n : Nat} {v : Value} {xs : List Value} (h : X.ownsRow B 39 5 v n xs) {r : Nat} (hr : v.ownBlock = some r) : B ≤ r ∧ ∃ cs, X.heap[r]? = some (.cells cs 39 (0, 0)) := by
  rcases h.2 with ⟨rfl, -⟩ | ⟨g, cap, cur, rfl, hb, hgk, -⟩
  · cases hr
  · cases hr; exact ⟨hb, _, hgk⟩

/-- One entry more. -/
theorem lst_step {w X X1 : World} {vb C : Nat} {l : List En} {x : En} {v v' : Value} {o : Obj} (hB : Below w.heap.size w X) (hvb : w.heap.size ≤ vb) (h1 : X.heap[vb]? = some (.cells #[v] 31 (0, 0))) (h2 : X.ownsRow w.heap.size 39 5 v l.length (entCells l))
    (ho : X1.ownsRow w.heap.size 39 5 v' (l.length + 1) (entCells l ++ entVals x)) (hg : (X.alloc o).grownBy X1 v.ownBlock) :
    X1.heap[vb]? = some (.cells #[v] 31 (0, 0)) ∧ LstE w.heap.size vb (l ++ [x]) (X1.setCell ⟨vb, 0, none⟩ v') ∧ Below w.heap.size w (X1.setCell ⟨vb, 0, none⟩ v') ∧ KeepsFrom C X (X1.setCell ⟨vb, 0, none⟩ v') ∧ KpT X (X1.setCell ⟨vb, 0, none⟩ v') := by
  have hne : some vb ≠ v.ownBlock := fun e => by
    obtain ⟨-, cs, h3⟩ := row_blk h2 e.symm
    rw [h1] at h3; simp at h3
  have hvb1 : X1.heap[vb]? = some (.cells #[v] 31 (0, 0)) := by
    rw [hg.block vb (by have := lt_of_blk h1; simp; omega) hne]
    exact blk_on h1 (bnew _ _)
  have st : ∀ T, T ≠ 39 → T ≠ 31 → Stay T X (X1.setCell ⟨vb, 0, none⟩ v') := fun T n1 n2 => by
    refine (((Stay.refl T X).alloc o).grown hg ?_).setCell _ (fun cs e => by dsimp only at e; rw [hvb1] at e; simp at e; exact n2 e.2.symm)
    intro r e cs hcs
    obtain ⟨-, cs', h3⟩ := row_blk h2 e
    rw [blk_on h3 (bnew _ _)] at hcs
    simp at hcs
    exact n1 hcs.2.symm
  refine ⟨hvb1, ⟨v', by rw [heap_setCell_same X1 vb 0 _ _ v' hvb1]; rfl, ?_⟩, ?_, ?_, st _ (by decide) (by decide), st _ (by decide) (by decide), st _ (by decide) (by decide)⟩
  · rw [List.length_append, entCells_append]
    have hx : entCells [x] = entVals x := by simp [entCells]
    rw [hx]
    refine ownsRow_keep (S := fun i => i = vb) ho ((Keeps.refl (fun i => i = vb) X1).setCell (p := ⟨vb, 0, none⟩) (fun _ => rfl) _) (fun j e1 e2 => ?_)
    subst e2
    obtain ⟨-, cs, h3⟩ := row_blk ho e1
    rw [hvb1] at h3; simp at h3
  · exact (((hB.alloc hB.size o).grown hg (by have := hB.size; simp; omega) (fun j e => (row_blk h2 e).1)).setCell (p := ⟨vb, 0, none⟩) hvb _)
  · have k1 : KeepsFrom C (X.alloc o) X1 := ⟨hg.size, fun i ob _ hi hob => (hg.block i (Array.getElem?_eq_some_iff.1 hi).1 (fun e => by
      obtain ⟨-, cs, h3⟩ := row_blk h2 e.symm
      rw [blk_on h3 (bnew _ _)] at hi
      injection hi with hi
      subst hi
      cases hob)).trans hi⟩
    exact ((KeepsFrom.of_grownBy (World.grownBy_alloc X o none) (fun j e => by cases e)).trans k1).trans ((KeepsOthers.setCell _ _ _).from _)

set_option maxHeartbeats 8000000 in
set_option maxRecDepth 100000 in
theorem held_any {w : World} {sb g tb : Nat} {nd ck : Int} {Ls : List En} (h : Sto w sb g tb nd ck Ls) (hl : Ls.length ≤ 1000000) :
    Calls Tryd.prog 14 #[.pointer (some ⟨sb, 0, none⟩)] w fun r w' => ∃ v, r = .returned (.tuple #[v, .bool true]) ∧ w'.ownsRow w.heap.size 39 5 v Ls.length (entCells Ls) ∧ Below w.heap.size w w' := by
  have CW := aside (whole_any w)
  have CA := aside (fun (W : World) (b : Below w.heap.size w W) => qall ⟨#[]⟩ ⟨#[]⟩ true (h.below b) hl)
  rw [chk_whole, thru_whole] at CA
  have hfn : ∀ (lb : Array Value), Hid (∀ w, (binOp .eql 70 (.func (.func 69) #[] lb) .nilFunc).run Tryd.prog w = .ok (.bool false) w) := fun lb w => rfl
  clear h hl
  refine (callsIn_wide (n := 5)).1 ?_
  refine callsIn_of_wp_marks Tryd.func14 rfl trivial ?_ rfl
  simp only [Tryd.ntmps14, List.size_toArray, List.length_cons, List.length_nil, Nat.reduceAdd, Nat.reduceSub, Array.replicate_succ, Array.replicate_zero, List.push_toArray, List.append_toArray, List.nil_append, List.cons_append]
  gi_wp2_with fail
  refine ⟨trivial, ?_⟩
  refine (callsIn_wide.2 CW.out).mono ?_
  rintro e w1 ⟨rfl, b1⟩
  have B1 := aside b1
  clear b1 CW
  gi_wp2_with fail
  refine ⟨trivial, ?_⟩
  refine (callsIn_wide.2 (CA.out _ B1.out)).mono ?_
  rintro e w2 ⟨b2, ⟨h0, -⟩ | ⟨-, lb, rfl, hs⟩⟩
  · exact absurd rfl h0
  have HS := aside hs
  have B2 := aside (bthen B1.out b2)
  have hff := (hfn lb).out
  clear hs b2 CA B1 hfn
  gi_wp2_with fail
  clear hff
  have b3 := bnew w2 (.cells #[.slice none 0 0] 31)
  have B3 := aside (bthen B2.out b3)
  obtain ⟨N, hN, hNl, hSq⟩ := HS.out
  have SQ := aside hSq
  have HNN := aside hN
  have I0 := aside (show LstE w.heap.size w2.heap.size [] (w2.alloc (.cells #[.slice none 0 0] 31)) from ⟨.slice none 0 0, heap_alloc_new w2 _, ⟨rfl, .inl ⟨rfl, rfl⟩⟩⟩)
  have HVB := aside (show w.heap.size ≤ w2.heap.size from B2.out.size)
  have BV := aside b3
  clear b3 hN hNl hSq HS
  generalize w2.alloc (.cells #[.slice none 0 0] 31) = V at *
  have HVV := aside (show w.heap.size ≤ V.heap.size from B3.out.size)
  have ownI : OwnFrom V.heap.size (fun (pre : List En) X => LstE w.heap.size w2.heap.size pre X ∧ Below w.heap.size w X) := fun s A Y row hs hg hr =>
    ⟨hs.1.own hg (fun r e => (hr r e).2), ownFrom_below (β := Unit) (Nat.le_refl w.heap.size) HVV.out () A Y row hs.2 hg hr⟩
  obtain ⟨vb, hvb⟩ : ∃ vb, w2.heap.size = vb := ⟨_, rfl⟩
  rw [hvb] at I0 HVB ownI ⊢
  refine rangeO rfl (enters_of Tryd.func69 (by kernel_rfl) rfl) SQ.out KpT.t (fun W l o o' _ h ho => KpT.b W l o o' h ho) BV.out (fun _ => rfl)
    (fun (pre : List En) X => LstE w.heap.size vb pre X ∧ Below w.heap.size w X) (fun _ _ _ => False) ownI (fun _ _ _ _ _ h => h.elim) ⟨I0.out, B3.out⟩
    (fun x a' X => ∃ eb : Nat, a' = ⟨#[.pointer (some ⟨sb, 0, none⟩), undef, .slice none 0 0, .bool false, .func (.func 69) #[] lb, .int .i64 0, .pointer (some ⟨vb, 0, none⟩), .pointer (some ⟨eb, 0, none⟩), .tuple #[.func (.func 69) #[] lb, .int .i64 0], .pointer (some ⟨sb, 0, none⟩), .agg #[.string ⟨#[]⟩, .string ⟨#[]⟩, .bool true], .tuple #[.func (.func 69) #[] lb, .int .i64 0], .func (.func 69) #[] lb, .int .i64 0, .int .i64 0, .bool false, .bool false, .func (.func 69) #[] lb, .bool false, .bool false, .func (.func 69) #[] lb, .agg #[.string x.k, .int .i64 x.c, .int .i64 x.n, .string x.v, .bool x.d], undef, undef, undef, undef, undef], []⟩ ∧ X.heap[eb]? = some (.cells #[.string x.k, .int .i64 x.c, .int .i64 x.n, .string x.v, .bool x.d] 39 (0, 0)))
    (fun x a' _ A Y row hs hg hr => by
      obtain ⟨eb, h1, h2⟩ := hs
      exact ⟨eb, h1, cells_own h2 hg (fun r e => (hr r e).2)⟩) ?assign ?body ?done ?stop
  case assign =>
    intro l' pre x X K hi hK
    dsimp only [encE]
    gi_wp2
    refine hK _ _ ?_ ?_ ?_ ⟨_, rfl, heap_alloc_new X _⟩
    · exact KeepsFrom.of_grownBy (World.grownBy_alloc X _ none) (fun j e => by cases e)
    · exact (KpT.refl X).alloc _
    · exact ownI.alloc _ hi
  case body =>
    rintro l' pre x a' X ⟨hls, hbx⟩ ⟨eb, rfl, he⟩ hlen
    obtain ⟨v, hv, ho⟩ := hls.ex
    obtain ⟨i0, hi0, hz0, hz1, hz2⟩ := info_parts infoEnt
    obtain ⟨e0, e1, e2, e3, e4, -⟩ := penta he
    have v0 := cell_one hv
    have HV := aside hv
    have HO := aside ho
    have HB := aside hbx
    have HLN := aside (show pre.length ≤ 1000000 from by have := HNN.out; omega)
    have HI := aside hi0
    clear hls hv ho hbx he hlen hi0
    gi_wp2_with (gi_at_builtin; go_loud (refine wpListIn_append_own _ rfl _ _ _ rfl w.heap.size 39 i0 (.agg #[.string ⟨#[]⟩, .int .i64 0, .int .i64 0, .string ⟨#[]⟩, .bool false]) 5 56 Tryd.underlying31 HI.out hz0 hz1 hz2 rfl (by decide) v pre.length (entCells pre) (by rfl) (HO.out.alloc _) ⟨X.heap.size, 0, none⟩ 1 1 (entVals x) (by rfl) (by rfl) (World.news_of_block (cs := #[.string x.k, .int .i64 x.c, .int .i64 x.n, .string x.v, .bool x.d]) (t := 39) (fr := (0, 0)) (heap_alloc_new X _)) (by intro u hu; exact entCells_one [x] u (by simpa [entCells] using hu)) (by have := HLN.out; unfold maxLen; omega) (by have := HLN.out; omega) (by have := HB.out.size; simp; omega) ?_); intro v' X1 hown1 hgrow hiff; refine Hid.out ?_)
    refine aside ?_
    obtain ⟨g', cap', rfl⟩ : ∃ g' cap', v' = .slice (some ⟨g', 0, none⟩) (pre.length + 1) cap' := by
      rcases hown1.2 with ⟨_, h⟩ | ⟨g', cap', cur, e, _⟩
      · omega
      · exact ⟨g', cap', e⟩
    have ST := aside (lst_step (x := x) (C := V.heap.size) HB.out HVB.out HV.out HO.out hown1 hgrow)
    have v1 := cell_one ST.out.1
    have z1 := frozen_one ST.out.1
    clear hown1 hgrow hiff v0 e0 e1 e2 e3 e4
    gi_wp2
    exact ⟨ST.out.2.2.2.1, ST.out.2.2.2.2, ST.out.2.1, ST.out.2.2.1⟩
  case done =>
    rintro D xs X hD rfl ⟨hls, hbx⟩ hK
    obtain ⟨v, hv, ho⟩ := hls.ex
    have v0 := cell_one hv
    have FO := aside (ownsRow_own ho (grownBy_putObj' X D (.deferred none)) (fun r e => by cases e; exact ⟨_, hK, rfl⟩))
    have FB := aside (ownFrom_below (β := Unit) (Nat.le_refl w.heap.size) HVV.out () X _ (some D) hbx (grownBy_putObj' X D (.deferred none)) (fun r e => by cases e; exact ⟨hD, _, hK, rfl⟩))
    clear hls hbx hv ho
    gi_wp2
    refine ⟨by simp, .inl ⟨_, _, rfl, run_takeDeferred hK, ?_⟩⟩
    exact ⟨.tuple #[v, .bool true], by simp [results, Tryd.f14, go_sem], ⟨v, rfl, FO.out, FB.out⟩⟩
  case stop =>
    rintro D c pre X hD _ h
    exact h.elim

end Go.Proofs.YtlgcdcjhflihiaaDoor
namespace Go.Proofs.YtlgcdcjhflihiaaDoor
open Go.RowKit
set_option linter.unusedVariables false

theorem nwr_iff (a b : En) : En.newer a b = true ↔ b.c < a.c ∨ (b.c = a.c ∧ b.n < a.n) := by
  unfold En.newer Vs.cmp Vs.c2
  simp only [decide_eq_true_eq]
  split
  · omega
  · split
    · omega
    · split
      · omega
      · split <;> omega

theorem nwr_not (a b : En) : En.newer a b = false ↔ ¬ (b.c < a.c ∨ (b.c = a.c ∧ b.n < a.n)) := by
  rw [← nwr_iff]; simp

theorem rises_insE (e : En) {l : List En} (h : RisesE l) : RisesE (insE e l) :=
  rises_of_map (by rw [← ins_map]; exact rises_ins _ (rises_map h))

theorem insE_len1 (e : En) : ∀ l : List En, (insE e l).length ≤ l.length + 1
  | [] => by simp [insE]
  | y :: l => by
    have ih := insE_len1 e l
    unfold insE
    split
    · simp
    · split
      · simp only [List.length_cons]; omega
      · simp

theorem insE_len0 (e : En) : ∀ l : List En, RisesE l → (∃ y ∈ l, y.k = e.k) → (insE e l).length = l.length
  | [], _, ⟨y, hy, _⟩ => by simp at hy
  | z :: l, h, ⟨y, hy, hk⟩ => by
    unfold RisesE at h
    rw [List.pairwise_cons] at h
    unfold insE
    split
    · rename_i h1
      exfalso
      rcases List.mem_cons.1 hy with rfl | hy
      · rw [hk, kLt_irrefl] at h1; cases h1
      · have := h.1 y hy
        rw [hk] at this
        have h2 := kLt_trans h1 this
        rw [kLt_irrefl] at h2; cases h2
    · split
      · rename_i h1 h2
        have : ∃ y ∈ l, y.k = e.k := by
          rcases List.mem_cons.1 hy with rfl | hy
          · rw [hk, kLt_irrefl] at h2; cases h2
          · exact ⟨y, hy, hk⟩
        simp only [List.length_cons, insE_len0 e l h.2 this]
      · simp

theorem mem_insE (e x : En) : ∀ l : List En, RisesE l → (x ∈ insE e l ↔ x = e ∨ (x ∈ l ∧ x.k ≠ e.k))
  | [], _ => by simp [insE]
  | z :: l, h => by
    unfold RisesE at h
    rw [List.pairwise_cons] at h
    have ih := mem_insE e x l h.2
    unfold insE
    split
    · rename_i h1
      constructor
      · intro hx
        rcases List.mem_cons.1 hx with rfl | hx
        · exact .inl rfl
        · refine .inr ⟨hx, fun hk => ?_⟩
          rcases List.mem_cons.1 hx with rfl | hx
          · rw [hk, kLt_irrefl] at h1; cases h1
          · have := kLt_trans h1 (h.1 x hx)
            rw [hk, kLt_irrefl] at this; cases this
      · rintro (rfl | ⟨hx, _⟩)
        · exact List.mem_cons_self
        · exact List.mem_cons_of_mem _ hx
    · split
      · rename_i h1 h2
        rw [List.mem_cons, ih, List.mem_cons]
        constructor
        · rintro (rfl | rfl | ⟨a, b⟩)
          · exact .inr ⟨.inl rfl, kLt_ne' h2⟩
          · exact .inl rfl
          · exact .inr ⟨.inr a, b⟩
        · rintro (rfl | ⟨rfl | a, b⟩)
          · exact .inr (.inl rfl)
          · exact .inl rfl
          · exact .inr (.inr ⟨a, b⟩)
      · rename_i h1 h2
        have hz : e.k = z.k := kLt_total (by simpa using h1) (by simpa using h2)
        rw [List.mem_cons, List.mem_cons]
        constructor
        · rintro (rfl | a)
          · exact .inl rfl
          · refine .inr ⟨.inr a, fun hk => ?_⟩
            have := h.1 x a
            rw [hk, hz, kLt_irrefl] at this; cases this
        · rintro (rfl | ⟨rfl | a, b⟩)
          · exact .inl rfl
          · exact absurd hz.symm b
          · exact .inr a
where
  kLt_ne' {a b : ByteArray} (h : kLt a b = true) : a ≠ b := kLt_ne h

theorem look_mem {k : ByteArray} {l : List En} {o : En} (h : lookE k l = some o) : o ∈ l ∧ o.k = k := by
  unfold lookE at h
  have h1 := List.find?_some h
  refine ⟨List.mem_of_find?_eq_some h, ?_⟩
  simp only [Bool.and_eq_true, Bool.not_eq_true'] at h1
  exact kLt_total h1.2 h1.1
theorem look_not {k : ByteArray} {l : List En} (h : lookE k l = none) : ∀ y ∈ l, y.k ≠ k := by
  intro y hy hk
  unfold lookE at h
  have := List.find?_eq_none.1 h y hy
  rw [hk] at this
  simp [kLt_irrefl] at this
theorem key_one {l : List En} (h : RisesE l) {x y : En} (hx : x ∈ l) (hy : y ∈ l) (hk : x.k = y.k) : x = y := by
  induction l with
  | nil => simp at hx
  | cons z l ih =>
    unfold RisesE at h
    rw [List.pairwise_cons] at h
    rcases List.mem_cons.1 hx with e1 | hx2 <;> rcases List.mem_cons.1 hy with e2 | hy2
    · rw [e1, e2]
    · have := h.1 y hy2; rw [← e1, hk, kLt_irrefl] at this; cases this
    · have := h.1 x hx2; rw [← e2, hk, kLt_irrefl] at this; cases this
    · exact ih h.2 hx2 hy2
theorem look_of {l : List En} (h : RisesE l) {y : En} {k : ByteArray} (hy : y ∈ l) (hk : y.k = k) : lookE k l = some y := by
  cases hq : lookE k l with
  | none => exact absurd hk (look_not hq y hy)
  | some o =>
    obtain ⟨h1, h2⟩ := look_mem hq
    rw [key_one h h1 hy (h2.trans hk.symm)]

theorem rises_mem : ∀ {l m : List En}, RisesE l → RisesE m → (∀ x, x ∈ l ↔ x ∈ m) → l = m
  | [], [], _, _, _ => rfl
  | [], y :: m, _, _, h => by have := (h y).2 List.mem_cons_self; simp at this
  | x :: l, [], _, _, h => by have := (h x).1 List.mem_cons_self; simp at this
  | x :: l, y :: m, h1, h2, h => by
    have g1 := h1
    have g2 := h2
    unfold RisesE at h1 h2
    rw [List.pairwise_cons] at h1 h2
    have e : x = y := by
      rcases List.mem_cons.1 ((h x).1 List.mem_cons_self) with e | a
      · exact e
      · rcases List.mem_cons.1 ((h y).2 List.mem_cons_self) with e | b
        · exact e.symm
        · have := kLt_trans (h1.1 y b) (h2.1 x a)
          rw [kLt_irrefl] at this; cases this
    subst e
    rw [rises_mem (l := l) (m := m) h1.2 h2.2 (fun z => ?_)]
    constructor
    · intro hz
      rcases List.mem_cons.1 ((h z).1 (List.mem_cons_of_mem _ hz)) with rfl | a
      · have := h1.1 z hz; rw [kLt_irrefl] at this; cases this
      · exact a
    · intro hz
      rcases List.mem_cons.1 ((h z).2 (List.mem_cons_of_mem _ hz)) with rfl | a
      · have := h2.1 z hz; rw [kLt_irrefl] at this; cases this
      · exact a

/-- What a store is that has taken what P says. -/
structure Took (P : En → Prop) (Ls : List En) (ck : Int) : Prop where
  rises : RisesE Ls
  src : ∀ y ∈ Ls, P y ∧ y.chk = 0
  best : ∀ e, P e → e.chk = 0 → ∃ y ∈ Ls, y.k = e.k ∧ En.newer e y = false
  top : ∀ e, P e → e.chk = 0 → e.c ≤ ck
  eq : ck = 0 ∨ ∃ e, P e ∧ e.chk = 0 ∧ e.c = ck
  pos : 0 ≤ ck
  len : Ls.length ≤ 256

theorem Took.nil : Took (fun _ => False) [] 0 := ⟨List.Pairwise.nil, by simp, by simp, by simp, .inl rfl, by omega, by simp⟩

theorem Took.of {P P' : En → Prop} {Ls : List En} {ck : Int} (h : Took P Ls ck) (e : ∀ x, P x ↔ P' x) : Took P' Ls ck := by
  have : P = P' := funext fun x => propext (e x)
  subst this
  exact h

theorem Took.pass {P : En → Prop} {Ls : List En} {ck : Int} (h : Took P Ls ck) (e : En) (hs : (tkSay e Ls).2 = false) (hf : (tkSay e Ls).1 ≠ 80) : Took (fun x => P x ∨ x = e) Ls ck := by
  have hE : e.chk = 0 → ∃ y ∈ Ls, y.k = e.k ∧ En.newer e y = false := by
    intro h0
    unfold tkSay at hs hf
    rw [if_neg (by simp [h0])] at hs hf
    split at hs
    · rename_i h1
      rw [if_pos h1] at hf
      exact absurd rfl hf
    · cases hq : lookE e.k Ls with
      | none => rw [hq] at hs; simp at hs
      | some o =>
        rw [hq] at hs
        obtain ⟨h2, h3⟩ := look_mem hq
        exact ⟨o, h2, h3, hs⟩
  refine ⟨h.rises, fun y hy => ⟨.inl (h.src y hy).1, (h.src y hy).2⟩, ?_, ?_, ?_, h.pos, h.len⟩
  · rintro x (hx | rfl) h0
    · exact h.best x hx h0
    · exact hE h0
  · rintro x (hx | rfl) h0
    · exact h.top x hx h0
    · obtain ⟨y, hy, _, hn⟩ := hE h0
      have := h.top y (h.src y hy).1 (h.src y hy).2
      rw [nwr_not] at hn
      omega
  · rcases h.eq with h1 | ⟨x, h1, h2⟩
    · exact .inl h1
    · exact .inr ⟨x, .inl h1, h2⟩

theorem Took.take {P : En → Prop} {Ls : List En} {ck : Int} (h : Took P Ls ck) (e : En) (hs : (tkSay e Ls).2 = true) : Took (fun x => P x ∨ x = e) (insE e Ls) (ckm ck e.c) := by
  have h0 : e.chk = 0 := by
    unfold tkSay at hs
    split at hs
    · cases hs
    · rename_i h1; simpa using h1
  have hr : roomB e.k Ls = true := by
    unfold tkSay at hs
    rw [if_neg (by simp [h0])] at hs
    split at hs
    · cases hs
    · rename_i h1; simpa using h1
  have ho : ∀ o ∈ Ls, o.k = e.k → En.newer e o = true := by
    intro o hm hk
    unfold tkSay at hs
    rw [if_neg (by simp [h0]), if_neg (by simp [hr]), look_of h.rises hm hk] at hs
    exact hs
  have hlen : (insE e Ls).length ≤ 256 := by
    cases hq : lookE e.k Ls with
    | none =>
      unfold roomB at hr
      rw [hq] at hr
      simp at hr
      have := insE_len1 e Ls
      omega
    | some o =>
      obtain ⟨h2, h3⟩ := look_mem hq
      rw [insE_len0 e Ls h.rises ⟨o, h2, h3⟩]
      exact h.len
  have hc := h.pos
  have hcm : ck ≤ ckm ck e.c ∧ e.c ≤ ckm ck e.c ∧ (ckm ck e.c = ck ∨ ckm ck e.c = e.c) := by unfold ckm; split <;> omega
  refine ⟨rises_insE e h.rises, fun y hy => ?_, ?_, ?_, ?_, by omega, hlen⟩
  · rcases (mem_insE e y Ls h.rises).1 hy with rfl | ⟨h1, _⟩
    · exact ⟨.inr rfl, h0⟩
    · exact ⟨.inl (h.src y h1).1, (h.src y h1).2⟩
  · rintro x (hx | rfl) hx0
    · obtain ⟨y, hy, hk, hn⟩ := h.best x hx hx0
      by_cases hke : y.k = e.k
      · refine ⟨e, (mem_insE e e Ls h.rises).2 (.inl rfl), hke.symm.trans hk, ?_⟩
        have := ho y hy hke
        rw [nwr_iff] at this
        rw [nwr_not] at hn ⊢
        omega
      · exact ⟨y, (mem_insE e y Ls h.rises).2 (.inr ⟨hy, hke⟩), hk, hn⟩
    · exact ⟨x, (mem_insE x x Ls h.rises).2 (.inl rfl), rfl, by rw [nwr_not]; omega⟩
  · rintro x (hx | rfl) hx0
    · have := h.top x hx hx0; omega
    · omega
  · rcases hcm.2.2 with h1 | h1
    · rw [h1]
      rcases h.eq with h2 | ⟨x, h2, h3⟩
      · exact .inl h2
      · exact .inr ⟨x, .inl h2, h3⟩
    · exact .inr ⟨e, .inr rfl, h0, h1.symm⟩

/-- What was taken is not taken again. -/
theorem Took.again {P : En → Prop} {Ls : List En} {ck : Int} (h : Took P Ls ck) (e : En) (he : P e) : (tkSay e Ls).2 = false := by
  unfold tkSay
  split
  · rfl
  · rename_i h1
    split
    · rfl
    · obtain ⟨y, hy, hk, hn⟩ := h.best e he (by simpa using h1)
      rw [look_of h.rises hy hk]
      exact hn

/-- Two stores that have taken the same are the same. -/
theorem Took.same {P : En → Prop} {Ls Ms : List En} {ck cm : Int} (h : Took P Ls ck) (h' : Took P Ms cm) (ho : ∀ x y, P x → P y → x.k = y.k → x.c = y.c → x.n = y.n → x = y) : Ls = Ms ∧ ck = cm := by
  have one : ∀ {A B : List En} {a b : Int}, Took P A a → Took P B b → ∀ x ∈ A, x ∈ B := by
    intro A B a b hA hB x hx
    obtain ⟨y, hy, hk, hn⟩ := hB.best x (hA.src x hx).1 (hA.src x hx).2
    obtain ⟨z, hz, hk2, hn2⟩ := hA.best y (hB.src y hy).1 (hB.src y hy).2
    obtain rfl := key_one hA.rises hz hx (hk2.trans hk)
    rw [nwr_not] at hn hn2
    rw [ho z y (hA.src z hz).1 (hB.src y hy).1 hk2 (by omega) (by omega)]
    exact hy
  refine ⟨rises_mem h.rises h'.rises (fun x => ⟨one h h' x, one h' h x⟩), ?_⟩
  have a1 := h.pos
  have a2 := h'.pos
  rcases h.eq with e1 | ⟨x, e1, e2, e3⟩ <;> rcases h'.eq with f1 | ⟨y, f1, f2, f3⟩
  · omega
  · have := h.top y f1 f2; omega
  · have := h'.top x e1 e2; omega
  · have := h.top y f1 f2; have := h'.top x e1 e2; omega

end Go.Proofs.YtlgcdcjhflihiaaDoor
namespace Go.Proofs.YtlgcdcjhflihiaaDoor
open Go.ChangeShapes Go.WideShapes Go.ChangeAt Go.RowKit
set_option linter.unusedVariables false
variable {H : Type} {enc : TypeId × Value → H} {W : World}
theorem array5 {α : Type} {cs : Array α} (h : cs.size = 5) : ∃ c0 c1 c2 c3 c4, cs = #[c0, c1, c2, c3, c4] := by
  obtain ⟨l⟩ := cs
  match l, h with
  | [c0, c1, c2, c3, c4], _ => exact ⟨c0, c1, c2, c3, c4, rfl⟩

set_option maxRecDepth 100000 in
/-- An entry's five cells, from their reading. -/
theorem ent_cells {b0 : Nat} {sp : Nat → Bool} {held : Bool} {fuel : Nat} {v0 v1 v2 v3 v4 : Value} {x : DataW H × List MemPlace} (h : DataW.trod enc Tryd.prog W b0 sp held fuel 39 [v0, v1, v2, v3, v4] = some x) :
    ∃ (k : ByteArray) (c n : Int) (v : ByteArray) (d : Bool), v0 = .string k ∧ v1 = .int .i64 c ∧ v2 = .int .i64 n ∧ v3 = .string v ∧ v4 = .bool d ∧
      ((-9223372036854775808 ≤ c ∧ c ≤ 9223372036854775807) ∧ (-9223372036854775808 ≤ n ∧ n ≤ 9223372036854775807)) ∧ k.size ≤ maxLen ∧ v.size ≤ maxLen ∧
      x.1 = .agg [.lit (.string k.data.toList), .agg [.lit (.int .i64 c), .lit (.int .i64 n)], .lit (.string v.data.toList), .lit (.bool d)] := by
  obtain ⟨y0, y1, y2, y3, m, rfl, _, h0, h1, h2, h3⟩ := Joins.trod_struct4 Tryd.underlying39 h
  simp [cellsStr, cellsBool, cellsVer] at h0 h1 h2 h3
  obtain ⟨z0, z1, m', rfl, _, g0, g1⟩ := trod_struct2 Tryd.underlying37 h1
  simp [cellsInt] at g0 g1
  obtain ⟨k, e0, rfl, w0⟩ := DataW.trod_string Tryd.underlying9 h0
  obtain ⟨c, e1, rfl, w1⟩ := DataW.trod_int Tryd.underlying3 g0
  obtain ⟨n, e2, rfl, w2⟩ := DataW.trod_int Tryd.underlying3 g1
  obtain ⟨v, e3, rfl, w3⟩ := DataW.trod_string Tryd.underlying9 h2
  obtain ⟨d, e4, rfl⟩ := DataW.trod_bool Tryd.underlying4 h3
  simp only [List.cons.injEq, and_true] at e0 e1 e2 e3 e4
  exact ⟨k, c, n, v, d, e0, e1, e2, e3, e4, ⟨bounds_i64 w1, bounds_i64 w2⟩, w0, w3, rfl⟩

set_option maxRecDepth 100000 in
theorem open_ent {b0 : Nat} {sp : Nat → Bool} {held : Bool} {v : Value} {d : DataW H} {p : List MemPlace} (hv : Value.okWide Tryd.prog W .any b0 39 v) (h : DataW.Trod enc Tryd.prog W 0 sp held 39 v d p) :
    ∃ (k : ByteArray) (c n : Int) (v' : ByteArray) (d' : Bool), v = .agg #[.string k, .int .i64 c, .int .i64 n, .string v', .bool d'] ∧
      ((-9223372036854775808 ≤ c ∧ c ≤ 9223372036854775807) ∧ (-9223372036854775808 ≤ n ∧ n ≤ 9223372036854775807)) ∧ k.size ≤ maxLen ∧ v'.size ≤ maxLen ∧
      d = .agg [.lit (.string k.data.toList), .agg [.lit (.int .i64 c), .lit (.int .i64 n)], .lit (.string v'.data.toList), .lit (.bool d')] := by
  obtain ⟨cs, rfl, hsz⟩ := okWide_struct Tryd.underlying39 hv
  obtain ⟨c0, c1, c2, c3, c4, rfl⟩ := array5 (hsz.trans cellsEnt)
  obtain ⟨fuel, hf⟩ := h
  obtain ⟨k, c, n, v, d, rfl, rfl, rfl, rfl, rfl, hb, hk, hv, hd⟩ := ent_cells (x := (d, p)) (by simpa [Value.cells] using hf)
  exact ⟨k, c, n, v, d, rfl, hb, hk, hv, hd⟩

set_option maxRecDepth 100000 in
/-- An entry's key is of a size that memory has. -/
theorem ent_size {d : DataW H} {k v : ByteArray} {c n : Int} {b : Bool} (hd : d = .agg [.lit (.string k.data.toList), .agg [.lit (.int .i64 c), .lit (.int .i64 n)], .lit (.string v.data.toList), .lit (.bool b)])
    (hz : ∀ m ∈ d.weights Tryd.prog 39, m ≤ reachBytes) : k.size ≤ 140737488351232 := by
  have := hz k.data.toList.length (by rw [hd]; simp [DataW.weights, Tryd.underlying39, DataW.weightsEach])
  have e : k.data.toList.length = k.size := by show k.data.toList.length = k.data.size; simp
  rw [e] at this
  exact this

theorem weights_all {P : Program} {e : TypeId} : ∀ {ds : List (DataW H)} {d : DataW H}, d ∈ ds → ∀ n ∈ d.weights P e, n ∈ DataW.weightsAll P e ds
  | d0 :: r, d, hd, n, hn => by
    simp only [DataW.weightsAll, List.mem_append]
    rcases List.mem_cons.1 hd with rfl | hd
    · exact Or.inl hn
    · exact Or.inr (weights_all hd n hn)
  | [], _, hd, _, _ => by simp at hd

set_option maxHeartbeats 1000000 in
theorem ents_open {fuel : Nat} {a : Option Addr} {len cap : Nat} {d : DataW H} {ps : List MemPlace}
    (hf : DataW.trod enc Tryd.prog W 0 (fun _ => true) true fuel 31 [.slice a len cap] = some (d, ps)) (hz : ∀ n ∈ d.weights Tryd.prog 31, n ≤ reachBytes) :
    ∃ T, EntsIn W a len cap T ∧ ((a = none ∧ len = 0 ∧ cap = 0) ∨ ∃ y, a = some y) ∧ len * 56 ≤ 140737488351232 := by
  rcases Deep.open_slice Tryd.underlying31 hf with ⟨hcs, _⟩ | ⟨x, l, c, m, n, D, Pl, hcs, hb, hl, hm, hmm, hx, hel⟩
  · simp only [List.cons.injEq, Value.slice.injEq, and_true] at hcs
    obtain ⟨rfl, rfl, rfl⟩ := hcs
    exact ⟨fun _ => ⟨ByteArray.empty, 0, 0, ByteArray.empty, false⟩, ⟨Nat.le_refl _, Nat.zero_le _, .inl rfl⟩, .inl ⟨rfl, rfl, rfl⟩, by omega⟩
  · simp only [List.cons.injEq, Value.slice.injEq, and_true] at hcs
    obtain ⟨rfl, rfl, rfl⟩ := hcs
    simp only [Prod.mk.injEq] at hx
    have hd := hx.1
    simp only [if_true] at hmm
    subst hmm
    rw [cellsEnt] at hel
    have hbytes : len * 56 ≤ 140737488351232 := by
      have h1 := hz _ (by rw [hd]; simp only [DataW.weights, Tryd.underlying31]; exact List.mem_cons_self)
      rw [bytesEnt] at h1
      simp only [List.length_map, List.length_range] at h1
      have : reachBytes = 140737488351232 := by decide
      omega
    have each : ∀ i, i < len → ∃ t : En, (W.cell? (x.add (i * 5)) = some (.string t.k) ∧ W.cell? (x.add (i * 5 + 1)) = some (.int .i64 t.c) ∧ W.cell? (x.add (i * 5 + 2)) = some (.int .i64 t.n) ∧ W.cell? (x.add (i * 5 + 3)) = some (.string t.v) ∧ W.cell? (x.add (i * 5 + 4)) = some (.bool t.d)) ∧ t.k.size ≤ 140737488351232 := by
      intro i hi
      obtain ⟨cs', h1, h2⟩ := hel i (by omega)
      obtain ⟨_, hlen, hcell⟩ := World.cells?_some h1
      match cs', hlen with
      | [v0, v1, v2, v3, v4], _ =>
        obtain ⟨k, c, n, v, d', rfl, rfl, rfl, rfl, rfl, _, _, _, hdi⟩ := ent_cells h2
        have c0 := hcell 0 (by omega)
        have c1 := hcell 1 (by omega)
        have c2 := hcell 2 (by omega)
        have c3 := hcell 3 (by omega)
        have c4 := hcell 4 (by omega)
        rw [Deep.add_add] at c0 c1 c2 c3 c4
        refine ⟨⟨k, c, n, v, d'⟩, ⟨by simpa using c0, by simpa using c1, by simpa using c2, by simpa using c3, by simpa using c4⟩, ?_⟩
        refine ent_size hdi (fun m' hm' => hz m' ?_)
        rw [hd]
        simp only [DataW.weights, Tryd.underlying31]
        exact List.mem_cons_of_mem _ (List.mem_append_left _ (weights_all (d := D i) (List.mem_map.2 ⟨i, List.mem_range.2 hi, rfl⟩) _ hm'))
    by_cases h0 : len = 0
    · exact ⟨fun _ => ⟨ByteArray.empty, 0, 0, ByteArray.empty, false⟩, ⟨hl, hm, .inl h0⟩, .inr ⟨_, rfl⟩, hbytes⟩
    · letI : Inhabited En := ⟨⟨ByteArray.empty, 0, 0, ByteArray.empty, false⟩⟩
      obtain ⟨T, hT⟩ := Deep.choose_lt each
      have hc0 := (hT 0 (by omega)).1.1
      obtain ⟨blk, off, spot⟩ := x
      have hspot : spot = none := by
        have := World.cell?_spot hc0
        simpa [Addr.add] using this
      subst hspot
      have hblk : blk < W.heap.size := by
        have := World.block_lt_of_cell? W _ hc0
        simpa [Addr.add] using this
      have hadd : ∀ j, (⟨blk, off, none⟩ : Addr).add j = ⟨blk, off + j, none⟩ := by intro j; unfold Addr.add; split <;> simp_all
      refine ⟨T, ⟨hl, hm, .inr ⟨blk, off, rfl, hblk, fun i hi => ⟨?_, (hT i hi).2⟩⟩⟩, .inr ⟨_, rfl⟩, hbytes⟩
      have h5 := (hT i hi).1
      simp only [hadd] at h5
      simpa only [Nat.add_assoc] using h5

end Go.Proofs.YtlgcdcjhflihiaaDoor
namespace Go.Proofs.YtlgcdcjhflihiaaDoor
open Go.ChangeShapes Go.WideShapes Go.ChangeAt Go.RowKit
set_option linter.unusedVariables false

/-- A list of whole numbers that came in. -/
def IntsIn (w : World) (a : Option Addr) (len cap : Nat) (z : Nat → Int) : Prop :=
  len ≤ cap ∧ cap ≤ maxLen ∧ (len = 0 ∨ ∃ b off, a = some ⟨b, off, none⟩ ∧ b < w.heap.size ∧ ∀ i, i < len → w.cell? ⟨b, off + i, none⟩ = some (.int .i64 (z i)))

theorem IntsIn.keep {w w' : World} {a : Option Addr} {len cap : Nat} {T : Nat → Int} (h : IntsIn w a len cap T) (k : Below w.heap.size w w') : IntsIn w' a len cap T := by
  obtain ⟨h1, h2, h4⟩ := h
  refine ⟨h1, h2, ?_⟩
  rcases h4 with h4 | ⟨bb, off, rfl, hb, hc⟩
  · exact .inl h4
  · exact .inr ⟨bb, off, rfl, by have := k.size; omega, fun i hi => cell_in (hc i hi) k⟩

variable {H : Type} {enc : TypeId × Value → H} {W : World}

set_option maxHeartbeats 1000000 in
theorem ints_open {fuel : Nat} {a : Option Addr} {len cap : Nat} {d : DataW H} {ps : List MemPlace}
    (hf : DataW.trod enc Tryd.prog W 0 (fun _ => true) true fuel 59 [.slice a len cap] = some (d, ps)) :
    ∃ T, IntsIn W a len cap T := by
  rcases Deep.open_slice Tryd.underlying59 hf with ⟨hcs, _⟩ | ⟨x, l, c, m, n, D, Pl, hcs, hb, hl, hm, hmm, hx, hel⟩
  · simp only [List.cons.injEq, Value.slice.injEq, and_true] at hcs
    obtain ⟨rfl, rfl, rfl⟩ := hcs
    exact ⟨fun _ => 0, Nat.le_refl _, Nat.zero_le _, .inl rfl⟩
  · simp only [List.cons.injEq, Value.slice.injEq, and_true] at hcs
    obtain ⟨rfl, rfl, rfl⟩ := hcs
    simp only [if_true] at hmm
    subst hmm
    rw [cellsInt] at hel
    have each : ∀ i, i < len → ∃ t : Int, W.cell? (x.add i) = some (.int .i64 t) := by
      intro i hi
      obtain ⟨cs', h1, h2⟩ := hel i (by omega)
      obtain ⟨_, hlen, hcell⟩ := World.cells?_some h1
      match cs', hlen with
      | [v0], _ =>
        obtain ⟨t, e0, _, _⟩ := DataW.trod_int Tryd.underlying3 h2
        simp only [List.cons.injEq, and_true] at e0
        subst e0
        have c0 := hcell 0 (by omega)
        rw [Deep.add_add] at c0
        exact ⟨t, by simpa using c0⟩
    by_cases h0 : len = 0
    · exact ⟨fun _ => 0, hl, hm, .inl h0⟩
    · obtain ⟨T, hT⟩ := Deep.choose_lt each
      have hc0 := hT 0 (by omega)
      obtain ⟨blk, off, spot⟩ := x
      have hspot : spot = none := by
        have := World.cell?_spot hc0
        simpa [Addr.add] using this
      subst hspot
      have hblk : blk < W.heap.size := by
        have := World.block_lt_of_cell? W _ hc0
        simpa [Addr.add] using this
      have hadd : ∀ j, (⟨blk, off, none⟩ : Addr).add j = ⟨blk, off + j, none⟩ := by intro j; unfold Addr.add; split <;> simp_all
      refine ⟨T, hl, hm, .inr ⟨blk, off, rfl, hblk, fun i hi => ?_⟩⟩
      have h5 := hT i hi
      simpa only [hadd] using h5

set_option maxHeartbeats 1600000 in
theorem among8 (p : Int) (m : Nat) (w : World) (hm : 0 < m) (hx : (m : Int) ≤ 9223372036854775807) :
    Calls Tryd.prog 13 #[.int .i64 p, .int .i64 (m : Int)] w fun e w' => ∃ k : Nat, e = .returned (.int .i64 (k : Int)) ∧ k < m ∧ w' = w := by
  have h1 : ¬ (m : Int) < 1 := by omega
  have hne : (m : Int) ≠ 0 := by omega
  have hlo : -(m : Int) < p.tmod m := by
    have := Int.lt_tmod_of_pos p (show (0 : Int) < m by omega)
    omega
  have hhi : p.tmod m < (m : Int) := Int.tmod_lt_of_pos p (by omega)
  have hnm : ¬ (m : Int) = -1 := by omega
  generalize hr : p.tmod m = r at *
  by_cases hneg : r < 0
  · have hw : IntKind.i64.wrap (r + (m : Int)) = r + (m : Int) := by rw [IntKind.wrap_i64]; omega
    go_enter Tryd.func13, Tryd.ntmps13
    go_wp2
    go_ret
    exact ⟨(r + m).toNat, by rw [show (((r + m).toNat : Nat) : Int) = r + m from by omega]; rfl, by omega, rfl⟩
  · go_enter Tryd.func13, Tryd.ntmps13
    go_wp2
    go_ret
    exact ⟨r.toNat, by rw [show ((r.toNat : Nat) : Int) = r from by omega]; rfl, by omega, rfl⟩

/-- An owned row's slice, in letters. -/
theorem own_slc {w : World} {B : Nat} {e : TypeId} {s : Nat} {v : Value} {n : Nat} {xs : List Value} (h : w.ownsRow B e s v n xs) : ∃ a c, v = .slice a n c ∧ n ≤ c ∧ c ≤ maxLen ∧ ((a = none ∧ n = 0 ∧ c = 0) ∨ ∃ g, a = some ⟨g, 0, none⟩ ∧ B ≤ g) := by
  rcases h.2 with ⟨rfl, rfl⟩ | ⟨g, cap, cur, rfl, hb, _, hn, hm, _⟩
  · exact ⟨none, 0, rfl, Nat.le_refl _, Nat.zero_le _, .inl ⟨rfl, rfl, rfl⟩⟩
  · exact ⟨_, cap, rfl, hn, hm, .inr ⟨g, rfl, hb⟩⟩

/-- Numbers as cells. -/
def numCells (l : List Nat) : List Value := l.map fun (i : Nat) => Value.int .i64 (i : Int)

theorem numCells_len (l : List Nat) : (numCells l).length = l.length := by simp [numCells]
theorem numCells_app (l m : List Nat) : numCells (l ++ m) = numCells l ++ numCells m := by simp [numCells]
theorem numCells_one (l : List Nat) : ∀ u ∈ numCells l, u.oneCell' = true := by
  intro u hu
  unfold numCells at hu
  obtain ⟨i, _, rfl⟩ := List.mem_map.1 hu
  rfl
theorem numCells_set (l : List Nat) (j i : Nat) : numCells (l.set j i) = (numCells l).set j (.int .i64 (i : Int)) := by simp [numCells, List.map_set]

theorem infoInt : (Tryd.prog.info? 3).map (fun i => (i.zero, i.size, i.bytes)) = some (some (.int .i64 0), 1, 8) := by kernel_rfl

def nthN (l : List Nat) (i : Nat) : Nat := l.getD i 0
theorem nthN_get {l : List Nat} {i : Nat} (h : i < l.length) : l[i]? = some (nthN l i) := by
  unfold nthN
  rw [List.getD_eq_getElem?_getD, List.getElem?_eq_getElem h]
  rfl

theorem num_at {w : World} {B g cap n : Nat} {l : List Nat} (h : w.ownsRow B 3 1 (.slice (some ⟨g, 0, none⟩) n cap) n (numCells l)) {i : Nat} (hi : i < l.length) : w.cell? ⟨g, i, none⟩ = some (.int .i64 (nthN l i : Int)) := by
  obtain ⟨hl, h1⟩ := h
  rcases h1 with ⟨h1, -⟩ | ⟨g', cap', cur, h1, h2, h3, h4, h5, h6, h7⟩
  · cases h1
  · cases h1
    have hn : l.length = n := by rw [numCells_len] at hl; omega
    have hcell : w.cell? ⟨g, i, none⟩ = cur[i]? := by simp [World.cell?, h3]
    rw [hcell]
    have e : (cur.toList.take (n * 1))[i]? = cur[i]? := by rw [List.getElem?_take, if_pos (by omega)]; simp
    rw [← e, h7]
    unfold numCells
    rw [List.getElem?_map, nthN_get hi]
    rfl

theorem num_put {w : World} {B g n cap j i : Nat} {l : List Nat} (h : w.ownsRow B 3 1 (.slice (some ⟨g, 0, none⟩) n cap) n (numCells l)) :
    (w.setCell ⟨g, j, none⟩ (.int .i64 (i : Int))).ownsRow B 3 1 (.slice (some ⟨g, 0, none⟩) n cap) n (numCells (l.set j i)) := by
  rw [numCells_set]
  exact (h.stored j _).1

/-- Two places of a list changed about. -/
def swapN (l : List Nat) (i k : Nat) : List Nat := (l.set i (nthN l k)).set k (nthN l i)
theorem swapN_length (l : List Nat) (i k : Nat) : (swapN l i k).length = l.length := by simp [swapN]
theorem mem_swapN {l : List Nat} {i k : Nat} (hi : i < l.length) (hk : k < l.length) (x : Nat) : x ∈ swapN l i k ↔ x ∈ l := by
  have e : ∀ {l : List Nat} {x : Nat}, x ∈ l ↔ ∃ j, j < l.length ∧ nthN l j = x := by
    intro l x
    rw [List.mem_iff_getElem]
    constructor
    · rintro ⟨j, hj, rfl⟩
      exact ⟨j, hj, by unfold nthN; rw [List.getD_eq_getElem?_getD, List.getElem?_eq_getElem hj]; rfl⟩
    · rintro ⟨j, hj, rfl⟩
      exact ⟨j, hj, by unfold nthN; rw [List.getD_eq_getElem?_getD, List.getElem?_eq_getElem hj]; rfl⟩
  have n : ∀ j, j < l.length → nthN (swapN l i k) j = if j = k then nthN l i else if j = i then nthN l k else nthN l j := by
    intro j hj
    have : (swapN l i k)[j]? = some (if j = k then nthN l i else if j = i then nthN l k else nthN l j) := by
      unfold swapN
      simp only [List.getElem?_set, List.length_set]
      by_cases h1 : k = j
      · subst h1
        rw [if_pos rfl, if_pos hk, if_pos rfl]
      · have h1' : ¬ j = k := fun h => h1 h.symm
        simp only [h1, h1', if_false]
        by_cases h2 : i = j
        · subst h2
          rw [if_pos rfl, if_pos hi, if_pos rfl]
        · have h2' : ¬ j = i := fun h => h2 h.symm
          simp only [h2, h2', if_false]
          exact nthN_get hj
    unfold nthN at this ⊢
    rw [List.getD_eq_getElem?_getD, this]
    rfl
  rw [e, e, swapN_length]
  constructor
  · rintro ⟨j, hj, rfl⟩
    rw [n j hj]
    split
    · exact ⟨i, hi, rfl⟩
    · split
      · exact ⟨k, hk, rfl⟩
      · exact ⟨j, hj, rfl⟩
  · rintro ⟨j, hj, rfl⟩
    by_cases h1 : j = i
    · subst h1; exact ⟨k, hk, by rw [n k hk, if_pos rfl]⟩
    · by_cases h2 : j = k
      · subst h2
        exact ⟨i, hi, by rw [n i hi, if_neg (fun h => h1 h.symm), if_pos rfl]⟩
      · exact ⟨j, hj, by rw [n j hj, if_neg h2, if_neg h1]⟩

/-- One number appended to an owned row, as one operation. -/
theorem op_append_num {w : World} {o : Oper} {act : Act} {K : Act → World → Prop} {Q : Exit → Act → World → Prop} (s x : Operand)
    (ho : o.op = .call { callee := .builtin .append, args := #[s, x], argTypes := #[59, 59] })
    (B n : Nat) (v : Value) (l : List Nat) (hs : act.eval s = v) (hown : w.ownsRow B 3 1 v n (numCells l)) (b c : Nat) (e : Nat) (hx : act.eval x = .slice (some ⟨b, 0, none⟩) 1 c)
    (hb : w.heap[b]? = some (.cells #[.int .i64 (e : Int)] 3 (0, 0))) (hlen : n * 56 ≤ 140737488351232) (hB : B ≤ w.heap.size)
    (h : ∀ g cap w', w'.ownsRow B 3 1 (.slice (some ⟨g, 0, none⟩) (n + 1) cap) (n + 1) (numCells (l ++ [e])) → w.grownBy w' v.ownBlock → K (act.put o.dst (.slice (some ⟨g, 0, none⟩) (n + 1) cap)) w') : o.wp Tryd.prog act w K Q := by
  obtain ⟨i0, hi, hz0, hz1, hz2⟩ := info_parts infoInt
  refine wp_append_own w s x _ ho B 3 i0 _ 1 8 Tryd.underlying59 hi hz0 hz1 hz2 rfl (by decide) _ _ _ hs hown ⟨b, 0, none⟩ 1 c [.int .i64 (e : Int)] hx rfl ?_ (fun u hu => numCells_one [e] u (by simpa [numCells] using hu)) (by unfold maxLen; omega) (by omega) hB ?_
  · exact World.news_of_block (cs := #[.int .i64 (e : Int)]) (t := 3) (fr := (0, 0)) hb
  · intro v' w' ho' hg _
    have e1 : numCells l ++ [.int .i64 (e : Int)] = numCells (l ++ [e]) := by rw [numCells_app]; simp [numCells]
    rw [e1] at ho'
    rcases ho'.2 with ⟨h1, h2⟩ | ⟨g, cap', cur, rfl, _⟩
    · omega
    · exact h g cap' w' ho' hg

/-- A row that is ours stays while blocks of other types are turned. -/
theorem own_kept {w w' : World} {S : Nat → Prop} {B : Nat} {e : TypeId} {s : Nat} {v : Value} {n : Nat} {xs : List Value} (h : w.ownsRow B e s v n xs) (k : Keeps S w w') (hS : ∀ g cs, w.heap[g]? = some (.cells cs e (0, 0)) → ¬ S g) : w'.ownsRow B e s v n xs := by
  refine ⟨h.1, ?_⟩
  rcases h.2 with h0 | ⟨g, cap, cur, h1, h2, h3, h4⟩
  · exact .inl h0
  · exact .inr ⟨g, cap, cur, h1, h2, blk_keep h3 k (hS g cur h3), h4⟩

end Go.Proofs.YtlgcdcjhflihiaaDoor
namespace Go.Proofs.YtlgcdcjhflihiaaDoor
open Go.RowKit
set_option linter.unusedVariables false

/-- Are two entries the same? -/
def enEqB (a b : En) : Bool := (a.k.toList == b.k.toList) && ((a.c == b.c && a.n == b.n) && ((a.v.toList == b.v.toList) && (a.d == b.d)))

theorem enEqB_iff (a b : En) : enEqB a b = true ↔ a = b := by
  obtain ⟨k, c, n, v, d⟩ := a
  obtain ⟨k', c', n', v', d'⟩ := b
  simp only [enEqB, Bool.and_eq_true, beq_iff_eq, En.mk.injEq]
  constructor
  · rintro ⟨h1, ⟨h2, h3⟩, h4, h5⟩
    exact ⟨toList_inj h1, h2, h3, toList_inj h4, h5⟩
  · rintro ⟨rfl, rfl, rfl, rfl, rfl⟩
    exact ⟨rfl, ⟨rfl, rfl⟩, rfl, rfl⟩
theorem enEqB_same (a : En) : enEqB a a = true := (enEqB_iff a a).2 rfl
theorem enEqB_ne {a b : En} (h : a ≠ b) : enEqB a b = false := by
  cases h2 : enEqB a b
  · rfl
  · exact absurd ((enEqB_iff a b).1 h2) h

theorem verq_run (a n b m : Int) (w : World) : (binOp .eql 37 (.agg #[.int .i64 a, .int .i64 n]) (.agg #[.int .i64 b, .int .i64 m])).run Tryd.prog w = .ok (.bool (a == b && n == m)) w := by
  by_cases h1 : a = b <;> by_cases h2 : n = m
  all_goals
    go_simp
    try simp [h1, h2]
theorem verne_run (a n b m : Int) (w : World) : (binOp .neq 37 (.agg #[.int .i64 a, .int .i64 n]) (.agg #[.int .i64 b, .int .i64 m])).run Tryd.prog w = .ok (.bool (!(a == b && n == m))) w := by
  by_cases h1 : a = b <;> by_cases h2 : n = m
  all_goals
    go_simp
    try simp [h1, h2]

theorem ent_in (a b : En) (w : World) : (Op.equalIn 10000 39 (.agg #[.string a.k, .int .i64 a.c, .int .i64 a.n, .string a.v, .bool a.d]) (.agg #[.string b.k, .int .i64 b.c, .int .i64 b.n, .string b.v, .bool b.d])).run Tryd.prog w = .ok (enEqB a b) w := by
  unfold enEqB
  rw [show (10000 : Nat) = 9999 + 1 from rfl]
  cases h1 : (a.k.toList == b.k.toList) <;> by_cases h2 : a.c = b.c <;> by_cases h5 : a.n = b.n <;> cases h3 : (a.v.toList == b.v.toList) <;> cases h4 : (a.d == b.d)
  all_goals
    go_simp
    try simp [h2, h5]
theorem ent_eq (a b : En) (w : World) : (binOp .eql 39 (.agg #[.string a.k, .int .i64 a.c, .int .i64 a.n, .string a.v, .bool a.d]) (.agg #[.string b.k, .int .i64 b.c, .int .i64 b.n, .string b.v, .bool b.d])).run Tryd.prog w = .ok (.bool (enEqB a b)) w := by
  rw [run_eql_struct, ent_in]; rfl
theorem ent_ne (a b : En) (w : World) : (binOp .neq 39 (.agg #[.string a.k, .int .i64 a.c, .int .i64 a.n, .string a.v, .bool a.d]) (.agg #[.string b.k, .int .i64 b.c, .int .i64 b.n, .string b.v, .bool b.d])).run Tryd.prog w = .ok (.bool (!enEqB a b)) w := by
  rw [run_neq_struct, ent_in]; rfl

end Go.Proofs.YtlgcdcjhflihiaaDoor
namespace Go.Proofs.YtlgcdcjhflihiaaDoor
open Go.RowKit
set_option linter.unusedVariables false

theorem oput (k v : ByteArray) {w : World} {sb g tb : Nat} {nd ck c : Int} {Ls Ls' : List En} (h : Sto w sb g tb nd ck Ls) (L : Lanes w) (hl : Ls.length ≤ 1000000) (he : wrErr k v nd ck Ls = 0) (hc : ck + 1 = c) (hi : insE (wrEn k v false nd ck) Ls = Ls') :
    Calls Tryd.prog 15 #[.pointer (some ⟨sb, 0, none⟩), .string k, .string v] w fun r w' => r = .returned (.tuple #[.agg #[.int .i64 c, .int .i64 nd], .int .i64 0]) ∧ Sto w' sb g tb nd c Ls' ∧ Lanes w' ∧ Keeps (Of sb g tb) w w' := by
  refine (qput k v h L hl).mono ?_
  rintro r w' ⟨c', m, er, rfl, e2, k, l, h1 | h1⟩
  · exact absurd (e2.trans he) h1.1
  · obtain ⟨rfl, rfl, rfl, h4⟩ := h1
    rw [hc, hi] at h4
    rw [hc]
    exact ⟨rfl, h4, l, k⟩

theorem odel (k : ByteArray) {w : World} {sb g tb : Nat} {nd ck c : Int} {Ls Ls' : List En} (h : Sto w sb g tb nd ck Ls) (L : Lanes w) (hl : Ls.length ≤ 1000000) (he : wrErr k ⟨#[]⟩ nd ck Ls = 0) (hc : ck + 1 = c) (hi : insE (wrEn k ⟨#[]⟩ true nd ck) Ls = Ls') :
    Calls Tryd.prog 16 #[.pointer (some ⟨sb, 0, none⟩), .string k] w fun r w' => r = .returned (.tuple #[.agg #[.int .i64 c, .int .i64 nd], .int .i64 0]) ∧ Sto w' sb g tb nd c Ls' ∧ Lanes w' ∧ Keeps (Of sb g tb) w w' := by
  refine (qdel k h L hl).mono ?_
  rintro r w' ⟨c', m, er, rfl, e2, k, l, h1 | h1⟩
  · exact absurd (e2.trans he) h1.1
  · obtain ⟨rfl, rfl, rfl, h4⟩ := h1
    rw [hc, hi] at h4
    rw [hc]
    exact ⟨rfl, h4, l, k⟩

theorem otake (e : En) {w : World} {sb g tb : Nat} {nd ck c : Int} {Ls Ls' : List En} (h : Sto w sb g tb nd ck Ls) (L : Lanes w) (hl : Ls.length ≤ 1000000) (he : tkSay e Ls = (0, true)) (hc : ckm ck e.c = c) (hi : insE e Ls = Ls') :
    Calls Tryd.prog 17 #[.pointer (some ⟨sb, 0, none⟩), .agg #[.string e.k, .int .i64 e.c, .int .i64 e.n, .string e.v, .bool e.d]] w fun r w' => r = .returned (.tuple #[.bool true, .int .i64 0]) ∧ Sto w' sb g tb nd c Ls' ∧ Lanes w' ∧ Keeps (Of sb g tb) w w' := by
  refine (qtake e h L hl).mono ?_
  rintro r w' ⟨rfl, k, l, h1 | h1⟩
  · rw [he] at h1; cases h1.1
  · rw [hc, hi] at h1
    rw [he]
    exact ⟨rfl, h1.2, l, k⟩

theorem sh1 : wrErr ⟨#[97]⟩ ⟨#[120]⟩ 3 0 [] = 0 ∧ insE (wrEn ⟨#[97]⟩ ⟨#[120]⟩ false 3 0) [] = [(⟨⟨#[97]⟩, 1, 3, ⟨#[120]⟩, false⟩ : En)] := by constructor <;> kernel_rfl
theorem sh2 : wrErr ⟨#[98]⟩ ⟨#[]⟩ 3 1 [(⟨⟨#[97]⟩, 1, 3, ⟨#[120]⟩, false⟩ : En)] = 0 ∧ insE (wrEn ⟨#[98]⟩ ⟨#[]⟩ false 3 1) [(⟨⟨#[97]⟩, 1, 3, ⟨#[120]⟩, false⟩ : En)] = [(⟨⟨#[97]⟩, 1, 3, ⟨#[120]⟩, false⟩ : En), (⟨⟨#[98]⟩, 2, 3, ⟨#[]⟩, false⟩ : En)] := by constructor <;> kernel_rfl
theorem sh3 : wrErr ⟨#[97]⟩ ⟨#[]⟩ 3 2 [(⟨⟨#[97]⟩, 1, 3, ⟨#[120]⟩, false⟩ : En), (⟨⟨#[98]⟩, 2, 3, ⟨#[]⟩, false⟩ : En)] = 0 ∧ insE (wrEn ⟨#[97]⟩ ⟨#[]⟩ true 3 2) [(⟨⟨#[97]⟩, 1, 3, ⟨#[120]⟩, false⟩ : En), (⟨⟨#[98]⟩, 2, 3, ⟨#[]⟩, false⟩ : En)] = [(⟨⟨#[97]⟩, 3, 3, ⟨#[]⟩, true⟩ : En), (⟨⟨#[98]⟩, 2, 3, ⟨#[]⟩, false⟩ : En)] := by constructor <;> kernel_rfl
theorem sh4 : tkSay (⟨⟨#[99]⟩, 9, 0, ⟨#[]⟩, false⟩ : En) [(⟨⟨#[97]⟩, 3, 3, ⟨#[]⟩, true⟩ : En), (⟨⟨#[98]⟩, 2, 3, ⟨#[]⟩, false⟩ : En)] = (0, true) ∧ insE (⟨⟨#[99]⟩, 9, 0, ⟨#[]⟩, false⟩ : En) [(⟨⟨#[97]⟩, 3, 3, ⟨#[]⟩, true⟩ : En), (⟨⟨#[98]⟩, 2, 3, ⟨#[]⟩, false⟩ : En)] = [(⟨⟨#[97]⟩, 3, 3, ⟨#[]⟩, true⟩ : En), (⟨⟨#[98]⟩, 2, 3, ⟨#[]⟩, false⟩ : En), (⟨⟨#[99]⟩, 9, 0, ⟨#[]⟩, false⟩ : En)] := by constructor <;> kernel_rfl
theorem sh5 : wrErr ⟨#[97]⟩ ⟨#[121]⟩ 3 9 [(⟨⟨#[97]⟩, 3, 3, ⟨#[]⟩, true⟩ : En), (⟨⟨#[98]⟩, 2, 3, ⟨#[]⟩, false⟩ : En), (⟨⟨#[99]⟩, 9, 0, ⟨#[]⟩, false⟩ : En)] = 0 ∧ insE (wrEn ⟨#[97]⟩ ⟨#[121]⟩ false 3 9) [(⟨⟨#[97]⟩, 3, 3, ⟨#[]⟩, true⟩ : En), (⟨⟨#[98]⟩, 2, 3, ⟨#[]⟩, false⟩ : En), (⟨⟨#[99]⟩, 9, 0, ⟨#[]⟩, false⟩ : En)] = [(⟨⟨#[97]⟩, 10, 3, ⟨#[121]⟩, false⟩ : En), (⟨⟨#[98]⟩, 2, 3, ⟨#[]⟩, false⟩ : En), (⟨⟨#[99]⟩, 9, 0, ⟨#[]⟩, false⟩ : En)] := by constructor <;> kernel_rfl
theorem sh6 : (lookE ⟨#[97]⟩ [(⟨⟨#[97]⟩, 10, 3, ⟨#[121]⟩, false⟩ : En), (⟨⟨#[98]⟩, 2, 3, ⟨#[]⟩, false⟩ : En), (⟨⟨#[99]⟩, 9, 0, ⟨#[]⟩, false⟩ : En)]).getD eNone = (⟨⟨#[97]⟩, 10, 3, ⟨#[121]⟩, false⟩ : En) ∧ (lookE ⟨#[97]⟩ [(⟨⟨#[97]⟩, 10, 3, ⟨#[121]⟩, false⟩ : En), (⟨⟨#[98]⟩, 2, 3, ⟨#[]⟩, false⟩ : En), (⟨⟨#[99]⟩, 9, 0, ⟨#[]⟩, false⟩ : En)]).isSome = true := by constructor <;> kernel_rfl
theorem sh7 : Rg.chk ⟨⟨#[120]⟩, ⟨#[97]⟩, false⟩ = 21 ∧ foldV ⟨#[120]⟩ ⟨#[97]⟩ false [(⟨⟨#[97]⟩, 10, 3, ⟨#[121]⟩, false⟩ : En), (⟨⟨#[98]⟩, 2, 3, ⟨#[]⟩, false⟩ : En), (⟨⟨#[99]⟩, 9, 0, ⟨#[]⟩, false⟩ : En)] = tZero := by constructor <;> kernel_rfl
theorem sh8 : Rg.chk ⟨⟨#[98]⟩, ⟨#[99]⟩, false⟩ = 0 ∧ (foldV ⟨#[98]⟩ ⟨#[99]⟩ false [(⟨⟨#[97]⟩, 10, 3, ⟨#[121]⟩, false⟩ : En), (⟨⟨#[98]⟩, 2, 3, ⟨#[]⟩, false⟩ : En), (⟨⟨#[99]⟩, 9, 0, ⟨#[]⟩, false⟩ : En)]).n = 1 := by constructor <;> kernel_rfl

set_option maxHeartbeats 6400000 in
set_option maxRecDepth 100000 in
theorem shown_any (w : World) (L : Lanes w) : Calls Tryd.prog 8 #[] w fun e w' => e = .returned (.bool true) ∧ Below w.heap.size w w' := by
  have LL := aside L
  have C1 := aside (fun (W : World) => qnew 3 W)
  have hv1 : ∀ w : World, (binOp .eql 37 (.agg #[.int .i64 3, .int .i64 3]) (.agg #[.int .i64 3, .int .i64 3])).run Tryd.prog w = .ok (.bool true) w := fun w => verq_run 3 3 3 3 w
  have hv2 : ∀ w : World, (binOp .eql 37 (.agg #[.int .i64 10, .int .i64 3]) (.agg #[.int .i64 10, .int .i64 3])).run Tryd.prog w = .ok (.bool true) w := fun w => verq_run 10 3 10 3 w
  have hee : ∀ w : World, (binOp .eql 39 (.agg #[.string ⟨#[97]⟩, .int .i64 10, .int .i64 3, .string ⟨#[121]⟩, .bool false]) (.agg #[.string ⟨#[97]⟩, .int .i64 10, .int .i64 3, .string ⟨#[121]⟩, .bool false])).run Tryd.prog w = .ok (.bool true) w := fun w => by
    have h := ent_eq (⟨⟨#[97]⟩, 10, 3, ⟨#[121]⟩, false⟩ : En) (⟨⟨#[97]⟩, 10, 3, ⟨#[121]⟩, false⟩ : En) w
    rw [enEqB_same] at h
    exact h
  clear L
  go_enter Tryd.func8, Tryd.ntmps8
  go_wp2_with fail
  refine (C1.out _).mono ?_
  rintro e w1 ⟨b1, ⟨hn, rfl⟩ | ⟨-, sb, g, tb, rfl, hs, l1, l2, l3⟩⟩
  · exact absurd hn (by decide)
  have H1 := aside hs
  have L1 := aside (LL.out.keep b1)
  have K1 := aside (Keeps.of_below b1 (Of sb g tb))
  have HL := aside (show w.heap.size ≤ sb ∧ w.heap.size ≤ g ∧ w.heap.size ≤ tb from ⟨l1, l2, l3⟩)
  clear b1 hs l1 l2 l3 C1 LL
  go_wp2_with fail
  refine (oput ⟨#[97]⟩ ⟨#[120]⟩ H1.out L1.out (by decide) sh1.1 (show (0 : Int) + 1 = 1 from rfl) sh1.2).mono ?_
  rintro e w2 ⟨rfl, hs, hl, hk⟩
  have H2 := aside hs
  have L2 := aside hl
  have K2 := aside (K1.out.trans hk)
  clear hs hl hk H1 L1 K1
  go_wp2_with fail
  refine (oput ⟨#[98]⟩ ⟨#[]⟩ H2.out L2.out (by decide) sh2.1 (show (1 : Int) + 1 = 2 from rfl) sh2.2).mono ?_
  rintro e w3 ⟨rfl, hs, hl, hk⟩
  have H3 := aside hs
  have L3 := aside hl
  have K3 := aside (K2.out.trans hk)
  clear hs hl hk H2 L2 K2
  go_wp2_with fail
  refine (odel ⟨#[97]⟩ H3.out L3.out (by decide) sh3.1 (show (2 : Int) + 1 = 3 from rfl) sh3.2).mono ?_
  rintro e w4 ⟨rfl, hs, hl, hk⟩
  have b4 := bnew w4 (.cells #[.int .i64 3, .int .i64 3] 37)
  have H4 := aside (hs.below b4)
  have L4 := aside (hl.keep b4)
  have K4 := aside ((K3.out.trans hk).trans (Keeps.of_below b4 _))
  have V4 := aside (heap_alloc_new w4 (.cells #[.int .i64 3, .int .i64 3] 37))
  clear hs hl hk H3 L3 K3 b4
  go_wp2_with fail
  refine (otake (⟨⟨#[99]⟩, 9, 0, ⟨#[]⟩, false⟩ : En) H4.out L4.out (by decide) sh4.1 (show ckm 3 9 = 9 from rfl) sh4.2).mono ?_
  rintro e w5 ⟨rfl, hs, hl, hk⟩
  have H5 := aside hs
  have L5 := aside hl
  have K5 := aside (K4.out.trans hk)
  have V5 := aside (blk_keep V4.out hk (H4.out.not V4.out (by decide) (by decide) (by decide)))
  clear hs hl hk H4 L4 K4 V4
  generalize w4.heap.size = i4 at *
  go_wp2_with fail
  refine (oput ⟨#[97]⟩ ⟨#[121]⟩ H5.out L5.out (by decide) sh5.1 (show (9 : Int) + 1 = 10 from rfl) sh5.2).mono ?_
  rintro e w6 ⟨rfl, hs, hl, hk⟩
  have b6 := bnew w6 (.cells #[.int .i64 10, .int .i64 3] 37)
  have H6 := aside (hs.below b6)
  have L6 := aside (hl.keep b6)
  have K6 := aside ((K5.out.trans hk).trans (Keeps.of_below b6 _))
  have V6 := aside (blk_on (blk_keep V5.out hk (H5.out.not V5.out (by decide) (by decide) (by decide))) b6)
  have U6 := aside (heap_alloc_new w6 (.cells #[.int .i64 10, .int .i64 3] 37))
  clear hs hl hk H5 L5 K5 V5 b6
  go_wp2_with fail
  have CG := aside (qget ⟨#[97]⟩ H6.out (by decide))
  rw [if_neg (by decide), sh6.1, sh6.2] at CG
  refine CG.out.mono ?_
  rintro e w7 ⟨rfl, b7⟩
  have b7' := bnew w7 (.cells #[.string (⟨⟨#[97]⟩, 10, 3, ⟨#[121]⟩, false⟩ : En).k, .int .i64 (⟨⟨#[97]⟩, 10, 3, ⟨#[121]⟩, false⟩ : En).c, .int .i64 (⟨⟨#[97]⟩, 10, 3, ⟨#[121]⟩, false⟩ : En).n, .string (⟨⟨#[97]⟩, 10, 3, ⟨#[121]⟩, false⟩ : En).v, .bool (⟨⟨#[97]⟩, 10, 3, ⟨#[121]⟩, false⟩ : En).d] 39)
  have H7 := aside ((H6.out.below b7).below b7')
  have L7 := aside ((L6.out.keep b7).keep b7')
  have K7 := aside (K6.out.trans (Keeps.of_below (bthen b7 b7') _))
  have V7 := aside (blk_on (blk_on V6.out b7) b7')
  have U7 := aside (blk_on (blk_on U6.out b7) b7')
  have E7 := aside (heap_alloc_new w7 (.cells #[.string (⟨⟨#[97]⟩, 10, 3, ⟨#[121]⟩, false⟩ : En).k, .int .i64 (⟨⟨#[97]⟩, 10, 3, ⟨#[121]⟩, false⟩ : En).c, .int .i64 (⟨⟨#[97]⟩, 10, 3, ⟨#[121]⟩, false⟩ : En).n, .string (⟨⟨#[97]⟩, 10, 3, ⟨#[121]⟩, false⟩ : En).v, .bool (⟨⟨#[97]⟩, 10, 3, ⟨#[121]⟩, false⟩ : En).d] 39))
  clear b7 b7' CG H6 L6 K6 V6 U6
  generalize w6.heap.size = i6 at *
  dsimp only at H7 L7 K7 V7 U7 E7
  go_wp2_with fail
  have CF := aside (qfold ⟨#[120]⟩ ⟨#[97]⟩ false H7.out L7.out (by decide))
  rw [sh7.1, sh7.2, tZero_n, tZero_a, tZero_b] at CF
  refine CF.out.mono ?_
  rintro e w8 ⟨rfl, hs, hk, hl⟩
  have b8 := bnew w8 (.cells #[.int .i64 0, .int .u64 0, .int .u64 0] 64)
  have H8 := aside (hs.below b8)
  have L8 := aside (hl.keep b8)
  have K8 := aside ((K7.out.trans hk).trans (Keeps.of_below b8 _))
  have V8 := aside (blk_on (blk_keep V7.out hk (H7.out.not V7.out (by decide) (by decide) (by decide))) b8)
  have U8 := aside (blk_on (blk_keep U7.out hk (H7.out.not U7.out (by decide) (by decide) (by decide))) b8)
  have E8 := aside (blk_on (blk_keep E7.out hk (H7.out.not E7.out (by decide) (by decide) (by decide))) b8)
  clear hs hl hk H7 L7 K7 V7 U7 E7 b8 CF
  generalize w7.heap.size = i7 at *
  go_wp2_with fail
  have CF := aside (qfold ⟨#[98]⟩ ⟨#[99]⟩ false H8.out L8.out (by decide))
  obtain ⟨tn, htn⟩ : ∃ x, (foldV ⟨#[98]⟩ ⟨#[99]⟩ false [(⟨⟨#[97]⟩, 10, 3, ⟨#[121]⟩, false⟩ : En), (⟨⟨#[98]⟩, 2, 3, ⟨#[]⟩, false⟩ : En), (⟨⟨#[99]⟩, 9, 0, ⟨#[]⟩, false⟩ : En)]).n = x := ⟨_, rfl⟩
  obtain ⟨ta, hta⟩ : ∃ x, (foldV ⟨#[98]⟩ ⟨#[99]⟩ false [(⟨⟨#[97]⟩, 10, 3, ⟨#[121]⟩, false⟩ : En), (⟨⟨#[98]⟩, 2, 3, ⟨#[]⟩, false⟩ : En), (⟨⟨#[99]⟩, 9, 0, ⟨#[]⟩, false⟩ : En)]).a = x := ⟨_, rfl⟩
  obtain ⟨tc, htc⟩ : ∃ x, (foldV ⟨#[98]⟩ ⟨#[99]⟩ false [(⟨⟨#[97]⟩, 10, 3, ⟨#[121]⟩, false⟩ : En), (⟨⟨#[98]⟩, 2, 3, ⟨#[]⟩, false⟩ : En), (⟨⟨#[99]⟩, 9, 0, ⟨#[]⟩, false⟩ : En)]).b = x := ⟨_, rfl⟩
  rw [sh8.1, htn, hta, htc] at CF
  rw [sh8.2] at htn
  subst htn
  clear hta htc
  refine CF.out.mono ?_
  rintro e w9 ⟨rfl, hs, hk, hl⟩
  have b9 := bnew w9 (.cells #[.int .i64 1, .int .u64 ta, .int .u64 tc] 64)
  have H9 := aside (hs.below b9)
  have K9 := aside ((K8.out.trans hk).trans (Keeps.of_below b9 _))
  obtain ⟨v0, v1, -, -⟩ := pair (blk_on (blk_keep V8.out hk (H8.out.not V8.out (by decide) (by decide) (by decide))) b9)
  obtain ⟨u0, u1, -, -⟩ := pair (blk_on (blk_keep U8.out hk (H8.out.not U8.out (by decide) (by decide) (by decide))) b9)
  obtain ⟨e0, e1, e2, e3, e4, -⟩ := penta (blk_on (blk_keep E8.out hk (H8.out.not E8.out (by decide) (by decide) (by decide))) b9)
  have CLn := aside (qlen H9.out)
  have CCk := aside (qclock H9.out)
  rw [show (([(⟨⟨#[97]⟩, 10, 3, ⟨#[121]⟩, false⟩ : En), (⟨⟨#[98]⟩, 2, 3, ⟨#[]⟩, false⟩ : En), (⟨⟨#[99]⟩, 9, 0, ⟨#[]⟩, false⟩ : En)].length : Nat) : Int) = 3 from rfl] at CLn
  clear hs hl hk H8 L8 K8 V8 U8 E8 b9 CF
  generalize w8.heap.size = i8 at *
  go_wp2_with fail
  refine CLn.out.mono ?_
  rintro e w10 ⟨rfl, rfl⟩
  go_wp2_with fail
  refine CCk.out.mono ?_
  rintro e w10 ⟨rfl, rfl⟩
  go_wp2
  go_ret
  exact ⟨rfl, K9.out.below (Nat.le_refl _) (fun k hk e => by have := HL.out; rcases e with e | e | e <;> omega)⟩

end Go.Proofs.YtlgcdcjhflihiaaDoor
namespace Go.Proofs.YtlgcdcjhflihiaaDoor
open Go.RowKit
set_option linter.unusedVariables false

/-- Two stores: the first of the node 0, the second of the node 5. -/
structure TW (w W : World) (sa ga ta sb gb tb : Nat) (La : List En) (ca : Int) (Lb : List En) (cb : Int) : Prop where
  a : Sto W sa ga ta 0 ca La
  b : Sto W sb gb tb 5 cb Lb
  lan : Lanes W
  below : Below w.heap.size w W
  la : w.heap.size ≤ sa ∧ w.heap.size ≤ ga ∧ w.heap.size ≤ ta
  lb : w.heap.size ≤ sb ∧ w.heap.size ≤ gb ∧ w.heap.size ≤ tb
  ap : sa ≠ sb ∧ ga ≠ gb ∧ ta ≠ tb

section
variable {w W W' : World} {sa ga ta sb gb tb : Nat} {La : List En} {ca : Int} {Lb : List En} {cb : Int}

theorem TW.on (h : TW w W sa ga ta sb gb tb La ca Lb cb) (b : Below W.heap.size W W') : TW w W' sa ga ta sb gb tb La ca Lb cb :=
  ⟨h.a.below b, h.b.below b, h.lan.keep b, bthen h.below b, h.la, h.lb, h.ap⟩
theorem TW.drew (h : TW w W sa ga ta sb gb tb La ca Lb cb) : TW w W.drew sa ga ta sb gb tb La ca Lb cb := h.on ((Below.refl _ _).drew)
theorem TW.turnA {La' : List En} {ca' : Int} (h : TW w W sa ga ta sb gb tb La ca Lb cb) (s : Sto W' sa ga ta 0 ca' La') (k : Keeps (Of sa ga ta) W W') : TW w W' sa ga ta sb gb tb La' ca' Lb cb :=
  ⟨s, h.b.keep h.a k h.ap.1.symm h.ap.2.1.symm h.ap.2.2.symm, h.a.keeps h.lan k, h.below.trans (k.below h.below.size (fun i hi e => by have := h.la; rcases e with e | e | e <;> omega)), h.la, h.lb, h.ap⟩
theorem TW.turnB {Lb' : List En} {cb' : Int} (h : TW w W sa ga ta sb gb tb La ca Lb cb) (s : Sto W' sb gb tb 5 cb' Lb') (k : Keeps (Of sb gb tb) W W') : TW w W' sa ga ta sb gb tb La ca Lb' cb' :=
  ⟨h.a.keep h.b k h.ap.1 h.ap.2.1 h.ap.2.2, s, h.b.keeps h.lan k, h.below.trans (k.below h.below.size (fun i hi e => by have := h.lb; rcases e with e | e | e <;> omega)), h.la, h.lb, h.ap⟩
theorem TW.ownA {B : Nat} {e : TypeId} {s : Nat} {v : Value} {n : Nat} {xs : List Value} (h : TW w W sa ga ta sb gb tb La ca Lb cb) (k : Keeps (Of sa ga ta) W W') (o : W.ownsRow B e s v n xs) (h1 : e ≠ 82) (h2 : e ≠ 111) (h3 : e ≠ 149) : W'.ownsRow B e s v n xs :=
  own_kept o k (fun g cs hg => h.a.not hg h1 h2 h3)
theorem TW.ownB {B : Nat} {e : TypeId} {s : Nat} {v : Value} {n : Nat} {xs : List Value} (h : TW w W sa ga ta sb gb tb La ca Lb cb) (k : Keeps (Of sb gb tb) W W') (o : W.ownsRow B e s v n xs) (h1 : e ≠ 82) (h2 : e ≠ 111) (h3 : e ≠ 149) : W'.ownsRow B e s v n xs :=
  own_kept o k (fun g cs hg => h.b.not hg h1 h2 h3)
theorem TW.boxB {i : Nat} {cs : Array Value} {U : TypeId} (h : TW w W sa ga ta sb gb tb La ca Lb cb) (k : Keeps (Of sb gb tb) W W') (hi : W.heap[i]? = some (.cells cs U (0, 0))) (h1 : U ≠ 82) (h2 : U ≠ 111) (h3 : U ≠ 149) : W'.heap[i]? = some (.cells cs U (0, 0)) :=
  blk_keep hi k (h.b.not hi h1 h2 h3)

theorem takeA (e : En) {P : En → Prop} (h : TW w W sa ga ta sb gb tb La ca Lb cb) (hk : Took P La ca) :
    Calls Tryd.prog 17 #[.pointer (some ⟨sa, 0, none⟩), .agg #[.string e.k, .int .i64 e.c, .int .i64 e.n, .string e.v, .bool e.d]] W fun r W' => ∃ b g La' ca', r = .returned (.tuple #[.bool b, .int .i64 g]) ∧ TW w W' sa ga ta sb gb tb La' ca' Lb cb ∧ Keeps (Of sa ga ta) W W' ∧ (g ≠ 80 → Took (fun x => P x ∨ x = e) La' ca') := by
  refine (qtake e h.a h.lan (by have := hk.len; omega)).mono ?_
  rintro r W' ⟨rfl, k, L, ⟨h1, s⟩ | ⟨h1, s⟩⟩
  · exact ⟨_, _, _, _, rfl, h.turnA s k, k, fun hg => hk.pass e h1 hg⟩
  · exact ⟨_, _, _, _, rfl, h.turnA s k, k, fun _ => hk.take e h1⟩
theorem takeB (e : En) {P : En → Prop} (h : TW w W sa ga ta sb gb tb La ca Lb cb) (hk : Took P Lb cb) :
    Calls Tryd.prog 17 #[.pointer (some ⟨sb, 0, none⟩), .agg #[.string e.k, .int .i64 e.c, .int .i64 e.n, .string e.v, .bool e.d]] W fun r W' => ∃ b g Lb' cb', r = .returned (.tuple #[.bool b, .int .i64 g]) ∧ TW w W' sa ga ta sb gb tb La ca Lb' cb' ∧ Keeps (Of sb gb tb) W W' ∧ (g ≠ 80 → Took (fun x => P x ∨ x = e) Lb' cb') := by
  refine (qtake e h.b h.lan (by have := hk.len; omega)).mono ?_
  rintro r W' ⟨rfl, k, L, ⟨h1, s⟩ | ⟨h1, s⟩⟩
  · exact ⟨_, _, _, _, rfl, h.turnB s k, k, fun hg => hk.pass e h1 hg⟩
  · exact ⟨_, _, _, _, rfl, h.turnB s k, k, fun _ => hk.take e h1⟩
theorem takeC (e : En) {P : En → Prop} (h : TW w W sa ga ta sb gb tb La ca Lb cb) (hk : Took P La ca) (he : P e) :
    Calls Tryd.prog 17 #[.pointer (some ⟨sa, 0, none⟩), .agg #[.string e.k, .int .i64 e.c, .int .i64 e.n, .string e.v, .bool e.d]] W fun r W' => ∃ g, r = .returned (.tuple #[.bool false, .int .i64 g]) ∧ TW w W' sa ga ta sb gb tb La ca Lb cb := by
  have h0 := hk.again e he
  refine (qtake e h.a h.lan (by have := hk.len; omega)).mono ?_
  rintro r W' ⟨rfl, k, L, ⟨h1, s⟩ | ⟨h1, s⟩⟩
  · exact ⟨_, by rw [h1], h.turnA s k⟩
  · rw [h0] at h1; cases h1

theorem foldA (h : TW w W sa ga ta sb gb tb La ca Lb cb) (hl : La.length ≤ 256) :
    Calls Tryd.prog 24 #[.pointer (some ⟨sa, 0, none⟩), .agg #[.string ⟨#[]⟩, .string ⟨#[]⟩, .bool true]] W fun r W' => r = .returned (.tuple #[.agg #[.int .i64 (foldV ⟨#[]⟩ ⟨#[]⟩ true La).n, .int .u64 (foldV ⟨#[]⟩ ⟨#[]⟩ true La).a, .int .u64 (foldV ⟨#[]⟩ ⟨#[]⟩ true La).b], .int .i64 0]) ∧ TW w W' sa ga ta sb gb tb La ca Lb cb ∧ Keeps (Of sa ga ta) W W' := by
  refine (qfold ⟨#[]⟩ ⟨#[]⟩ true h.a h.lan (by omega)).mono ?_
  rintro r W' ⟨rfl, s, k, L⟩
  exact ⟨by rw [chk_whole], h.turnA s k, k⟩
theorem foldB (h : TW w W sa ga ta sb gb tb La ca Lb cb) (hl : Lb.length ≤ 256) :
    Calls Tryd.prog 24 #[.pointer (some ⟨sb, 0, none⟩), .agg #[.string ⟨#[]⟩, .string ⟨#[]⟩, .bool true]] W fun r W' => r = .returned (.tuple #[.agg #[.int .i64 (foldV ⟨#[]⟩ ⟨#[]⟩ true Lb).n, .int .u64 (foldV ⟨#[]⟩ ⟨#[]⟩ true Lb).a, .int .u64 (foldV ⟨#[]⟩ ⟨#[]⟩ true Lb).b], .int .i64 0]) ∧ TW w W' sa ga ta sb gb tb La ca Lb cb ∧ Keeps (Of sb gb tb) W W' := by
  refine (qfold ⟨#[]⟩ ⟨#[]⟩ true h.b h.lan (by omega)).mono ?_
  rintro r W' ⟨rfl, s, k, L⟩
  exact ⟨by rw [chk_whole], h.turnB s k, k⟩
end

theorem talL_num : ∀ (l : List En), l.length ≤ 1000000 → (talL l).n = (l.length : Int)
  | [], _ => rfl
  | x :: l, h => by
    have ih := talL_num l (by simp only [List.length_cons] at h; omega)
    have e : talL (x :: l) = tJoin (tof x) (talL l) := by
      have := talL_append [x] l
      rw [talL_one] at this
      exact this
    rw [e, ← tJoin_n, ih, tof_n, IntKind.wrap_i64]
    simp only [List.length_cons] at h ⊢
    omega
theorem fold_num {Ls : List En} (hl : Ls.length ≤ 256) : (foldV ⟨#[]⟩ ⟨#[]⟩ true Ls).n = (Ls.length : Int) := by
  unfold foldV
  rw [if_pos chk_whole]
  have : Ls.filter (inR ⟨#[]⟩ ⟨#[]⟩ true) = Ls := by
    rw [List.filter_eq_self]
    intro x _
    simp [inR, kLt_none]
  rw [this, talL_num _ (by omega)]

/-- Two entries of one key and one version are one. -/
def Ok2 (x y : En) : Prop := x.k = y.k → x.c = y.c → x.n = y.n → x = y
theorem Ok2.symm {x y : En} (h : Ok2 x y) : Ok2 y x := fun a b c => (h a.symm b.symm c.symm).symm
def NoTw (T : Nat → En) (i k : Nat) : Prop := (∀ p, p < i → ∀ q, q < p → Ok2 (T p) (T q)) ∧ ∀ q, q < k → Ok2 (T i) (T q)
theorem NoTw.nil (T : Nat → En) : NoTw T 0 0 := ⟨fun p h => absurd h (Nat.not_lt_zero _), fun q h => absurd h (Nat.not_lt_zero _)⟩
theorem NoTw.next {T : Nat → En} {i k : Nat} (h : NoTw T i k) (h2 : Ok2 (T i) (T k)) : NoTw T i (k + 1) :=
  ⟨h.1, fun q hq => by rcases Nat.lt_succ_iff_lt_or_eq.1 hq with h3 | rfl; exact h.2 q h3; exact h2⟩
theorem NoTw.row {T : Nat → En} {i : Nat} (h : NoTw T i i) : NoTw T (i + 1) 0 :=
  ⟨fun p hp q hq => by rcases Nat.lt_succ_iff_lt_or_eq.1 hp with h3 | rfl; exact h.1 p h3 q hq; exact h.2 q hq, fun q h => absurd h (Nat.not_lt_zero _)⟩
theorem NoTw.all {T : Nat → En} {n : Nat} (h : NoTw T n 0) (p q : Nat) (hp : p < n) (hq : q < n) : Ok2 (T p) (T q) := by
  rcases Nat.lt_trichotomy p q with h1 | rfl | h1
  · exact (h.1 q hq p h1).symm
  · exact fun _ _ _ => rfl
  · exact h.1 p hp q h1

/-- The row of numbers, since V. -/
structure LN (V W : World) (v : Value) (n : Nat) (l : List Nat) : Prop where
  own : W.ownsRow V.heap.size 3 1 v n (numCells l)
  below : Below V.heap.size V W
  len : l.length = n
theorem LN.on {V W W' : World} {v : Value} {n : Nat} {l : List Nat} (h : LN V W v n l) (b : Below W.heap.size W W') : LN V W' v n l := ⟨own_on h.own b, bthen h.below b, h.len⟩
theorem LN.drew {V W : World} {v : Value} {n : Nat} {l : List Nat} (h : LN V W v n l) : LN V W.drew v n l := ⟨h.own.drew, h.below.drew, h.len⟩
theorem LN.swap {V W : World} {g c n i k : Nat} {l : List Nat} (h : LN V W (.slice (some ⟨g, 0, none⟩) n c) n l) :
    LN V ((W.setCell ⟨g, i, none⟩ (.int .i64 (nthN l k : Int))).setCell ⟨g, k, none⟩ (.int .i64 (nthN l i : Int))) (.slice (some ⟨g, 0, none⟩) n c) n (swapN l i k) := by
  have hl := h.len
  have hg := (h.own.lt g rfl).1
  exact ⟨num_put (num_put h.own), (h.below.setCell hg _).setCell hg _, by rw [swapN_length]; exact hl⟩
/-- The numbers below n, in some order. -/
def AllOf (l : List Nat) (n : Nat) : Prop := l.length = n ∧ ∀ x, x ∈ l ↔ x < n
theorem AllOf.range (n : Nat) : AllOf (List.range n) n := ⟨List.length_range, fun x => List.mem_range⟩
theorem AllOf.swap {l : List Nat} {n i k : Nat} (h : AllOf l n) (hi : i < n) (hk : k < n) : AllOf (swapN l i k) n := by
  obtain ⟨h1, h2⟩ := h
  exact ⟨by rw [swapN_length]; exact h1, fun x => (mem_swapN (by omega) (by omega) x).trans (h2 x)⟩
theorem AllOf.lt {l : List Nat} {n i : Nat} (h : AllOf l n) (hi : i < n) : nthN l i < n := by
  obtain ⟨h1, h2⟩ := h
  exact (h2 _).1 (List.mem_of_getElem? (nthN_get (by omega)))
theorem AllOf.hit {l : List Nat} {n x : Nat} (h : AllOf l n) (hx : x < n) : ∃ p, p < n ∧ nthN l p = x := by
  obtain ⟨h1, h2⟩ := h
  obtain ⟨p, hp, e⟩ := List.mem_iff_getElem.1 ((h2 x).2 hx)
  refine ⟨p, by omega, ?_⟩
  have := nthN_get hp
  rw [List.getElem?_eq_getElem hp] at this
  injection this with this
  rw [← this, e]

end Go.Proofs.YtlgcdcjhflihiaaDoor
