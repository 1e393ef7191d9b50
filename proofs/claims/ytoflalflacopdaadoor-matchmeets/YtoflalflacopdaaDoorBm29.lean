/-
  Rows of parts that a call owns: their cells, a list appended.
  What a store holds, told by the law's own loop.
  replyTo.
  exchange.
-/
import Derived.Test.YtoflalflacopdaaDoorBm28
import Derived.Test.YtoflalflacopdaaDoorBm15
import Derived.OwnWalk
import Derived.Laws.OwnMore
import Derived.Test.YtoflalflacopdaaDoorBm25
import Derived.Deep.Cut
namespace Go.Proofs.YtoflalflacopdaaDoor
open Go.RowKit
set_option linter.unusedVariables false
def ptVals (p : Pm) : List Value := [.int .i64 p.kind, .string p.lo, .string p.hi, .bool p.op, .int .i64 p.cnt, .int .u64 p.s0, .int .u64 p.s1, .slice p.ea p.el p.ec]
def ptCells : List Pm → List Value
  | [] => []
  | e :: r => ptVals e ++ ptCells r
theorem ptCells_length : ∀ l : List Pm, (ptCells l).length = l.length * 8
  | [] => rfl
  | e :: r => by simp only [ptCells, List.length_append, ptCells_length r, List.length_cons, ptVals]; simp; omega
theorem ptCells_append : ∀ l m : List Pm, ptCells (l ++ m) = ptCells l ++ ptCells m
  | [], _ => rfl
  | e :: r, m => by simp [ptCells, ptCells_append r m]
theorem ptCells_at : ∀ (l : List Pm) (i r : Nat) (e : Pm), l[i]? = some e → r < 8 → (ptCells l)[i * 8 + r]? = (ptVals e)[r]?
  | [], i, r, e, h, _ => by simp at h
  | x :: t, 0, r, e, h, hr => by
    simp at h; subst h
    simp only [ptCells]
    rw [List.getElem?_append_left (by simp [ptVals]; omega)]
    simp
  | x :: t, i + 1, r, e, h, hr => by
    simp only [ptCells]
    rw [List.getElem?_append_right (by simp [ptVals]; omega)]
    have := ptCells_at t i r e (by simpa using h) hr
    rw [← this]
    congr 1
    simp [ptVals]
    omega
theorem ptCells_one (l : List Pm) : ∀ u ∈ ptCells l, u.oneCell' = true := by
  induction l with
  | nil => intro u hu; simp [ptCells] at hu
  | cons e r ih =>
    intro u hu
    simp only [ptCells, List.mem_append] at hu
    rcases hu with hu | hu
    · simp [ptVals] at hu
      rcases hu with rfl | rfl | rfl | rfl | rfl | rfl | rfl | rfl <;> rfl
    · exact ih u hu
theorem infoPart : (Tryd.prog.info? 59).map (fun i => (i.zero, i.size, i.bytes)) = some (some (.agg #[.int .i64 0, .string ⟨#[]⟩, .string ⟨#[]⟩, .bool false, .int .i64 0, .int .u64 0, .int .u64 0, .slice none 0 0]), 8, 96) := by kernel_rfl
def pm0 : Pm := ⟨0, ⟨#[]⟩, ⟨#[]⟩, false, 0, 0, 0, none, 0, 0, fun _ => ⟨⟨#[]⟩, 0, 0, ⟨#[]⟩, false⟩⟩
def nthP (l : List Pm) (i : Nat) : Pm := l.getD i pm0
theorem nthP_get {l : List Pm} {i : Nat} (h : i < l.length) : l[i]? = some (nthP l i) := by
  unfold nthP; rw [List.getD, List.getElem?_eq_getElem h]; rfl
def firstP (P : Nat → Pm) (n : Nat) : List Pm := (List.range n).map P
theorem firstP_len (P : Nat → Pm) (n : Nat) : (firstP P n).length = n := by simp [firstP]
theorem firstP_nth (P : Nat → Pm) {n i : Nat} (h : i < n) : nthP (firstP P n) i = P i := by
  unfold nthP firstP
  rw [List.getD, List.getElem?_map, List.getElem?_range h]; rfl
/-- The cells of a part of an owned row. -/
theorem rowP_cells {w : World} {B g cap n : Nat} {l : List Pm} (h : w.ownsRow B 59 8 (.slice (some ⟨g, 0, none⟩) n cap) n (ptCells l)) {i : Nat} (hi : i < l.length) : w.cell? ⟨g, i * 8, none⟩ = some (.int .i64 (nthP l i).kind) ∧ w.cell? ⟨g, i * 8 + 1, none⟩ = some (.string (nthP l i).lo) ∧ w.cell? ⟨g, i * 8 + 2, none⟩ = some (.string (nthP l i).hi) ∧ w.cell? ⟨g, i * 8 + 3, none⟩ = some (.bool (nthP l i).op) ∧ w.cell? ⟨g, i * 8 + 4, none⟩ = some (.int .i64 (nthP l i).cnt) ∧ w.cell? ⟨g, i * 8 + 5, none⟩ = some (.int .u64 (nthP l i).s0) ∧ w.cell? ⟨g, i * 8 + 6, none⟩ = some (.int .u64 (nthP l i).s1) ∧ w.cell? ⟨g, i * 8 + 7, none⟩ = some (.slice (nthP l i).ea (nthP l i).el (nthP l i).ec) := by
  have hn : l.length = n := by have := h.1; rw [ptCells_length] at this; omega
  have e := nthP_get hi
  have c : ∀ r, r < 8 → w.cell? ⟨g, i * 8 + r, none⟩ = (ptVals (nthP l i))[r]? := fun r hr => by
    rw [h.cellAt (i * 8 + r) (by omega), ptCells_at l i r _ e hr]
  exact ⟨by simpa [ptVals] using c 0 (by omega), by simpa [ptVals] using c 1 (by omega), by simpa [ptVals] using c 2 (by omega), by simpa [ptVals] using c 3 (by omega), by simpa [ptVals] using c 4 (by omega), by simpa [ptVals] using c 5 (by omega), by simpa [ptVals] using c 6 (by omega), by simpa [ptVals] using c 7 (by omega)⟩
/-- An owned row as a list of parts in memory. -/
theorem parts_of_row {w : World} {B g cap n : Nat} {P : Nat → Pm} (h : w.ownsRow B 59 8 (.slice (some ⟨g, 0, none⟩) n cap) n (ptCells (firstP P n))) (hin : ∀ i, i < n → (P i).In w) : PartsIn w (some ⟨g, 0, none⟩) n cap P := by
  have hm := row_max h
  refine ⟨hm.1, hm.2, .inr ⟨g, 0, rfl, (h.lt g rfl).2, fun i hi => ⟨?_, hin i hi⟩⟩⟩
  have := rowP_cells h (i := i) (by rw [firstP_len]; exact hi)
  rw [firstP_nth P hi] at this
  simpa [PmAt] using this
/-- The cells of a list of parts that came in. -/
theorem parts_cells {w : World} {y : Addr} {len cap : Nat} {P : Nat → Pm} (h : PartsIn w (some y) len cap P) : ∀ j u, (ptCells (firstP P len))[j]? = some u → w.cell? (y.add j) = some u := by
  intro j u hj
  have hjl : j < len * 8 := by
    have := (List.getElem?_eq_some_iff.1 hj).1
    rw [ptCells_length, firstP_len] at this
    exact this
  rcases h.2.2 with h0 | ⟨b, off, hy, hb, hc⟩
  · omega
  · injection hy with hy
    subst hy
    obtain ⟨⟨c0, c1, c2, c3, c4, c5, c6, c7⟩, -⟩ := hc (j / 8) (by omega)
    have hat := ptCells_at (firstP P len) (j / 8) (j % 8) (P (j / 8)) (by unfold firstP; rw [List.getElem?_map, List.getElem?_range (by omega)]; rfl) (by omega)
    rw [show j / 8 * 8 + j % 8 = j from by omega] at hat
    rw [hat] at hj
    rw [Addr.add_lit, show off + j = off + j / 8 * 8 + j % 8 from by omega]
    have hr : j % 8 < 8 := by omega
    generalize j % 8 = r at *
    match r, hr with
    | 0, _ => simp [ptVals] at hj; subst hj; exact c0
    | 1, _ => simp [ptVals] at hj; subst hj; exact c1
    | 2, _ => simp [ptVals] at hj; subst hj; exact c2
    | 3, _ => simp [ptVals] at hj; subst hj; exact c3
    | 4, _ => simp [ptVals] at hj; subst hj; exact c4
    | 5, _ => simp [ptVals] at hj; subst hj; exact c5
    | 6, _ => simp [ptVals] at hj; subst hj; exact c6
    | 7, _ => simp [ptVals] at hj; subst hj; exact c7
/-- A list of parts appended to an owned row, as one operation. -/
theorem op_append_parts {V w : World} {o : Oper} {act : Act} {K : Act → World → Prop} {Q : Exit → Act → World → Prop} (s x : Operand)
    (ho : o.op = .call { callee := .builtin .append, args := #[s, x], argTypes := #[56, 56] })
    (n : Nat) (v : Value) (A : List Pm) (hs : act.eval s = v) (hA : w.ownsRow V.heap.size 59 8 v n (ptCells A)) (y : Addr) (len cap : Nat) (P : Nat → Pm) (hx : act.eval x = .slice (some y) len cap) (hL : PartsIn w (some y) len cap P)
    (hlen : (n + len) * 96 ≤ 140737488351232) (hB : Below V.heap.size V w)
    (h : ∀ v' w', w'.ownsRow V.heap.size 59 8 v' (n + len) (ptCells (A ++ firstP P len)) → Below V.heap.size V w' → w.grownBy w' v.ownBlock → K (act.put o.dst v') w') : o.wp Tryd.prog act w K Q := by
  obtain ⟨i0, hi, hz0, hz1, hz2⟩ := info_parts infoPart
  refine wp_append_own w s x _ ho V.heap.size 59 i0 _ 8 96 Tryd.underlying56 hi hz0 hz1 hz2 rfl (by decide) _ _ _ hs hA y len cap (ptCells (firstP P len)) hx (by rw [ptCells_length, firstP_len]) (parts_cells hL) (ptCells_one _) (by unfold maxLen; omega) (by omega) hB.size ?_
  intro v' w' ho' hg' _
  rw [← ptCells_append] at ho'
  exact h v' w' ho' (hB.grown hg' hB.size (fun k hk => (hA.lt k hk).1)) hg'
theorem ownP_empty (w : World) (B : Nat) (h : B ≤ w.heap.size) : (w.alloc (.cells #[] 59)).ownsRow B 59 8 (.slice (some ⟨w.heap.size, 0, none⟩) 0 0) 0 (ptCells []) := by
  refine ⟨rfl, .inr ⟨w.heap.size, 0, #[], rfl, h, heap_alloc_new w _, Nat.le_refl _, Nat.zero_le _, rfl, rfl⟩⟩
end Go.Proofs.YtoflalflacopdaaDoor
namespace Go.Proofs.YtoflalflacopdaaDoor
open Go.RowKit Go.Shelf
set_option linter.unusedVariables false
attribute [local go_sem] Oper.semAt_some
theorem own_set {w : World} {B : Nat} {e : TypeId} {size : Nat} {v : Value} {n : Nat} {xs : List Value} (h : w.ownsRow B e size v n xs) {b : Nat} (hb : b < B) (k : Nat) (u : Value) : (w.setCell ⟨b, k, none⟩ u).ownsRow B e size v n xs := by
  refine ⟨h.1, ?_⟩
  rcases h.2 with h0 | ⟨g, cap, cur, h1, h2, h3, h4⟩
  · exact .inl h0
  · exact .inr ⟨g, cap, cur, h1, h2, by rw [heap_setCell_other _ _ _ _ (by simp; omega)]; exact h3, h4⟩
theorem bthen' {a b c : World} (h : Below a.heap.size a b) (k : Below b.heap.size b c) : Below a.heap.size a c := bthen h k
set_option maxHeartbeats 8000000 in
set_option maxRecDepth 100000 in
theorem held13_any {w : World} {sb g tb : Nat} {nd ck : Int} {Ls : List En} (h : Sto w sb g tb nd ck Ls) (hl : Ls.length ≤ 256) :
    Calls Tryd.prog 23 #[.pointer (some ⟨sb, 0, none⟩)] w fun r w' => ∃ v, r = .returned v ∧ w'.ownsRow w.heap.size 33 5 v Ls.length (entCells Ls) ∧ Below w.heap.size w w' := by
  obtain ⟨w0, hw0⟩ : ∃ w0, w.alloc (.cells #[.slice none 0 0] 22) = w0 := ⟨_, rfl⟩
  have HW0 := aside hw0
  have N0 := aside (show Below w.heap.size w w0 from by rw [← hw0]; exact bnew w _)
  have RB := aside (show w0.heap[w.heap.size]? = some (.cells #[.slice none 0 0] 22 (0, 0)) from by rw [← hw0]; exact heap_alloc_new w _)
  have Z0 := aside (show w0.heap.size = w.heap.size + 1 from by rw [← hw0]; simp)
  have CA := aside (fun (W : World) (b : Below w.heap.size w W) => qall ⟨#[]⟩ ⟨#[]⟩ true (h.below b) (by omega))
  rw [chk_whole, thru_whole] at CA
  have hfn : ∀ (lb : Array Value), Hid (∀ w, (binOp .eql 44 (.func (.func 70) #[] lb) .nilFunc).run Tryd.prog w = .ok (.bool false) w) := fun lb w => rfl
  have HLL := aside hl
  clear h hl
  refine (callsIn_wide (n := 5)).1 ?_
  refine callsIn_of_wp_marks Tryd.func23 rfl trivial ?_ rfl
  simp only [Tryd.ntmps23, List.size_toArray, List.length_cons, List.length_nil, Nat.reduceAdd, Nat.reduceSub, Array.replicate_succ, Array.replicate_zero, List.push_toArray, List.append_toArray, List.nil_append, List.cons_append]
  gi_wp2_with fail
  refine ⟨trivial, ?_⟩
  have nb := bthen (bnew w0 (.cells #[] 33)) (bnew _ (.cells #[.slice (some ⟨w0.heap.size, 0, none⟩) 0 0] 22))
  have OE := aside (own_on (own_emptyE w0 w0.heap.size (Nat.le_refl _)) (bnew _ (.cells #[.slice (some ⟨w0.heap.size, 0, none⟩) 0 0] 22)))
  have VB := aside (heap_alloc_new (w0.alloc (.cells #[] 33)) (.cells #[.slice (some ⟨w0.heap.size, 0, none⟩) 0 0] 22))
  have VS := aside (World.size_alloc w0 (.cells #[] 33))
  refine (callsIn_wide.2 (CA.out _ (bthen N0.out nb))).mono ?_
  rintro e w2 ⟨b2, ⟨h0, -⟩ | ⟨-, lb, rfl, hs⟩⟩
  · exact absurd rfl h0
  have HS := aside hs
  have B2 := aside (bthen nb b2)
  have hff := (hfn lb).out
  have I0 := aside (show LstE w0.heap.size (w0.heap.size + 1) [] w2 from ⟨.slice (some ⟨w0.heap.size, 0, none⟩) 0 0, by rw [← VS.out]; exact blk_on VB.out b2, own_on OE.out b2⟩)
  clear hs b2 CA hfn nb OE VB VS
  obtain ⟨rb, hrb⟩ : ∃ rb, w.heap.size = rb := ⟨_, rfl⟩
  obtain ⟨vb, hvb⟩ : ∃ vb, w0.heap.size + 1 = vb := ⟨_, rfl⟩
  rw [hrb, hvb]
  rw [hvb] at I0
  gi_wp2_with fail
  clear hff
  obtain ⟨N, hN, hNl, hSq⟩ := HS.out
  have SQ := aside hSq
  have HNN := aside hN
  have HVB := aside (show w0.heap.size ≤ vb from by omega)
  clear hN hNl hSq HS
  have HVV := aside (show w0.heap.size ≤ w2.heap.size from B2.out.size)
  have ownI : OwnFrom w2.heap.size (fun (pre : List En) X => LstE w0.heap.size vb pre X ∧ Below w0.heap.size w0 X) := fun s A Y row hs hg hr =>
    ⟨hs.1.own hg (fun r e => (hr r e).2), ownFrom_below (β := Unit) (Nat.le_refl w0.heap.size) HVV.out () A Y row hs.2 hg hr⟩
  refine rangeO rfl (enters_of Tryd.func70 (by kernel_rfl) rfl) SQ.out KpT.t (fun W l o o' _ h ho => KpT.b W l o o' h ho) (Below.refl _ _) (fun _ => rfl)
    (fun (pre : List En) X => LstE w0.heap.size vb pre X ∧ Below w0.heap.size w0 X) (fun _ pre _ => 256 < pre.length) ownI (fun _ _ _ _ _ h _ _ => h) ⟨I0.out, B2.out⟩
    (fun x a' X => ∃ eb : Nat, a' = ⟨#[.pointer (some ⟨sb, 0, none⟩), undef, .pointer (some ⟨rb, 0, none⟩), .pointer (some ⟨vb, 0, none⟩), .func (.func 70) #[] lb, .int .i64 0, .pointer (some ⟨eb, 0, none⟩), .slice (some ⟨w0.heap.size, 0, none⟩) 0 0, .tuple #[.func (.func 70) #[] lb, .int .i64 0], .pointer (some ⟨sb, 0, none⟩), .agg #[.string ⟨#[]⟩, .string ⟨#[]⟩, .bool true], .tuple #[.func (.func 70) #[] lb, .int .i64 0], .func (.func 70) #[] lb, .int .i64 0, .int .i64 0, .bool false, .bool false, .func (.func 70) #[] lb, .bool false, .bool false, undef, .func (.func 70) #[] lb, .agg #[.string x.k, .int .i64 x.c, .int .i64 x.n, .string x.v, .bool x.d], undef, undef, undef, undef, undef, undef, undef, undef, undef], []⟩ ∧ X.heap[eb]? = some (.cells #[.string x.k, .int .i64 x.c, .int .i64 x.n, .string x.v, .bool x.d] 33 (0, 0)))
    (fun x a' _ A Y row hs hg hr => by
      obtain ⟨eb, h1, h2⟩ := hs
      exact ⟨eb, h1, cells_own h2 hg (fun r e => (hr r e).2)⟩) ?assign ?body ?done ?stop
  case assign =>
    intro l' pre x X K hi hK
    dsimp only [encE]
    gi_wp2
    refine hK _ _ ?_ ?_ ?_ ⟨_, rfl, heap_alloc_new X _⟩
    · exact KeepsFrom.of_grownBy (World.grownBy_alloc X _ none) (fun j e => by cases e)
    · exact (KpT.refl X).alloc _
    · exact ownI.alloc _ hi
  case body =>
    rintro l' pre x a' X ⟨hls, hbx⟩ ⟨eb, rfl, he⟩ hlen
    obtain ⟨v, hv, ho⟩ := hls.ex
    obtain ⟨i0, hi0, hz0, hz1, hz2⟩ := info_parts infoEnt
    obtain ⟨e0, e1, e2, e3, e4, -⟩ := penta he
    have v0 := cell_one hv
    have HV := aside hv
    have HO := aside ho
    have HB := aside hbx
    have HLN := aside (show pre.length ≤ 1000000 from by have := HNN.out; omega)
    have HI := aside hi0
    have RX := aside (blk_on RB.out HB.out)
    clear hls hv ho hbx he hlen hi0
    gi_wp2_with (gi_at_builtin; go_loud (refine wpListIn_append_own _ rfl _ _ _ rfl w0.heap.size 33 i0 (.agg #[.string ⟨#[]⟩, .int .i64 0, .int .i64 0, .string ⟨#[]⟩, .bool false]) 5 56 Tryd.underlying22 HI.out hz0 hz1 hz2 rfl (by decide) v pre.length (entCells pre) (by rfl) (HO.out.alloc _) ⟨X.heap.size, 0, none⟩ 1 1 (entVals x) (by rfl) (by rfl) (World.news_of_block (cs := #[.string x.k, .int .i64 x.c, .int .i64 x.n, .string x.v, .bool x.d]) (t := 33) (fr := (0, 0)) (heap_alloc_new X _)) (by intro u hu; exact entCells_one [x] u (by simpa [entCells] using hu)) (by have := HLN.out; unfold maxLen; omega) (by have := HLN.out; omega) (by have := HB.out.size; simp; omega) ?_); intro v' X1 hown1 hgrow hiff; refine Hid.out ?_)
    refine aside ?_
    obtain ⟨g', cap', rfl⟩ : ∃ g' cap', v' = .slice (some ⟨g', 0, none⟩) (pre.length + 1) cap' := by
      rcases hown1.2 with ⟨_, h⟩ | ⟨g', cap', cur, e, _⟩
      · omega
      · exact ⟨g', cap', e⟩
    have ST := aside (lst_step (x := x) (C := w2.heap.size) HB.out HVB.out HV.out HO.out hown1 hgrow)
    have v1 := cell_one ST.out.1
    have z1 := frozen_one ST.out.1
    clear hown1 hgrow hiff v0 e0 e1 e2 e3 e4
    have RV := aside (show X1.heap[rb]? = some (.cells #[.slice none 0 0] 22 (0, 0)) from by
      have h9 := blk_on RB.out ST.out.2.2.1
      rw [hrb] at h9
      rw [heap_setCell_other _ _ _ _ (by have := Z0.out; simp; omega)] at h9
      exact h9)
    obtain ⟨m, HM⟩ : ∃ m, Hid (pre.length + 1 = m) := ⟨_, rfl⟩
    rw [HM.out] at ST ⊢
    by_cases hbig : (256 : Int) < (m : Int)
    · have rc := cell_one RV.out
      have rf := frozen_one RV.out
      have hne : ¬ rb = vb := by have := Z0.out; omega
      have hne' : ¬ vb = rb := fun e => hne e.symm
      gi_wp2
      exact ⟨ST.out.2.2.2.1.trans ((KeepsOthers.setCell _ _ _).from _), by show 256 < (pre ++ [x]).length; rw [List.length_append, List.length_singleton]; have := HM.out; omega⟩
    · gi_wp2
      exact ⟨ST.out.2.2.2.1, ST.out.2.2.2.2, ST.out.2.1, ST.out.2.2.1⟩
  case done =>
    rintro D xs X hD rfl ⟨hls, hbx⟩ hK
    obtain ⟨v, hv, ho⟩ := hls.ex
    obtain ⟨a9, c9, rfl, -, -, -⟩ := own_slice ho
    have v0 := cell_one hv
    have RX := aside (blk_on RB.out hbx)
    rw [hrb] at RX
    have rc := cell_one RX.out
    have rf := frozen_one RX.out
    have FO := aside ho
    have FB := aside hbx
    have HK := aside hK
    clear hls hbx hv ho hK
    gi_wp2
    have hDr : rb < D := by have h1 := HVV.out; have h2 := Z0.out; omega
    have hK2 : (X.setCell ⟨rb, 0, none⟩ (.slice a9 xs.length c9)).heap[D]? = some (.deferred (some [])) := by
      rw [heap_setCell_other _ _ _ _ (by simp; omega)]; exact HK.out
    have GP := grownBy_putObj' (X.setCell ⟨rb, 0, none⟩ (.slice a9 xs.length c9)) D (.deferred none)
    have F2 := ownsRow_own (own_set FO.out (show rb < w0.heap.size by have := Z0.out; omega) 0 (.slice a9 xs.length c9)) GP (fun r e => by cases e; exact ⟨_, hK2, rfl⟩)
    have B4 := ownFrom_below (β := Unit) (Nat.le_refl w.heap.size) (show w.heap.size ≤ w2.heap.size from by have h1 := HVV.out; have h2 := Z0.out; omega) () _ _ (some D) ((bthen' N0.out FB.out).setCell (p := ⟨rb, 0, none⟩) (by simp; omega) (.slice a9 xs.length c9)) GP (fun r e => by cases e; exact ⟨hD, _, hK2, rfl⟩)
    have RR := cell_one (show ((X.setCell ⟨rb, 0, none⟩ (.slice a9 xs.length c9)).putObj D (.deferred none)).heap[rb]? = some (.cells #[.slice a9 xs.length c9] 22 (0, 0)) from by
      rw [World.putObj_heap_other (by omega)]
      have := set_in 0 (.slice a9 xs.length c9) RX.out
      simpa using this)
    refine ⟨by simp, .inl ⟨_, _, rfl, run_takeDeferred hK2, ?_⟩⟩
    exact ⟨.slice a9 xs.length c9, by simp [results, Tryd.f23, go_sem, RR], ⟨_, rfl, own_low F2 (by have := Z0.out; omega), B4⟩⟩
  case stop =>
    rintro D c pre X hD hq h
    exact absurd hq.length_le (by have := HLL.out; omega)
end Go.Proofs.YtoflalflacopdaaDoor
namespace Go.Proofs.YtoflalflacopdaaDoor
open Go.RowKit
set_option linter.unusedVariables false
/-- What a part of entries is answered with. -/
def rpL (p : Pm) (Ls : List En) : List En := if p.kind = 2 then lkL (thruL p.lo p.hi p.op true Ls) (firstE p.T p.el) else []
/-- The answer in memory: none, or one Reply. -/
def RpAt (B : Nat) (p : Pm) (m : List En) (v : Value) (w : World) : Prop := (m = [] ∧ v = .slice none 0 0) ∨ (m ≠ [] ∧ ∃ g a c, v = .slice (some ⟨g, 0, none⟩) 1 1 ∧ B ≤ g ∧ w.heap[g]? = some (.cells #[.int .i64 3, .string p.lo, .string p.hi, .bool p.op, .int .i64 0, .int .u64 0, .int .u64 0, .slice a m.length c] 59 (0, 0)) ∧ w.ownsRow B 33 5 (.slice a m.length c) m.length (entCells m))
theorem RpAt.below {B : Nat} {p : Pm} {m : List En} {v : Value} {w w' : World} (h : RpAt B p m v w) (b : Below w.heap.size w w') : RpAt B p m v w' := by
  rcases h with h | ⟨h0, g, a, c, h1, h2, h3, h4⟩
  · exact .inl h
  · exact .inr ⟨h0, g, a, c, h1, h2, blk_on h3 b, own_on h4 b⟩
theorem RpAt.low {B B' : Nat} {p : Pm} {m : List En} {v : Value} {w : World} (h : RpAt B p m v w) (b : B' ≤ B) : RpAt B' p m v w := by
  rcases h with h | ⟨h0, g, a, c, h1, h2, h3, h4⟩
  · exact .inl h
  · exact .inr ⟨h0, g, a, c, h1, by omega, h3, own_low h4 b⟩
theorem RpAt.keepS {B : Nat} {p : Pm} {m : List En} {v : Value} {w w' : World} {sb g tb : Nat} {nd ck : Int} {Ls : List En} (h : RpAt B p m v w) (hs : Sto w sb g tb nd ck Ls) (k : Keeps (Of sb g tb) w w') : RpAt B p m v w' := by
  rcases h with h | ⟨h0, g, a, c, h1, h2, h3, h4⟩
  · exact .inl h
  · refine .inr ⟨h0, g, a, c, h1, h2, blk_keep h3 k (hs.not h3 (by decide) (by decide) (by decide)), h4.1, ?_⟩
    rcases h4.2 with h5 | ⟨g2, cap, cur, e1, e2, e3, e4⟩
    · exact .inl h5
    · exact .inr ⟨g2, cap, cur, e1, e2, blk_keep e3 k (hs.not e3 (by decide) (by decide) (by decide)), e4⟩
theorem RpAt.set {B : Nat} {p : Pm} {m : List En} {v : Value} {w : World} (h : RpAt B p m v w) {b : Nat} (hb : b < B) (k : Nat) (u : Value) : RpAt B p m v (w.setCell ⟨b, k, none⟩ u) := by
  rcases h with h | ⟨h0, g, a, c, h1, h2, h3, h4⟩
  · exact .inl h
  · exact .inr ⟨h0, g, a, c, h1, h2, by rw [heap_setCell_other _ _ _ _ (by simp; omega)]; exact h3, own_set h4 hb k u⟩
theorem thru_map {lo hi : ByteArray} {op : Bool} {l : List En} (h : MapL l) : MapL (thruL lo hi op true l) := by
  unfold thruL
  exact mapL_sub h ((List.filter_sublist).trans (List.filter_sublist))
theorem thru_len (lo hi : ByteArray) (op : Bool) (l : List En) : (thruL lo hi op true l).length ≤ l.length := by
  unfold thruL
  exact Nat.le_trans (List.length_filter_le _ _) (List.length_filter_le _ _)
theorem lk_len {a b : List En} (ha : MapL a) (hb : MapL b) : (lkL a b).length ≤ a.length := (lk_sub a b ha hb).length_le
set_option maxHeartbeats 6400000 in
set_option maxRecDepth 100000 in
theorem replyTo_any (p : Pm) {w : World} {sb g tb : Nat} {nd ck : Int} {Ls : List En} (h : Sto w sb g tb nd ck Ls) (hm : MapL Ls) (hl : Ls.length ≤ 256) (hP : p.In w) (hpm : MapL (firstE p.T p.el)) (hpl : p.el ≤ 256) (hc : p.rg.chk = 0) :
    Calls Tryd.prog 85 #[.pointer (some ⟨sb, 0, none⟩), .agg #[.int .i64 p.kind, .string p.lo, .string p.hi, .bool p.op, .int .i64 p.cnt, .int .u64 p.s0, .int .u64 p.s1, .slice p.ea p.el p.ec]] w fun r w' => ∃ v, r = .returned v ∧ RpAt w.heap.size p (rpL p Ls) v w' ∧ Below w.heap.size w w' := by
  have BX := aside (bnew w (.cells #[.int .i64 p.kind, .string p.lo, .string p.hi, .bool p.op, .int .i64 p.cnt, .int .u64 p.s0, .int .u64 p.s1, .slice p.ea p.el p.ec] 59))
  have KX := aside (heap_alloc_new w (.cells #[.int .i64 p.kind, .string p.lo, .string p.hi, .bool p.op, .int .i64 p.cnt, .int .u64 p.s0, .int .u64 p.s1, .slice p.ea p.el p.ec] 59))
  obtain ⟨pb, hpb⟩ : ∃ pb, w.heap.size = pb := ⟨_, rfl⟩
  rw [hpb] at KX
  obtain ⟨X, hX⟩ : ∃ X, w.alloc (.cells #[.int .i64 p.kind, .string p.lo, .string p.hi, .bool p.op, .int .i64 p.cnt, .int .u64 p.s0, .int .u64 p.s1, .slice p.ea p.el p.ec] 59) = X := ⟨_, rfl⟩
  rw [hX] at BX KX
  have CH := aside (fun W (b : Below X.heap.size X W) => heldIn_any p.lo p.hi p.op ((h.below BX.out).below b) (by omega) hc)
  have HMT := aside (thru_map (lo := p.lo) (hi := p.hi) (op := p.op) hm)
  have HLT := aside (show (thruL p.lo p.hi p.op true Ls).length ≤ 256 from Nat.le_trans (thru_len _ _ _ _) hl)
  have HPI := aside (hP.keep BX.out)
  have HPM := aside hpm
  have HPL := aside hpl
  have HRP := aside (show rpL p Ls = if p.kind = 2 then lkL (thruL p.lo p.hi p.op true Ls) (firstE p.T p.el) else [] from rfl)
  clear h hm hl hP hpm hpl hc
  obtain ⟨p0, p1, p2, p3, -, -, -, p7⟩ := oct KX.out
  by_cases hk : p.kind = 2
  rotate_left
  · have hkb : (p.kind == 2) = false := by simpa using hk
    rw [show rpL p Ls = [] from by rw [HRP.out, if_neg hk]]
    clear hk
    go_enter Tryd.func85, Tryd.ntmps85
    go_wp2
    go_ret
    exact ⟨_, rfl, .inl ⟨rfl, rfl⟩, BX.out⟩
  · have hkb : (p.kind == 2) = true := by simpa using hk
    rw [show rpL p Ls = lkL (thruL p.lo p.hi p.op true Ls) (firstE p.T p.el) from by rw [HRP.out, if_pos hk]]
    clear hk
    generalize thruL p.lo p.hi p.op true Ls = hl at *
    obtain ⟨m, hmm⟩ : ∃ m, lkL hl (firstE p.T p.el) = m := ⟨_, rfl⟩
    have HM := aside hmm
    have HML := aside (show m.length ≤ 256 from by rw [← hmm]; exact Nat.le_trans (lk_len HMT.out HPM.out) HLT.out)
    rw [hmm]
    clear hmm HRP
    go_enter Tryd.func85, Tryd.ntmps85
    go_wp2_with fail
    clear hkb p0
    refine wp_region_held_drew (S := fun W => Below X.heap.size X W ∧ W.cell? ⟨pb, 1, none⟩ = some (.string p.lo) ∧ W.cell? ⟨pb, 2, none⟩ = some (.string p.hi) ∧ W.cell? ⟨pb, 3, none⟩ = some (.bool p.op) ∧ W.cell? ⟨pb, 7, none⟩ = some (.slice p.ea p.el p.ec)) (by kernel_rfl) ⟨(Below.refl _ X).drew, p1, p2, p3, p7⟩ (fun hHeld => ?_)
    refine wpAnyH_take (i := 0) (v := ?_) rfl (by kernel_rfl) (by kernel_rfl) (by kernel_rfl) (fun _ _ _ h => h) (Or.inl ⟨by rfl, ?_⟩) (by assumption) ?_
    rotate_left
    · intro w hSw
      go_simp
      try with_reducible rfl
    simp only [Act.put, List.getElem_toArray, List.getElem_cons_zero, List.setIfInBounds_toArray, List.set_cons_zero, List.set_cons_succ]
    refine wpAnyH_take (i := 1) (v := ?_) rfl (by kernel_rfl) (by kernel_rfl) (by kernel_rfl) (fun _ _ _ h => h) (Or.inl ⟨by rfl, ?_⟩) (by assumption) ?_
    rotate_left
    · intro w hSw
      go_simp
      try with_reducible rfl
    simp only [Act.put, List.getElem_toArray, List.getElem_cons_zero, List.getElem_cons_succ, List.setIfInBounds_toArray, List.set_cons_zero, List.set_cons_succ]
    refine wpAnyH_take (i := 2) (v := ?_) rfl (by kernel_rfl) (by kernel_rfl) (by kernel_rfl) (fun _ _ _ h => h) (Or.inl ⟨by rfl, ?_⟩) (by assumption) ?_
    rotate_left
    · intro w hSw
      go_simp
      try with_reducible rfl
    simp only [Act.put, List.getElem_toArray, List.getElem_cons_zero, List.getElem_cons_succ, List.setIfInBounds_toArray, List.set_cons_zero, List.set_cons_succ]
    refine wpAnyH_take (i := 4) (v := ?_) rfl (by kernel_rfl) (by kernel_rfl) (by kernel_rfl) (fun _ _ _ h => h) (Or.inl ⟨by rfl, ?_⟩) (by assumption) ?_
    rotate_left
    · intro w hSw
      go_simp
      try with_reducible rfl
    simp only [Act.put, List.getElem_toArray, List.getElem_cons_zero, List.getElem_cons_succ, List.setIfInBounds_toArray, List.set_cons_zero, List.set_cons_succ]
    refine wpAnyH_take (i := 5) (v := ?_) rfl (by kernel_rfl) (by kernel_rfl) (by kernel_rfl) (fun _ _ _ h => h) (Or.inl ⟨by rfl, ?_⟩) (by assumption) ?_
    rotate_left
    · intro w hSw
      go_simp
      try with_reducible rfl
    simp only [Act.put, List.getElem_toArray, List.getElem_cons_zero, List.getElem_cons_succ, List.setIfInBounds_toArray, List.set_cons_zero, List.set_cons_succ]
    refine wpAnyH_ready (rs := [3]) (by kernel_rfl) (by simp) ?_
    refine AllReadyH.cons rfl (fun K hK => ?_) AllReadyH.nil
    go_simp
    refine (CH.out _ hHeld.1).mono ?_
    rintro e w9 ⟨v1, rfl, o1, b9⟩
    refine hK.out _ _ (⟨hHeld.1.trans (b9.mono hHeld.1.size), cell_in hHeld.2.1 b9, cell_in hHeld.2.2.1 b9, cell_in hHeld.2.2.2.1 b9, cell_in hHeld.2.2.2.2 b9⟩) (fun hHeld => ?_)
    clear hK K 
    obtain ⟨a1, c1, rfl, hE1⟩ := own_ents o1 (fun e he => key_small (HMT.out.chk e he))
    have hck : ck2 (nthE hl) hl.length p.T p.el = 0 := ck2_ok.2 ⟨by rw [firstE_nth]; exact HMT.out, HPM.out⟩
    have CL := mlack_any a1 hl.length c1 (nthE hl) p.ea p.el p.ec p.T w9 hE1 (HPI.out.keep hHeld.1) (by have h1 := HLT.out; have h2 := HPL.out; omega)
    rw [hck, outL_ok _ rfl, firstE_nth, lkP_prs, HM.out] at CL
    have CLH := aside CL
    have HS9 := aside (Nat.le_trans BX.out.size hHeld.1.size)
    clear o1 hE1 CL CH hck b9
    refine wpAnyH_ready (rs := [6]) (by kernel_rfl) (by simp) ?_
    refine AllReadyH.cons rfl (fun K hK => ?_) AllReadyH.nil
    go_simp
    refine (CLH.out).mono ?_
    rintro e w10 ⟨v2, rfl, o2, b10⟩
    refine hK.out _ _ (⟨hHeld.1.trans (b10.mono hHeld.1.size), cell_in hHeld.2.1 b10, cell_in hHeld.2.2.1 b10, cell_in hHeld.2.2.2.1 b10, cell_in hHeld.2.2.2.2 b10⟩) (fun hHeld => ?_)
    clear hK K 
    obtain ⟨a2, c2, rfl, -, -, -⟩ := own_slice o2
    have O2 := aside (own_low o2 HS9.out)
    clear o2 b10 CLH
    refine wpAnyH_take (i := 7) (v := ?_) rfl (by kernel_rfl) (by kernel_rfl) (by kernel_rfl) (fun _ _ _ h => h) (Or.inl ⟨by rfl, ?_⟩) (by assumption) ?_
    rotate_left
    · intro w hSw
      go_simp
      try with_reducible rfl
    simp only [Act.put, List.getElem_toArray, List.getElem_cons_zero, List.getElem_cons_succ, List.setIfInBounds_toArray, List.set_cons_zero, List.set_cons_succ]
    refine wpAnyH_take (i := 8) (v := ?_) rfl (by kernel_rfl) (by kernel_rfl) (by kernel_rfl) (fun _ _ _ h => h) (Or.inl ⟨by rfl, ?_⟩) (by assumption) ?_
    rotate_left
    · intro w hSw
      go_simp
      try with_reducible rfl
    simp only [Act.put, List.getElem_toArray, List.getElem_cons_zero, List.getElem_cons_succ, List.setIfInBounds_toArray, List.set_cons_zero, List.set_cons_succ]
    refine wpAnyH_take (i := 9) (v := ?_) rfl (by kernel_rfl) (by kernel_rfl) (by kernel_rfl) (fun _ _ _ h => h) (Or.inl ⟨by rfl, ?_⟩) (by assumption) ?_
    rotate_left
    · intro w hSw
      go_simp
      try with_reducible rfl
    simp only [Act.put, List.getElem_toArray, List.getElem_cons_zero, List.getElem_cons_succ, List.setIfInBounds_toArray, List.set_cons_zero, List.set_cons_succ]
    refine wpAnyH_take (i := 10) (v := ?_) rfl (by kernel_rfl) (by kernel_rfl) (by kernel_rfl) (fun _ _ _ h => h) (Or.inl ⟨by rfl, ?_⟩) (by assumption) ?_
    rotate_left
    · intro w hSw
      go_simp
      try with_reducible rfl
    simp only [Act.put, List.getElem_toArray, List.getElem_cons_zero, List.getElem_cons_succ, List.setIfInBounds_toArray, List.set_cons_zero, List.set_cons_succ]
    refine wpAnyH_take (i := 11) (v := ?_) rfl (by kernel_rfl) (by kernel_rfl) (by kernel_rfl) (fun _ _ _ h => h) (Or.inl ⟨by rfl, ?_⟩) (by assumption) ?_
    rotate_left
    · intro w hSw
      go_simp
      try with_reducible rfl
    simp only [Act.put, List.getElem_toArray, List.getElem_cons_zero, List.getElem_cons_succ, List.setIfInBounds_toArray, List.set_cons_zero, List.set_cons_succ]
    refine wpAnyH_done (by kernel_rfl) ?_ _
    have B10 := aside (BX.out.trans (hHeld.1.mono BX.out.size))
    have K10 := aside (blk_on KX.out hHeld.1)
    clear hHeld p1 p2 p3 p7
    cases hml : m with
    | nil =>
      subst hml
      go_wp2
      go_ret
      exact ⟨_, rfl, .inl ⟨rfl, rfl⟩, B10.out⟩
    | cons x r =>
      have hne : ((m.length : Int) == 0) = false := by rw [hml]; simp; omega
      rw [← hml]
      have HNE := aside (show m ≠ [] from by rw [hml]; simp)
      clear hml
      obtain ⟨p0, p1, p2, p3, -, -, -, -⟩ := oct K10.out
      go_wp2
      go_ret
      exact ⟨_, rfl, .inr ⟨HNE.out, w10.heap.size, a2, c2, rfl, B10.out.size, heap_alloc_new w10 _, own_on O2.out (bnew w10 _)⟩, B10.out.alloc B10.out.size _⟩
end Go.Proofs.YtoflalflacopdaaDoor
namespace Go.Proofs.YtoflalflacopdaaDoor
open Go.RowKit
set_option linter.unusedVariables false
set_option maxHeartbeats 6400000 in
set_option maxRecDepth 100000 in
theorem exch_any (p : Pm) {w : World} {sb g tb : Nat} {nd ck : Int} {Ls : List En} (h : Sto w sb g tb nd ck Ls) (hm : MapL Ls) (hl : Ls.length ≤ 256) (hP : p.In w) (hpm : MapL (firstE p.T p.el)) (hpl : p.el ≤ 256) (hc : p.rg.chk = 0) (L : Lanes w) :
    Calls Tryd.prog 53 #[.pointer (some ⟨sb, 0, none⟩), .agg #[.int .i64 p.kind, .string p.lo, .string p.hi, .bool p.op, .int .i64 p.cnt, .int .u64 p.s0, .int .u64 p.s1, .slice p.ea p.el p.ec]] w fun r w' => ∃ v, r = .returned (.tuple #[v, .agg #[.int .i64 ((tkAll ⟨Ls, ck, 0, 0⟩ (firstE p.T p.el)).n : Int), .int .i64 ((tkAll ⟨Ls, ck, 0, 0⟩ (firstE p.T p.el)).f : Int)]]) ∧ RpAt (w.heap.size + 2) p (rpL p Ls) v w' ∧ Sto w' sb g tb nd (tkAll ⟨Ls, ck, 0, 0⟩ (firstE p.T p.el)).c (tkAll ⟨Ls, ck, 0, 0⟩ (firstE p.T p.el)).l ∧ Keeps (Of sb g tb) w w' ∧ Lanes w' := by
  have BX := aside (bthen (bnew w (.cells #[.int .i64 p.kind, .string p.lo, .string p.hi, .bool p.op, .int .i64 p.cnt, .int .u64 p.s0, .int .u64 p.s1, .slice p.ea p.el p.ec] 59)) (bnew _ (.cells #[.int .i64 0, .int .i64 0] 69)))
  have KX := aside (blk_on (heap_alloc_new w (.cells #[.int .i64 p.kind, .string p.lo, .string p.hi, .bool p.op, .int .i64 p.cnt, .int .u64 p.s0, .int .u64 p.s1, .slice p.ea p.el p.ec] 59)) (bnew _ (.cells #[.int .i64 0, .int .i64 0] 69)))
  have KZ := aside (heap_alloc_new (w.alloc (.cells #[.int .i64 p.kind, .string p.lo, .string p.hi, .bool p.op, .int .i64 p.cnt, .int .u64 p.s0, .int .u64 p.s1, .slice p.ea p.el p.ec] 59)) (.cells #[.int .i64 0, .int .i64 0] 69))
  rw [World.size_alloc] at KZ
  obtain ⟨pb, hpb⟩ : ∃ pb, w.heap.size = pb := ⟨_, rfl⟩
  rw [hpb] at KX KZ ⊢
  have ZX := aside (show ((w.alloc (.cells #[.int .i64 p.kind, .string p.lo, .string p.hi, .bool p.op, .int .i64 p.cnt, .int .u64 p.s0, .int .u64 p.s1, .slice p.ea p.el p.ec] 59)).alloc (.cells #[.int .i64 0, .int .i64 0] 69)).heap.size = pb + 2 from by rw [World.size_alloc, World.size_alloc, hpb])
  have HNL := aside (show w.heap.size ≤ pb ∧ pb + 1 < pb + 2 from by omega)
  obtain ⟨X, hX⟩ : ∃ X, (w.alloc (.cells #[.int .i64 p.kind, .string p.lo, .string p.hi, .bool p.op, .int .i64 p.cnt, .int .u64 p.s0, .int .u64 p.s1, .slice p.ea p.el p.ec] 59)).alloc (.cells #[.int .i64 0, .int .i64 0] 69) = X := ⟨_, rfl⟩
  rw [hX] at BX KX KZ ZX
  have HX := aside (h.below BX.out)
  have CR := aside (replyTo_any p HX.out hm hl (hP.keep BX.out) hpm hpl hc)
  have HPI := aside (hP.keep BX.out)
  have CT := aside (fun W (hs : Sto W sb g tb nd ck Ls) (hL : Lanes W) (hE : p.In W) => takeAll_any p.ea p.el p.ec p.T hs hL hl hE (by omega))
  have LX := aside (L.keep BX.out)
  obtain ⟨s, hs⟩ : ∃ s, (tkAll ⟨Ls, ck, 0, 0⟩ (firstE p.T p.el)) = s := ⟨_, rfl⟩
  rw [hs] at CT ⊢
  obtain ⟨Lj, cj, n, f⟩ := s
  dsimp only at CT ⊢
  clear h hm hl hP hpm hpl hc L hs
  obtain ⟨p0, p1, p2, p3, p4, p5, p6, p7⟩ := oct KX.out
  go_enter Tryd.func53, Tryd.ntmps53
  go_wp2_with fail
  refine CR.out.mono ?_
  rintro e w1 ⟨v, rfl, rp, b1⟩
  rw [ZX.out] at rp
  have RP := aside rp
  have K1 := aside (blk_on KX.out b1)
  have KZ1 := aside (blk_on KZ.out b1)
  have S1 := aside (HX.out.below b1)
  have L1 := aside (LX.out.keep b1)
  have B1 := aside (bthen BX.out b1)
  have P1 := aside (HPI.out.keep b1)
  clear rp b1 CR HX LX BX HPI KX KZ p0 p1 p2 p3 p4 p5 p6 p7 hX ZX
  obtain ⟨-, -, -, -, -, -, -, p7⟩ := oct K1.out
  go_wp2_with fail
  refine (CT.out _ S1.out L1.out P1.out).mono ?_
  rintro e w2 ⟨rfl, s2, k2, l2⟩
  have SA := aside s2
  have LA := aside l2
  have KA := aside ((Keeps.of_below B1.out _).trans k2)
  have KZ2 := aside (blk_keep KZ1.out k2 (S1.out.not KZ1.out (by decide) (by decide) (by decide)))
  have RP2 := aside (RP.out.keepS S1.out k2)
  clear s2 l2 k2 S1 L1 P1 K1 KZ1 CT RP B1 p7
  obtain ⟨z0, z1⟩ := two_h KZ2.out
  have y0 := frozen_of_row _ _ 0 _ _ KZ2.out
  have y1 := frozen_of_row _ _ 1 _ _ KZ2.out
  have KF := aside (((Keeps.refl (fun x => x = pb + 1) w2).setCell (p := ⟨pb + 1, 0, none⟩) (fun _ => rfl) (.int .i64 (n : Int))).setCell (p := ⟨pb + 1, 1, none⟩) (fun _ => rfl) (.int .i64 (f : Int)))
  have SF := aside (SA.out.set KZ2.out (by decide) (by decide) (by decide) (by decide) KF.out)
  have LF := aside (LA.out.keeps KF.out (fun (e : 0 = pb + 1) => by omega))
  have KW := aside ((KA.out.setCell (p := ⟨pb + 1, 0, none⟩) (fun hh => absurd hh (by have h9 := HNL.out; simp; omega)) (.int .i64 (n : Int))).setCell (p := ⟨pb + 1, 1, none⟩) (fun hh => absurd hh (by have h9 := HNL.out; simp; omega)) (.int .i64 (f : Int)))
  have KR := set_in 1 (.int .i64 (f : Int)) (set_in 0 (.int .i64 (n : Int)) KZ2.out)
  simp only [List.setIfInBounds_toArray, List.set_cons_zero, List.set_cons_succ] at KR
  have HKR := aside KR
  clear KR KF
  have RF := aside ((RP2.out.set (b := pb + 1) (by have h9 := HNL.out; omega) 0 (.int .i64 (n : Int))).set (b := pb + 1) (by have h9 := HNL.out; omega) 1 (.int .i64 (f : Int)))
  go_wp2
  obtain ⟨r0, r1⟩ := two_h HKR.out
  exact bodyPost_ret (v := .tuple #[v, .agg #[.int .i64 (n : Int), .int .i64 (f : Int)]]) (by simp [results, Tryd.results53, go_sem, r0, r1]) rfl ⟨v, rfl, RF.out, SF.out, KW.out, LF.out⟩
end Go.Proofs.YtoflalflacopdaaDoor
