/-
  Put (Q): what it lays.
  Put (Q).
  Put (Q).
  Put (Q), whole.
  A tree in memory, as a law meets it (Q).
-/
import Derived.Test.YtnlmlhoddchgbaaTgVQ
import Derived.Test.YtnlmlhoddchgbaaTgBQ
import Derived.Test.YtnlmlhoddchgbaaTrIn
import Derived.Test.YtnlmlhoddchgbaaTgDM
import Derived.Test.YtnlmlhoddchgbaaTrNth
import Derived.Test.YtnlmlhoddchgbaaTgCQ
import Derived.Test.YtnlmlhoddchgbaaTrGood
namespace Go.Proofs.Ytnlmlhoddchgbaa
open Go.RowKit Go.Shelf
set_option linter.unusedVariables false

/-- What Put has laid, beside the trees as they lay in U. -/
structure PStQ (w U V : World) (tb n : Nat) (jv : Value) (root : Option Addr) (c : Option Nat) (k : ByteArray) (s : ByteArray) : Prop where
  keeps : Keeps (OnC c) w V
  cnt : Cnt c n V
  tobj : TObjQ V tb jv root
  stay : Stay 126 U V
  bt : V.heap[w.heap.size]? = some (.cells #[.pointer (some ⟨tb, 0, none⟩)] 79 (0, 0))
  bk : V.heap[w.heap.size + 1]? = some (.cells #[.string k] 9 (0, 0))

theorem PStQ.drew {w U V : World} {tb n : Nat} {jv : Value} {root : Option Addr} {c : Option Nat} {k : ByteArray} {s : ByteArray} (h : PStQ w U V tb n jv root c k s) : PStQ w U V.drew tb n jv root c k s := ⟨h.keeps.drew, h.cnt.drew, h.tobj, h.stay.drew, h.bt, h.bk⟩
theorem PStQ.on {w U V : World} {tb n : Nat} {jv : Value} {root : Option Addr} {c : Option Nat} {k : ByteArray} {s : ByteArray} {V' : World} {m n0 : Nat} (h : PStQ w U V tb n jv root c k s) (h0 : Cnt c n0 w) (kk : Keeps (OnC c) V V') (hm : Cnt c m V') : PStQ w U V' tb m jv root c k s :=
  ⟨h.keeps.trans kk, hm, h.tobj.onC h.cnt kk, h.stay.onC h.cnt kk (by decide), blk_keep h.bt kk (h0.lt (by omega)), blk_keep h.bk kk (h0.lt (by omega))⟩
theorem PStQ.below {w U V : World} {tb n : Nat} {jv : Value} {root : Option Addr} {c : Option Nat} {k : ByteArray} {s : ByteArray} {V' : World} {n0 : Nat} (h : PStQ w U V tb n jv root c k s) (h0 : Cnt c n0 w) (b : Below V.heap.size V V') : PStQ w U V' tb n jv root c k s := h.on h0 (Keeps.of_below b _) (h.cnt.below b)
theorem PStQ.alloc {w U V : World} {tb n : Nat} {jv : Value} {root : Option Addr} {c : Option Nat} {k : ByteArray} {s : ByteArray} {n0 : Nat} (h : PStQ w U V tb n jv root c k s) (h0 : Cnt c n0 w) (o : Obj) : PStQ w U (V.alloc o) tb n jv root c k s := h.below h0 (bnew _ _)
theorem PStQ.own {w U V : World} {tb n : Nat} {jv : Value} {root : Option Addr} {c : Option Nat} {k : ByteArray} {s : ByteArray} {B : World} {row : Option Nat} (h : PStQ w U V tb n jv root c k s) (hg : V.grownBy B row) (hr : ∀ r, row = some r → w.heap.size ≤ r ∧ ∃ o : Obj, V.heap[r]? = some o ∧ o.isCells = false) : PStQ w U B tb n jv root c k s :=
  have hr' : ∀ r, row = some r → ∃ o : Obj, V.heap[r]? = some o ∧ o.isCells = false := fun r e => (hr r e).2
  ⟨h.keeps.grown hg (fun r e hlt => absurd hlt (by have := (hr r e).1; omega)), fun b e => cells_own (h.cnt b e) hg hr', cells_own h.tobj hg hr', stay_own h.stay hg hr', cells_own h.bt hg hr', cells_own h.bk hg hr'⟩

theorem pstQ {w : World} {tb n : Nat} {jv : Value} {root : Option Addr} {c : Option Nat} (k : ByteArray) (s : ByteArray) (ht : TObjQ w tb jv root) (hc : Cnt c n w) : PStQ w ((w.alloc (.cells #[.pointer (some ⟨tb, 0, none⟩)] 79)).alloc (.cells #[.string k] 9)) ((w.alloc (.cells #[.pointer (some ⟨tb, 0, none⟩)] 79)).alloc (.cells #[.string k] 9)) tb n jv root c k s := by
  refine ⟨((Keeps.refl _ w).alloc _).alloc _, (hc.alloc _).alloc _, ?_, Stay.refl _ _, ?_, ?_⟩
  · unfold TObjQ at ht ⊢; exact blk_on (blk_on ht (bnew _ _)) (bnew _ _)
  · have h0 := heap_alloc_new w (.cells #[.pointer (some ⟨tb, 0, none⟩)] 79)
    try simp only [World.size_alloc] at h0
    exact blk_on (h0) (bnew _ _)
  · have h0 := heap_alloc_new (w.alloc (.cells #[.pointer (some ⟨tb, 0, none⟩)] 79)) (.cells #[.string k] 9)
    try simp only [World.size_alloc] at h0
    exact h0

/-- Between two rounds: the tree made so far lies in the block Bm. -/
structure PIQ (w U W0 : World) (tb n Bm M : Nat) (jv : Value) (root : Option Addr) (c : Option Nat) (k : ByteArray) (s : ByteArray) (B0 : Tr Int ByteArray) (pre : List (BEQ U M)) (W : World) : Prop where
  st : PStQ w U W tb (n + Tr.upsC k B0 (pre.map (·.t))) jv root c k s
  made : ∃ q, W.heap[Bm]? = some (.cells #[.pointer q] 117 (0, 0)) ∧ IsTQ W q (Tr.ups k B0 (pre.map (·.t)))
  kp : KpC c Bm W0.heap.size W0 W

theorem PIQ.own {w U W0 : World} {tb n Bm M : Nat} {jv : Value} {root : Option Addr} {c : Option Nat} {k : ByteArray} {s : ByteArray} {B0 : Tr Int ByteArray} (hw : w.heap.size ≤ W0.heap.size) : OwnFrom W0.heap.size (PIQ w U W0 tb n Bm M jv root c k s B0) :=
  fun pre A B row hs hg hr => by
    have hr' : ∀ r, row = some r → ∃ o : Obj, A.heap[r]? = some o ∧ o.isCells = false := fun r e => (hr r e).2
    obtain ⟨h1, ⟨q, h2, h3⟩, h4⟩ := hs
    exact ⟨h1.own hg (fun r e => ⟨by have := (hr r e).1; omega, (hr r e).2⟩), ⟨q, cells_own h2 hg hr', h3.on (stay_own (Stay.refl _ _) hg hr')⟩, h4.grown hg (fun r e _ => .inr (.inr (hr r e).1))⟩

/-- The root is laid, the round's deferred calls are gone. -/
theorem putEndQ {w U W : World} {tb n D : Nat} {jv : Value} {root q : Option Addr} {c : Option Nat} {k : ByteArray} {s : ByteArray} {T' : Tr Int ByteArray} {o o' : Obj} (h : PStQ w U W tb n jv root c k s) (hq : IsTQ W q T') (hD : W.heap[D]? = some o) (ho : o.isCells = false) (hw : w.heap.size ≤ D) :
    (∃ p, TObjQ ((W.setCell ⟨tb, 2, none⟩ (.pointer q)).putObj D o') tb jv p ∧ IsTQ ((W.setCell ⟨tb, 2, none⟩ (.pointer q)).putObj D o') p T') ∧ Cnt c n ((W.setCell ⟨tb, 2, none⟩ (.pointer q)).putObj D o') ∧ Keeps (fun x => x = tb ∨ OnC c x) w ((W.setCell ⟨tb, 2, none⟩ (.pointer q)).putObj D o') := by
  have ht := h.tobj
  have hne : tb ≠ D := fun e => by
    unfold TObjQ at ht
    rw [e, hD] at ht
    injection ht with ht
    subst ht
    cases ho
  have h1 : TObjQ (W.setCell ⟨tb, 2, none⟩ (.pointer q)) tb jv q := heap_setCell_same W tb 2 _ _ (.pointer q) ht
  have hD1 : (W.setCell ⟨tb, 2, none⟩ (.pointer q)).heap[D]? = some o := (heap_setCell_other _ _ _ _ (fun e => hne e.symm)).trans hD
  have hg := grownBy_putObj' (W.setCell ⟨tb, 2, none⟩ (.pointer q)) D o'
  have hr : ∀ r, some D = some r → ∃ o : Obj, (W.setCell ⟨tb, 2, none⟩ (.pointer q)).heap[r]? = some o ∧ o.isCells = false := fun r e => by cases e; exact ⟨o, hD1, ho⟩
  have st : Stay 126 W (W.setCell ⟨tb, 2, none⟩ (.pointer q)) := (Stay.refl _ W).setCell _ (fun cs e => by dsimp only at e; unfold TObjQ at ht; rw [ht] at e; simp at e)
  have hC1 : Cnt c n (W.setCell ⟨tb, 2, none⟩ (.pointer q)) := h.cnt.setCell _ (h.cnt.apart ht (by decide))
  refine ⟨⟨q, cells_own h1 hg hr, hq.on (stay_own st hg hr)⟩, fun b e => cells_own (hC1 b e) hg hr, ?_⟩
  exact ((h.keeps.mono (fun _ _ e => .inr e)).setCell (fun _ => .inl rfl) _).grown hg (fun r e hlt => by cases e; omega)

/-- The nodes of the way, as they lie in the row. -/
theorem putRowsQ {U w1 : World} {k : ByteArray} {T : Tr Int ByteArray} {pre : List (Option Addr × Tr Int ByteArray)} {bb cap : Nat} (d2 : w1.ownsRow U.heap.size 117 1 (.slice (some ⟨bb, 0, none⟩) pre.length cap) pre.length (ptrsQ pre)) (d4 : ∀ x ∈ pre, IsTQ U x.1 x.2) (d5 : pre.map (·.2) = Tr.path k T) :
    ∃ es : List (BEQ U (T.wt sSz)), es.length = pre.length ∧ (∀ (j : Nat) (hj : j < es.length), es[j].i = j) ∧ es.map (·.t) = Tr.path k T ∧ (∀ (j : Nat) (hj : j < es.length), w1.cell? ⟨bb, j, none⟩ = some (.pointer (some ⟨es[j].b, 0, none⟩))) ∧ bb < w1.heap.size ∧ U.heap.size ≤ bb := by
  obtain ⟨es, h1, h2, h3, h4⟩ := besQ (M := T.wt sSz) pre (fun x hx => by
    have hm : x.2 ∈ Tr.path k T := by rw [← d5]; exact List.mem_map_of_mem hx
    exact ⟨d4 x hx, Tr.path_node k T _ hm, Tr.wt_path sSz k T _ hm⟩)
  refine ⟨es, h1, h2, h3.trans d5, fun j hj => ?_, (d2.lt bb rfl).2, (d2.lt bb rfl).1⟩
  rw [d2.cellAt j (by omega), show ptrsQ pre = es.map (fun e => Value.pointer (some ⟨e.b, 0, none⟩)) from h4, List.getElem?_map, List.getElem?_eq_getElem hj]
  rfl

/-- Where the loop begins. -/
theorem putMidQ {w U w1 w2 : World} {tb n bb : Nat} {jv : Value} {root p1 : Option Addr} {c : Option Nat} {k : ByteArray} {s : ByteArray} {T B0 : Tr Int ByteArray} {es : List (BEQ U (T.wt sSz))} {n0 len cap : Nat} (H2 : PStQ w U w2 tb n jv root c k s) (I1 : IsTQ w2 p1 B0) (h0 : Cnt c n0 w) (hU : w.heap.size ≤ U.heap.size)
    (E4 : ∀ (j : Nat) (h : j < es.length), w2.cell? ⟨bb, j, none⟩ = some (.pointer (some ⟨es[j].b, 0, none⟩))) (E5 : bb < w1.heap.size) (E6 : U.heap.size ≤ bb) (W1 : w1.heap.size ≤ w2.heap.size) :
    (fun W0 : World => PIQ w U W0 tb n w2.heap.size (T.wt sSz) jv root c k s B0 [] W0 ∧ W0.heap[w2.heap.size + 1]? = some (.cells #[.slice (some ⟨bb, 0, none⟩) len cap] 120 (0, 0)) ∧
      (∀ (j : Nat) (h : j < es.length), W0.cell? ⟨bb, j, none⟩ = some (.pointer (some ⟨es[j].b, 0, none⟩))) ∧ w2.heap.size + 1 < W0.heap.size ∧ bb < W0.heap.size ∧ ¬ OnC c (w2.heap.size + 1) ∧ ¬ OnC c bb ∧ w.heap.size ≤ W0.heap.size)
    ((w2.alloc (.cells #[.pointer p1] 117)).alloc (.cells #[.slice (some ⟨bb, 0, none⟩) len cap] 120)) := by
  have hs := H2.keeps.size
  have h1 := heap_alloc_new (w2.alloc (.cells #[.pointer p1] 117)) (.cells #[.slice (some ⟨bb, 0, none⟩) len cap] 120)
  simp only [World.size_alloc] at h1
  refine ⟨⟨(H2.alloc h0 _).alloc h0 _, ⟨p1, blk_on (heap_alloc_new w2 _) (bnew _ _), I1.on (((Stay.refl _ _).alloc _).alloc _)⟩, Keeps.refl _ _⟩, h1, fun j h => ?_, by simp, by simp; omega, h0.lt (by omega), h0.lt (by omega), by simp; omega⟩
  exact ((bthen (bnew w2 _) (bnew _ _)).cell (p := ⟨bb, j, none⟩) (by dsimp only; omega)).trans (E4 j h)

/-- The block of the tree that is made is set anew. -/
theorem PStQ.set {w U V : World} {tb n n0 Bm : Nat} {jv : Value} {root : Option Addr} {c : Option Nat} {k : ByteArray} {s : ByteArray} {q : Option Addr} (h : PStQ w U V tb n jv root c k s) (h0 : Cnt c n0 w) (hm : V.heap[Bm]? = some (.cells #[.pointer q] 117 (0, 0))) (hB : w.heap.size ≤ Bm) (p : Option Addr) : PStQ w U (V.setCell ⟨Bm, 0, none⟩ (.pointer p)) tb n jv root c k s := by
  have ne : ∀ {i : Nat} {cs : Array Value} {T : TypeId}, V.heap[i]? = some (.cells cs T (0, 0)) → T ≠ 117 → (V.setCell ⟨Bm, 0, none⟩ (.pointer p)).heap[i]? = some (.cells cs T (0, 0)) := fun {i cs T} hi hT => by
    rw [heap_setCell_other]
    · exact hi
    · rintro rfl; rw [hm] at hi; simp at hi; exact hT hi.2.symm
  exact ⟨h.keeps.setCell (fun e => by dsimp only at e; omega) _, h.cnt.setCell _ (h0.lt hB), ne h.tobj (by decide), h.stay.setCell _ (fun cs e => by dsimp only at e; rw [hm] at e; simp at e), ne h.bt (by decide), ne h.bk (by decide)⟩

/-- The counter's block alone has turned: what is no cells lies as it lay. -/
theorem othersQ {c : Option Nat} {n : Nat} {A B : World} (h : Cnt c n A) (k : Keeps (OnC c) A B) : KeepsOthers A B := ⟨k.size, fun i o e ho => blk_keep e k (onC_cells h e ho)⟩

/-- A round. -/
theorem putStepQ {w U W0 W w9 : World} {tb n n0 Bm M : Nat} {jv : Value} {root p : Option Addr} {c : Option Nat} {k : ByteArray} {s : ByteArray} {B0 : Tr Int ByteArray} {pre : List (BEQ U M)} {x : BEQ U M} (hI : PIQ w U W0 tb n Bm M jv root c k s B0 pre W) (h0 : Cnt c n0 w) (hB : w.heap.size ≤ Bm)
    (kk : Keeps (OnC c) W w9) (bc : Cnt c (n + Tr.upsC k B0 (pre.map (·.t)) + Tr.stepC k x.t (Tr.ups k B0 (pre.map (·.t)))) w9) (ii : IsTQ w9 p (Tr.step k x.t (Tr.ups k B0 (pre.map (·.t))))) :
    KeepsFrom W0.heap.size W (w9.setCell ⟨Bm, 0, none⟩ (.pointer p)) ∧ KpC c Bm W0.heap.size W (w9.setCell ⟨Bm, 0, none⟩ (.pointer p)) ∧ PIQ w U W0 tb n Bm M jv root c k s B0 (pre ++ [x]) (w9.setCell ⟨Bm, 0, none⟩ (.pointer p)) := by
  obtain ⟨st, ⟨q, hm, hq⟩, kp⟩ := hI
  have hm9 := blk_keep hm kk (h0.lt hB)
  have st9 := st.on h0 kk bc
  have k1 : KpC c Bm W0.heap.size W (w9.setCell ⟨Bm, 0, none⟩ (.pointer p)) := (kk.mono (fun _ _ e => .inl e)).setCell (fun _ => .inr (.inl rfl)) _
  have e1 : Tr.ups k B0 ((pre ++ [x]).map (·.t)) = Tr.step k x.t (Tr.ups k B0 (pre.map (·.t))) := by rw [List.map_append]; exact Tr.ups_snoc k B0 _ _
  have e2 : n + Tr.upsC k B0 ((pre ++ [x]).map (·.t)) = n + Tr.upsC k B0 (pre.map (·.t)) + Tr.stepC k x.t (Tr.ups k B0 (pre.map (·.t))) := by rw [List.map_append, Nat.add_assoc]; exact congrArg (n + ·) (Tr.upsC_snoc k _ B0 _)
  refine ⟨((othersQ st.cnt kk).trans (KeepsOthers.setCell _ _ _)).from _, k1, ?_, ?_, kp.t k1⟩
  · rw [e2]; exact st9.set h0 hm9 hB p
  · rw [e1]
    exact ⟨p, heap_setCell_same w9 Bm 0 _ _ (.pointer p) hm9, ii.on ((Stay.refl _ _).setCell _ (fun cs e => by dsimp only at e; rw [hm9] at e; simp at e))⟩

/-- What a round may hold. -/
theorem putRoomQ {U : World} {k : ByteArray} {s : ByteArray} {T B0 : Tr Int ByteArray} {es pre : List (BEQ U (T.wt sSz))} {len : Nat} (h1 : es.length = len) (h3 : es.map (·.t) = Tr.path k T) (hlt : pre.length < len) (hB : B0.wt sSz ≤ T.wt sSz + 1 + sSz s) (hw : (T.ht + 2) * (T.wt sSz + 1 + sSz s) ≤ 4611686018427387904) :
    (Tr.ups k B0 (pre.map (·.t))).wt sSz + T.wt sSz ≤ 4611686018427387904 := by
  have a1 := Tr.wt_ups sSz k (T.wt sSz) (pre.map (·.t)) B0 (fun t ht => by obtain ⟨x, _, rfl⟩ := List.mem_map.1 ht; exact x.le)
  rw [List.length_map] at a1
  have a2 := Tr.path_le k T
  rw [← h3, List.length_map] at a2
  have a3 : pre.length * T.wt sSz ≤ T.ht * (T.wt sSz + 1 + sSz s) := Nat.mul_le_mul (by omega) (by omega)
  have a4 : (T.ht + 2) * (T.wt sSz + 1 + sSz s) = T.ht * (T.wt sSz + 1 + sSz s) + 2 * (T.wt sSz + 1 + sSz s) := Nat.add_mul _ _ _
  omega

theorem putHeldlQ {w U X : World} {tb n b : Nat} {jv : Value} {root lp rp : Option Addr} {c : Option Nat} {k xk : ByteArray} {xv : Int} {s xs xq : ByteArray} {xc xh : Int} (h : PStQ w U X tb n jv root c k s) (hb : U.heap[b]? = some (.cells #[.string xk, .int .i64 xv, .string xs, .pointer lp, .pointer rp, .int .i64 xc, .int .i64 xh, .string xq] 126 (0, 0))) : X.cell? ⟨w.heap.size, 0, none⟩ = some (.pointer (some ⟨tb, 0, none⟩)) ∧ X.cell? ⟨b, 0, none⟩ = some (.string xk) ∧ X.cell? ⟨b, 1, none⟩ = some (.int .i64 xv) ∧ X.cell? ⟨b, 2, none⟩ = some (.string xs) ∧ X.cell? ⟨b, 3, none⟩ = some (.pointer lp) := by
  have hn := nodeQ (h.stay _ _ hb)
  obtain ⟨n0, n1, n2, n3, -, -, -, -⟩ := hn
  exact ⟨cell_one h.bt, n0, n1, n2, n3⟩

theorem putSetlQ {w U W w9 : World} {tb n n0 b Bm : Nat} {jv u : Value} {root lp rp q : Option Addr} {c : Option Nat} {k xk : ByteArray} {xv : Int} {s xs xq : ByteArray} {xc xh : Int} (hd : w9.cell? ⟨w.heap.size, 0, none⟩ = some (.pointer (some ⟨tb, 0, none⟩)) ∧ w9.cell? ⟨b, 0, none⟩ = some (.string xk) ∧ w9.cell? ⟨b, 1, none⟩ = some (.int .i64 xv) ∧ w9.cell? ⟨b, 2, none⟩ = some (.string xs) ∧ w9.cell? ⟨b, 3, none⟩ = some (.pointer lp)) (hb : U.heap[b]? = some (.cells #[.string xk, .int .i64 xv, .string xs, .pointer lp, .pointer rp, .int .i64 xc, .int .i64 xh, .string xq] 126 (0, 0))) (h : PStQ w U W tb n jv root c k s) (kk : Keeps (OnC c) W w9) (h0 : Cnt c n0 w) (hm : w9.heap[Bm]? = some (.cells #[.pointer q] 117 (0, 0))) : (w9.setCell ⟨Bm, 0, none⟩ u).cell? ⟨w.heap.size, 0, none⟩ = some (.pointer (some ⟨tb, 0, none⟩)) ∧ (w9.setCell ⟨Bm, 0, none⟩ u).cell? ⟨b, 0, none⟩ = some (.string xk) ∧ (w9.setCell ⟨Bm, 0, none⟩ u).cell? ⟨b, 1, none⟩ = some (.int .i64 xv) ∧ (w9.setCell ⟨Bm, 0, none⟩ u).cell? ⟨b, 2, none⟩ = some (.string xs) ∧ (w9.setCell ⟨Bm, 0, none⟩ u).cell? ⟨b, 3, none⟩ = some (.pointer lp) := by
  have hb9 := blk_keep (h.stay _ _ hb) kk (h.cnt.apart (h.stay _ _ hb) (by decide))
  have ht9 := blk_keep h.bt kk (h0.lt (Nat.le_refl _))
  have n1 : Bm ≠ b := fun e => by rw [← e, hm] at hb9; simp at hb9
  have n2 : Bm ≠ w.heap.size := fun e => by rw [← e, hm] at ht9; simp at ht9
  obtain ⟨h1, g0, g1, g2, g3⟩ := hd
  have ap : ∀ {p : Addr} {y : Value}, w9.cell? p = some y → Bm ≠ p.block → (w9.setCell ⟨Bm, 0, none⟩ u).cell? p = some y := fun {p y} hy hne => (World.cell?_setCell_other _ _ _ _ (fun e => hne (by rw [← e]))).trans hy
  exact ⟨ap h1 n2, ap g0 n1, ap g1 n1, ap g2 n1, ap g3 n1⟩

theorem putHeldrQ {w U X : World} {tb n b : Nat} {jv : Value} {root lp rp : Option Addr} {c : Option Nat} {k xk : ByteArray} {xv : Int} {s xs xq : ByteArray} {xc xh : Int} (h : PStQ w U X tb n jv root c k s) (hb : U.heap[b]? = some (.cells #[.string xk, .int .i64 xv, .string xs, .pointer lp, .pointer rp, .int .i64 xc, .int .i64 xh, .string xq] 126 (0, 0))) : X.cell? ⟨w.heap.size, 0, none⟩ = some (.pointer (some ⟨tb, 0, none⟩)) ∧ X.cell? ⟨b, 0, none⟩ = some (.string xk) ∧ X.cell? ⟨b, 1, none⟩ = some (.int .i64 xv) ∧ X.cell? ⟨b, 2, none⟩ = some (.string xs) ∧ X.cell? ⟨b, 4, none⟩ = some (.pointer rp) := by
  have hn := nodeQ (h.stay _ _ hb)
  obtain ⟨n0, n1, n2, -, n4, -, -, -⟩ := hn
  exact ⟨cell_one h.bt, n0, n1, n2, n4⟩

theorem putSetrQ {w U W w9 : World} {tb n n0 b Bm : Nat} {jv u : Value} {root lp rp q : Option Addr} {c : Option Nat} {k xk : ByteArray} {xv : Int} {s xs xq : ByteArray} {xc xh : Int} (hd : w9.cell? ⟨w.heap.size, 0, none⟩ = some (.pointer (some ⟨tb, 0, none⟩)) ∧ w9.cell? ⟨b, 0, none⟩ = some (.string xk) ∧ w9.cell? ⟨b, 1, none⟩ = some (.int .i64 xv) ∧ w9.cell? ⟨b, 2, none⟩ = some (.string xs) ∧ w9.cell? ⟨b, 4, none⟩ = some (.pointer rp)) (hb : U.heap[b]? = some (.cells #[.string xk, .int .i64 xv, .string xs, .pointer lp, .pointer rp, .int .i64 xc, .int .i64 xh, .string xq] 126 (0, 0))) (h : PStQ w U W tb n jv root c k s) (kk : Keeps (OnC c) W w9) (h0 : Cnt c n0 w) (hm : w9.heap[Bm]? = some (.cells #[.pointer q] 117 (0, 0))) : (w9.setCell ⟨Bm, 0, none⟩ u).cell? ⟨w.heap.size, 0, none⟩ = some (.pointer (some ⟨tb, 0, none⟩)) ∧ (w9.setCell ⟨Bm, 0, none⟩ u).cell? ⟨b, 0, none⟩ = some (.string xk) ∧ (w9.setCell ⟨Bm, 0, none⟩ u).cell? ⟨b, 1, none⟩ = some (.int .i64 xv) ∧ (w9.setCell ⟨Bm, 0, none⟩ u).cell? ⟨b, 2, none⟩ = some (.string xs) ∧ (w9.setCell ⟨Bm, 0, none⟩ u).cell? ⟨b, 4, none⟩ = some (.pointer rp) := by
  have hb9 := blk_keep (h.stay _ _ hb) kk (h.cnt.apart (h.stay _ _ hb) (by decide))
  have ht9 := blk_keep h.bt kk (h0.lt (Nat.le_refl _))
  have n1 : Bm ≠ b := fun e => by rw [← e, hm] at hb9; simp at hb9
  have n2 : Bm ≠ w.heap.size := fun e => by rw [← e, hm] at ht9; simp at ht9
  obtain ⟨h1, g0, g1, g2, g3⟩ := hd
  have ap : ∀ {p : Addr} {y : Value}, w9.cell? p = some y → Bm ≠ p.block → (w9.setCell ⟨Bm, 0, none⟩ u).cell? p = some y := fun {p y} hy hne => (World.cell?_setCell_other _ _ _ _ (fun e => hne (by rw [← e]))).trans hy
  exact ⟨ap h1 n2, ap g0 n1, ap g1 n1, ap g2 n1, ap g3 n1⟩

theorem putBaseAQ {k : ByteArray} {v : Int} {s : ByteArray} {T : Tr Int ByteArray} (hF : Tr.found k T = .nil) : (Tr.node .nil k v s .nil : Tr Int ByteArray).wt sSz ≤ T.wt sSz + 1 + sSz s := by
  simp only [Tr.wt]; omega
theorem putBaseBQ {k fk : ByteArray} {v fv : Int} {s fs : ByteArray} {T fl fr : Tr Int ByteArray} (hF : Tr.found k T = .node fl fk fv fs fr) : (Tr.node fl k v s fr).wt sSz ≤ T.wt sSz + 1 + sSz s := by
  have h2 := Tr.wt_found sSz k T
  rw [hF] at h2
  simp only [Tr.wt] at h2 ⊢
  omega

theorem putFitAQ {k : ByteArray} {v : Int} {s : ByteArray} {T : Tr Int ByteArray} (hF : Tr.found k T = .nil) (hw : (T.ht + 2) * (T.wt sSz + 1 + sSz s) ≤ 4611686018427387904) : (Tr.node .nil k v s .nil : Tr Int ByteArray).wt sSz ≤ 4611686018427387904 := by
  have h1 : 1 * (T.wt sSz + 1 + sSz s) ≤ (T.ht + 2) * (T.wt sSz + 1 + sSz s) := Nat.mul_le_mul_right _ (by omega)
  simp only [Tr.wt]
  omega

theorem putFitBQ {k fk : ByteArray} {v fv : Int} {s fs : ByteArray} {T fl fr : Tr Int ByteArray} (hF : Tr.found k T = .node fl fk fv fs fr) (hw : (T.ht + 2) * (T.wt sSz + 1 + sSz s) ≤ 4611686018427387904) : (Tr.node fl k v s fr).wt sSz ≤ 4611686018427387904 := by
  have h1 : 1 * (T.wt sSz + 1 + sSz s) ≤ (T.ht + 2) * (T.wt sSz + 1 + sSz s) := Nat.mul_le_mul_right _ (by omega)
  have h2 := Tr.wt_found sSz k T
  rw [hF] at h2
  simp only [Tr.wt] at h2 ⊢
  omega

end Go.Proofs.Ytnlmlhoddchgbaa
namespace Go.Proofs.Ytnlmlhoddchgbaa
open Go.RowKit Go.Shelf
set_option linter.unusedVariables false

attribute [local go_sem] Oper.semAt_some

set_option maxRecDepth 200000 in
set_option maxHeartbeats 8000000 in
theorem putAQ {jv : Value} {c : Option Nat} (HB : BothOkQ jv c) (nn : Nat) (hnn : 3 ≤ nn) (k : ByteArray) (v : Int) (s : ByteArray) {w : World} {tb n : Nat} {p0 : Option Addr} {T : Tr Int ByteArray} (ht : TObjQ w tb jv p0) (hc : Cnt c n w) (hT : IsTQ w p0 T) (hh : T.ht ≤ 1000000) (hcn : T.cnt ≤ 4611686018427387904) (hw : (T.ht + 2) * (T.wt sSz + 1 + sSz s) ≤ 4611686018427387904) (hF : Tr.found k T = .nil) :
    CallsIn Fence.wide nn Try.prog 37 #[.pointer (some ⟨tb, 0, none⟩), .string k, .int .i64 v, .string s] w fun e w' => e = .returned (.tuple #[.int .i64 ((Tr.found k T).val 0), .bool (!(Tr.found k T).isNil)]) ∧ (∃ p, TObjQ w' tb jv p ∧ IsTQ w' p (Tr.put k v s T)) ∧ Cnt c (n + Tr.putC k v s T) w' ∧ Keeps (fun x => x = tb ∨ OnC c x) w w' := by
  have h1 : 1 ≤ nn := by omega
  have H0 := aside (pstQ k s ht hc)
  have HC := aside hc
  have CD := aside (downQ k H0.out.tobj (hT.on (((Stay.refl _ _).alloc _).alloc _)) hh hcn)
  have HHT := aside hh
  have HW := aside hw
  have HF := aside hF
  clear ht hc hT hh hcn hw hF
  refine callsIn_of_wp_marks Try.func37 rfl trivial ?_ rfl
  simp only [Try.ntmps37, List.size_toArray, List.length_cons, List.length_nil, Nat.reduceAdd, Nat.reduceSub, Array.replicate_succ, Array.replicate_zero, List.push_toArray, List.append_toArray, List.nil_append, List.cons_append]
  gi_wp2
  refine ⟨trivial, ?_⟩
  refine (callsIn_wide.2 CD.out).mono ?_
  rintro e w1 ⟨pre, p, bb, cap, rfl, d1, d2, d3, d4, d5⟩
  rw [HF.out] at d1
  have H1 := aside (H0.out.below HC.out d3)
  have HR := aside (putRowsQ d2 d4 d5)
  have US := aside (show w.heap.size ≤ (((w.alloc (.cells #[.pointer (some ⟨tb, 0, none⟩)] 79)).alloc (.cells #[.string k] 9))).heap.size from by simp; omega)
  obtain rfl : p = none := d1
  clear d2 d3 d4 d5 CD H0
  generalize (w.alloc (.cells #[.pointer (some ⟨tb, 0, none⟩)] 79)).alloc (.cells #[.string k] 9) = U at *
  have c0 := cell_one H1.out.bt
  have c1 := cell_one H1.out.bk
  skip
  gi_wp2_with fail
  refine ⟨trivial, ?_⟩
  refine (callsIn_wide.2 (hangQ HB (l := (.nil : Tr Int ByteArray)) (r := (.nil : Tr Int ByteArray)) k v s H1.out.tobj H1.out.cnt rfl rfl (putFitAQ HF.out HW.out))).mono ?_
  rintro e w2 ⟨p1, rfl, i1, bc, kk⟩
  have H2 := aside (H1.out.on HC.out kk bc)
  have I1 := aside i1
  obtain ⟨es, e1, e2, e3, e4, e5, e6⟩ := HR.out
  have HL := aside (show pre.length ≤ 1000000 from by have h2 := Tr.path_le k T; rw [← e3, List.length_map, e1] at h2; have := HHT.out; omega)
  have W1 := aside (show w1.heap.size ≤ w2.heap.size from kk.size)
  have E4 := aside (fun j h => (kk.cell (p := ⟨bb, j, none⟩) (by have := e5; exact this) (HC.out.lt (by dsimp only; have := US.out; omega))).trans (e4 j h))
  have E1 := aside e1
  have E2 := aside e2
  have E3 := aside e3
  have E5 := aside e5
  have E6 := aside e6
  clear i1 bc kk e1 e2 e3 e4 e5 e6 HR H1 c0 c1
  gi_wp2_with fail
  refine ⟨trivial, ?_⟩
  refine (bkQ (nn - 1) _ _ _ _).mono ?_
  rintro e w3 ⟨rfl, rfl⟩
  gi_wp2_with fail
  have HP := aside (putMidQ (T := T) H2.out I1.out HC.out US.out E4.out E5.out E6.out W1.out (len := pre.length) (cap := cap))
  generalize hW0 : (w2.alloc (.cells #[.pointer p1] 117)).alloc (.cells #[.slice (some ⟨bb, 0, none⟩) pre.length cap] 120) = W0 at *
  obtain ⟨P1, P2, P3, P4, P5, P6, P7, P8⟩ := HP.out
  clear hW0 HP H2 I1 E4
  refine wpIn_rangeFunc_ownG rfl h1 (gf := 83) (lb := #[.pointer (some ⟨w2.heap.size + 1, 0, none⟩)]) rfl trivial (enters_of Try.func83 (by kernel_rfl) rfl)
    (bkStopsQ es c (nn - 1) (by omega) (w2.heap.size + 1) w2.heap.size W0.heap.size bb pre.length cap W0 E1.out HL.out P4 P5 (Nat.le_refl _) P6 P7 (by omega) (by have := E5.out; have := W1.out; omega) (cell_one P2) E2.out P3)
    KpC.t (KpC.b (Nat.le_refl _)) (Below.refl _ _) (fun _ => rfl)
    (PIQ w U W0 tb (n + Tr.hangC (.nil : Tr Int ByteArray) (.nil : Tr Int ByteArray)) w2.heap.size (T.wt sSz) jv p0 c k s (Tr.node .nil k v s .nil))
    (fun _ _ _ => False) (PIQ.own P8) (fun _ s A B row h => h.elim) P1 ?a1 ?assign ?body ?done ?stop
  case assign =>
    intro l x W K hK
    dsimp only [encsQ]
    gi_wp2
    exact hK
  case stop =>
    rintro D cc pre' W hD _ h
    exact h.elim
  case done =>
    rintro D ys W hD rfl hI hK
    obtain ⟨st, ⟨q, hm, hq⟩, kp⟩ := hI
    have c0 := cell_one st.bt
    have c1 := cell_one hm
    obtain ⟨-, -, r0, z0⟩ := tobjQ st.tobj
    have hK' := (KeepsOthers.setCell W ⟨tb, 2, none⟩ (.pointer q)).same D _ hK rfl
    have HE := aside (putEndQ (o' := .deferred none) st hq hK rfl (by omega))
    have hu : Tr.ups k (Tr.node .nil k v s .nil) (es.reverse.map (·.t)) = Tr.put k v s T := by
      have hp := Tr.put_ups k v s T
      rw [HF.out] at hp
      rw [List.map_reverse, E3.out]
      exact hp
    have hcs : (n + Tr.hangC (.nil : Tr Int ByteArray) (.nil : Tr Int ByteArray)) + Tr.upsC k (Tr.node .nil k v s .nil) (es.reverse.map (·.t)) = n + Tr.putC k v s T := by
      unfold Tr.putC
      rw [HF.out, List.map_reverse, E3.out, Nat.add_assoc]
      rfl
    rw [hu, hcs] at HE
    clear hm hq kp st hu hcs
    gi_wp2
    refine ⟨by simp, .inl ⟨_, _, rfl, run_takeDeferred hK', ?_⟩⟩
    refine ⟨.tuple #[.int .i64 0, .bool false], by simp [results, Try.f37, go_sem], by rw [HF.out]; rfl, HE.out.1, HE.out.2.1, HE.out.2.2⟩
  case body =>
    rintro l pre' x W hI hlt
    have HI := aside hI
    have HM := aside (putRoomQ E1.out E3.out hlt (putBaseAQ (v := v) HF.out) HW.out)
    obtain ⟨st, ⟨q, hm, hq⟩, kp⟩ := hI
    obtain ⟨xb, lp, rp, xe, hxb, hxl, hxr⟩ := x.ok
    injection xe with xe
    injection xe with xe
    have HX := aside (show U.heap[x.b]? = some _ from xe ▸ hxb)
    have XL := aside (hxl.on st.stay)
    have XR := aside (hxr.on st.stay)
    have HQ := aside hq
    have HS := aside st
    have HMd := aside hm
    have XW := aside (show (Tr.node x.l x.k x.v x.s x.r).wt sSz ≤ T.wt sSz from x.le)
    clear st hm hq kp hxb hxl hxr xe hlt
    have kc := cell_one HS.out.bk
    gi_wp2_with fail
    refine wpIn_region_held (S := fun X => X.cell? ⟨w.heap.size + 1, 0, none⟩ = some (.string k) ∧ X.cell? ⟨x.b, 0, none⟩ = some (.string x.k)) (by kernel_rfl) (by kernel_rfl) (fun ⟨_, _, h⟩ => h) ⟨cell_one HS.out.drew.bk, (nodeQ (HS.out.drew.stay _ _ HX.out)).1⟩ (fun hHeld => ?_)
    refine wpAnyH_take (i := 0) (v := ?_) rfl (by kernel_rfl) (by kernel_rfl) (by kernel_rfl) (fun _ _ _ h => h) (Or.inl ⟨by rfl, ?_⟩) (by assumption) ?_
    rotate_left
    · intro w hSw
      go_simp
      try with_reducible rfl
    simp only [Act.put, List.getElem_toArray, List.getElem_cons_zero, List.setIfInBounds_toArray, List.set_cons_zero, List.set_cons_succ]
    refine wpAnyH_take (i := 1) (v := ?_) rfl (by kernel_rfl) (by kernel_rfl) (by kernel_rfl) (fun _ _ _ h => h) (Or.inl ⟨by rfl, ?_⟩) (by assumption) ?_
    rotate_left
    · intro w hSw
      go_simp
      try with_reducible rfl
    simp only [Act.put, List.getElem_toArray, List.getElem_cons_zero, List.getElem_cons_succ, List.setIfInBounds_toArray, List.set_cons_zero, List.set_cons_succ]
    refine wpAnyH_take (i := 2) (v := ?_) rfl (by kernel_rfl) (by kernel_rfl) (by kernel_rfl) (fun _ _ _ h => h) (Or.inl ⟨by rfl, ?_⟩) (by assumption) ?_
    rotate_left
    · intro w hSw
      go_simp
      try with_reducible rfl
    simp only [Act.put, List.getElem_toArray, List.getElem_cons_zero, List.getElem_cons_succ, List.setIfInBounds_toArray, List.set_cons_zero, List.set_cons_succ]
    refine wpAnyH_take (i := 3) (v := ?_) rfl (by kernel_rfl) (by kernel_rfl) (by kernel_rfl) (fun _ _ _ h => h) (Or.inl ⟨by rfl, ?_⟩) (by assumption) ?_
    rotate_left
    · intro w hSw
      go_simp
      try with_reducible rfl
    simp only [Act.put, List.getElem_toArray, List.getElem_cons_zero, List.getElem_cons_succ, List.setIfInBounds_toArray, List.set_cons_zero, List.set_cons_succ]
    refine wpAnyH_take (i := 4) (v := ?_) rfl (by kernel_rfl) (by kernel_rfl) (by kernel_rfl) (fun _ _ _ h => h) (Or.inl ⟨by rfl, ?_⟩) (by assumption) ?_
    rotate_left
    · intro w hSw
      go_simp
      try with_reducible rfl
    simp only [Act.put, List.getElem_toArray, List.getElem_cons_zero, List.getElem_cons_succ, List.setIfInBounds_toArray, List.set_cons_zero, List.set_cons_succ]
    refine wpAnyH_take (i := 5) (v := ?_) rfl (by kernel_rfl) (by kernel_rfl) (by kernel_rfl) (fun _ _ _ h => h) (Or.inl ⟨by rfl, ?_⟩) (by assumption) ?_
    rotate_left
    · intro w hSw
      go_simp
      try with_reducible rfl
    simp only [Act.put, List.getElem_toArray, List.getElem_cons_zero, List.getElem_cons_succ, List.setIfInBounds_toArray, List.set_cons_zero, List.set_cons_succ]
    refine wpAnyH_take (i := 6) (v := ?_) rfl (by kernel_rfl) (by kernel_rfl) (by kernel_rfl) (fun _ _ _ h => h) (Or.inl ⟨by rfl, ?_⟩) (by assumption) ?_
    rotate_left
    · intro w hSw
      go_simp
      try with_reducible rfl
    simp only [Act.put, List.getElem_toArray, List.getElem_cons_zero, List.getElem_cons_succ, List.setIfInBounds_toArray, List.set_cons_zero, List.set_cons_succ]
    refine wpAnyH_done (by kernel_rfl) ?_ _
    clear hHeld kc
    cases hq1 : Op.bytesLess k.toList x.k.toList
    · have HQ1 := aside (show kLt k x.k = false from hq1)
      gi_wp2_with fail
      refine wpIn_region_held (S := fun X => X.cell? ⟨w.heap.size, 0, none⟩ = some (.pointer (some ⟨tb, 0, none⟩)) ∧ X.cell? ⟨x.b, 0, none⟩ = some (.string x.k) ∧ X.cell? ⟨x.b, 1, none⟩ = some (.int .i64 x.v) ∧ X.cell? ⟨x.b, 2, none⟩ = some (.string x.s) ∧ X.cell? ⟨x.b, 3, none⟩ = some (.pointer lp)) (by kernel_rfl) (by kernel_rfl) (fun ⟨_, _, h⟩ => h) (putHeldlQ HS.out.drew.drew HX.out) (fun hHeld => ?_)
      refine wpAnyH_take (i := 0) (v := ?_) rfl (by kernel_rfl) (by kernel_rfl) (by kernel_rfl) (fun _ _ _ h => h) (Or.inl ⟨by rfl, ?_⟩) (by assumption) ?_
      rotate_left
      · intro w hSw
        go_simp
        try with_reducible rfl
      simp only [Act.put, List.getElem_toArray, List.getElem_cons_zero, List.setIfInBounds_toArray, List.set_cons_zero, List.set_cons_succ]
      refine wpAnyH_take (i := 1) (v := ?_) rfl (by kernel_rfl) (by kernel_rfl) (by kernel_rfl) (fun _ _ _ h => h) (Or.inl ⟨by rfl, ?_⟩) (by assumption) ?_
      rotate_left
      · intro w hSw
        go_simp
        try with_reducible rfl
      simp only [Act.put, List.getElem_toArray, List.getElem_cons_zero, List.getElem_cons_succ, List.setIfInBounds_toArray, List.set_cons_zero, List.set_cons_succ]
      refine wpAnyH_take (i := 2) (v := ?_) rfl (by kernel_rfl) (by kernel_rfl) (by kernel_rfl) (fun _ _ _ h => h) (Or.inl ⟨by rfl, ?_⟩) (by assumption) ?_
      rotate_left
      · intro w hSw
        go_simp
        try with_reducible rfl
      simp only [Act.put, List.getElem_toArray, List.getElem_cons_zero, List.getElem_cons_succ, List.setIfInBounds_toArray, List.set_cons_zero, List.set_cons_succ]
      refine wpAnyH_take (i := 3) (v := ?_) rfl (by kernel_rfl) (by kernel_rfl) (by kernel_rfl) (fun _ _ _ h => h) (Or.inl ⟨by rfl, ?_⟩) (by assumption) ?_
      rotate_left
      · intro w hSw
        go_simp
        try with_reducible rfl
      simp only [Act.put, List.getElem_toArray, List.getElem_cons_zero, List.getElem_cons_succ, List.setIfInBounds_toArray, List.set_cons_zero, List.set_cons_succ]
      refine wpAnyH_take (i := 4) (v := ?_) rfl (by kernel_rfl) (by kernel_rfl) (by kernel_rfl) (fun _ _ _ h => h) (Or.inl ⟨by rfl, ?_⟩) (by assumption) ?_
      rotate_left
      · intro w hSw
        go_simp
        try with_reducible rfl
      simp only [Act.put, List.getElem_toArray, List.getElem_cons_zero, List.getElem_cons_succ, List.setIfInBounds_toArray, List.set_cons_zero, List.set_cons_succ]
      refine wpAnyH_take (i := 5) (v := ?_) rfl (by kernel_rfl) (by kernel_rfl) (by kernel_rfl) (fun _ _ _ h => h) (Or.inl ⟨by rfl, ?_⟩) (by assumption) ?_
      rotate_left
      · intro w hSw
        go_simp
        try with_reducible rfl
      simp only [Act.put, List.getElem_toArray, List.getElem_cons_zero, List.getElem_cons_succ, List.setIfInBounds_toArray, List.set_cons_zero, List.set_cons_succ]
      refine wpAnyH_take (i := 6) (v := ?_) rfl (by kernel_rfl) (by kernel_rfl) (by kernel_rfl) (fun _ _ _ h => h) (Or.inl ⟨by rfl, ?_⟩) (by assumption) ?_
      rotate_left
      · intro w hSw
        go_simp
        try with_reducible rfl
      simp only [Act.put, List.getElem_toArray, List.getElem_cons_zero, List.getElem_cons_succ, List.setIfInBounds_toArray, List.set_cons_zero, List.set_cons_succ]
      refine wpAnyH_take (i := 7) (v := ?_) rfl (by kernel_rfl) (by kernel_rfl) (by kernel_rfl) (fun _ _ _ h => h) (Or.inl ⟨by rfl, ?_⟩) (by assumption) ?_
      rotate_left
      · intro w hSw
        go_simp
        try with_reducible rfl
      simp only [Act.put, List.getElem_toArray, List.getElem_cons_zero, List.getElem_cons_succ, List.setIfInBounds_toArray, List.set_cons_zero, List.set_cons_succ]
      refine wpAnyH_take (i := 8) (v := ?_) rfl (by kernel_rfl) (by kernel_rfl) (by kernel_rfl) (fun _ _ _ h => h) (Or.inl ⟨by rfl, ?_⟩) (by assumption) ?_
      rotate_left
      · intro w hSw
        go_simp
        try with_reducible rfl
      simp only [Act.put, List.getElem_toArray, List.getElem_cons_zero, List.getElem_cons_succ, List.setIfInBounds_toArray, List.set_cons_zero, List.set_cons_succ]
      have m0 := cell_one (show (World.drew (World.drew W)).heap[w2.heap.size]? = some _ from HMd.out)
      refine wpAnyH_ready (rs := [9]) (by kernel_rfl) (by simp) ?_
      refine AllReadyH.cons rfl (fun K hK => ?_) AllReadyH.nil
      go_simp
      refine hK.out _ _ (hHeld) (fun hHeld => ?_)
      clear hK K 
      clear m0
      refine wpAnyH_ready (rs := [10]) (by kernel_rfl) (by simp) ?_
      refine AllReadyH.cons rfl (fun K hK => ?_) AllReadyH.nil
      go_simp
      refine (levelQ HB x.k x.v x.s HS.out.drew.drew.tobj HS.out.drew.drew.cnt (XL.out.on (Stay.refl _ _).drew.drew) (HQ.out.on (Stay.refl _ _).drew.drew) (by have h8 := XW.out; have h9 := HM.out; simp only [Tr.wt] at h8 ⊢; omega)).mono ?_
      rintro e w9 ⟨p9, rfl, ii, bc, kk⟩
      refine hK.out _ _ (putHeldlQ (HS.out.drew.drew.on HC.out kk bc) HX.out) (fun hHeld => ?_)
      clear hK K 
      have K9 := aside (show Keeps (OnC c) W w9 from ⟨kk.os, kk.tape, kk.output, kk.size, kk.block⟩)
      have m9 := blk_keep HMd.out K9.out (HC.out.lt (by have := US.out; have := W1.out; have := E5.out; have := E6.out; omega))
      have m0 := cell_one m9
      have z0 := frozen_one m9
      have FIN := aside (putStepQ (x := x) HI.out HC.out (by have := US.out; have := W1.out; have := E5.out; have := E6.out; omega) K9.out (by have h9 := bc; rw [show Tr.stepC k x.t (Tr.ups k (Tr.node .nil k v s .nil) (pre'.map (·.t))) = Tr.levelC x.l (Tr.ups k (Tr.node .nil k v s .nil) (pre'.map (·.t))) from by simp only [Tr.stepC, BEQ.t, HQ1.out, if_false, Bool.false_eq_true]]; exact h9) (by have h9 := ii; rw [show Tr.step k x.t (Tr.ups k (Tr.node .nil k v s .nil) (pre'.map (·.t))) = Tr.level x.k x.v x.s x.l (Tr.ups k (Tr.node .nil k v s .nil) (pre'.map (·.t))) from by simp only [Tr.step, BEQ.t, HQ1.out, if_false, Bool.false_eq_true]]; exact h9))
      clear ii bc kk
      refine wpAnyH_ready (rs := [11]) (by kernel_rfl) (by simp) ?_
      refine AllReadyH.cons rfl (fun K hK => ?_) AllReadyH.nil
      go_simp
      refine hK.out _ _ (putSetlQ hHeld HX.out HS.out K9.out HC.out m9) (fun hHeld => ?_)
      clear hK K 
      refine wpAnyH_done (by kernel_rfl) ?_ _
      clear hHeld m0 z0
      gi_wp2
      exact FIN.out
    · have HQ1 := aside (show kLt k x.k = true from hq1)
      gi_wp2_with fail
      refine wpIn_region_held (S := fun X => X.cell? ⟨w.heap.size, 0, none⟩ = some (.pointer (some ⟨tb, 0, none⟩)) ∧ X.cell? ⟨x.b, 0, none⟩ = some (.string x.k) ∧ X.cell? ⟨x.b, 1, none⟩ = some (.int .i64 x.v) ∧ X.cell? ⟨x.b, 2, none⟩ = some (.string x.s) ∧ X.cell? ⟨x.b, 4, none⟩ = some (.pointer rp)) (by kernel_rfl) (by kernel_rfl) (fun ⟨_, _, h⟩ => h) (putHeldrQ HS.out.drew.drew HX.out) (fun hHeld => ?_)
      refine wpAnyH_take (i := 0) (v := ?_) rfl (by kernel_rfl) (by kernel_rfl) (by kernel_rfl) (fun _ _ _ h => h) (Or.inl ⟨by rfl, ?_⟩) (by assumption) ?_
      rotate_left
      · intro w hSw
        go_simp
        try with_reducible rfl
      simp only [Act.put, List.getElem_toArray, List.getElem_cons_zero, List.setIfInBounds_toArray, List.set_cons_zero, List.set_cons_succ]
      refine wpAnyH_take (i := 1) (v := ?_) rfl (by kernel_rfl) (by kernel_rfl) (by kernel_rfl) (fun _ _ _ h => h) (Or.inl ⟨by rfl, ?_⟩) (by assumption) ?_
      rotate_left
      · intro w hSw
        go_simp
        try with_reducible rfl
      simp only [Act.put, List.getElem_toArray, List.getElem_cons_zero, List.getElem_cons_succ, List.setIfInBounds_toArray, List.set_cons_zero, List.set_cons_succ]
      refine wpAnyH_take (i := 2) (v := ?_) rfl (by kernel_rfl) (by kernel_rfl) (by kernel_rfl) (fun _ _ _ h => h) (Or.inl ⟨by rfl, ?_⟩) (by assumption) ?_
      rotate_left
      · intro w hSw
        go_simp
        try with_reducible rfl
      simp only [Act.put, List.getElem_toArray, List.getElem_cons_zero, List.getElem_cons_succ, List.setIfInBounds_toArray, List.set_cons_zero, List.set_cons_succ]
      refine wpAnyH_take (i := 3) (v := ?_) rfl (by kernel_rfl) (by kernel_rfl) (by kernel_rfl) (fun _ _ _ h => h) (Or.inl ⟨by rfl, ?_⟩) (by assumption) ?_
      rotate_left
      · intro w hSw
        go_simp
        try with_reducible rfl
      simp only [Act.put, List.getElem_toArray, List.getElem_cons_zero, List.getElem_cons_succ, List.setIfInBounds_toArray, List.set_cons_zero, List.set_cons_succ]
      refine wpAnyH_take (i := 4) (v := ?_) rfl (by kernel_rfl) (by kernel_rfl) (by kernel_rfl) (fun _ _ _ h => h) (Or.inl ⟨by rfl, ?_⟩) (by assumption) ?_
      rotate_left
      · intro w hSw
        go_simp
        try with_reducible rfl
      simp only [Act.put, List.getElem_toArray, List.getElem_cons_zero, List.getElem_cons_succ, List.setIfInBounds_toArray, List.set_cons_zero, List.set_cons_succ]
      refine wpAnyH_take (i := 6) (v := ?_) rfl (by kernel_rfl) (by kernel_rfl) (by kernel_rfl) (fun _ _ _ h => h) (Or.inl ⟨by rfl, ?_⟩) (by assumption) ?_
      rotate_left
      · intro w hSw
        go_simp
        try with_reducible rfl
      simp only [Act.put, List.getElem_toArray, List.getElem_cons_zero, List.getElem_cons_succ, List.setIfInBounds_toArray, List.set_cons_zero, List.set_cons_succ]
      refine wpAnyH_take (i := 7) (v := ?_) rfl (by kernel_rfl) (by kernel_rfl) (by kernel_rfl) (fun _ _ _ h => h) (Or.inl ⟨by rfl, ?_⟩) (by assumption) ?_
      rotate_left
      · intro w hSw
        go_simp
        try with_reducible rfl
      simp only [Act.put, List.getElem_toArray, List.getElem_cons_zero, List.getElem_cons_succ, List.setIfInBounds_toArray, List.set_cons_zero, List.set_cons_succ]
      refine wpAnyH_take (i := 8) (v := ?_) rfl (by kernel_rfl) (by kernel_rfl) (by kernel_rfl) (fun _ _ _ h => h) (Or.inl ⟨by rfl, ?_⟩) (by assumption) ?_
      rotate_left
      · intro w hSw
        go_simp
        try with_reducible rfl
      simp only [Act.put, List.getElem_toArray, List.getElem_cons_zero, List.getElem_cons_succ, List.setIfInBounds_toArray, List.set_cons_zero, List.set_cons_succ]
      refine wpAnyH_take (i := 9) (v := ?_) rfl (by kernel_rfl) (by kernel_rfl) (by kernel_rfl) (fun _ _ _ h => h) (Or.inl ⟨by rfl, ?_⟩) (by assumption) ?_
      rotate_left
      · intro w hSw
        go_simp
        try with_reducible rfl
      simp only [Act.put, List.getElem_toArray, List.getElem_cons_zero, List.getElem_cons_succ, List.setIfInBounds_toArray, List.set_cons_zero, List.set_cons_succ]
      have m0 := cell_one (show (World.drew (World.drew W)).heap[w2.heap.size]? = some _ from HMd.out)
      refine wpAnyH_ready (rs := [5]) (by kernel_rfl) (by simp) ?_
      refine AllReadyH.cons rfl (fun K hK => ?_) AllReadyH.nil
      go_simp
      refine hK.out _ _ (hHeld) (fun hHeld => ?_)
      clear hK K 
      clear m0
      refine wpAnyH_ready (rs := [10]) (by kernel_rfl) (by simp) ?_
      refine AllReadyH.cons rfl (fun K hK => ?_) AllReadyH.nil
      go_simp
      refine (levelQ HB x.k x.v x.s HS.out.drew.drew.tobj HS.out.drew.drew.cnt (HQ.out.on (Stay.refl _ _).drew.drew) (XR.out.on (Stay.refl _ _).drew.drew) (by have h8 := XW.out; have h9 := HM.out; simp only [Tr.wt] at h8 ⊢; omega)).mono ?_
      rintro e w9 ⟨p9, rfl, ii, bc, kk⟩
      refine hK.out _ _ (putHeldrQ (HS.out.drew.drew.on HC.out kk bc) HX.out) (fun hHeld => ?_)
      clear hK K 
      have K9 := aside (show Keeps (OnC c) W w9 from ⟨kk.os, kk.tape, kk.output, kk.size, kk.block⟩)
      have m9 := blk_keep HMd.out K9.out (HC.out.lt (by have := US.out; have := W1.out; have := E5.out; have := E6.out; omega))
      have m0 := cell_one m9
      have z0 := frozen_one m9
      have FIN := aside (putStepQ (x := x) HI.out HC.out (by have := US.out; have := W1.out; have := E5.out; have := E6.out; omega) K9.out (by have h9 := bc; rw [show Tr.stepC k x.t (Tr.ups k (Tr.node .nil k v s .nil) (pre'.map (·.t))) = Tr.levelC (Tr.ups k (Tr.node .nil k v s .nil) (pre'.map (·.t))) x.r from by simp only [Tr.stepC, BEQ.t, HQ1.out, if_true]]; exact h9) (by have h9 := ii; rw [show Tr.step k x.t (Tr.ups k (Tr.node .nil k v s .nil) (pre'.map (·.t))) = Tr.level x.k x.v x.s (Tr.ups k (Tr.node .nil k v s .nil) (pre'.map (·.t))) x.r from by simp only [Tr.step, BEQ.t, HQ1.out, if_true]]; exact h9))
      clear ii bc kk
      refine wpAnyH_ready (rs := [11]) (by kernel_rfl) (by simp) ?_
      refine AllReadyH.cons rfl (fun K hK => ?_) AllReadyH.nil
      go_simp
      refine hK.out _ _ (putSetrQ hHeld HX.out HS.out K9.out HC.out m9) (fun hHeld => ?_)
      clear hK K 
      refine wpAnyH_done (by kernel_rfl) ?_ _
      clear hHeld m0 z0
      gi_wp2
      exact FIN.out

end Go.Proofs.Ytnlmlhoddchgbaa
namespace Go.Proofs.Ytnlmlhoddchgbaa
open Go.RowKit Go.Shelf
set_option linter.unusedVariables false

attribute [local go_sem] Oper.semAt_some

set_option maxRecDepth 200000 in
set_option maxHeartbeats 8000000 in
theorem putBQ {jv : Value} {c : Option Nat} (HB : BothOkQ jv c) (nn : Nat) (hnn : 3 ≤ nn) (k : ByteArray) (v : Int) (s : ByteArray) {w : World} {tb n : Nat} {p0 : Option Addr} {T : Tr Int ByteArray} (ht : TObjQ w tb jv p0) (hc : Cnt c n w) (hT : IsTQ w p0 T) (hh : T.ht ≤ 1000000) (hcn : T.cnt ≤ 4611686018427387904) (hw : (T.ht + 2) * (T.wt sSz + 1 + sSz s) ≤ 4611686018427387904) {fl fr : Tr Int ByteArray} {fk : ByteArray} {fv : Int} {fs : ByteArray} (hF : Tr.found k T = .node fl fk fv fs fr) :
    CallsIn Fence.wide nn Try.prog 37 #[.pointer (some ⟨tb, 0, none⟩), .string k, .int .i64 v, .string s] w fun e w' => e = .returned (.tuple #[.int .i64 ((Tr.found k T).val 0), .bool (!(Tr.found k T).isNil)]) ∧ (∃ p, TObjQ w' tb jv p ∧ IsTQ w' p (Tr.put k v s T)) ∧ Cnt c (n + Tr.putC k v s T) w' ∧ Keeps (fun x => x = tb ∨ OnC c x) w w' := by
  have h1 : 1 ≤ nn := by omega
  have H0 := aside (pstQ k s ht hc)
  have HC := aside hc
  have CD := aside (downQ k H0.out.tobj (hT.on (((Stay.refl _ _).alloc _).alloc _)) hh hcn)
  have HHT := aside hh
  have HW := aside hw
  have HF := aside hF
  clear ht hc hT hh hcn hw hF
  refine callsIn_of_wp_marks Try.func37 rfl trivial ?_ rfl
  simp only [Try.ntmps37, List.size_toArray, List.length_cons, List.length_nil, Nat.reduceAdd, Nat.reduceSub, Array.replicate_succ, Array.replicate_zero, List.push_toArray, List.append_toArray, List.nil_append, List.cons_append]
  gi_wp2
  refine ⟨trivial, ?_⟩
  refine (callsIn_wide.2 CD.out).mono ?_
  rintro e w1 ⟨pre, p, bb, cap, rfl, d1, d2, d3, d4, d5⟩
  rw [HF.out] at d1
  have H1 := aside (H0.out.below HC.out d3)
  have HR := aside (putRowsQ d2 d4 d5)
  have US := aside (show w.heap.size ≤ (((w.alloc (.cells #[.pointer (some ⟨tb, 0, none⟩)] 79)).alloc (.cells #[.string k] 9))).heap.size from by simp; omega)
  obtain ⟨fb, flp, frp, rfl, hfb, hfl, hfr⟩ := d1
  have HFL := aside hfl
  have HFR := aside hfr
  have hn := nodeQ (blk_on hfb d3)
  obtain ⟨-, n0, -, n1, n2, -, -, -⟩ := hn
  clear d2 d3 d4 d5 CD H0 hfb hfl hfr
  generalize (w.alloc (.cells #[.pointer (some ⟨tb, 0, none⟩)] 79)).alloc (.cells #[.string k] 9) = U at *
  have c0 := cell_one H1.out.bt
  have c1 := cell_one H1.out.bk
  skip
  gi_wp2_with fail
  refine wpIn_wide.2 (wp_region_noPanic ?_)
  refine wp_region_held_drew (S := fun X => X.cell? ⟨fb, 1, none⟩ = some (.int .i64 fv) ∧ X.cell? ⟨fb, 3, none⟩ = some (.pointer flp) ∧ X.cell? ⟨fb, 4, none⟩ = some (.pointer frp)) (by kernel_rfl) ⟨n0, n1, n2⟩ (fun hHeld => ?_)
  refine wpAnyH_take (i := 0) (v := ?_) rfl (by kernel_rfl) (by kernel_rfl) (by kernel_rfl) (fun _ _ _ h => h) (Or.inl ⟨by rfl, ?_⟩) (by assumption) ?_
  rotate_left
  · intro w hSw
    go_simp
    try with_reducible rfl
  simp only [Act.put, List.getElem_toArray, List.getElem_cons_zero, List.setIfInBounds_toArray, List.set_cons_zero, List.set_cons_succ]
  refine wpAnyH_take (i := 1) (v := ?_) rfl (by kernel_rfl) (by kernel_rfl) (by kernel_rfl) (fun _ _ _ h => h) (Or.inl ⟨by rfl, ?_⟩) (by assumption) ?_
  rotate_left
  · intro w hSw
    go_simp
    try with_reducible rfl
  simp only [Act.put, List.getElem_toArray, List.getElem_cons_zero, List.getElem_cons_succ, List.setIfInBounds_toArray, List.set_cons_zero, List.set_cons_succ]
  refine wpAnyH_take (i := 2) (v := ?_) rfl (by kernel_rfl) (by kernel_rfl) (by kernel_rfl) (fun _ _ _ h => h) (Or.inl ⟨by rfl, ?_⟩) (by assumption) ?_
  rotate_left
  · intro w hSw
    go_simp
    try with_reducible rfl
  simp only [Act.put, List.getElem_toArray, List.getElem_cons_zero, List.getElem_cons_succ, List.setIfInBounds_toArray, List.set_cons_zero, List.set_cons_succ]
  refine wpAnyH_take (i := 3) (v := ?_) rfl (by kernel_rfl) (by kernel_rfl) (by kernel_rfl) (fun _ _ _ h => h) (Or.inl ⟨by rfl, ?_⟩) (by assumption) ?_
  rotate_left
  · intro w hSw
    go_simp
    try with_reducible rfl
  simp only [Act.put, List.getElem_toArray, List.getElem_cons_zero, List.getElem_cons_succ, List.setIfInBounds_toArray, List.set_cons_zero, List.set_cons_succ]
  refine wpAnyH_take (i := 4) (v := ?_) rfl (by kernel_rfl) (by kernel_rfl) (by kernel_rfl) (fun _ _ _ h => h) (Or.inl ⟨by rfl, ?_⟩) (by assumption) ?_
  rotate_left
  · intro w hSw
    go_simp
    try with_reducible rfl
  simp only [Act.put, List.getElem_toArray, List.getElem_cons_zero, List.getElem_cons_succ, List.setIfInBounds_toArray, List.set_cons_zero, List.set_cons_succ]
  refine wpAnyH_take (i := 5) (v := ?_) rfl (by kernel_rfl) (by kernel_rfl) (by kernel_rfl) (fun _ _ _ h => h) (Or.inl ⟨by rfl, ?_⟩) (by assumption) ?_
  rotate_left
  · intro w hSw
    go_simp
    try with_reducible rfl
  simp only [Act.put, List.getElem_toArray, List.getElem_cons_zero, List.getElem_cons_succ, List.setIfInBounds_toArray, List.set_cons_zero, List.set_cons_succ]
  refine wpAnyH_take (i := 6) (v := ?_) rfl (by kernel_rfl) (by kernel_rfl) (by kernel_rfl) (fun _ _ _ h => h) (Or.inl ⟨by rfl, ?_⟩) (by assumption) ?_
  rotate_left
  · intro w hSw
    go_simp
    try with_reducible rfl
  simp only [Act.put, List.getElem_toArray, List.getElem_cons_zero, List.getElem_cons_succ, List.setIfInBounds_toArray, List.set_cons_zero, List.set_cons_succ]
  refine wpAnyH_take (i := 7) (v := ?_) rfl (by kernel_rfl) (by kernel_rfl) (by kernel_rfl) (fun _ _ _ h => h) (Or.inl ⟨by rfl, ?_⟩) (by assumption) ?_
  rotate_left
  · intro w hSw
    go_simp
    try with_reducible rfl
  simp only [Act.put, List.getElem_toArray, List.getElem_cons_zero, List.getElem_cons_succ, List.setIfInBounds_toArray, List.set_cons_zero, List.set_cons_succ]
  refine wpAnyH_take (i := 8) (v := ?_) rfl (by kernel_rfl) (by kernel_rfl) (by kernel_rfl) (fun _ _ _ h => h) (Or.inl ⟨by rfl, ?_⟩) (by assumption) ?_
  rotate_left
  · intro w hSw
    go_simp
    try with_reducible rfl
  simp only [Act.put, List.getElem_toArray, List.getElem_cons_zero, List.getElem_cons_succ, List.setIfInBounds_toArray, List.set_cons_zero, List.set_cons_succ]
  refine wpAnyH_take (i := 9) (v := ?_) rfl (by kernel_rfl) (by kernel_rfl) (by kernel_rfl) (fun _ _ _ h => h) (Or.inl ⟨by rfl, ?_⟩) (by assumption) ?_
  rotate_left
  · intro w hSw
    go_simp
    try with_reducible rfl
  simp only [Act.put, List.getElem_toArray, List.getElem_cons_zero, List.getElem_cons_succ, List.setIfInBounds_toArray, List.set_cons_zero, List.set_cons_succ]
  refine wpAnyH_take (i := 10) (v := ?_) rfl (by kernel_rfl) (by kernel_rfl) (by kernel_rfl) (fun _ _ _ h => h) (Or.inl ⟨by rfl, ?_⟩) (by assumption) ?_
  rotate_left
  · intro w hSw
    go_simp
    try with_reducible rfl
  simp only [Act.put, List.getElem_toArray, List.getElem_cons_zero, List.getElem_cons_succ, List.setIfInBounds_toArray, List.set_cons_zero, List.set_cons_succ]
  refine wpAnyH_take (i := 11) (v := ?_) rfl (by kernel_rfl) (by kernel_rfl) (by kernel_rfl) (fun _ _ _ h => h) (Or.inl ⟨by rfl, ?_⟩) (by assumption) ?_
  rotate_left
  · intro w hSw
    go_simp
    try with_reducible rfl
  simp only [Act.put, List.getElem_toArray, List.getElem_cons_zero, List.getElem_cons_succ, List.setIfInBounds_toArray, List.set_cons_zero, List.set_cons_succ]
  refine wpAnyH_take (i := 12) (v := ?_) rfl (by kernel_rfl) (by kernel_rfl) (by kernel_rfl) (fun _ _ _ h => h) (Or.inl ⟨by rfl, ?_⟩) (by assumption) ?_
  rotate_left
  · intro w hSw
    go_simp
    try with_reducible rfl
  simp only [Act.put, List.getElem_toArray, List.getElem_cons_zero, List.getElem_cons_succ, List.setIfInBounds_toArray, List.set_cons_zero, List.set_cons_succ]
  refine wpAnyH_take (i := 13) (v := ?_) rfl (by kernel_rfl) (by kernel_rfl) (by kernel_rfl) (fun _ _ _ h => h) (Or.inl ⟨by rfl, ?_⟩) (by assumption) ?_
  rotate_left
  · intro w hSw
    go_simp
    try with_reducible rfl
  simp only [Act.put, List.getElem_toArray, List.getElem_cons_zero, List.getElem_cons_succ, List.setIfInBounds_toArray, List.set_cons_zero, List.set_cons_succ]
  refine wpAnyH_take (i := 14) (v := ?_) rfl (by kernel_rfl) (by kernel_rfl) (by kernel_rfl) (fun _ _ _ h => h) (Or.inl ⟨by rfl, ?_⟩) (by assumption) ?_
  rotate_left
  · intro w hSw
    go_simp
    try with_reducible rfl
  simp only [Act.put, List.getElem_toArray, List.getElem_cons_zero, List.getElem_cons_succ, List.setIfInBounds_toArray, List.set_cons_zero, List.set_cons_succ]
  refine wpAnyH_take (i := 15) (v := ?_) rfl (by kernel_rfl) (by kernel_rfl) (by kernel_rfl) (fun _ _ _ h => h) (Or.inl ⟨by rfl, ?_⟩) (by assumption) ?_
  rotate_left
  · intro w hSw
    go_simp
    try with_reducible rfl
  simp only [Act.put, List.getElem_toArray, List.getElem_cons_zero, List.getElem_cons_succ, List.setIfInBounds_toArray, List.set_cons_zero, List.set_cons_succ]
  refine wpAnyH_done (by kernel_rfl) (NoPanic.normal ?_) _
  have c0' := cell_one H1.out.drew.bt
  have c1' := cell_one H1.out.drew.bk
  skip
  clear hHeld
  gi_wp2_with fail
  have H1' := aside H1.out.drew
  clear c0' c1'
  refine ⟨trivial, ?_⟩
  refine (callsIn_wide.2 (hangQ HB (l := fl) (r := fr) k v s H1'.out.tobj H1'.out.cnt (HFL.out.on H1'.out.stay) (HFR.out.on H1'.out.stay) (putFitBQ HF.out HW.out))).mono ?_
  rintro e w2 ⟨p1, rfl, i1, bc, kk⟩
  have H2 := aside (H1'.out.on HC.out kk bc)
  have I1 := aside i1
  obtain ⟨es, e1, e2, e3, e4, e5, e6⟩ := HR.out
  have HL := aside (show pre.length ≤ 1000000 from by have h2 := Tr.path_le k T; rw [← e3, List.length_map, e1] at h2; have := HHT.out; omega)
  have W1 := aside (show w1.heap.size ≤ w2.heap.size from kk.size)
  have E4 := aside (fun j h => (kk.cell (p := ⟨bb, j, none⟩) (by have := e5; exact this) (HC.out.lt (by dsimp only; have := US.out; omega))).trans (e4 j h))
  have E1 := aside e1
  have E2 := aside e2
  have E3 := aside e3
  have E5 := aside e5
  have E6 := aside e6
  clear i1 bc kk e1 e2 e3 e4 e5 e6 HR H1' c0 c1 H1 n0 n1 n2
  gi_wp2_with fail
  refine ⟨trivial, ?_⟩
  refine (bkQ (nn - 1) _ _ _ _).mono ?_
  rintro e w3 ⟨rfl, rfl⟩
  gi_wp2_with fail
  have HP := aside (putMidQ (T := T) H2.out I1.out HC.out US.out E4.out E5.out E6.out W1.out (len := pre.length) (cap := cap))
  generalize hW0 : (w2.alloc (.cells #[.pointer p1] 117)).alloc (.cells #[.slice (some ⟨bb, 0, none⟩) pre.length cap] 120) = W0 at *
  obtain ⟨P1, P2, P3, P4, P5, P6, P7, P8⟩ := HP.out
  clear hW0 HP H2 I1 E4
  refine wpIn_rangeFunc_ownG rfl h1 (gf := 83) (lb := #[.pointer (some ⟨w2.heap.size + 1, 0, none⟩)]) rfl trivial (enters_of Try.func83 (by kernel_rfl) rfl)
    (bkStopsQ es c (nn - 1) (by omega) (w2.heap.size + 1) w2.heap.size W0.heap.size bb pre.length cap W0 E1.out HL.out P4 P5 (Nat.le_refl _) P6 P7 (by omega) (by have := E5.out; have := W1.out; omega) (cell_one P2) E2.out P3)
    KpC.t (KpC.b (Nat.le_refl _)) (Below.refl _ _) (fun _ => rfl)
    (PIQ w U W0 tb (n + Tr.hangC fl fr) w2.heap.size (T.wt sSz) jv p0 c k s (Tr.node fl k v s fr))
    (fun _ _ _ => False) (PIQ.own P8) (fun _ s A B row h => h.elim) P1 ?a1 ?assign ?body ?done ?stop
  case assign =>
    intro l x W K hK
    dsimp only [encsQ]
    gi_wp2
    exact hK
  case stop =>
    rintro D cc pre' W hD _ h
    exact h.elim
  case done =>
    rintro D ys W hD rfl hI hK
    obtain ⟨st, ⟨q, hm, hq⟩, kp⟩ := hI
    have c0 := cell_one st.bt
    have c1 := cell_one hm
    obtain ⟨-, -, r0, z0⟩ := tobjQ st.tobj
    have hK' := (KeepsOthers.setCell W ⟨tb, 2, none⟩ (.pointer q)).same D _ hK rfl
    have HE := aside (putEndQ (o' := .deferred none) st hq hK rfl (by omega))
    have hu : Tr.ups k (Tr.node fl k v s fr) (es.reverse.map (·.t)) = Tr.put k v s T := by
      have hp := Tr.put_ups k v s T
      rw [HF.out] at hp
      rw [List.map_reverse, E3.out]
      exact hp
    have hcs : (n + Tr.hangC fl fr) + Tr.upsC k (Tr.node fl k v s fr) (es.reverse.map (·.t)) = n + Tr.putC k v s T := by
      unfold Tr.putC
      rw [HF.out, List.map_reverse, E3.out, Nat.add_assoc]
      rfl
    rw [hu, hcs] at HE
    clear hm hq kp st hu hcs
    gi_wp2
    refine ⟨by simp, .inl ⟨_, _, rfl, run_takeDeferred hK', ?_⟩⟩
    refine ⟨.tuple #[.int .i64 fv, .bool true], by simp [results, Try.f37, go_sem], by rw [HF.out]; rfl, HE.out.1, HE.out.2.1, HE.out.2.2⟩
  case body =>
    rintro l pre' x W hI hlt
    have HI := aside hI
    have HM := aside (putRoomQ E1.out E3.out hlt (putBaseBQ (v := v) HF.out) HW.out)
    obtain ⟨st, ⟨q, hm, hq⟩, kp⟩ := hI
    obtain ⟨xb, lp, rp, xe, hxb, hxl, hxr⟩ := x.ok
    injection xe with xe
    injection xe with xe
    have HX := aside (show U.heap[x.b]? = some _ from xe ▸ hxb)
    have XL := aside (hxl.on st.stay)
    have XR := aside (hxr.on st.stay)
    have HQ := aside hq
    have HS := aside st
    have HMd := aside hm
    have XW := aside (show (Tr.node x.l x.k x.v x.s x.r).wt sSz ≤ T.wt sSz from x.le)
    clear st hm hq kp hxb hxl hxr xe hlt
    have kc := cell_one HS.out.bk
    gi_wp2_with fail
    refine wpIn_region_held (S := fun X => X.cell? ⟨w.heap.size + 1, 0, none⟩ = some (.string k) ∧ X.cell? ⟨x.b, 0, none⟩ = some (.string x.k)) (by kernel_rfl) (by kernel_rfl) (fun ⟨_, _, h⟩ => h) ⟨cell_one HS.out.drew.bk, (nodeQ (HS.out.drew.stay _ _ HX.out)).1⟩ (fun hHeld => ?_)
    refine wpAnyH_take (i := 0) (v := ?_) rfl (by kernel_rfl) (by kernel_rfl) (by kernel_rfl) (fun _ _ _ h => h) (Or.inl ⟨by rfl, ?_⟩) (by assumption) ?_
    rotate_left
    · intro w hSw
      go_simp
      try with_reducible rfl
    simp only [Act.put, List.getElem_toArray, List.getElem_cons_zero, List.setIfInBounds_toArray, List.set_cons_zero, List.set_cons_succ]
    refine wpAnyH_take (i := 1) (v := ?_) rfl (by kernel_rfl) (by kernel_rfl) (by kernel_rfl) (fun _ _ _ h => h) (Or.inl ⟨by rfl, ?_⟩) (by assumption) ?_
    rotate_left
    · intro w hSw
      go_simp
      try with_reducible rfl
    simp only [Act.put, List.getElem_toArray, List.getElem_cons_zero, List.getElem_cons_succ, List.setIfInBounds_toArray, List.set_cons_zero, List.set_cons_succ]
    refine wpAnyH_take (i := 2) (v := ?_) rfl (by kernel_rfl) (by kernel_rfl) (by kernel_rfl) (fun _ _ _ h => h) (Or.inl ⟨by rfl, ?_⟩) (by assumption) ?_
    rotate_left
    · intro w hSw
      go_simp
      try with_reducible rfl
    simp only [Act.put, List.getElem_toArray, List.getElem_cons_zero, List.getElem_cons_succ, List.setIfInBounds_toArray, List.set_cons_zero, List.set_cons_succ]
    refine wpAnyH_take (i := 3) (v := ?_) rfl (by kernel_rfl) (by kernel_rfl) (by kernel_rfl) (fun _ _ _ h => h) (Or.inl ⟨by rfl, ?_⟩) (by assumption) ?_
    rotate_left
    · intro w hSw
      go_simp
      try with_reducible rfl
    simp only [Act.put, List.getElem_toArray, List.getElem_cons_zero, List.getElem_cons_succ, List.setIfInBounds_toArray, List.set_cons_zero, List.set_cons_succ]
    refine wpAnyH_take (i := 4) (v := ?_) rfl (by kernel_rfl) (by kernel_rfl) (by kernel_rfl) (fun _ _ _ h => h) (Or.inl ⟨by rfl, ?_⟩) (by assumption) ?_
    rotate_left
    · intro w hSw
      go_simp
      try with_reducible rfl
    simp only [Act.put, List.getElem_toArray, List.getElem_cons_zero, List.getElem_cons_succ, List.setIfInBounds_toArray, List.set_cons_zero, List.set_cons_succ]
    refine wpAnyH_take (i := 5) (v := ?_) rfl (by kernel_rfl) (by kernel_rfl) (by kernel_rfl) (fun _ _ _ h => h) (Or.inl ⟨by rfl, ?_⟩) (by assumption) ?_
    rotate_left
    · intro w hSw
      go_simp
      try with_reducible rfl
    simp only [Act.put, List.getElem_toArray, List.getElem_cons_zero, List.getElem_cons_succ, List.setIfInBounds_toArray, List.set_cons_zero, List.set_cons_succ]
    refine wpAnyH_take (i := 6) (v := ?_) rfl (by kernel_rfl) (by kernel_rfl) (by kernel_rfl) (fun _ _ _ h => h) (Or.inl ⟨by rfl, ?_⟩) (by assumption) ?_
    rotate_left
    · intro w hSw
      go_simp
      try with_reducible rfl
    simp only [Act.put, List.getElem_toArray, List.getElem_cons_zero, List.getElem_cons_succ, List.setIfInBounds_toArray, List.set_cons_zero, List.set_cons_succ]
    refine wpAnyH_done (by kernel_rfl) ?_ _
    clear hHeld kc
    cases hq1 : Op.bytesLess k.toList x.k.toList
    · have HQ1 := aside (show kLt k x.k = false from hq1)
      gi_wp2_with fail
      refine wpIn_region_held (S := fun X => X.cell? ⟨w.heap.size, 0, none⟩ = some (.pointer (some ⟨tb, 0, none⟩)) ∧ X.cell? ⟨x.b, 0, none⟩ = some (.string x.k) ∧ X.cell? ⟨x.b, 1, none⟩ = some (.int .i64 x.v) ∧ X.cell? ⟨x.b, 2, none⟩ = some (.string x.s) ∧ X.cell? ⟨x.b, 3, none⟩ = some (.pointer lp)) (by kernel_rfl) (by kernel_rfl) (fun ⟨_, _, h⟩ => h) (putHeldlQ HS.out.drew.drew HX.out) (fun hHeld => ?_)
      refine wpAnyH_take (i := 0) (v := ?_) rfl (by kernel_rfl) (by kernel_rfl) (by kernel_rfl) (fun _ _ _ h => h) (Or.inl ⟨by rfl, ?_⟩) (by assumption) ?_
      rotate_left
      · intro w hSw
        go_simp
        try with_reducible rfl
      simp only [Act.put, List.getElem_toArray, List.getElem_cons_zero, List.setIfInBounds_toArray, List.set_cons_zero, List.set_cons_succ]
      refine wpAnyH_take (i := 1) (v := ?_) rfl (by kernel_rfl) (by kernel_rfl) (by kernel_rfl) (fun _ _ _ h => h) (Or.inl ⟨by rfl, ?_⟩) (by assumption) ?_
      rotate_left
      · intro w hSw
        go_simp
        try with_reducible rfl
      simp only [Act.put, List.getElem_toArray, List.getElem_cons_zero, List.getElem_cons_succ, List.setIfInBounds_toArray, List.set_cons_zero, List.set_cons_succ]
      refine wpAnyH_take (i := 2) (v := ?_) rfl (by kernel_rfl) (by kernel_rfl) (by kernel_rfl) (fun _ _ _ h => h) (Or.inl ⟨by rfl, ?_⟩) (by assumption) ?_
      rotate_left
      · intro w hSw
        go_simp
        try with_reducible rfl
      simp only [Act.put, List.getElem_toArray, List.getElem_cons_zero, List.getElem_cons_succ, List.setIfInBounds_toArray, List.set_cons_zero, List.set_cons_succ]
      refine wpAnyH_take (i := 3) (v := ?_) rfl (by kernel_rfl) (by kernel_rfl) (by kernel_rfl) (fun _ _ _ h => h) (Or.inl ⟨by rfl, ?_⟩) (by assumption) ?_
      rotate_left
      · intro w hSw
        go_simp
        try with_reducible rfl
      simp only [Act.put, List.getElem_toArray, List.getElem_cons_zero, List.getElem_cons_succ, List.setIfInBounds_toArray, List.set_cons_zero, List.set_cons_succ]
      refine wpAnyH_take (i := 4) (v := ?_) rfl (by kernel_rfl) (by kernel_rfl) (by kernel_rfl) (fun _ _ _ h => h) (Or.inl ⟨by rfl, ?_⟩) (by assumption) ?_
      rotate_left
      · intro w hSw
        go_simp
        try with_reducible rfl
      simp only [Act.put, List.getElem_toArray, List.getElem_cons_zero, List.getElem_cons_succ, List.setIfInBounds_toArray, List.set_cons_zero, List.set_cons_succ]
      refine wpAnyH_take (i := 5) (v := ?_) rfl (by kernel_rfl) (by kernel_rfl) (by kernel_rfl) (fun _ _ _ h => h) (Or.inl ⟨by rfl, ?_⟩) (by assumption) ?_
      rotate_left
      · intro w hSw
        go_simp
        try with_reducible rfl
      simp only [Act.put, List.getElem_toArray, List.getElem_cons_zero, List.getElem_cons_succ, List.setIfInBounds_toArray, List.set_cons_zero, List.set_cons_succ]
      refine wpAnyH_take (i := 6) (v := ?_) rfl (by kernel_rfl) (by kernel_rfl) (by kernel_rfl) (fun _ _ _ h => h) (Or.inl ⟨by rfl, ?_⟩) (by assumption) ?_
      rotate_left
      · intro w hSw
        go_simp
        try with_reducible rfl
      simp only [Act.put, List.getElem_toArray, List.getElem_cons_zero, List.getElem_cons_succ, List.setIfInBounds_toArray, List.set_cons_zero, List.set_cons_succ]
      refine wpAnyH_take (i := 7) (v := ?_) rfl (by kernel_rfl) (by kernel_rfl) (by kernel_rfl) (fun _ _ _ h => h) (Or.inl ⟨by rfl, ?_⟩) (by assumption) ?_
      rotate_left
      · intro w hSw
        go_simp
        try with_reducible rfl
      simp only [Act.put, List.getElem_toArray, List.getElem_cons_zero, List.getElem_cons_succ, List.setIfInBounds_toArray, List.set_cons_zero, List.set_cons_succ]
      refine wpAnyH_take (i := 8) (v := ?_) rfl (by kernel_rfl) (by kernel_rfl) (by kernel_rfl) (fun _ _ _ h => h) (Or.inl ⟨by rfl, ?_⟩) (by assumption) ?_
      rotate_left
      · intro w hSw
        go_simp
        try with_reducible rfl
      simp only [Act.put, List.getElem_toArray, List.getElem_cons_zero, List.getElem_cons_succ, List.setIfInBounds_toArray, List.set_cons_zero, List.set_cons_succ]
      have m0 := cell_one (show (World.drew (World.drew W)).heap[w2.heap.size]? = some _ from HMd.out)
      refine wpAnyH_ready (rs := [9]) (by kernel_rfl) (by simp) ?_
      refine AllReadyH.cons rfl (fun K hK => ?_) AllReadyH.nil
      go_simp
      refine hK.out _ _ (hHeld) (fun hHeld => ?_)
      clear hK K 
      clear m0
      refine wpAnyH_ready (rs := [10]) (by kernel_rfl) (by simp) ?_
      refine AllReadyH.cons rfl (fun K hK => ?_) AllReadyH.nil
      go_simp
      refine (levelQ HB x.k x.v x.s HS.out.drew.drew.tobj HS.out.drew.drew.cnt (XL.out.on (Stay.refl _ _).drew.drew) (HQ.out.on (Stay.refl _ _).drew.drew) (by have h8 := XW.out; have h9 := HM.out; simp only [Tr.wt] at h8 ⊢; omega)).mono ?_
      rintro e w9 ⟨p9, rfl, ii, bc, kk⟩
      refine hK.out _ _ (putHeldlQ (HS.out.drew.drew.on HC.out kk bc) HX.out) (fun hHeld => ?_)
      clear hK K 
      have K9 := aside (show Keeps (OnC c) W w9 from ⟨kk.os, kk.tape, kk.output, kk.size, kk.block⟩)
      have m9 := blk_keep HMd.out K9.out (HC.out.lt (by have := US.out; have := W1.out; have := E5.out; have := E6.out; omega))
      have m0 := cell_one m9
      have z0 := frozen_one m9
      have FIN := aside (putStepQ (x := x) HI.out HC.out (by have := US.out; have := W1.out; have := E5.out; have := E6.out; omega) K9.out (by have h9 := bc; rw [show Tr.stepC k x.t (Tr.ups k (Tr.node fl k v s fr) (pre'.map (·.t))) = Tr.levelC x.l (Tr.ups k (Tr.node fl k v s fr) (pre'.map (·.t))) from by simp only [Tr.stepC, BEQ.t, HQ1.out, if_false, Bool.false_eq_true]]; exact h9) (by have h9 := ii; rw [show Tr.step k x.t (Tr.ups k (Tr.node fl k v s fr) (pre'.map (·.t))) = Tr.level x.k x.v x.s x.l (Tr.ups k (Tr.node fl k v s fr) (pre'.map (·.t))) from by simp only [Tr.step, BEQ.t, HQ1.out, if_false, Bool.false_eq_true]]; exact h9))
      clear ii bc kk
      refine wpAnyH_ready (rs := [11]) (by kernel_rfl) (by simp) ?_
      refine AllReadyH.cons rfl (fun K hK => ?_) AllReadyH.nil
      go_simp
      refine hK.out _ _ (putSetlQ hHeld HX.out HS.out K9.out HC.out m9) (fun hHeld => ?_)
      clear hK K 
      refine wpAnyH_done (by kernel_rfl) ?_ _
      clear hHeld m0 z0
      gi_wp2
      exact FIN.out
    · have HQ1 := aside (show kLt k x.k = true from hq1)
      gi_wp2_with fail
      refine wpIn_region_held (S := fun X => X.cell? ⟨w.heap.size, 0, none⟩ = some (.pointer (some ⟨tb, 0, none⟩)) ∧ X.cell? ⟨x.b, 0, none⟩ = some (.string x.k) ∧ X.cell? ⟨x.b, 1, none⟩ = some (.int .i64 x.v) ∧ X.cell? ⟨x.b, 2, none⟩ = some (.string x.s) ∧ X.cell? ⟨x.b, 4, none⟩ = some (.pointer rp)) (by kernel_rfl) (by kernel_rfl) (fun ⟨_, _, h⟩ => h) (putHeldrQ HS.out.drew.drew HX.out) (fun hHeld => ?_)
      refine wpAnyH_take (i := 0) (v := ?_) rfl (by kernel_rfl) (by kernel_rfl) (by kernel_rfl) (fun _ _ _ h => h) (Or.inl ⟨by rfl, ?_⟩) (by assumption) ?_
      rotate_left
      · intro w hSw
        go_simp
        try with_reducible rfl
      simp only [Act.put, List.getElem_toArray, List.getElem_cons_zero, List.setIfInBounds_toArray, List.set_cons_zero, List.set_cons_succ]
      refine wpAnyH_take (i := 1) (v := ?_) rfl (by kernel_rfl) (by kernel_rfl) (by kernel_rfl) (fun _ _ _ h => h) (Or.inl ⟨by rfl, ?_⟩) (by assumption) ?_
      rotate_left
      · intro w hSw
        go_simp
        try with_reducible rfl
      simp only [Act.put, List.getElem_toArray, List.getElem_cons_zero, List.getElem_cons_succ, List.setIfInBounds_toArray, List.set_cons_zero, List.set_cons_succ]
      refine wpAnyH_take (i := 2) (v := ?_) rfl (by kernel_rfl) (by kernel_rfl) (by kernel_rfl) (fun _ _ _ h => h) (Or.inl ⟨by rfl, ?_⟩) (by assumption) ?_
      rotate_left
      · intro w hSw
        go_simp
        try with_reducible rfl
      simp only [Act.put, List.getElem_toArray, List.getElem_cons_zero, List.getElem_cons_succ, List.setIfInBounds_toArray, List.set_cons_zero, List.set_cons_succ]
      refine wpAnyH_take (i := 3) (v := ?_) rfl (by kernel_rfl) (by kernel_rfl) (by kernel_rfl) (fun _ _ _ h => h) (Or.inl ⟨by rfl, ?_⟩) (by assumption) ?_
      rotate_left
      · intro w hSw
        go_simp
        try with_reducible rfl
      simp only [Act.put, List.getElem_toArray, List.getElem_cons_zero, List.getElem_cons_succ, List.setIfInBounds_toArray, List.set_cons_zero, List.set_cons_succ]
      refine wpAnyH_take (i := 4) (v := ?_) rfl (by kernel_rfl) (by kernel_rfl) (by kernel_rfl) (fun _ _ _ h => h) (Or.inl ⟨by rfl, ?_⟩) (by assumption) ?_
      rotate_left
      · intro w hSw
        go_simp
        try with_reducible rfl
      simp only [Act.put, List.getElem_toArray, List.getElem_cons_zero, List.getElem_cons_succ, List.setIfInBounds_toArray, List.set_cons_zero, List.set_cons_succ]
      refine wpAnyH_take (i := 6) (v := ?_) rfl (by kernel_rfl) (by kernel_rfl) (by kernel_rfl) (fun _ _ _ h => h) (Or.inl ⟨by rfl, ?_⟩) (by assumption) ?_
      rotate_left
      · intro w hSw
        go_simp
        try with_reducible rfl
      simp only [Act.put, List.getElem_toArray, List.getElem_cons_zero, List.getElem_cons_succ, List.setIfInBounds_toArray, List.set_cons_zero, List.set_cons_succ]
      refine wpAnyH_take (i := 7) (v := ?_) rfl (by kernel_rfl) (by kernel_rfl) (by kernel_rfl) (fun _ _ _ h => h) (Or.inl ⟨by rfl, ?_⟩) (by assumption) ?_
      rotate_left
      · intro w hSw
        go_simp
        try with_reducible rfl
      simp only [Act.put, List.getElem_toArray, List.getElem_cons_zero, List.getElem_cons_succ, List.setIfInBounds_toArray, List.set_cons_zero, List.set_cons_succ]
      refine wpAnyH_take (i := 8) (v := ?_) rfl (by kernel_rfl) (by kernel_rfl) (by kernel_rfl) (fun _ _ _ h => h) (Or.inl ⟨by rfl, ?_⟩) (by assumption) ?_
      rotate_left
      · intro w hSw
        go_simp
        try with_reducible rfl
      simp only [Act.put, List.getElem_toArray, List.getElem_cons_zero, List.getElem_cons_succ, List.setIfInBounds_toArray, List.set_cons_zero, List.set_cons_succ]
      refine wpAnyH_take (i := 9) (v := ?_) rfl (by kernel_rfl) (by kernel_rfl) (by kernel_rfl) (fun _ _ _ h => h) (Or.inl ⟨by rfl, ?_⟩) (by assumption) ?_
      rotate_left
      · intro w hSw
        go_simp
        try with_reducible rfl
      simp only [Act.put, List.getElem_toArray, List.getElem_cons_zero, List.getElem_cons_succ, List.setIfInBounds_toArray, List.set_cons_zero, List.set_cons_succ]
      have m0 := cell_one (show (World.drew (World.drew W)).heap[w2.heap.size]? = some _ from HMd.out)
      refine wpAnyH_ready (rs := [5]) (by kernel_rfl) (by simp) ?_
      refine AllReadyH.cons rfl (fun K hK => ?_) AllReadyH.nil
      go_simp
      refine hK.out _ _ (hHeld) (fun hHeld => ?_)
      clear hK K 
      clear m0
      refine wpAnyH_ready (rs := [10]) (by kernel_rfl) (by simp) ?_
      refine AllReadyH.cons rfl (fun K hK => ?_) AllReadyH.nil
      go_simp
      refine (levelQ HB x.k x.v x.s HS.out.drew.drew.tobj HS.out.drew.drew.cnt (HQ.out.on (Stay.refl _ _).drew.drew) (XR.out.on (Stay.refl _ _).drew.drew) (by have h8 := XW.out; have h9 := HM.out; simp only [Tr.wt] at h8 ⊢; omega)).mono ?_
      rintro e w9 ⟨p9, rfl, ii, bc, kk⟩
      refine hK.out _ _ (putHeldrQ (HS.out.drew.drew.on HC.out kk bc) HX.out) (fun hHeld => ?_)
      clear hK K 
      have K9 := aside (show Keeps (OnC c) W w9 from ⟨kk.os, kk.tape, kk.output, kk.size, kk.block⟩)
      have m9 := blk_keep HMd.out K9.out (HC.out.lt (by have := US.out; have := W1.out; have := E5.out; have := E6.out; omega))
      have m0 := cell_one m9
      have z0 := frozen_one m9
      have FIN := aside (putStepQ (x := x) HI.out HC.out (by have := US.out; have := W1.out; have := E5.out; have := E6.out; omega) K9.out (by have h9 := bc; rw [show Tr.stepC k x.t (Tr.ups k (Tr.node fl k v s fr) (pre'.map (·.t))) = Tr.levelC (Tr.ups k (Tr.node fl k v s fr) (pre'.map (·.t))) x.r from by simp only [Tr.stepC, BEQ.t, HQ1.out, if_true]]; exact h9) (by have h9 := ii; rw [show Tr.step k x.t (Tr.ups k (Tr.node fl k v s fr) (pre'.map (·.t))) = Tr.level x.k x.v x.s (Tr.ups k (Tr.node fl k v s fr) (pre'.map (·.t))) x.r from by simp only [Tr.step, BEQ.t, HQ1.out, if_true]]; exact h9))
      clear ii bc kk
      refine wpAnyH_ready (rs := [11]) (by kernel_rfl) (by simp) ?_
      refine AllReadyH.cons rfl (fun K hK => ?_) AllReadyH.nil
      go_simp
      refine hK.out _ _ (putSetrQ hHeld HX.out HS.out K9.out HC.out m9) (fun hHeld => ?_)
      clear hK K 
      refine wpAnyH_done (by kernel_rfl) ?_ _
      clear hHeld m0 z0
      gi_wp2
      exact FIN.out

end Go.Proofs.Ytnlmlhoddchgbaa
namespace Go.Proofs.Ytnlmlhoddchgbaa
open Go.RowKit Go.Shelf
set_option linter.unusedVariables false

theorem putQ {jv : Value} {c : Option Nat} (HB : BothOkQ jv c) (k : ByteArray) (v : Int) (s : ByteArray) {w : World} {tb n : Nat} {p0 : Option Addr} {T : Tr Int ByteArray} (ht : TObjQ w tb jv p0) (hc : Cnt c n w) (hT : IsTQ w p0 T) (hh : T.ht ≤ 1000000) (hcn : T.cnt ≤ 4611686018427387904) (hw : (T.ht + 2) * (T.wt sSz + 1 + sSz s) ≤ 4611686018427387904) :
    Calls Try.prog 37 #[.pointer (some ⟨tb, 0, none⟩), .string k, .int .i64 v, .string s] w fun e w' => e = .returned (.tuple #[.int .i64 ((Tr.found k T).val 0), .bool (!(Tr.found k T).isNil)]) ∧ (∃ p, TObjQ w' tb jv p ∧ IsTQ w' p (Tr.put k v s T)) ∧ Cnt c (n + Tr.putC k v s T) w' ∧ Keeps (fun x => x = tb ∨ OnC c x) w w' := by
  refine (callsIn_wide (n := 3)).1 ?_
  cases hF : Tr.found k T with
  | nil => rw [← hF]; exact putAQ HB 3 (Nat.le_refl _) k v s ht hc hT hh hcn hw hF
  | node fl fk fv fs fr => rw [← hF]; exact putBQ HB 3 (Nat.le_refl _) k v s ht hc hT hh hcn hw hF

end Go.Proofs.Ytnlmlhoddchgbaa
namespace Go.Proofs.Ytnlmlhoddchgbaa
open Go.RowKit
set_option linter.unusedVariables false

/-- The tree in the block tb holds T. -/
def TreeQ (W : World) (tb : Nat) (jv : Value) (T : Tr Int ByteArray) : Prop := ∃ p, TObjQ W tb jv p ∧ IsTQ W p T

theorem TreeQ.keep {S : Nat → Prop} {W W' : World} {tb : Nat} {jv : Value} {T : Tr Int ByteArray} (h : TreeQ W tb jv T) (kk : Keeps S W W') (ht : ¬ S tb) (hS : ∀ i cs, W.heap[i]? = some (.cells cs 126 (0, 0)) → ¬ S i) : TreeQ W' tb jv T := by
  obtain ⟨p, h1, h2⟩ := h
  exact ⟨p, blk_keep h1 kk ht, h2.on ((Stay.refl _ _).keeps kk hS)⟩
theorem TreeQ.below {W W' : World} {tb : Nat} {jv : Value} {T : Tr Int ByteArray} (h : TreeQ W tb jv T) (b : Below W.heap.size W W') : TreeQ W' tb jv T := by
  obtain ⟨p, h1, h2⟩ := h
  exact ⟨p, blk_on h1 b, h2.on (fun _ _ e => blk_on e b)⟩
theorem TreeQ.drew {W : World} {tb : Nat} {jv : Value} {T : Tr Int ByteArray} (h : TreeQ W tb jv T) : TreeQ W.drew tb jv T := h.below ((Below.refl _ _).drew)
theorem TreeQ.lt {W : World} {tb : Nat} {jv : Value} {T : Tr Int ByteArray} (h : TreeQ W tb jv T) : tb < W.heap.size := by
  obtain ⟨p, h1, h2⟩ := h
  exact lt_of_blk h1
theorem TreeQ.onC {W W' : World} {tb n : Nat} {jv : Value} {T : Tr Int ByteArray} {c : Option Nat} (h : TreeQ W tb jv T) (hc : Cnt c n W) (kk : Keeps (OnC c) W W') : TreeQ W' tb jv T := by
  obtain ⟨p, h1, h2⟩ := h
  exact ⟨p, h1.onC hc kk, h2.on ((Stay.refl _ _).onC hc kk (by decide))⟩

theorem ynewQ (fn : Fn) (cap : Array Value) (w : World) :
    Calls Try.prog 35 #[.string ⟨#[]⟩, .func fn #[] cap] w fun e w' => ∃ tb, e = .returned (.pointer (some ⟨tb, 0, none⟩)) ∧ TreeQ w' tb (.func fn #[] cap) .nil ∧ Below w.heap.size w w' ∧ w.heap.size ≤ tb :=
  (newQ fn cap w).mono fun e w' ⟨tb, h1, h2, h3, h4⟩ => ⟨tb, h1, ⟨none, h2, rfl⟩, h3, h4⟩

theorem yputQ (k : ByteArray) (v : Int) (s : ByteArray) {jv : Value} {c : Option Nat} {W : World} {tb n m : Nat} {T : Tr Int ByteArray} (h : TreeQ W tb jv T) (HB : BothOkQ jv c) (hc : Cnt c n W) (g : Gd sSz T m) (hm : m + 1 + sSz s ≤ 281474976710655) :
    Calls Try.prog 37 #[.pointer (some ⟨tb, 0, none⟩), .string k, .int .i64 v, .string s] W fun e w' => e = .returned (.tuple #[.int .i64 ((Tr.found k T).val 0), .bool (!(Tr.found k T).isNil)]) ∧ TreeQ w' tb jv (Tr.put k v s T) ∧ Cnt c (n + Tr.putC k v s T) w' ∧ Keeps (fun x => x = tb ∨ OnC c x) W w' := by
  obtain ⟨p, h1, h2⟩ := h
  exact putQ HB k v s h1 hc h2 (by have := g.ht (by omega); omega) (by have := g.cnt; omega) (g.room hm)

theorem ylenQ {jv : Value} {W : World} {tb : Nat} {T : Tr Int ByteArray} (h : TreeQ W tb jv T) :
    Calls Try.prog 39 #[.pointer (some ⟨tb, 0, none⟩)] W fun e w' => e = .returned (.int .i64 (T.cnt : Int)) ∧ w' = W := by
  obtain ⟨p, h1, h2⟩ := h
  exact lenQ h1 h2

theorem yatQ (i : Int) {jv : Value} {W : World} {tb m : Nat} {T : Tr Int ByteArray} (h : TreeQ W tb jv T) (g : Gd sSz T m) (hm : m ≤ 281474976710655) (hi1 : -9223372036854775808 ≤ i) (hi2 : i ≤ 9223372036854775807) :
    Calls Try.prog 38 #[.pointer (some ⟨tb, 0, none⟩), .int .i64 i] W fun e w' => e = .returned (.tuple #[.string (Tr.nth T i).key, .int .i64 ((Tr.nth T i).val 0), .bool (!(Tr.nth T i).isNil)]) ∧ Below W.heap.size W w' := by
  obtain ⟨p, h1, h2⟩ := h
  exact atQ i h1 h2 (by have := g.cnt; omega) hi1 hi2

theorem yfoldQ (I J : Int) {jv : Value} {c : Option Nat} {W : World} {tb n m : Nat} {T : Tr Int ByteArray} (h : TreeQ W tb jv T) (HB : BothOkQ jv c) (hc : Cnt c n W) (g : Gd sSz T m) (hm : m ≤ 281474976710655) :
    Calls Try.prog 40 #[.pointer (some ⟨tb, 0, none⟩), .int .i64 I, .int .i64 J] W fun e w' => e = .returned (.string (Tr.fol sJoin sZero T I J)) ∧ Cnt c (n + Tr.folC T I J) w' ∧ Keeps (OnC c) W w' := by
  obtain ⟨p, h1, h2⟩ := h
  exact foldsQ HB I J h1 hc h2 (by have := g.wt; omega)


theorem yrankQ (k : ByteArray) {jv : Value} {W : World} {tb m : Nat} {T : Tr Int ByteArray} (h : TreeQ W tb jv T) (g : Gd sSz T m) (hm : m ≤ 281474976710655) :
    Calls Try.prog 41 #[.pointer (some ⟨tb, 0, none⟩), .string k] W fun e w' => e = .returned (.int .i64 (Tr.lower k T : Int)) ∧ Below W.heap.size W w' := by
  obtain ⟨p, h1, h2⟩ := h
  exact rankQ k h1 h2 (by have := g.ht hm; omega) (by have := g.cnt; omega)


end Go.Proofs.Ytnlmlhoddchgbaa
