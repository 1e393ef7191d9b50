/-
  Put (E): what it lays.
-/
import Derived.Test.YtlbkcndmljlnmaaDoorBx11
import Derived.Test.YtlbkcndmljlnmaaDoorBx12
import Derived.Test.YtlbkcndmljlnmaaDoorBx6
namespace Go.Proofs.YtlbkcndmljlnmaaDoor
open Go.RowKit Go.Shelf
set_option linter.unusedVariables false
/-- What Put has laid, beside the trees as they lay in U. -/
structure PStE (w U V : World) (tb n : Nat) (jv : Value) (root : Option Addr) (c : Option Nat) (k : ByteArray) (v : En) (s : Tl) (wo : Bool) (wi : Nat) (wu : En) : Prop where
  keeps : Keeps (OnC c) w V
  cnt : CntE c n V
  tobj : TObjE V tb jv root
  stay : Stay 145 U V
  bt : V.heap[w.heap.size]? = some (.cells #[.pointer (some ⟨tb, 0, none⟩)] 103 (0, 0))
  bk : V.heap[w.heap.size + 1]? = some (.cells #[.string k] 9 (0, 0))
  bv : V.heap[w.heap.size + 1 + 1]? = some (.cells #[.string v.k, .int .i64 v.c, .int .i64 v.n, .string v.v, .bool v.d] 44 (0, 0))
  bs : V.heap[w.heap.size + 1 + 1 + 1]? = some (.cells #[.int .i64 s.n, .int .u64 s.a, .int .u64 s.b] 97 (0, 0))
  br : V.heap[w.heap.size + 1 + 1 + 1 + 1]? = some (.cells #[.string ⟨#[]⟩, .int .i64 0, .int .i64 0, .string ⟨#[]⟩, .bool false] 44 (0, 0))
  bw : wo = true → w.heap.size + 5 ≤ wi ∧ V.heap[wi]? = some (.cells #[.string wu.k, .int .i64 wu.c, .int .i64 wu.n, .string wu.v, .bool wu.d] 44 (0, 0))
theorem PStE.drew {w U V : World} {tb n : Nat} {jv : Value} {root : Option Addr} {c : Option Nat} {k : ByteArray} {v : En} {s : Tl} {wo : Bool} {wi : Nat} {wu : En} (h : PStE w U V tb n jv root c k v s wo wi wu) : PStE w U V.drew tb n jv root c k v s wo wi wu := ⟨h.keeps.drew, h.cnt.drew, h.tobj, h.stay.drew, h.bt, h.bk, h.bv, h.bs, h.br, h.bw⟩
theorem PStE.on {w U V : World} {tb n : Nat} {jv : Value} {root : Option Addr} {c : Option Nat} {k : ByteArray} {v : En} {s : Tl} {wo : Bool} {wi : Nat} {wu : En} {V' : World} {m n0 : Nat} (h : PStE w U V tb n jv root c k v s wo wi wu) (h0 : CntE c n0 w) (kk : Keeps (OnC c) V V') (hm : CntE c m V') : PStE w U V' tb m jv root c k v s wo wi wu :=
  ⟨h.keeps.trans kk, hm, h.tobj.onC h.cnt kk, h.stay.onE h.cnt kk (by decide), blk_keep h.bt kk (h0.lt (by omega)), blk_keep h.bk kk (h0.lt (by omega)), blk_keep h.bv kk (h0.lt (by omega)), blk_keep h.bs kk (h0.lt (by omega)), blk_keep h.br kk (h0.lt (by omega)), fun e => ⟨(h.bw e).1, blk_keep (h.bw e).2 kk (h0.lt (by have := (h.bw e).1; omega))⟩⟩
theorem PStE.below {w U V : World} {tb n : Nat} {jv : Value} {root : Option Addr} {c : Option Nat} {k : ByteArray} {v : En} {s : Tl} {wo : Bool} {wi : Nat} {wu : En} {V' : World} {n0 : Nat} (h : PStE w U V tb n jv root c k v s wo wi wu) (h0 : CntE c n0 w) (b : Below V.heap.size V V') : PStE w U V' tb n jv root c k v s wo wi wu := h.on h0 (Keeps.of_below b _) (h.cnt.below b)
theorem PStE.alloc {w U V : World} {tb n : Nat} {jv : Value} {root : Option Addr} {c : Option Nat} {k : ByteArray} {v : En} {s : Tl} {wo : Bool} {wi : Nat} {wu : En} {n0 : Nat} (h : PStE w U V tb n jv root c k v s wo wi wu) (h0 : CntE c n0 w) (o : Obj) : PStE w U (V.alloc o) tb n jv root c k v s wo wi wu := h.below h0 (bnew _ _)
/-- The counter is no block that is not cells. -/
theorem onC_cells {c : Option Nat} {n : Nat} {A : World} (h : CntE c n A) {r : Nat} {o : Obj} (hr : A.heap[r]? = some o) (ho : o.isCells = false) : ¬ OnC c r := fun e => by
  have := h r e
  rw [hr] at this
  injection this with this
  subst this
  cases ho
theorem cells_own {A B : World} {row : Option Nat} {i : Nat} {cs : Array Value} {T : TypeId} (h : A.heap[i]? = some (.cells cs T (0, 0))) (hg : A.grownBy B row) (hr : ∀ r, row = some r → ∃ o : Obj, A.heap[r]? = some o ∧ o.isCells = false) : B.heap[i]? = some (.cells cs T (0, 0)) := (grownBy_keeps_cells hg hr h rfl).trans h
theorem stay_own {T : TypeId} {U A B : World} {row : Option Nat} (h : Stay T U A) (hg : A.grownBy B row) (hr : ∀ r, row = some r → ∃ o : Obj, A.heap[r]? = some o ∧ o.isCells = false) : Stay T U B := fun i cs e => cells_own (h i cs e) hg hr
theorem PStE.own {w U V : World} {tb n : Nat} {jv : Value} {root : Option Addr} {c : Option Nat} {k : ByteArray} {v : En} {s : Tl} {wo : Bool} {wi : Nat} {wu : En} {B : World} {row : Option Nat} (h : PStE w U V tb n jv root c k v s wo wi wu) (hg : V.grownBy B row) (hr : ∀ r, row = some r → w.heap.size ≤ r ∧ ∃ o : Obj, V.heap[r]? = some o ∧ o.isCells = false) : PStE w U B tb n jv root c k v s wo wi wu :=
  have hr' : ∀ r, row = some r → ∃ o : Obj, V.heap[r]? = some o ∧ o.isCells = false := fun r e => (hr r e).2
  ⟨h.keeps.grown hg (fun r e hlt => absurd hlt (by have := (hr r e).1; omega)), fun b e => cells_own (h.cnt b e) hg hr', cells_own h.tobj hg hr', stay_own h.stay hg hr', cells_own h.bt hg hr', cells_own h.bk hg hr', cells_own h.bv hg hr', cells_own h.bs hg hr', cells_own h.br hg hr', fun e => ⟨(h.bw e).1, cells_own (h.bw e).2 hg hr'⟩⟩
theorem pstE {w : World} {tb n : Nat} {jv : Value} {root : Option Addr} {c : Option Nat} (k : ByteArray) (v : En) (s : Tl) (ht : TObjE w tb jv root) (hc : CntE c n w) : PStE w (((((w.alloc (.cells #[.pointer (some ⟨tb, 0, none⟩)] 103)).alloc (.cells #[.string k] 9)).alloc (.cells #[.string v.k, .int .i64 v.c, .int .i64 v.n, .string v.v, .bool v.d] 44)).alloc (.cells #[.int .i64 s.n, .int .u64 s.a, .int .u64 s.b] 97)).alloc (.cells #[.string ⟨#[]⟩, .int .i64 0, .int .i64 0, .string ⟨#[]⟩, .bool false] 44)) (((((w.alloc (.cells #[.pointer (some ⟨tb, 0, none⟩)] 103)).alloc (.cells #[.string k] 9)).alloc (.cells #[.string v.k, .int .i64 v.c, .int .i64 v.n, .string v.v, .bool v.d] 44)).alloc (.cells #[.int .i64 s.n, .int .u64 s.a, .int .u64 s.b] 97)).alloc (.cells #[.string ⟨#[]⟩, .int .i64 0, .int .i64 0, .string ⟨#[]⟩, .bool false] 44)) tb n jv root c k v s false 0 v := by
  refine ⟨(((((Keeps.refl _ w).alloc _).alloc _).alloc _).alloc _).alloc _, ((((hc.alloc _).alloc _).alloc _).alloc _).alloc _, ?_, Stay.refl _ _, ?_, ?_, ?_, ?_, ?_, fun e => by cases e⟩
  · unfold TObjE at ht ⊢; exact blk_on (blk_on (blk_on (blk_on (blk_on ht (bnew _ _)) (bnew _ _)) (bnew _ _)) (bnew _ _)) (bnew _ _)
  · have h0 := heap_alloc_new w (.cells #[.pointer (some ⟨tb, 0, none⟩)] 103)
    try simp only [World.size_alloc] at h0
    exact blk_on (blk_on (blk_on (blk_on (h0) (bnew _ _)) (bnew _ _)) (bnew _ _)) (bnew _ _)
  · have h0 := heap_alloc_new (w.alloc (.cells #[.pointer (some ⟨tb, 0, none⟩)] 103)) (.cells #[.string k] 9)
    try simp only [World.size_alloc] at h0
    exact blk_on (blk_on (blk_on (h0) (bnew _ _)) (bnew _ _)) (bnew _ _)
  · have h0 := heap_alloc_new ((w.alloc (.cells #[.pointer (some ⟨tb, 0, none⟩)] 103)).alloc (.cells #[.string k] 9)) (.cells #[.string v.k, .int .i64 v.c, .int .i64 v.n, .string v.v, .bool v.d] 44)
    try simp only [World.size_alloc] at h0
    exact blk_on (blk_on (h0) (bnew _ _)) (bnew _ _)
  · have h0 := heap_alloc_new (((w.alloc (.cells #[.pointer (some ⟨tb, 0, none⟩)] 103)).alloc (.cells #[.string k] 9)).alloc (.cells #[.string v.k, .int .i64 v.c, .int .i64 v.n, .string v.v, .bool v.d] 44)) (.cells #[.int .i64 s.n, .int .u64 s.a, .int .u64 s.b] 97)
    try simp only [World.size_alloc] at h0
    exact blk_on (h0) (bnew _ _)
  · have h0 := heap_alloc_new ((((w.alloc (.cells #[.pointer (some ⟨tb, 0, none⟩)] 103)).alloc (.cells #[.string k] 9)).alloc (.cells #[.string v.k, .int .i64 v.c, .int .i64 v.n, .string v.v, .bool v.d] 44)).alloc (.cells #[.int .i64 s.n, .int .u64 s.a, .int .u64 s.b] 97)) (.cells #[.string ⟨#[]⟩, .int .i64 0, .int .i64 0, .string ⟨#[]⟩, .bool false] 44)
    try simp only [World.size_alloc] at h0
    exact h0
/-- The place of what was. -/
theorem PStE.was {w U V : World} {tb n : Nat} {jv : Value} {root : Option Addr} {c : Option Nat} {k : ByteArray} {v : En} {s : Tl} {wi : Nat} {wu : En} {n0 : Nat} (h : PStE w U V tb n jv root c k v s false wi wu) (h0 : CntE c n0 w) (hV : w.heap.size + 5 ≤ V.heap.size) : PStE w U (V.alloc (.cells #[.string ⟨#[]⟩, .int .i64 0, .int .i64 0, .string ⟨#[]⟩, .bool false] 44)) tb n jv root c k v s true V.heap.size eNone := by
  have h1 := h.alloc h0 (.cells #[.string ⟨#[]⟩, .int .i64 0, .int .i64 0, .string ⟨#[]⟩, .bool false] 44)
  exact ⟨h1.keeps, h1.cnt, h1.tobj, h1.stay, h1.bt, h1.bk, h1.bv, h1.bs, h1.br, fun _ => ⟨hV, heap_alloc_new V _⟩⟩
/-- What was is laid. -/
theorem PStE.setw {w U V : World} {tb n : Nat} {jv : Value} {root : Option Addr} {c : Option Nat} {k : ByteArray} {v : En} {s : Tl} {wi : Nat} {wu : En} {n0 : Nat} (h : PStE w U V tb n jv root c k v s true wi wu) (h0 : CntE c n0 w) (u : En) : PStE w U (setE V wi u) tb n jv root c k v s true wi u := by
  obtain ⟨h1, h2⟩ := h.bw rfl
  have ne : ∀ {i : Nat} {cs : Array Value} {T : TypeId}, V.heap[i]? = some (.cells cs T (0, 0)) → T ≠ 44 → (setE V wi u).heap[i]? = some (.cells cs T (0, 0)) := fun {i cs T} hi hT => by
    rw [setE_other]
    · exact hi
    · rintro rfl; rw [h2] at hi; simp at hi; exact hT hi.2.symm
  have nw : ∀ {i : Nat}, i < w.heap.size + 5 → (setE V wi u).heap[i]? = V.heap[i]? := fun {i} hi => setE_other _ _ _ _ (by omega)
  refine ⟨h.keeps.setE (fun e => by omega) u, h.cnt.setE (h0.lt (by omega)) u, ne h.tobj (by decide), h.stay.setE h2 (by decide) u, ?_, ?_, ?_, ?_, ?_, fun _ => ⟨h1, setE_same h2 u⟩⟩
  · rw [nw (by omega)]; exact h.bt
  · rw [nw (by omega)]; exact h.bk
  · rw [nw (by omega)]; exact h.bv
  · rw [nw (by omega)]; exact h.bs
  · rw [nw (by omega)]; exact h.br
/-- Between two rounds: the tree made so far lies in the block Bm. -/
structure PIE (w U W0 : World) (tb n Bm M : Nat) (jv : Value) (root : Option Addr) (c : Option Nat) (k : ByteArray) (v : En) (s : Tl) (wo : Bool) (wi : Nat) (wu : En) (B0 : Tr En Tl) (pre : List (BEE U M)) (W : World) : Prop where
  st : PStE w U W tb (n + Tr.upsC k B0 (pre.map (·.t))) jv root c k v s wo wi wu
  made : ∃ q, W.heap[Bm]? = some (.cells #[.pointer q] 139 (0, 0)) ∧ IsTE W q (Tr.ups k B0 (pre.map (·.t)))
  kp : KpC c Bm W0.heap.size W0 W
theorem PIE.own {w U W0 : World} {tb n Bm M : Nat} {jv : Value} {root : Option Addr} {c : Option Nat} {k : ByteArray} {v : En} {s : Tl} {wo : Bool} {wi : Nat} {wu : En} {B0 : Tr En Tl} (hw : w.heap.size ≤ W0.heap.size) : OwnFrom W0.heap.size (PIE w U W0 tb n Bm M jv root c k v s wo wi wu B0) :=
  fun pre A B row hs hg hr => by
    have hr' : ∀ r, row = some r → ∃ o : Obj, A.heap[r]? = some o ∧ o.isCells = false := fun r e => (hr r e).2
    obtain ⟨h1, ⟨q, h2, h3⟩, h4⟩ := hs
    exact ⟨h1.own hg (fun r e => ⟨by have := (hr r e).1; omega, (hr r e).2⟩), ⟨q, cells_own h2 hg hr', h3.on (stay_own (Stay.refl _ _) hg hr')⟩, h4.grown hg (fun r e _ => .inr (.inr (hr r e).1))⟩
/-- The root and the answer are laid, the round's deferred calls are gone. -/
theorem putEndE {w U W : World} {tb n D : Nat} {jv : Value} {root q : Option Addr} {c : Option Nat} {k : ByteArray} {v : En} {s : Tl} {wi : Nat} {wu : En} {T' : Tr En Tl} {o o' : Obj} {n0 : Nat} (h : PStE w U W tb n jv root c k v s true wi wu) (h0 : CntE c n0 w) (hq : IsTE W q T') (hD : W.heap[D]? = some o) (ho : o.isCells = false) (hw : w.heap.size ≤ D) :
    (fun X : World => (∃ p, TObjE X tb jv p ∧ IsTE X p T') ∧ CntE c n X ∧ Keeps (fun x => x = tb ∨ OnC c x) w X ∧ X.heap[w.heap.size + 4]? = some (.cells #[.string wu.k, .int .i64 wu.c, .int .i64 wu.n, .string wu.v, .bool wu.d] 44 (0, 0))) ((setE (W.setCell ⟨tb, 4, none⟩ (.pointer q)) (w.heap.size + 4) wu).putObj D o') := by
  have ht := h.tobj
  have hne : tb ≠ D := fun e => by
    unfold TObjE at ht
    rw [e, hD] at ht
    injection ht with ht
    subst ht
    cases ho
  have hbr := h.br
  have htr : tb ≠ w.heap.size + 4 := fun e => by unfold TObjE at ht; rw [e, hbr] at ht; simp at ht
  have h1 : TObjE (W.setCell ⟨tb, 4, none⟩ (.pointer q)) tb jv q := heap_setCell_same W tb 4 _ _ (.pointer q) ht
  have hbr1 : (W.setCell ⟨tb, 4, none⟩ (.pointer q)).heap[w.heap.size + 4]? = some (.cells #[.string ⟨#[]⟩, .int .i64 0, .int .i64 0, .string ⟨#[]⟩, .bool false] 44 (0, 0)) := (heap_setCell_other _ _ _ _ (fun e => htr e.symm)).trans hbr
  have hDr : D ≠ w.heap.size + 4 := fun e => by rw [e, hbr] at hD; injection hD with hD; subst hD; cases ho
  have hD1 : (setE (W.setCell ⟨tb, 4, none⟩ (.pointer q)) (w.heap.size + 4) wu).heap[D]? = some o := (setE_other _ _ _ _ hDr).trans ((heap_setCell_other _ _ _ _ (fun e => hne e.symm)).trans hD)
  have hg := grownBy_putObj' (setE (W.setCell ⟨tb, 4, none⟩ (.pointer q)) (w.heap.size + 4) wu) D o'
  have hr : ∀ r, some D = some r → ∃ o : Obj, (setE (W.setCell ⟨tb, 4, none⟩ (.pointer q)) (w.heap.size + 4) wu).heap[r]? = some o ∧ o.isCells = false := fun r e => by cases e; exact ⟨o, hD1, ho⟩
  have st : Stay 145 W (setE (W.setCell ⟨tb, 4, none⟩ (.pointer q)) (w.heap.size + 4) wu) := ((Stay.refl _ W).setCell _ (fun cs e => by dsimp only at e; unfold TObjE at ht; rw [ht] at e; simp at e)).setE hbr1 (by decide) wu
  have hC1 : CntE c n (setE (W.setCell ⟨tb, 4, none⟩ (.pointer q)) (w.heap.size + 4) wu) := (h.cnt.setCell (p := ⟨tb, 4, none⟩) _ (h.cnt.apart ht (by decide))).setE (h0.lt (by omega)) wu
  have h1' : TObjE (setE (W.setCell ⟨tb, 4, none⟩ (.pointer q)) (w.heap.size + 4) wu) tb jv q := (setE_other _ _ _ _ htr).trans h1
  refine ⟨⟨q, cells_own h1' hg hr, hq.on (stay_own st hg hr)⟩, fun b e => cells_own (hC1 b e) hg hr, ?_, cells_own (setE_same hbr1 wu) hg hr⟩
  exact (((h.keeps.mono (fun _ _ e => .inr e)).setCell (fun _ => .inl rfl) _).setE (fun e => by omega) wu).grown hg (fun r e hlt => by cases e; omega)
/-- The deferred calls' block, when all is laid. -/
theorem putDefE {w U W : World} {tb n D : Nat} {jv : Value} {root q : Option Addr} {c : Option Nat} {k : ByteArray} {v e : En} {s : Tl} {wi : Nat} {wu : En} {o : Obj} (h : PStE w U W tb n jv root c k v s true wi wu) (hD : W.heap[D]? = some o) (ho : o.isCells = false) : (setE (W.setCell ⟨tb, 4, none⟩ (.pointer q)) (w.heap.size + 4) e).heap[D]? = some o := by
  have hbr := h.br
  have ht := h.tobj
  unfold TObjE at ht
  refine (setE_other _ _ _ _ (fun e => by rw [e, hbr] at hD; injection hD with hD; subst hD; cases ho)).trans ((heap_setCell_other _ _ _ _ (fun e => by dsimp only at e; rw [e, ht] at hD; injection hD with hD; subst hD; cases ho)).trans hD)
/-- The cells of what was, and of the answer, when the root is laid. -/
theorem putLastE {w U W : World} {tb n : Nat} {jv : Value} {root q : Option Addr} {c : Option Nat} {k : ByteArray} {v : En} {s : Tl} {wi : Nat} {wu : En} (h : PStE w U W tb n jv root c k v s true wi wu) :
    (W.setCell ⟨tb, 4, none⟩ (.pointer q)).heap[wi]? = some (.cells #[.string wu.k, .int .i64 wu.c, .int .i64 wu.n, .string wu.v, .bool wu.d] 44 (0, 0)) ∧ (W.setCell ⟨tb, 4, none⟩ (.pointer q)).heap[w.heap.size + 4]? = some (.cells #[.string ⟨#[]⟩, .int .i64 0, .int .i64 0, .string ⟨#[]⟩, .bool false] 44 (0, 0)) := by
  have ht := h.tobj
  obtain ⟨h1, h2⟩ := h.bw rfl
  have hbr := h.br
  unfold TObjE at ht
  exact ⟨(heap_setCell_other _ _ _ _ (fun e => by dsimp only at e; rw [← e, h2] at ht; simp at ht)).trans h2, (heap_setCell_other _ _ _ _ (fun e => by dsimp only at e; rw [← e, hbr] at ht; simp at ht)).trans hbr⟩
/-- The nodes of the way, as they lie in the row. -/
theorem putRowsE {U w1 : World} {k : ByteArray} {T : Tr En Tl} {pre : List (Option Addr × Tr En Tl)} {bb cap : Nat} (d2 : w1.ownsRow U.heap.size 139 1 (.slice (some ⟨bb, 0, none⟩) pre.length cap) pre.length (ptrsE pre)) (d4 : ∀ x ∈ pre, IsTE U x.1 x.2) (d5 : pre.map (·.2) = Tr.path k T) :
    ∃ es : List (BEE U (T.wt tSz)), es.length = pre.length ∧ (∀ (j : Nat) (hj : j < es.length), es[j].i = j) ∧ es.map (·.t) = Tr.path k T ∧ (∀ (j : Nat) (hj : j < es.length), w1.cell? ⟨bb, j, none⟩ = some (.pointer (some ⟨es[j].b, 0, none⟩))) ∧ bb < w1.heap.size ∧ U.heap.size ≤ bb := by
  obtain ⟨es, h1, h2, h3, h4⟩ := besE (M := T.wt tSz) pre (fun x hx => by
    have hm : x.2 ∈ Tr.path k T := by rw [← d5]; exact List.mem_map_of_mem hx
    exact ⟨d4 x hx, Tr.path_node k T _ hm, Tr.wt_path tSz k T _ hm⟩)
  refine ⟨es, h1, h2, h3.trans d5, fun j hj => ?_, (d2.lt bb rfl).2, (d2.lt bb rfl).1⟩
  rw [d2.cellAt j (by omega), show ptrsE pre = es.map (fun e => Value.pointer (some ⟨e.b, 0, none⟩)) from h4, List.getElem?_map, List.getElem?_eq_getElem hj]
  rfl
/-- Where the loop begins. -/
theorem putMidE {w U w1 w2 : World} {tb n bb : Nat} {jv : Value} {root p1 : Option Addr} {c : Option Nat} {k : ByteArray} {v : En} {s : Tl} {wo : Bool} {wi : Nat} {wu : En} {T B0 : Tr En Tl} {es : List (BEE U (T.wt tSz))} {n0 len cap : Nat} (H2 : PStE w U w2 tb n jv root c k v s wo wi wu) (I1 : IsTE w2 p1 B0) (h0 : CntE c n0 w) (hU : w.heap.size ≤ U.heap.size)
    (E4 : ∀ (j : Nat) (h : j < es.length), w2.cell? ⟨bb, j, none⟩ = some (.pointer (some ⟨es[j].b, 0, none⟩))) (E5 : bb < w1.heap.size) (E6 : U.heap.size ≤ bb) (W1 : w1.heap.size ≤ w2.heap.size) :
    (fun W0 : World => PIE w U W0 tb n w2.heap.size (T.wt tSz) jv root c k v s wo wi wu B0 [] W0 ∧ W0.heap[w2.heap.size + 1]? = some (.cells #[.slice (some ⟨bb, 0, none⟩) len cap] 138 (0, 0)) ∧
      (∀ (j : Nat) (h : j < es.length), W0.cell? ⟨bb, j, none⟩ = some (.pointer (some ⟨es[j].b, 0, none⟩))) ∧ w2.heap.size + 1 < W0.heap.size ∧ bb < W0.heap.size ∧ ¬ OnC c (w2.heap.size + 1) ∧ ¬ OnC c bb ∧ w.heap.size ≤ W0.heap.size)
    ((w2.alloc (.cells #[.pointer p1] 139)).alloc (.cells #[.slice (some ⟨bb, 0, none⟩) len cap] 138)) := by
  have hs := H2.keeps.size
  have h1 := heap_alloc_new (w2.alloc (.cells #[.pointer p1] 139)) (.cells #[.slice (some ⟨bb, 0, none⟩) len cap] 138)
  simp only [World.size_alloc] at h1
  refine ⟨⟨(H2.alloc h0 _).alloc h0 _, ⟨p1, blk_on (heap_alloc_new w2 _) (bnew _ _), I1.on (((Stay.refl _ _).alloc _).alloc _)⟩, Keeps.refl _ _⟩, h1, fun j h => ?_, by simp, by simp; omega, h0.lt (by omega), h0.lt (by omega), by simp; omega⟩
  exact ((bthen (bnew w2 _) (bnew _ _)).cell (p := ⟨bb, j, none⟩) (by dsimp only; omega)).trans (E4 j h)
/-- The block of the tree that is made is set anew. -/
theorem PStE.set {w U V : World} {tb n n0 Bm : Nat} {jv : Value} {root : Option Addr} {c : Option Nat} {k : ByteArray} {v : En} {s : Tl} {wo : Bool} {wi : Nat} {wu : En} {q : Option Addr} (h : PStE w U V tb n jv root c k v s wo wi wu) (h0 : CntE c n0 w) (hm : V.heap[Bm]? = some (.cells #[.pointer q] 139 (0, 0))) (hB : w.heap.size ≤ Bm) (p : Option Addr) : PStE w U (V.setCell ⟨Bm, 0, none⟩ (.pointer p)) tb n jv root c k v s wo wi wu := by
  have ne : ∀ {i : Nat} {cs : Array Value} {T : TypeId}, V.heap[i]? = some (.cells cs T (0, 0)) → T ≠ 139 → (V.setCell ⟨Bm, 0, none⟩ (.pointer p)).heap[i]? = some (.cells cs T (0, 0)) := fun {i cs T} hi hT => by
    rw [heap_setCell_other]
    · exact hi
    · rintro rfl; rw [hm] at hi; simp at hi; exact hT hi.2.symm
  exact ⟨h.keeps.setCell (fun e => by dsimp only at e; omega) _, h.cnt.setCell _ (h0.lt hB), ne h.tobj (by decide), h.stay.setCell _ (fun cs e => by dsimp only at e; rw [hm] at e; simp at e), ne h.bt (by decide), ne h.bk (by decide), ne h.bv (by decide), ne h.bs (by decide), ne h.br (by decide), fun e => ⟨(h.bw e).1, ne (h.bw e).2 (by decide)⟩⟩
/-- The counter's block alone has turned: what is no cells lies as it lay. -/
theorem othersE {c : Option Nat} {n : Nat} {A B : World} (h : CntE c n A) (k : Keeps (OnC c) A B) : KeepsOthers A B := ⟨k.size, fun i o e ho => blk_keep e k (onC_cells h e ho)⟩
/-- A round. -/
theorem putStepE {w U W0 W w9 : World} {tb n n0 Bm M : Nat} {jv : Value} {root p : Option Addr} {c : Option Nat} {k : ByteArray} {v : En} {s : Tl} {wo : Bool} {wi : Nat} {wu : En} {B0 : Tr En Tl} {pre : List (BEE U M)} {x : BEE U M} (hI : PIE w U W0 tb n Bm M jv root c k v s wo wi wu B0 pre W) (h0 : CntE c n0 w) (hB : w.heap.size ≤ Bm)
    (kk : Keeps (OnC c) W w9) (bc : CntE c (n + Tr.upsC k B0 (pre.map (·.t)) + Tr.stepC k x.t (Tr.ups k B0 (pre.map (·.t)))) w9) (ii : IsTE w9 p (Tr.step k x.t (Tr.ups k B0 (pre.map (·.t))))) :
    KeepsFrom W0.heap.size W (w9.setCell ⟨Bm, 0, none⟩ (.pointer p)) ∧ KpC c Bm W0.heap.size W (w9.setCell ⟨Bm, 0, none⟩ (.pointer p)) ∧ PIE w U W0 tb n Bm M jv root c k v s wo wi wu B0 (pre ++ [x]) (w9.setCell ⟨Bm, 0, none⟩ (.pointer p)) := by
  obtain ⟨st, ⟨q, hm, hq⟩, kp⟩ := hI
  have hm9 := blk_keep hm kk (h0.lt hB)
  have st9 := st.on h0 kk bc
  have k1 : KpC c Bm W0.heap.size W (w9.setCell ⟨Bm, 0, none⟩ (.pointer p)) := (kk.mono (fun _ _ e => .inl e)).setCell (fun _ => .inr (.inl rfl)) _
  have e1 : Tr.ups k B0 ((pre ++ [x]).map (·.t)) = Tr.step k x.t (Tr.ups k B0 (pre.map (·.t))) := by rw [List.map_append]; exact Tr.ups_snoc k B0 _ _
  have e2 : n + Tr.upsC k B0 ((pre ++ [x]).map (·.t)) = n + Tr.upsC k B0 (pre.map (·.t)) + Tr.stepC k x.t (Tr.ups k B0 (pre.map (·.t))) := by rw [List.map_append, Nat.add_assoc]; exact congrArg (n + ·) (Tr.upsC_snoc k _ B0 _)
  refine ⟨((othersE st.cnt kk).trans (KeepsOthers.setCell _ _ _)).from _, k1, ?_, ?_, kp.t k1⟩
  · rw [e2]; exact st9.set h0 hm9 hB p
  · rw [e1]
    exact ⟨p, heap_setCell_same w9 Bm 0 _ _ (.pointer p) hm9, ii.on ((Stay.refl _ _).setCell _ (fun cs e => by dsimp only at e; rw [hm9] at e; simp at e))⟩
/-- What a round may hold. -/
theorem putRoomE {U : World} {k : ByteArray} {s : Tl} {T B0 : Tr En Tl} {es pre : List (BEE U (T.wt tSz))} {len : Nat} (h1 : es.length = len) (h3 : es.map (·.t) = Tr.path k T) (hlt : pre.length < len) (hB : B0.wt tSz ≤ T.wt tSz + 1 + tSz s) (hw : (T.ht + 2) * (T.wt tSz + 1 + tSz s) ≤ 4611686018427387904) :
    (Tr.ups k B0 (pre.map (·.t))).wt tSz + T.wt tSz ≤ 4611686018427387904 := by
  have a1 := Tr.wt_ups tSz k (T.wt tSz) (pre.map (·.t)) B0 (fun t ht => by obtain ⟨x, _, rfl⟩ := List.mem_map.1 ht; exact x.le)
  rw [List.length_map] at a1
  have a2 := Tr.path_le k T
  rw [← h3, List.length_map] at a2
  have a3 : pre.length * T.wt tSz ≤ T.ht * (T.wt tSz + 1 + tSz s) := Nat.mul_le_mul (by omega) (by omega)
  have a4 : (T.ht + 2) * (T.wt tSz + 1 + tSz s) = T.ht * (T.wt tSz + 1 + tSz s) + 2 * (T.wt tSz + 1 + tSz s) := Nat.add_mul _ _ _
  omega
theorem putHeldlE {w U X : World} {tb n b : Nat} {jv : Value} {root lp rp : Option Addr} {c : Option Nat} {k xk : ByteArray} {v xv : En} {wo : Bool} {wi : Nat} {wu : En} {s xs xq : Tl} {xc xh : Int} (h : PStE w U X tb n jv root c k v s wo wi wu) (hb : U.heap[b]? = some (.cells #[.string xk, .string xv.k, .int .i64 xv.c, .int .i64 xv.n, .string xv.v, .bool xv.d, .int .i64 xs.n, .int .u64 xs.a, .int .u64 xs.b, .pointer lp, .pointer rp, .int .i64 xc, .int .i64 xh, .int .i64 xq.n, .int .u64 xq.a, .int .u64 xq.b] 145 (0, 0))) : X.cell? ⟨w.heap.size, 0, none⟩ = some (.pointer (some ⟨tb, 0, none⟩)) ∧ X.cell? ⟨b, 0, none⟩ = some (.string xk) ∧ X.cell? ⟨b, 1, none⟩ = some (.string xv.k) ∧ X.cell? ⟨b, 2, none⟩ = some (.int .i64 xv.c) ∧ X.cell? ⟨b, 3, none⟩ = some (.int .i64 xv.n) ∧ X.cell? ⟨b, 4, none⟩ = some (.string xv.v) ∧ X.cell? ⟨b, 5, none⟩ = some (.bool xv.d) ∧ X.cell? ⟨b, 6, none⟩ = some (.int .i64 xs.n) ∧ X.cell? ⟨b, 7, none⟩ = some (.int .u64 xs.a) ∧ X.cell? ⟨b, 8, none⟩ = some (.int .u64 xs.b) ∧ X.cell? ⟨b, 9, none⟩ = some (.pointer lp) := by
  have hn := nodeE (h.stay _ _ hb)
  obtain ⟨n0, n1, n2, n3, n4, n5, n6, n7, n8, n9, -, -, -, -, -, -⟩ := hn
  exact ⟨cell_one h.bt, n0, n1, n2, n3, n4, n5, n6, n7, n8, n9⟩
theorem putSetlE {w U W w9 : World} {tb n n0 b Bm : Nat} {jv u : Value} {root lp rp q : Option Addr} {c : Option Nat} {k xk : ByteArray} {v xv : En} {wo : Bool} {wi : Nat} {wu : En} {s xs xq : Tl} {xc xh : Int} (hd : w9.cell? ⟨w.heap.size, 0, none⟩ = some (.pointer (some ⟨tb, 0, none⟩)) ∧ w9.cell? ⟨b, 0, none⟩ = some (.string xk) ∧ w9.cell? ⟨b, 1, none⟩ = some (.string xv.k) ∧ w9.cell? ⟨b, 2, none⟩ = some (.int .i64 xv.c) ∧ w9.cell? ⟨b, 3, none⟩ = some (.int .i64 xv.n) ∧ w9.cell? ⟨b, 4, none⟩ = some (.string xv.v) ∧ w9.cell? ⟨b, 5, none⟩ = some (.bool xv.d) ∧ w9.cell? ⟨b, 6, none⟩ = some (.int .i64 xs.n) ∧ w9.cell? ⟨b, 7, none⟩ = some (.int .u64 xs.a) ∧ w9.cell? ⟨b, 8, none⟩ = some (.int .u64 xs.b) ∧ w9.cell? ⟨b, 9, none⟩ = some (.pointer lp)) (hb : U.heap[b]? = some (.cells #[.string xk, .string xv.k, .int .i64 xv.c, .int .i64 xv.n, .string xv.v, .bool xv.d, .int .i64 xs.n, .int .u64 xs.a, .int .u64 xs.b, .pointer lp, .pointer rp, .int .i64 xc, .int .i64 xh, .int .i64 xq.n, .int .u64 xq.a, .int .u64 xq.b] 145 (0, 0))) (h : PStE w U W tb n jv root c k v s wo wi wu) (kk : Keeps (OnC c) W w9) (h0 : CntE c n0 w) (hm : w9.heap[Bm]? = some (.cells #[.pointer q] 139 (0, 0))) : (w9.setCell ⟨Bm, 0, none⟩ u).cell? ⟨w.heap.size, 0, none⟩ = some (.pointer (some ⟨tb, 0, none⟩)) ∧ (w9.setCell ⟨Bm, 0, none⟩ u).cell? ⟨b, 0, none⟩ = some (.string xk) ∧ (w9.setCell ⟨Bm, 0, none⟩ u).cell? ⟨b, 1, none⟩ = some (.string xv.k) ∧ (w9.setCell ⟨Bm, 0, none⟩ u).cell? ⟨b, 2, none⟩ = some (.int .i64 xv.c) ∧ (w9.setCell ⟨Bm, 0, none⟩ u).cell? ⟨b, 3, none⟩ = some (.int .i64 xv.n) ∧ (w9.setCell ⟨Bm, 0, none⟩ u).cell? ⟨b, 4, none⟩ = some (.string xv.v) ∧ (w9.setCell ⟨Bm, 0, none⟩ u).cell? ⟨b, 5, none⟩ = some (.bool xv.d) ∧ (w9.setCell ⟨Bm, 0, none⟩ u).cell? ⟨b, 6, none⟩ = some (.int .i64 xs.n) ∧ (w9.setCell ⟨Bm, 0, none⟩ u).cell? ⟨b, 7, none⟩ = some (.int .u64 xs.a) ∧ (w9.setCell ⟨Bm, 0, none⟩ u).cell? ⟨b, 8, none⟩ = some (.int .u64 xs.b) ∧ (w9.setCell ⟨Bm, 0, none⟩ u).cell? ⟨b, 9, none⟩ = some (.pointer lp) := by
  have hb9 := blk_keep (h.stay _ _ hb) kk (h.cnt.apart (h.stay _ _ hb) (by decide))
  have ht9 := blk_keep h.bt kk (h0.lt (Nat.le_refl _))
  have n1 : Bm ≠ b := fun e => by rw [← e, hm] at hb9; simp at hb9
  have n2 : Bm ≠ w.heap.size := fun e => by rw [← e, hm] at ht9; simp at ht9
  obtain ⟨h1, g0, g1, g2, g3, g4, g5, g6, g7, g8, g9⟩ := hd
  have ap : ∀ {p : Addr} {y : Value}, w9.cell? p = some y → Bm ≠ p.block → (w9.setCell ⟨Bm, 0, none⟩ u).cell? p = some y := fun {p y} hy hne => (World.cell?_setCell_other _ _ _ _ (fun e => hne (by rw [← e]))).trans hy
  exact ⟨ap h1 n2, ap g0 n1, ap g1 n1, ap g2 n1, ap g3 n1, ap g4 n1, ap g5 n1, ap g6 n1, ap g7 n1, ap g8 n1, ap g9 n1⟩
theorem putHeldrE {w U X : World} {tb n b : Nat} {jv : Value} {root lp rp : Option Addr} {c : Option Nat} {k xk : ByteArray} {v xv : En} {wo : Bool} {wi : Nat} {wu : En} {s xs xq : Tl} {xc xh : Int} (h : PStE w U X tb n jv root c k v s wo wi wu) (hb : U.heap[b]? = some (.cells #[.string xk, .string xv.k, .int .i64 xv.c, .int .i64 xv.n, .string xv.v, .bool xv.d, .int .i64 xs.n, .int .u64 xs.a, .int .u64 xs.b, .pointer lp, .pointer rp, .int .i64 xc, .int .i64 xh, .int .i64 xq.n, .int .u64 xq.a, .int .u64 xq.b] 145 (0, 0))) : X.cell? ⟨w.heap.size, 0, none⟩ = some (.pointer (some ⟨tb, 0, none⟩)) ∧ X.cell? ⟨b, 0, none⟩ = some (.string xk) ∧ X.cell? ⟨b, 1, none⟩ = some (.string xv.k) ∧ X.cell? ⟨b, 2, none⟩ = some (.int .i64 xv.c) ∧ X.cell? ⟨b, 3, none⟩ = some (.int .i64 xv.n) ∧ X.cell? ⟨b, 4, none⟩ = some (.string xv.v) ∧ X.cell? ⟨b, 5, none⟩ = some (.bool xv.d) ∧ X.cell? ⟨b, 6, none⟩ = some (.int .i64 xs.n) ∧ X.cell? ⟨b, 7, none⟩ = some (.int .u64 xs.a) ∧ X.cell? ⟨b, 8, none⟩ = some (.int .u64 xs.b) ∧ X.cell? ⟨b, 10, none⟩ = some (.pointer rp) := by
  have hn := nodeE (h.stay _ _ hb)
  obtain ⟨n0, n1, n2, n3, n4, n5, n6, n7, n8, -, n10, -, -, -, -, -⟩ := hn
  exact ⟨cell_one h.bt, n0, n1, n2, n3, n4, n5, n6, n7, n8, n10⟩
theorem putSetrE {w U W w9 : World} {tb n n0 b Bm : Nat} {jv u : Value} {root lp rp q : Option Addr} {c : Option Nat} {k xk : ByteArray} {v xv : En} {wo : Bool} {wi : Nat} {wu : En} {s xs xq : Tl} {xc xh : Int} (hd : w9.cell? ⟨w.heap.size, 0, none⟩ = some (.pointer (some ⟨tb, 0, none⟩)) ∧ w9.cell? ⟨b, 0, none⟩ = some (.string xk) ∧ w9.cell? ⟨b, 1, none⟩ = some (.string xv.k) ∧ w9.cell? ⟨b, 2, none⟩ = some (.int .i64 xv.c) ∧ w9.cell? ⟨b, 3, none⟩ = some (.int .i64 xv.n) ∧ w9.cell? ⟨b, 4, none⟩ = some (.string xv.v) ∧ w9.cell? ⟨b, 5, none⟩ = some (.bool xv.d) ∧ w9.cell? ⟨b, 6, none⟩ = some (.int .i64 xs.n) ∧ w9.cell? ⟨b, 7, none⟩ = some (.int .u64 xs.a) ∧ w9.cell? ⟨b, 8, none⟩ = some (.int .u64 xs.b) ∧ w9.cell? ⟨b, 10, none⟩ = some (.pointer rp)) (hb : U.heap[b]? = some (.cells #[.string xk, .string xv.k, .int .i64 xv.c, .int .i64 xv.n, .string xv.v, .bool xv.d, .int .i64 xs.n, .int .u64 xs.a, .int .u64 xs.b, .pointer lp, .pointer rp, .int .i64 xc, .int .i64 xh, .int .i64 xq.n, .int .u64 xq.a, .int .u64 xq.b] 145 (0, 0))) (h : PStE w U W tb n jv root c k v s wo wi wu) (kk : Keeps (OnC c) W w9) (h0 : CntE c n0 w) (hm : w9.heap[Bm]? = some (.cells #[.pointer q] 139 (0, 0))) : (w9.setCell ⟨Bm, 0, none⟩ u).cell? ⟨w.heap.size, 0, none⟩ = some (.pointer (some ⟨tb, 0, none⟩)) ∧ (w9.setCell ⟨Bm, 0, none⟩ u).cell? ⟨b, 0, none⟩ = some (.string xk) ∧ (w9.setCell ⟨Bm, 0, none⟩ u).cell? ⟨b, 1, none⟩ = some (.string xv.k) ∧ (w9.setCell ⟨Bm, 0, none⟩ u).cell? ⟨b, 2, none⟩ = some (.int .i64 xv.c) ∧ (w9.setCell ⟨Bm, 0, none⟩ u).cell? ⟨b, 3, none⟩ = some (.int .i64 xv.n) ∧ (w9.setCell ⟨Bm, 0, none⟩ u).cell? ⟨b, 4, none⟩ = some (.string xv.v) ∧ (w9.setCell ⟨Bm, 0, none⟩ u).cell? ⟨b, 5, none⟩ = some (.bool xv.d) ∧ (w9.setCell ⟨Bm, 0, none⟩ u).cell? ⟨b, 6, none⟩ = some (.int .i64 xs.n) ∧ (w9.setCell ⟨Bm, 0, none⟩ u).cell? ⟨b, 7, none⟩ = some (.int .u64 xs.a) ∧ (w9.setCell ⟨Bm, 0, none⟩ u).cell? ⟨b, 8, none⟩ = some (.int .u64 xs.b) ∧ (w9.setCell ⟨Bm, 0, none⟩ u).cell? ⟨b, 10, none⟩ = some (.pointer rp) := by
  have hb9 := blk_keep (h.stay _ _ hb) kk (h.cnt.apart (h.stay _ _ hb) (by decide))
  have ht9 := blk_keep h.bt kk (h0.lt (Nat.le_refl _))
  have n1 : Bm ≠ b := fun e => by rw [← e, hm] at hb9; simp at hb9
  have n2 : Bm ≠ w.heap.size := fun e => by rw [← e, hm] at ht9; simp at ht9
  obtain ⟨h1, g0, g1, g2, g3, g4, g5, g6, g7, g8, g9⟩ := hd
  have ap : ∀ {p : Addr} {y : Value}, w9.cell? p = some y → Bm ≠ p.block → (w9.setCell ⟨Bm, 0, none⟩ u).cell? p = some y := fun {p y} hy hne => (World.cell?_setCell_other _ _ _ _ (fun e => hne (by rw [← e]))).trans hy
  exact ⟨ap h1 n2, ap g0 n1, ap g1 n1, ap g2 n1, ap g3 n1, ap g4 n1, ap g5 n1, ap g6 n1, ap g7 n1, ap g8 n1, ap g9 n1⟩
theorem putBaseAE {k : ByteArray} {v : En} {s : Tl} {T : Tr En Tl} (hF : Tr.found k T = .nil) : (Tr.node .nil k v s .nil : Tr En Tl).wt tSz ≤ T.wt tSz + 1 + tSz s := by
  simp only [Tr.wt]; omega
theorem putBaseBE {k fk : ByteArray} {v fv : En} {s fs : Tl} {T fl fr : Tr En Tl} (hF : Tr.found k T = .node fl fk fv fs fr) : (Tr.node fl k v s fr).wt tSz ≤ T.wt tSz + 1 + tSz s := by
  have h2 := Tr.wt_found tSz k T
  rw [hF] at h2
  simp only [Tr.wt] at h2 ⊢
  omega
theorem putFitAE {k : ByteArray} {v : En} {s : Tl} {T : Tr En Tl} (hF : Tr.found k T = .nil) (hw : (T.ht + 2) * (T.wt tSz + 1 + tSz s) ≤ 4611686018427387904) : (Tr.node .nil k v s .nil : Tr En Tl).wt tSz ≤ 4611686018427387904 := by
  have h1 : 1 * (T.wt tSz + 1 + tSz s) ≤ (T.ht + 2) * (T.wt tSz + 1 + tSz s) := Nat.mul_le_mul_right _ (by omega)
  simp only [Tr.wt]
  omega
theorem putFitBE {k fk : ByteArray} {v fv : En} {s fs : Tl} {T fl fr : Tr En Tl} (hF : Tr.found k T = .node fl fk fv fs fr) (hw : (T.ht + 2) * (T.wt tSz + 1 + tSz s) ≤ 4611686018427387904) : (Tr.node fl k v s fr).wt tSz ≤ 4611686018427387904 := by
  have h1 : 1 * (T.wt tSz + 1 + tSz s) ≤ (T.ht + 2) * (T.wt tSz + 1 + tSz s) := Nat.mul_le_mul_right _ (by omega)
  have h2 := Tr.wt_found tSz k T
  rw [hF] at h2
  simp only [Tr.wt] at h2 ⊢
  omega
end Go.Proofs.YtlbkcndmljlnmaaDoor
