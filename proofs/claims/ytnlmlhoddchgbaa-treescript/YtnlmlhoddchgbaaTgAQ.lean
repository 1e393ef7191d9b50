/-
  Trees in memory (Q): nodes and what they hold, rows and levels.
  both (Q): it joins; what it defers does nothing where the join returns.
  hang (Q): a node of a row and two trees.
  hang (Q), a case.
  hang (Q), a case.
  hang (Q), a case.
  hang (Q), a case.
  hang (Q).
-/
import Derived.Test.YtnlmlhoddchgbaaTrBase
import Derived.Defers
import Derived.Recover
import Derived.Deep.RegionHeld
import Derived.OrdersHeld
import Derived.Deep.RegionWith
import Derived.Deep.RegionHeld3
import Derived.Laws.Concat
import Derived.Test.YtnlmlhoddchgbaaTrCost
namespace Go.Proofs.Ytnlmlhoddchgbaa
open Go.RowKit
set_option linter.unusedVariables false

/-- p points to the tree t. -/
def IsTQ (w : World) : Option Addr → Tr Int ByteArray → Prop
  | p, .nil => p = none
  | p, .node l k v s r => ∃ b lp rp, p = some ⟨b, 0, none⟩ ∧ w.heap[b]? = some (.cells #[.string k, .int .i64 v, .string s, .pointer lp, .pointer rp, .int .i64 ((Tr.node l k v s r).cnt : Int), .int .i64 ((Tr.node l k v s r).ht : Int), .string ((Tr.node l k v s r).sum sJoin sZero)] 126 (0, 0)) ∧ IsTQ w lp l ∧ IsTQ w rp r

theorem IsTQ.stay {w w' : World} (h : Stay 126 w w') : ∀ (t : Tr Int ByteArray) (p : Option Addr), IsTQ w p t → IsTQ w' p t
  | .nil, _, e => e
  | .node l k v s r, _, ⟨b, lp, rp, e, hb, hl, hr⟩ => ⟨b, lp, rp, e, h _ _ hb, IsTQ.stay h l lp hl, IsTQ.stay h r rp hr⟩

theorem IsTQ.on {w w' : World} {p : Option Addr} {t : Tr Int ByteArray} (i : IsTQ w p t) (h : Stay 126 w w') : IsTQ w' p t := IsTQ.stay h t p i

theorem IsTQ.isNil {w : World} {t : Tr Int ByteArray} {p : Option Addr} (h : IsTQ w p t) : t.isNil = p.isNone := by
  cases t with
  | nil => rw [show p = none from h]; rfl
  | node l k v s r => obtain ⟨b, lp, rp, rfl, _⟩ := h; rfl

theorem nodeQ {w : World} {b : Nat} {k : ByteArray} {v : Int} {s : ByteArray} {lp rp : Option Addr} {c h : Int} {q : ByteArray} (hb : w.heap[b]? = some (.cells #[.string k, .int .i64 v, .string s, .pointer lp, .pointer rp, .int .i64 c, .int .i64 h, .string q] 126 (0, 0))) :
    w.cell? ⟨b, 0, none⟩ = some (.string k) ∧ w.cell? ⟨b, 1, none⟩ = some (.int .i64 v) ∧ w.cell? ⟨b, 2, none⟩ = some (.string s) ∧ w.cell? ⟨b, 3, none⟩ = some (.pointer lp) ∧ w.cell? ⟨b, 4, none⟩ = some (.pointer rp) ∧ w.cell? ⟨b, 5, none⟩ = some (.int .i64 c) ∧ w.cell? ⟨b, 6, none⟩ = some (.int .i64 h) ∧ w.cell? ⟨b, 7, none⟩ = some (.string q) := by
  simp [World.cell?, hb]

theorem IsTQ.two {w : World} {t : Tr Int ByteArray} {p : Option Addr} (h : IsTQ w p t) : (p = none ∧ t = .nil) ∨ ∃ b, p = some ⟨b, 0, none⟩ ∧ t.isNil = false := by
  cases t with
  | nil => exact .inl ⟨h, rfl⟩
  | node l k v s r => obtain ⟨b, lp, rp, rfl, _⟩ := h; exact .inr ⟨b, rfl, rfl⟩

theorem sumAtQ {w : World} {b : Nat} {t : Tr Int ByteArray} (h : IsTQ w (some ⟨b, 0, none⟩) t) : w.cell? ⟨b, 7, none⟩ = some (.string (t.sum sJoin sZero)) := by
  cases t with
  | nil => cases (show some _ = none from h)
  | node l k v s r =>
    obtain ⟨b', lp, rp, e, hb, _⟩ := h
    injection e with e
    injection e with e _ _
    subst e
    simp [World.cell?, hb]

theorem nodePlQ {w : World} {b : Nat} {k : ByteArray} {v : Int} {s : ByteArray} {lp rp : Option Addr} {c h : Int} {q : ByteArray} (hb : w.heap[b]? = some (.cells #[.string k, .int .i64 v, .string s, .pointer lp, .pointer rp, .int .i64 c, .int .i64 h, .string q] 126 (0, 0))) : w.cell? ⟨b, 3, none⟩ = some (.pointer lp) := by simp [World.cell?, hb]
theorem nodePrQ {w : World} {b : Nat} {k : ByteArray} {v : Int} {s : ByteArray} {lp rp : Option Addr} {c h : Int} {q : ByteArray} (hb : w.heap[b]? = some (.cells #[.string k, .int .i64 v, .string s, .pointer lp, .pointer rp, .int .i64 c, .int .i64 h, .string q] 126 (0, 0))) : w.cell? ⟨b, 4, none⟩ = some (.pointer rp) := by simp [World.cell?, hb]

/-- A tree's own block: it holds its join jv and its root. -/
def TObjQ (w : World) (tb : Nat) (jv : Value) (root : Option Addr) : Prop := w.heap[tb]? = some (.cells #[.string ⟨#[]⟩, jv, .pointer root] 119 (0, 0))

theorem TObjQ.onC {w w' : World} {tb n : Nat} {jv : Value} {root : Option Addr} {c : Option Nat} (h : TObjQ w tb jv root) (hc : Cnt c n w) (k : Keeps (OnC c) w w') : TObjQ w' tb jv root := blk_keep h k (hc.apart h (by decide))

theorem tobjQ {w : World} {tb : Nat} {jv : Value} {root : Option Addr} (h : TObjQ w tb jv root) :
    w.cell? ⟨tb, 0, none⟩ = some (.string ⟨#[]⟩) ∧ w.cell? ⟨tb, 1, none⟩ = some (jv) ∧ w.cell? ⟨tb, 2, none⟩ = some (.pointer root) ∧ w.frozen? ⟨tb, 2, none⟩ = false := by
  unfold TObjQ at h
  simp [World.cell?, World.frozen?, h]

set_option maxHeartbeats 1600000 in
theorem rowsQ {w : World} {p : Option Addr} {t : Tr Int ByteArray} (h : IsTQ w p t) :
    Calls Try.prog 68 #[.pointer p] w fun e w' => e = .returned (.int .i64 (t.cnt : Int)) ∧ w' = w := by
  cases t with
  | nil =>
    obtain rfl : p = none := h
    go_enter Try.func68, Try.ntmps68
    go_wp2
    go_ret
    exact ⟨rfl, rfl⟩
  | node l k v s r =>
    obtain ⟨b, lp, rp, rfl, hb, _, _⟩ := h
    have hn := nodeQ hb
    obtain ⟨-, -, -, -, -, h, -, -⟩ := hn
    clear hb
    generalize ((Tr.node l k v s r).cnt : Int) = c at *
    go_enter Try.func68, Try.ntmps68
    go_wp2
    go_ret
    exact ⟨rfl, rfl⟩

set_option maxHeartbeats 1600000 in
theorem levelsQ {w : World} {p : Option Addr} {t : Tr Int ByteArray} (h : IsTQ w p t) :
    Calls Try.prog 81 #[.pointer p] w fun e w' => e = .returned (.int .i64 (t.ht : Int)) ∧ w' = w := by
  cases t with
  | nil =>
    obtain rfl : p = none := h
    go_enter Try.func81, Try.ntmps81
    go_wp2
    go_ret
    exact ⟨rfl, rfl⟩
  | node l k v s r =>
    obtain ⟨b, lp, rp, rfl, hb, _, _⟩ := h
    have hn := nodeQ hb
    obtain ⟨-, -, -, -, -, -, h, -⟩ := hn
    clear hb
    generalize ((Tr.node l k v s r).ht : Int) = c at *
    go_enter Try.func81, Try.ntmps81
    go_wp2
    go_ret
    exact ⟨rfl, rfl⟩

end Go.Proofs.Ytnlmlhoddchgbaa
namespace Go.Proofs.Ytnlmlhoddchgbaa
open Go.RowKit
set_option linter.unusedVariables false

/-- both joins, and counts where the join counts. -/
def BothOkQ (jv : Value) (c : Option Nat) : Prop :=
  ∀ (W : World) (tb n : Nat) (root : Option Addr) (a b : ByteArray), TObjQ W tb jv root → Cnt c n W → sSz a + sSz b ≤ 4611686018427387904 →
    Calls Try.prog 82 #[.pointer (some ⟨tb, 0, none⟩), .string a, .string b] W fun e w' => e = .returned (.string (sJoin a b)) ∧ Cnt c (n + 1) w' ∧ Keeps (OnC c) W w'

theorem catch_idleQ (p q : Addr) (w : World) :
    CallsD Try.prog 88 #[.pointer (some p), .pointer (some q)] .returning w fun e u' w' => e = .returned (.tuple #[]) ∧ u' = .returning ∧ w' = w := by
  refine callsD_of_wpS Try.func88 rfl fun c₀ cs hu => ?_
  apply wpS_seq
  apply wpS_region
  simp [wpOpsS, go_sem, recoverD, hu, Try.ntmps88, Exit.thenS]
  refine wpS_cond (t := false) (by simp [Act.eval, Array.replicate]) ?_
  simp only [Bool.false_eq_true, if_false]
  refine wpS_of_wp (wp_skip ?_)
  cases c₀
  simp_all [bodyPostS, results, Try.results88]

/-- What both has laid. -/
structure BStQ (W V : World) (tb n : Nat) (jv : Value) (root : Option Addr) (c : Option Nat) (a b : ByteArray) : Prop where
  keeps : Keeps (OnC c) W V
  cnt : Cnt c n V
  tobj : TObjQ V tb jv root
  b0 : V.heap[W.heap.size]? = some (.cells #[.pointer (some ⟨tb, 0, none⟩)] 79 (0, 0))
  b1 : V.heap[W.heap.size + 1]? = some (.cells #[.string ⟨#[]⟩] 9 (0, 0))

theorem BStQ.drew {W V : World} {tb n : Nat} {jv : Value} {root : Option Addr} {c : Option Nat} {a b : ByteArray} (h : BStQ W V tb n jv root c a b) : BStQ W V.drew tb n jv root c a b := ⟨h.keeps.drew, h.cnt.drew, h.tobj, h.b0, h.b1⟩

theorem BStQ.on {W V V' : World} {tb n m : Nat} {jv : Value} {root : Option Addr} {c : Option Nat} {a b : ByteArray} (h : BStQ W V tb n jv root c a b) (hc : Cnt c n W) (k : Keeps (OnC c) V V') (hm : Cnt c m V') : BStQ W V' tb m jv root c a b :=
  ⟨h.keeps.trans k, hm, h.tobj.onC h.cnt k, blk_keep h.b0 k (hc.lt (by omega)), blk_keep h.b1 k (hc.lt (by omega))⟩

theorem bstQ {W : World} {tb n : Nat} {jv : Value} {root : Option Addr} {c : Option Nat} (a b : ByteArray) (hc : Cnt c n W) (ht : TObjQ W tb jv root) : BStQ W ((W.alloc (.cells #[.pointer (some ⟨tb, 0, none⟩)] 79)).alloc (.cells #[.string ⟨#[]⟩] 9)) tb n jv root c a b := by
  refine ⟨?_, ?_, ?_, ?_, ?_⟩
  · exact ((Keeps.refl _ W).alloc _).alloc _
  · exact (hc.alloc _).alloc _
  · unfold TObjQ at ht ⊢; exact blk_on (blk_on ht (bnew _ _)) (bnew _ _)
  · have h0 := heap_alloc_new W (.cells #[.pointer (some ⟨tb, 0, none⟩)] 79)
    try simp only [World.size_alloc] at h0
    exact blk_on (h0) (bnew _ _)
  · have h0 := heap_alloc_new (W.alloc (.cells #[.pointer (some ⟨tb, 0, none⟩)] 79)) (.cells #[.string ⟨#[]⟩] 9)
    try simp only [World.size_alloc] at h0
    exact h0

theorem BStQ.held {W X : World} {tb n : Nat} {jv : Value} {root : Option Addr} {c : Option Nat} {a b : ByteArray} (h : BStQ W X tb n jv root c a b) : X.cell? ⟨W.heap.size, 0, none⟩ = some (.pointer (some ⟨tb, 0, none⟩)) ∧ X.cell? ⟨tb, 1, none⟩ = some (jv) := ⟨(cell_one h.b0), (tobjQ h.tobj).2.1⟩

theorem joinStrQ (a b : ByteArray) (hs : sSz a + sSz b ≤ 4611686018427387904) (n : Nat) (w : World) :
    Calls Try.prog 36 #[.string a, .string b] w fun e w' => e = .returned (.string (sJoin a b)) ∧ Cnt none (n + 1) w' ∧ Keeps (OnC none) w w' := by
  have hadd : ∀ w : World, (Op.stringOp .add a b).run Try.prog w = .ok (.string (a ++ b)) w := fun w => run_string_add_sum w a b (by unfold sSz at hs; omega)
  unfold sJoin
  generalize a ++ b = d at *
  clear hs
  go_enter Try.func36, Try.ntmps36
  go_wp2
  go_ret
  exact ⟨rfl, fun b e => (by cases e), Keeps.refl _ _⟩

set_option maxHeartbeats 1600000 in
set_option maxRecDepth 100000 in
theorem bothStrQ : BothOkQ (.func (.func 36) #[] #[]) none := by
  intro W tb n root a b hT hC hS
  have hmf : ∀ (fn : Fn) (first cap : Array Value) (w : World), (Instr.makeFunc fn first cap).run Try.prog w = .ok (.func fn first cap) w := fun _ _ _ _ => rfl
  have CJ := aside (fun (w : World) (h : Cnt none n w) => joinStrQ a b (by omega) n w)
  have B := aside (bstQ a b hC hT)
  have HC := aside hC
  clear hT hC hS
  go_enter_defers Try.func82, Try.ntmps82
  obtain ⟨c0, c1⟩ := B.out.held
  go_wp2_with fail
  generalize (W.alloc (.cells #[.pointer (some ⟨tb, 0, none⟩)] 79)).alloc (.cells #[.string ⟨#[]⟩] 9) = V at *
  refine (CJ.out _ B.out.cnt).mono ?_
  rintro e w1 ⟨rfl, bc, kk⟩
  have B1 := aside (B.out.on HC.out kk bc)
  have s0 := cell_one B1.out.b1
  have z0 := frozen_one B1.out.b1
  clear bc kk B c0 c1
  go_wp2
  have E := aside (⟨B1.out.cnt.setCell (.string (sJoin a b)) (HC.out.lt (by simp)), B1.out.keeps.setCell (fun h => by dsimp only at h; omega) (.string (sJoin a b))⟩ : Cnt none (n + 1) (w1.setCell ⟨W.heap.size + 1, 0, none⟩ (.string (sJoin a b))) ∧ Keeps (OnC none) W (w1.setCell ⟨W.heap.size + 1, 0, none⟩ (.string (sJoin a b))))
  have r0 := World.cell?_setCell_same' w1 ⟨W.heap.size + 1, 0, none⟩ (.string (sJoin a b)) (by rw [s0]; rfl)
  clear s0 z0 B1 CJ
  generalize w1.setCell ⟨W.heap.size + 1, 0, none⟩ (.string (sJoin a b)) = W2 at *
  refine leaves_cons (f := 88) (args := #[.pointer (some ⟨W.heap.size, 0, none⟩), .pointer (some ⟨W.heap.size + 1, 0, none⟩)]) (by simp) (by simp [go_sem]) ?_
  refine (catch_idleQ _ _ _).mono ?_
  rintro e u' w'' ⟨rfl, rfl, rfl⟩
  simp [Leaves, settle, results, Try.results82, go_sem, r0]
  exact E.out

end Go.Proofs.Ytnlmlhoddchgbaa
namespace Go.Proofs.Ytnlmlhoddchgbaa
open Go.RowKit
set_option linter.unusedVariables false

/-- What hang has laid; x is the sum so far. -/
structure HStQ (w V : World) (tb n : Nat) (jv : Value) (root : Option Addr) (c : Option Nat) (k : ByteArray) (v : Int) (s x : ByteArray) (l r : Tr Int ByteArray) (lp rp : Option Addr) : Prop where
  keeps : Keeps (OnC c) w V
  cnt : Cnt c n V
  tobj : TObjQ V tb jv root
  row : V.heap[w.heap.size]? = some (.cells #[.string k, .int .i64 v, .string s] 124 (0, 0))
  l : IsTQ V lp l
  r : IsTQ V rp r

theorem HStQ.drew {w V : World} {tb n : Nat} {jv : Value} {root : Option Addr} {c : Option Nat} {k : ByteArray} {v : Int} {s x : ByteArray} {l r : Tr Int ByteArray} {lp rp : Option Addr} (h : HStQ w V tb n jv root c k v s x l r lp rp) : HStQ w V.drew tb n jv root c k v s x l r lp rp := ⟨h.keeps.drew, h.cnt.drew, h.tobj, h.row, h.l.on (Stay.refl _ _).drew, h.r.on (Stay.refl _ _).drew⟩

theorem HStQ.on {w V : World} {tb n : Nat} {jv : Value} {root : Option Addr} {c : Option Nat} {k : ByteArray} {v : Int} {s x : ByteArray} {l r : Tr Int ByteArray} {lp rp : Option Addr} {V' : World} {m n0 : Nat} (h : HStQ w V tb n jv root c k v s x l r lp rp) (h0 : Cnt c n0 w) (kk : Keeps (OnC c) V V') (hm : Cnt c m V') : HStQ w V' tb m jv root c k v s x l r lp rp :=
  ⟨h.keeps.trans kk, hm, h.tobj.onC h.cnt kk, blk_keep h.row kk (h0.lt (by omega)), h.l.on ((Stay.refl _ _).onC h.cnt kk (by decide)), h.r.on ((Stay.refl _ _).onC h.cnt kk (by decide))⟩

theorem HStQ.ph {w V : World} {tb n : Nat} {jv : Value} {root : Option Addr} {c : Option Nat} {k : ByteArray} {v : Int} {s x : ByteArray} {l r : Tr Int ByteArray} {lp rp : Option Addr} (h : HStQ w V tb n jv root c k v s x l r lp rp) (y : ByteArray) : HStQ w V tb n jv root c k v s y l r lp rp := ⟨h.keeps, h.cnt, h.tobj, h.row, h.l, h.r⟩

theorem hstQ {w : World} {tb n : Nat} {jv : Value} {root : Option Addr} {c : Option Nat} {l r : Tr Int ByteArray} {lp rp : Option Addr} (k : ByteArray) (v : Int) (s : ByteArray) (ht : TObjQ w tb jv root) (hc : Cnt c n w) (hl : IsTQ w lp l) (hr : IsTQ w rp r) :
    HStQ w (w.alloc (.cells #[.string k, .int .i64 v, .string s] 124)) tb n jv root c k v s s l r lp rp := by
  have st : Stay 126 w (w.alloc (.cells #[.string k, .int .i64 v, .string s] 124)) := (Stay.refl _ w).alloc _
  refine ⟨(Keeps.refl _ w).alloc _, hc.alloc _, ?_, heap_alloc_new w _, hl.on st, hr.on st⟩
  unfold TObjQ at ht ⊢
  exact blk_on ht (bnew _ _)

theorem HStQ.alloc {w V : World} {tb n : Nat} {jv : Value} {root : Option Addr} {c : Option Nat} {k : ByteArray} {v : Int} {s x : ByteArray} {l r : Tr Int ByteArray} {lp rp : Option Addr} (h : HStQ w V tb n jv root c k v s x l r lp rp) (o : Obj) : HStQ w (V.alloc o) tb n jv root c k v s x l r lp rp := by
  refine ⟨h.keeps.alloc _, h.cnt.alloc _, ?_, blk_on h.row (bnew _ _), h.l.on ((Stay.refl _ _).alloc _), h.r.on ((Stay.refl _ _).alloc _)⟩
  have ht := h.tobj
  unfold TObjQ at ht ⊢
  exact blk_on ht (bnew _ _)

theorem hangDoneQ {w V : World} {tb n : Nat} {jv : Value} {root : Option Addr} {c : Option Nat} {k : ByteArray} {v : Int} {s x : ByteArray} {l r : Tr Int ByteArray} {lp rp : Option Addr} {n0 : Nat} {mh : Int} (hm : (if l.ht < r.ht then (r.ht : Int) else (l.ht : Int)) = mh) (h : HStQ w V tb n jv root c k v s x l r lp rp) (hx : x = (Tr.node l k v s r).sum sJoin sZero) (hn : n = n0 + Tr.hangC l r) (hw : (Tr.node l k v s r).wt sSz ≤ 4611686018427387904) :
    (fun V' : World => ∃ p, Ending.returned (.pointer (some ⟨V.heap.size, 0, none⟩)) = .returned (.pointer p) ∧ IsTQ V' p (Tr.node l k v s r) ∧ Cnt c (n0 + Tr.hangC l r) V' ∧ Keeps (OnC c) w V') (World.drew (V.alloc (.cells #[.string k, .int .i64 v, .string s, .pointer lp, .pointer rp, .int .i64 (IntKind.i64.wrap (IntKind.i64.wrap ((l.cnt : Int) + 1) + (r.cnt : Int))), .int .i64 (IntKind.i64.wrap (mh + 1)), .string x] 126))) := by
  subst hm
  have h1 := Tr.cnt_le_wt sSz (Tr.node l k v s r)
  have h2 := Tr.ht_le_cnt (Tr.node l k v s r)
  have e1 : IntKind.i64.wrap (IntKind.i64.wrap ((l.cnt : Int) + 1) + (r.cnt : Int)) = ((Tr.node l k v s r).cnt : Int) := by
    simp only [Tr.cnt] at h1 ⊢
    simp only [IntKind.wrap_i64]
    omega
  have e2 : IntKind.i64.wrap ((if l.ht < r.ht then (r.ht : Int) else (l.ht : Int)) + 1) = ((Tr.node l k v s r).ht : Int) := by
    simp only [Tr.ht, Tr.cnt] at h1 h2 ⊢
    split <;> simp only [IntKind.wrap_i64] <;> omega
  rw [e1, e2]
  subst hx hn
  exact ⟨_, rfl, ⟨_, _, _, rfl, heap_alloc_new V _, h.l.on ((Stay.refl _ _).alloc _).drew, h.r.on ((Stay.refl _ _).alloc _).drew⟩, (h.cnt.alloc _).drew, (h.keeps.alloc _).drew⟩

theorem HStQ.held {w X : World} {tb n : Nat} {jv : Value} {root : Option Addr} {c : Option Nat} {k : ByteArray} {v : Int} {s x : ByteArray} {l r : Tr Int ByteArray} {lp rp : Option Addr} (h : HStQ w X tb n jv root c k v s x l r lp rp) : X.cell? ⟨w.heap.size, 0, none⟩ = some (.string k) ∧ X.cell? ⟨w.heap.size, 1, none⟩ = some (.int .i64 v) ∧ X.cell? ⟨w.heap.size, 2, none⟩ = some (.string s) ∧ Hid (HStQ w X tb n jv root c k v s x l r lp rp) := by
  have h1 := h.row
  
  simp only [World.cell?, h1]
  exact ⟨rfl, rfl, rfl, h⟩

end Go.Proofs.Ytnlmlhoddchgbaa
namespace Go.Proofs.Ytnlmlhoddchgbaa
open Go.RowKit
set_option linter.unusedVariables false

set_option maxHeartbeats 3200000 in
set_option maxRecDepth 100000 in
theorem hangQ00 {jv : Value} {c : Option Nat} (HB : BothOkQ jv c) {w : World} {tb n : Nat} {root : Option Addr} {l r : Tr Int ByteArray} (k : ByteArray) (v : Int) (s : ByteArray)
    (ht : TObjQ w tb jv root) (hc : Cnt c n w) (hl : IsTQ w none l) (hr : IsTQ w none r) (hw : (Tr.node l k v s r).wt sSz ≤ 4611686018427387904) (hnl : l.isNil = true) (hnr : r.isNil = true) :
    Calls Try.prog 65 #[.pointer (some ⟨tb, 0, none⟩), .agg #[.string k, .int .i64 v, .string s], .pointer none, .pointer none] w fun e w' => ∃ p, e = .returned (.pointer p) ∧ IsTQ w' p (Tr.node l k v s r) ∧ Cnt c (n + Tr.hangC l r) w' ∧ Keeps (OnC c) w w' := by
  have H0 := aside (hstQ k v s ht hc hl hr)
  have HC := aside hc
  have HW := aside hw
  simp only [Tr.wt] at hw
  clear ht hc hl hr hw
  go_enter Try.func65, Try.ntmps65
  go_wp2_with fail
  generalize w.alloc (.cells #[.string k, .int .i64 v, .string s] 124) = V at *
  refine wp_region_held_drew (S := fun X => X.cell? ⟨w.heap.size, 0, none⟩ = some (.string k) ∧ X.cell? ⟨w.heap.size, 1, none⟩ = some (.int .i64 v) ∧ X.cell? ⟨w.heap.size, 2, none⟩ = some (.string s) ∧ Hid (HStQ w X tb n jv root c k v s s l r none none)) (by kernel_rfl) H0.out.drew.held (fun hHeld => ?_)
  refine wpAnyH_take (i := 0) (v := ?_) rfl (by kernel_rfl) (by kernel_rfl) (by kernel_rfl) (fun _ _ _ h => h) (Or.inl ⟨by rfl, ?_⟩) (by assumption) ?_
  rotate_left
  · intro w hSw
    go_simp
    try with_reducible rfl
  simp only [Act.put, List.getElem_toArray, List.getElem_cons_zero, List.setIfInBounds_toArray, List.set_cons_zero, List.set_cons_succ]
  refine wpAnyH_take (i := 1) (v := ?_) rfl (by kernel_rfl) (by kernel_rfl) (by kernel_rfl) (fun _ _ _ h => h) (Or.inl ⟨by rfl, ?_⟩) (by assumption) ?_
  rotate_left
  · intro w hSw
    go_simp
    try with_reducible rfl
  simp only [Act.put, List.getElem_toArray, List.getElem_cons_zero, List.getElem_cons_succ, List.setIfInBounds_toArray, List.set_cons_zero, List.set_cons_succ]
  refine wpAnyH_take (i := 2) (v := ?_) rfl (by kernel_rfl) (by kernel_rfl) (by kernel_rfl) (fun _ _ _ h => h) (Or.inl ⟨by rfl, ?_⟩) (by assumption) ?_
  rotate_left
  · intro w hSw
    go_simp
    try with_reducible rfl
  simp only [Act.put, List.getElem_toArray, List.getElem_cons_zero, List.getElem_cons_succ, List.setIfInBounds_toArray, List.set_cons_zero, List.set_cons_succ]
  refine wpAnyH_take (i := 3) (v := ?_) rfl (by kernel_rfl) (by kernel_rfl) (by kernel_rfl) (fun _ _ _ h => h) (Or.inl ⟨by rfl, ?_⟩) (by assumption) ?_
  rotate_left
  · intro w hSw
    go_simp
    try with_reducible rfl
  simp only [Act.put, List.getElem_toArray, List.getElem_cons_zero, List.getElem_cons_succ, List.setIfInBounds_toArray, List.set_cons_zero, List.set_cons_succ]
  refine wpAnyH_take (i := 6) (v := ?_) rfl (by kernel_rfl) (by kernel_rfl) (by kernel_rfl) (fun _ _ _ h => h) (Or.inl ⟨by rfl, ?_⟩) (by assumption) ?_
  rotate_left
  · intro w hSw
    go_simp
    try with_reducible rfl
  simp only [Act.put, List.getElem_toArray, List.getElem_cons_zero, List.getElem_cons_succ, List.setIfInBounds_toArray, List.set_cons_zero, List.set_cons_succ]
  refine wpAnyH_take (i := 9) (v := ?_) rfl (by kernel_rfl) (by kernel_rfl) (by kernel_rfl) (fun _ _ _ h => h) (Or.inl ⟨by rfl, ?_⟩) (by assumption) ?_
  rotate_left
  · intro w hSw
    go_simp
    try with_reducible rfl
  simp only [Act.put, List.getElem_toArray, List.getElem_cons_zero, List.getElem_cons_succ, List.setIfInBounds_toArray, List.set_cons_zero, List.set_cons_succ]
  refine wpAnyH_take (i := 11) (v := ?_) rfl (by kernel_rfl) (by kernel_rfl) (by kernel_rfl) (fun _ _ _ h => h) (Or.inl ⟨by rfl, ?_⟩) (by assumption) ?_
  rotate_left
  · intro w hSw
    go_simp
    try with_reducible rfl
  simp only [Act.put, List.getElem_toArray, List.getElem_cons_zero, List.getElem_cons_succ, List.setIfInBounds_toArray, List.set_cons_zero, List.set_cons_succ]
  refine wpAnyH_take (i := 15) (v := ?_) rfl (by kernel_rfl) (by kernel_rfl) (by kernel_rfl) (fun _ _ _ h => h) (Or.inl ⟨by rfl, ?_⟩) (by assumption) ?_
  rotate_left
  · intro w hSw
    go_simp
    try with_reducible rfl
  simp only [Act.put, List.getElem_toArray, List.getElem_cons_zero, List.getElem_cons_succ, List.setIfInBounds_toArray, List.set_cons_zero, List.set_cons_succ]
  refine wpAnyH_ready (rs := [4]) (by kernel_rfl) (by simp) ?_
  refine AllReadyH.cons rfl (fun K hK => ?_) AllReadyH.nil
  go_simp
  refine (rowsQ hHeld.2.2.2.out.l).mono ?_
  rintro e w9 ⟨rfl, rfl⟩
  refine hK.out _ _ (hHeld) (fun hHeld => ?_)
  clear hK K 
  refine wpAnyH_take (i := 5) (v := ?_) rfl (by kernel_rfl) (by kernel_rfl) (by kernel_rfl) (fun _ _ _ h => h) (Or.inl ⟨by rfl, ?_⟩) (by assumption) ?_
  rotate_left
  · intro w hSw
    go_simp
    try with_reducible rfl
  simp only [Act.put, List.getElem_toArray, List.getElem_cons_zero, List.getElem_cons_succ, List.setIfInBounds_toArray, List.set_cons_zero, List.set_cons_succ]
  refine wpAnyH_ready (rs := [7]) (by kernel_rfl) (by simp) ?_
  refine AllReadyH.cons rfl (fun K hK => ?_) AllReadyH.nil
  go_simp
  refine (rowsQ hHeld.2.2.2.out.r).mono ?_
  rintro e w9 ⟨rfl, rfl⟩
  refine hK.out _ _ (hHeld) (fun hHeld => ?_)
  clear hK K 
  refine wpAnyH_take (i := 8) (v := ?_) rfl (by kernel_rfl) (by kernel_rfl) (by kernel_rfl) (fun _ _ _ h => h) (Or.inl ⟨by rfl, ?_⟩) (by assumption) ?_
  rotate_left
  · intro w hSw
    go_simp
    try with_reducible rfl
  simp only [Act.put, List.getElem_toArray, List.getElem_cons_zero, List.getElem_cons_succ, List.setIfInBounds_toArray, List.set_cons_zero, List.set_cons_succ]
  refine wpAnyH_ready (rs := [10]) (by kernel_rfl) (by simp) ?_
  refine AllReadyH.cons rfl (fun K hK => ?_) AllReadyH.nil
  go_simp
  refine (levelsQ hHeld.2.2.2.out.l).mono ?_
  rintro e w9 ⟨rfl, rfl⟩
  refine hK.out _ _ (hHeld) (fun hHeld => ?_)
  clear hK K 
  refine wpAnyH_ready (rs := [12]) (by kernel_rfl) (by simp) ?_
  refine AllReadyH.cons rfl (fun K hK => ?_) AllReadyH.nil
  go_simp
  refine (levelsQ hHeld.2.2.2.out.r).mono ?_
  rintro e w9 ⟨rfl, rfl⟩
  refine hK.out _ _ (hHeld) (fun hHeld => ?_)
  clear hK K 
  refine wpAnyH_take (i := 13) (v := ?_) rfl (by kernel_rfl) (by kernel_rfl) (by kernel_rfl) (fun _ _ _ h => h) (Or.inl ⟨by rfl, ?_⟩) (by assumption) ?_
  rotate_left
  · intro w hSw
    go_simp
    try with_reducible rfl
  simp only [Act.put, List.getElem_toArray, List.getElem_cons_zero, List.getElem_cons_succ, List.setIfInBounds_toArray, List.set_cons_zero, List.set_cons_succ]
  generalize hm : (if l.ht < r.ht then (r.ht : Int) else (l.ht : Int)) = mh
  have HM := aside hm
  clear hm
  refine wpAnyH_take (i := 14) (v := ?_) rfl (by kernel_rfl) (by kernel_rfl) (by kernel_rfl) (fun _ _ _ h => h) (Or.inl ⟨by rfl, ?_⟩) (by assumption) ?_
  rotate_left
  · intro w hSw
    go_simp
    try with_reducible rfl
  simp only [Act.put, List.getElem_toArray, List.getElem_cons_zero, List.getElem_cons_succ, List.setIfInBounds_toArray, List.set_cons_zero, List.set_cons_succ]
  refine wpAnyH_take (i := 16) (v := ?_) rfl (by kernel_rfl) (by kernel_rfl) (by kernel_rfl) (fun _ _ _ h => h) (Or.inl ⟨by rfl, ?_⟩) (by assumption) ?_
  rotate_left
  · intro w hSw
    go_simp
    try with_reducible rfl
  simp only [Act.put, List.getElem_toArray, List.getElem_cons_zero, List.getElem_cons_succ, List.setIfInBounds_toArray, List.set_cons_zero, List.set_cons_succ]
  refine wpAnyH_ready (rs := [17]) (by kernel_rfl) (by simp) ?_
  refine AllReadyH.cons rfl (fun K hK => ?_) AllReadyH.nil
  go_simp
  refine hK.out _ _ ((hHeld.2.2.2.out.alloc _).held) (fun hHeld => ?_)
  clear hK K 
  refine wpAnyH_take (i := 18) (v := ?_) rfl (by kernel_rfl) (by kernel_rfl) (by kernel_rfl) (fun _ _ _ h => h) (Or.inl ⟨by rfl, ?_⟩) (by assumption) ?_
  rotate_left
  · intro w hSw
    go_simp
    try with_reducible rfl
  simp only [Act.put, List.getElem_toArray, List.getElem_cons_zero, List.getElem_cons_succ, List.setIfInBounds_toArray, List.set_cons_zero, List.set_cons_succ]
  refine wpAnyH_done (by kernel_rfl) ?_ _
  go_wp2
  refine bodyPost_ret (v := .pointer (some ⟨V.heap.size, 0, none⟩)) (by simp [results, Try.results65, go_sem]) rfl ?_
  exact hangDoneQ (n0 := n) HM.out H0.out (by simp [Tr.sum, hnl, hnr]) (by simp [Tr.hangC, hnl, hnr]) HW.out

end Go.Proofs.Ytnlmlhoddchgbaa
namespace Go.Proofs.Ytnlmlhoddchgbaa
open Go.RowKit
set_option linter.unusedVariables false

set_option maxHeartbeats 3200000 in
set_option maxRecDepth 100000 in
theorem hangQ01 {jv : Value} {c : Option Nat} (HB : BothOkQ jv c) {w : World} {tb n : Nat} {root : Option Addr} {l r : Tr Int ByteArray} {br : Nat} (k : ByteArray) (v : Int) (s : ByteArray)
    (ht : TObjQ w tb jv root) (hc : Cnt c n w) (hl : IsTQ w none l) (hr : IsTQ w (some ⟨br, 0, none⟩) r) (hw : (Tr.node l k v s r).wt sSz ≤ 4611686018427387904) (hnl : l.isNil = true) (hnr : r.isNil = false) :
    Calls Try.prog 65 #[.pointer (some ⟨tb, 0, none⟩), .agg #[.string k, .int .i64 v, .string s], .pointer none, .pointer (some ⟨br, 0, none⟩)] w fun e w' => ∃ p, e = .returned (.pointer p) ∧ IsTQ w' p (Tr.node l k v s r) ∧ Cnt c (n + Tr.hangC l r) w' ∧ Keeps (OnC c) w w' := by
  have H0 := aside (hstQ k v s ht hc hl hr)
  have HC := aside hc
  have HW := aside hw
  simp only [Tr.wt] at hw
  have hsr := Tr.sum_le sSz_le sZero r hnr
  have hler : sSz s + sSz (r.sum sJoin sZero) ≤ 4611686018427387904 := by omega
  clear ht hc hl hr hw hsr
  have hs0 := sumAtQ H0.out.r
  go_enter Try.func65, Try.ntmps65
  go_wp2_with fail
  generalize w.alloc (.cells #[.string k, .int .i64 v, .string s] 124) = V at *
  clear hs0
  refine (HB _ tb n root s (r.sum sJoin sZero) H0.out.tobj H0.out.cnt hler).mono ?_
  rintro e Vr ⟨rfl, bc, kk⟩
  have H0r := aside ((H0.out.on HC.out kk bc).ph (sJoin s (r.sum sJoin sZero)))
  clear bc kk H0
  go_wp2_with fail
  refine wp_region_held_drew (S := fun X => X.cell? ⟨w.heap.size, 0, none⟩ = some (.string k) ∧ X.cell? ⟨w.heap.size, 1, none⟩ = some (.int .i64 v) ∧ X.cell? ⟨w.heap.size, 2, none⟩ = some (.string s) ∧ Hid (HStQ w X tb (n + 1) jv root c k v s (sJoin s (r.sum sJoin sZero)) l r none (some ⟨br, 0, none⟩))) (by kernel_rfl) H0r.out.drew.held (fun hHeld => ?_)
  refine wpAnyH_take (i := 0) (v := ?_) rfl (by kernel_rfl) (by kernel_rfl) (by kernel_rfl) (fun _ _ _ h => h) (Or.inl ⟨by rfl, ?_⟩) (by assumption) ?_
  rotate_left
  · intro w hSw
    go_simp
    try with_reducible rfl
  simp only [Act.put, List.getElem_toArray, List.getElem_cons_zero, List.setIfInBounds_toArray, List.set_cons_zero, List.set_cons_succ]
  refine wpAnyH_take (i := 1) (v := ?_) rfl (by kernel_rfl) (by kernel_rfl) (by kernel_rfl) (fun _ _ _ h => h) (Or.inl ⟨by rfl, ?_⟩) (by assumption) ?_
  rotate_left
  · intro w hSw
    go_simp
    try with_reducible rfl
  simp only [Act.put, List.getElem_toArray, List.getElem_cons_zero, List.getElem_cons_succ, List.setIfInBounds_toArray, List.set_cons_zero, List.set_cons_succ]
  refine wpAnyH_take (i := 2) (v := ?_) rfl (by kernel_rfl) (by kernel_rfl) (by kernel_rfl) (fun _ _ _ h => h) (Or.inl ⟨by rfl, ?_⟩) (by assumption) ?_
  rotate_left
  · intro w hSw
    go_simp
    try with_reducible rfl
  simp only [Act.put, List.getElem_toArray, List.getElem_cons_zero, List.getElem_cons_succ, List.setIfInBounds_toArray, List.set_cons_zero, List.set_cons_succ]
  refine wpAnyH_take (i := 3) (v := ?_) rfl (by kernel_rfl) (by kernel_rfl) (by kernel_rfl) (fun _ _ _ h => h) (Or.inl ⟨by rfl, ?_⟩) (by assumption) ?_
  rotate_left
  · intro w hSw
    go_simp
    try with_reducible rfl
  simp only [Act.put, List.getElem_toArray, List.getElem_cons_zero, List.getElem_cons_succ, List.setIfInBounds_toArray, List.set_cons_zero, List.set_cons_succ]
  refine wpAnyH_take (i := 6) (v := ?_) rfl (by kernel_rfl) (by kernel_rfl) (by kernel_rfl) (fun _ _ _ h => h) (Or.inl ⟨by rfl, ?_⟩) (by assumption) ?_
  rotate_left
  · intro w hSw
    go_simp
    try with_reducible rfl
  simp only [Act.put, List.getElem_toArray, List.getElem_cons_zero, List.getElem_cons_succ, List.setIfInBounds_toArray, List.set_cons_zero, List.set_cons_succ]
  refine wpAnyH_take (i := 9) (v := ?_) rfl (by kernel_rfl) (by kernel_rfl) (by kernel_rfl) (fun _ _ _ h => h) (Or.inl ⟨by rfl, ?_⟩) (by assumption) ?_
  rotate_left
  · intro w hSw
    go_simp
    try with_reducible rfl
  simp only [Act.put, List.getElem_toArray, List.getElem_cons_zero, List.getElem_cons_succ, List.setIfInBounds_toArray, List.set_cons_zero, List.set_cons_succ]
  refine wpAnyH_take (i := 11) (v := ?_) rfl (by kernel_rfl) (by kernel_rfl) (by kernel_rfl) (fun _ _ _ h => h) (Or.inl ⟨by rfl, ?_⟩) (by assumption) ?_
  rotate_left
  · intro w hSw
    go_simp
    try with_reducible rfl
  simp only [Act.put, List.getElem_toArray, List.getElem_cons_zero, List.getElem_cons_succ, List.setIfInBounds_toArray, List.set_cons_zero, List.set_cons_succ]
  refine wpAnyH_take (i := 15) (v := ?_) rfl (by kernel_rfl) (by kernel_rfl) (by kernel_rfl) (fun _ _ _ h => h) (Or.inl ⟨by rfl, ?_⟩) (by assumption) ?_
  rotate_left
  · intro w hSw
    go_simp
    try with_reducible rfl
  simp only [Act.put, List.getElem_toArray, List.getElem_cons_zero, List.getElem_cons_succ, List.setIfInBounds_toArray, List.set_cons_zero, List.set_cons_succ]
  refine wpAnyH_ready (rs := [4]) (by kernel_rfl) (by simp) ?_
  refine AllReadyH.cons rfl (fun K hK => ?_) AllReadyH.nil
  go_simp
  refine (rowsQ hHeld.2.2.2.out.l).mono ?_
  rintro e w9 ⟨rfl, rfl⟩
  refine hK.out _ _ (hHeld) (fun hHeld => ?_)
  clear hK K 
  refine wpAnyH_take (i := 5) (v := ?_) rfl (by kernel_rfl) (by kernel_rfl) (by kernel_rfl) (fun _ _ _ h => h) (Or.inl ⟨by rfl, ?_⟩) (by assumption) ?_
  rotate_left
  · intro w hSw
    go_simp
    try with_reducible rfl
  simp only [Act.put, List.getElem_toArray, List.getElem_cons_zero, List.getElem_cons_succ, List.setIfInBounds_toArray, List.set_cons_zero, List.set_cons_succ]
  refine wpAnyH_ready (rs := [7]) (by kernel_rfl) (by simp) ?_
  refine AllReadyH.cons rfl (fun K hK => ?_) AllReadyH.nil
  go_simp
  refine (rowsQ hHeld.2.2.2.out.r).mono ?_
  rintro e w9 ⟨rfl, rfl⟩
  refine hK.out _ _ (hHeld) (fun hHeld => ?_)
  clear hK K 
  refine wpAnyH_take (i := 8) (v := ?_) rfl (by kernel_rfl) (by kernel_rfl) (by kernel_rfl) (fun _ _ _ h => h) (Or.inl ⟨by rfl, ?_⟩) (by assumption) ?_
  rotate_left
  · intro w hSw
    go_simp
    try with_reducible rfl
  simp only [Act.put, List.getElem_toArray, List.getElem_cons_zero, List.getElem_cons_succ, List.setIfInBounds_toArray, List.set_cons_zero, List.set_cons_succ]
  refine wpAnyH_ready (rs := [10]) (by kernel_rfl) (by simp) ?_
  refine AllReadyH.cons rfl (fun K hK => ?_) AllReadyH.nil
  go_simp
  refine (levelsQ hHeld.2.2.2.out.l).mono ?_
  rintro e w9 ⟨rfl, rfl⟩
  refine hK.out _ _ (hHeld) (fun hHeld => ?_)
  clear hK K 
  refine wpAnyH_ready (rs := [12]) (by kernel_rfl) (by simp) ?_
  refine AllReadyH.cons rfl (fun K hK => ?_) AllReadyH.nil
  go_simp
  refine (levelsQ hHeld.2.2.2.out.r).mono ?_
  rintro e w9 ⟨rfl, rfl⟩
  refine hK.out _ _ (hHeld) (fun hHeld => ?_)
  clear hK K 
  refine wpAnyH_take (i := 13) (v := ?_) rfl (by kernel_rfl) (by kernel_rfl) (by kernel_rfl) (fun _ _ _ h => h) (Or.inl ⟨by rfl, ?_⟩) (by assumption) ?_
  rotate_left
  · intro w hSw
    go_simp
    try with_reducible rfl
  simp only [Act.put, List.getElem_toArray, List.getElem_cons_zero, List.getElem_cons_succ, List.setIfInBounds_toArray, List.set_cons_zero, List.set_cons_succ]
  generalize hm : (if l.ht < r.ht then (r.ht : Int) else (l.ht : Int)) = mh
  have HM := aside hm
  clear hm
  refine wpAnyH_take (i := 14) (v := ?_) rfl (by kernel_rfl) (by kernel_rfl) (by kernel_rfl) (fun _ _ _ h => h) (Or.inl ⟨by rfl, ?_⟩) (by assumption) ?_
  rotate_left
  · intro w hSw
    go_simp
    try with_reducible rfl
  simp only [Act.put, List.getElem_toArray, List.getElem_cons_zero, List.getElem_cons_succ, List.setIfInBounds_toArray, List.set_cons_zero, List.set_cons_succ]
  refine wpAnyH_take (i := 16) (v := ?_) rfl (by kernel_rfl) (by kernel_rfl) (by kernel_rfl) (fun _ _ _ h => h) (Or.inl ⟨by rfl, ?_⟩) (by assumption) ?_
  rotate_left
  · intro w hSw
    go_simp
    try with_reducible rfl
  simp only [Act.put, List.getElem_toArray, List.getElem_cons_zero, List.getElem_cons_succ, List.setIfInBounds_toArray, List.set_cons_zero, List.set_cons_succ]
  refine wpAnyH_ready (rs := [17]) (by kernel_rfl) (by simp) ?_
  refine AllReadyH.cons rfl (fun K hK => ?_) AllReadyH.nil
  go_simp
  refine hK.out _ _ ((hHeld.2.2.2.out.alloc _).held) (fun hHeld => ?_)
  clear hK K 
  refine wpAnyH_take (i := 18) (v := ?_) rfl (by kernel_rfl) (by kernel_rfl) (by kernel_rfl) (fun _ _ _ h => h) (Or.inl ⟨by rfl, ?_⟩) (by assumption) ?_
  rotate_left
  · intro w hSw
    go_simp
    try with_reducible rfl
  simp only [Act.put, List.getElem_toArray, List.getElem_cons_zero, List.getElem_cons_succ, List.setIfInBounds_toArray, List.set_cons_zero, List.set_cons_succ]
  refine wpAnyH_done (by kernel_rfl) ?_ _
  go_wp2
  refine bodyPost_ret (v := .pointer (some ⟨Vr.heap.size, 0, none⟩)) (by simp [results, Try.results65, go_sem]) rfl ?_
  exact hangDoneQ (n0 := n) HM.out H0r.out (by simp [Tr.sum, hnl, hnr]) (by simp [Tr.hangC, hnl, hnr]) HW.out

end Go.Proofs.Ytnlmlhoddchgbaa
namespace Go.Proofs.Ytnlmlhoddchgbaa
open Go.RowKit
set_option linter.unusedVariables false

set_option maxHeartbeats 3200000 in
set_option maxRecDepth 100000 in
theorem hangQ10 {jv : Value} {c : Option Nat} (HB : BothOkQ jv c) {w : World} {tb n : Nat} {root : Option Addr} {l r : Tr Int ByteArray} {bl : Nat} (k : ByteArray) (v : Int) (s : ByteArray)
    (ht : TObjQ w tb jv root) (hc : Cnt c n w) (hl : IsTQ w (some ⟨bl, 0, none⟩) l) (hr : IsTQ w none r) (hw : (Tr.node l k v s r).wt sSz ≤ 4611686018427387904) (hnl : l.isNil = false) (hnr : r.isNil = true) :
    Calls Try.prog 65 #[.pointer (some ⟨tb, 0, none⟩), .agg #[.string k, .int .i64 v, .string s], .pointer (some ⟨bl, 0, none⟩), .pointer none] w fun e w' => ∃ p, e = .returned (.pointer p) ∧ IsTQ w' p (Tr.node l k v s r) ∧ Cnt c (n + Tr.hangC l r) w' ∧ Keeps (OnC c) w w' := by
  have H0 := aside (hstQ k v s ht hc hl hr)
  have HC := aside hc
  have HW := aside hw
  simp only [Tr.wt] at hw
  have hsl := Tr.sum_le sSz_le sZero l hnl
  have hlel : sSz (l.sum sJoin sZero) + sSz s ≤ 4611686018427387904 := by omega
  clear ht hc hl hr hw hsl
  have hs0 := sumAtQ H0.out.l
  go_enter Try.func65, Try.ntmps65
  go_wp2_with fail
  generalize w.alloc (.cells #[.string k, .int .i64 v, .string s] 124) = V at *
  clear hs0
  refine (HB _ tb n root (l.sum sJoin sZero) s H0.out.tobj H0.out.cnt hlel).mono ?_
  rintro e Vl ⟨rfl, bc, kk⟩
  have H0l := aside ((H0.out.on HC.out kk bc).ph (sJoin (l.sum sJoin sZero) s))
  clear bc kk H0
  go_wp2_with fail
  refine wp_region_held_drew (S := fun X => X.cell? ⟨w.heap.size, 0, none⟩ = some (.string k) ∧ X.cell? ⟨w.heap.size, 1, none⟩ = some (.int .i64 v) ∧ X.cell? ⟨w.heap.size, 2, none⟩ = some (.string s) ∧ Hid (HStQ w X tb (n + 1) jv root c k v s (sJoin (l.sum sJoin sZero) s) l r (some ⟨bl, 0, none⟩) none)) (by kernel_rfl) H0l.out.drew.held (fun hHeld => ?_)
  refine wpAnyH_take (i := 0) (v := ?_) rfl (by kernel_rfl) (by kernel_rfl) (by kernel_rfl) (fun _ _ _ h => h) (Or.inl ⟨by rfl, ?_⟩) (by assumption) ?_
  rotate_left
  · intro w hSw
    go_simp
    try with_reducible rfl
  simp only [Act.put, List.getElem_toArray, List.getElem_cons_zero, List.setIfInBounds_toArray, List.set_cons_zero, List.set_cons_succ]
  refine wpAnyH_take (i := 1) (v := ?_) rfl (by kernel_rfl) (by kernel_rfl) (by kernel_rfl) (fun _ _ _ h => h) (Or.inl ⟨by rfl, ?_⟩) (by assumption) ?_
  rotate_left
  · intro w hSw
    go_simp
    try with_reducible rfl
  simp only [Act.put, List.getElem_toArray, List.getElem_cons_zero, List.getElem_cons_succ, List.setIfInBounds_toArray, List.set_cons_zero, List.set_cons_succ]
  refine wpAnyH_take (i := 2) (v := ?_) rfl (by kernel_rfl) (by kernel_rfl) (by kernel_rfl) (fun _ _ _ h => h) (Or.inl ⟨by rfl, ?_⟩) (by assumption) ?_
  rotate_left
  · intro w hSw
    go_simp
    try with_reducible rfl
  simp only [Act.put, List.getElem_toArray, List.getElem_cons_zero, List.getElem_cons_succ, List.setIfInBounds_toArray, List.set_cons_zero, List.set_cons_succ]
  refine wpAnyH_take (i := 3) (v := ?_) rfl (by kernel_rfl) (by kernel_rfl) (by kernel_rfl) (fun _ _ _ h => h) (Or.inl ⟨by rfl, ?_⟩) (by assumption) ?_
  rotate_left
  · intro w hSw
    go_simp
    try with_reducible rfl
  simp only [Act.put, List.getElem_toArray, List.getElem_cons_zero, List.getElem_cons_succ, List.setIfInBounds_toArray, List.set_cons_zero, List.set_cons_succ]
  refine wpAnyH_take (i := 6) (v := ?_) rfl (by kernel_rfl) (by kernel_rfl) (by kernel_rfl) (fun _ _ _ h => h) (Or.inl ⟨by rfl, ?_⟩) (by assumption) ?_
  rotate_left
  · intro w hSw
    go_simp
    try with_reducible rfl
  simp only [Act.put, List.getElem_toArray, List.getElem_cons_zero, List.getElem_cons_succ, List.setIfInBounds_toArray, List.set_cons_zero, List.set_cons_succ]
  refine wpAnyH_take (i := 9) (v := ?_) rfl (by kernel_rfl) (by kernel_rfl) (by kernel_rfl) (fun _ _ _ h => h) (Or.inl ⟨by rfl, ?_⟩) (by assumption) ?_
  rotate_left
  · intro w hSw
    go_simp
    try with_reducible rfl
  simp only [Act.put, List.getElem_toArray, List.getElem_cons_zero, List.getElem_cons_succ, List.setIfInBounds_toArray, List.set_cons_zero, List.set_cons_succ]
  refine wpAnyH_take (i := 11) (v := ?_) rfl (by kernel_rfl) (by kernel_rfl) (by kernel_rfl) (fun _ _ _ h => h) (Or.inl ⟨by rfl, ?_⟩) (by assumption) ?_
  rotate_left
  · intro w hSw
    go_simp
    try with_reducible rfl
  simp only [Act.put, List.getElem_toArray, List.getElem_cons_zero, List.getElem_cons_succ, List.setIfInBounds_toArray, List.set_cons_zero, List.set_cons_succ]
  refine wpAnyH_take (i := 15) (v := ?_) rfl (by kernel_rfl) (by kernel_rfl) (by kernel_rfl) (fun _ _ _ h => h) (Or.inl ⟨by rfl, ?_⟩) (by assumption) ?_
  rotate_left
  · intro w hSw
    go_simp
    try with_reducible rfl
  simp only [Act.put, List.getElem_toArray, List.getElem_cons_zero, List.getElem_cons_succ, List.setIfInBounds_toArray, List.set_cons_zero, List.set_cons_succ]
  refine wpAnyH_ready (rs := [4]) (by kernel_rfl) (by simp) ?_
  refine AllReadyH.cons rfl (fun K hK => ?_) AllReadyH.nil
  go_simp
  refine (rowsQ hHeld.2.2.2.out.l).mono ?_
  rintro e w9 ⟨rfl, rfl⟩
  refine hK.out _ _ (hHeld) (fun hHeld => ?_)
  clear hK K 
  refine wpAnyH_take (i := 5) (v := ?_) rfl (by kernel_rfl) (by kernel_rfl) (by kernel_rfl) (fun _ _ _ h => h) (Or.inl ⟨by rfl, ?_⟩) (by assumption) ?_
  rotate_left
  · intro w hSw
    go_simp
    try with_reducible rfl
  simp only [Act.put, List.getElem_toArray, List.getElem_cons_zero, List.getElem_cons_succ, List.setIfInBounds_toArray, List.set_cons_zero, List.set_cons_succ]
  refine wpAnyH_ready (rs := [7]) (by kernel_rfl) (by simp) ?_
  refine AllReadyH.cons rfl (fun K hK => ?_) AllReadyH.nil
  go_simp
  refine (rowsQ hHeld.2.2.2.out.r).mono ?_
  rintro e w9 ⟨rfl, rfl⟩
  refine hK.out _ _ (hHeld) (fun hHeld => ?_)
  clear hK K 
  refine wpAnyH_take (i := 8) (v := ?_) rfl (by kernel_rfl) (by kernel_rfl) (by kernel_rfl) (fun _ _ _ h => h) (Or.inl ⟨by rfl, ?_⟩) (by assumption) ?_
  rotate_left
  · intro w hSw
    go_simp
    try with_reducible rfl
  simp only [Act.put, List.getElem_toArray, List.getElem_cons_zero, List.getElem_cons_succ, List.setIfInBounds_toArray, List.set_cons_zero, List.set_cons_succ]
  refine wpAnyH_ready (rs := [10]) (by kernel_rfl) (by simp) ?_
  refine AllReadyH.cons rfl (fun K hK => ?_) AllReadyH.nil
  go_simp
  refine (levelsQ hHeld.2.2.2.out.l).mono ?_
  rintro e w9 ⟨rfl, rfl⟩
  refine hK.out _ _ (hHeld) (fun hHeld => ?_)
  clear hK K 
  refine wpAnyH_ready (rs := [12]) (by kernel_rfl) (by simp) ?_
  refine AllReadyH.cons rfl (fun K hK => ?_) AllReadyH.nil
  go_simp
  refine (levelsQ hHeld.2.2.2.out.r).mono ?_
  rintro e w9 ⟨rfl, rfl⟩
  refine hK.out _ _ (hHeld) (fun hHeld => ?_)
  clear hK K 
  refine wpAnyH_take (i := 13) (v := ?_) rfl (by kernel_rfl) (by kernel_rfl) (by kernel_rfl) (fun _ _ _ h => h) (Or.inl ⟨by rfl, ?_⟩) (by assumption) ?_
  rotate_left
  · intro w hSw
    go_simp
    try with_reducible rfl
  simp only [Act.put, List.getElem_toArray, List.getElem_cons_zero, List.getElem_cons_succ, List.setIfInBounds_toArray, List.set_cons_zero, List.set_cons_succ]
  generalize hm : (if l.ht < r.ht then (r.ht : Int) else (l.ht : Int)) = mh
  have HM := aside hm
  clear hm
  refine wpAnyH_take (i := 14) (v := ?_) rfl (by kernel_rfl) (by kernel_rfl) (by kernel_rfl) (fun _ _ _ h => h) (Or.inl ⟨by rfl, ?_⟩) (by assumption) ?_
  rotate_left
  · intro w hSw
    go_simp
    try with_reducible rfl
  simp only [Act.put, List.getElem_toArray, List.getElem_cons_zero, List.getElem_cons_succ, List.setIfInBounds_toArray, List.set_cons_zero, List.set_cons_succ]
  refine wpAnyH_take (i := 16) (v := ?_) rfl (by kernel_rfl) (by kernel_rfl) (by kernel_rfl) (fun _ _ _ h => h) (Or.inl ⟨by rfl, ?_⟩) (by assumption) ?_
  rotate_left
  · intro w hSw
    go_simp
    try with_reducible rfl
  simp only [Act.put, List.getElem_toArray, List.getElem_cons_zero, List.getElem_cons_succ, List.setIfInBounds_toArray, List.set_cons_zero, List.set_cons_succ]
  refine wpAnyH_ready (rs := [17]) (by kernel_rfl) (by simp) ?_
  refine AllReadyH.cons rfl (fun K hK => ?_) AllReadyH.nil
  go_simp
  refine hK.out _ _ ((hHeld.2.2.2.out.alloc _).held) (fun hHeld => ?_)
  clear hK K 
  refine wpAnyH_take (i := 18) (v := ?_) rfl (by kernel_rfl) (by kernel_rfl) (by kernel_rfl) (fun _ _ _ h => h) (Or.inl ⟨by rfl, ?_⟩) (by assumption) ?_
  rotate_left
  · intro w hSw
    go_simp
    try with_reducible rfl
  simp only [Act.put, List.getElem_toArray, List.getElem_cons_zero, List.getElem_cons_succ, List.setIfInBounds_toArray, List.set_cons_zero, List.set_cons_succ]
  refine wpAnyH_done (by kernel_rfl) ?_ _
  go_wp2
  refine bodyPost_ret (v := .pointer (some ⟨Vl.heap.size, 0, none⟩)) (by simp [results, Try.results65, go_sem]) rfl ?_
  exact hangDoneQ (n0 := n) HM.out H0l.out (by simp [Tr.sum, hnl, hnr]) (by simp [Tr.hangC, hnl, hnr]) HW.out

end Go.Proofs.Ytnlmlhoddchgbaa
namespace Go.Proofs.Ytnlmlhoddchgbaa
open Go.RowKit
set_option linter.unusedVariables false

set_option maxHeartbeats 3200000 in
set_option maxRecDepth 100000 in
theorem hangQ11 {jv : Value} {c : Option Nat} (HB : BothOkQ jv c) {w : World} {tb n : Nat} {root : Option Addr} {l r : Tr Int ByteArray} {bl : Nat} {br : Nat} (k : ByteArray) (v : Int) (s : ByteArray)
    (ht : TObjQ w tb jv root) (hc : Cnt c n w) (hl : IsTQ w (some ⟨bl, 0, none⟩) l) (hr : IsTQ w (some ⟨br, 0, none⟩) r) (hw : (Tr.node l k v s r).wt sSz ≤ 4611686018427387904) (hnl : l.isNil = false) (hnr : r.isNil = false) :
    Calls Try.prog 65 #[.pointer (some ⟨tb, 0, none⟩), .agg #[.string k, .int .i64 v, .string s], .pointer (some ⟨bl, 0, none⟩), .pointer (some ⟨br, 0, none⟩)] w fun e w' => ∃ p, e = .returned (.pointer p) ∧ IsTQ w' p (Tr.node l k v s r) ∧ Cnt c (n + Tr.hangC l r) w' ∧ Keeps (OnC c) w w' := by
  have H0 := aside (hstQ k v s ht hc hl hr)
  have HC := aside hc
  have HW := aside hw
  simp only [Tr.wt] at hw
  have hsl := Tr.sum_le sSz_le sZero l hnl
  have hlel : sSz (l.sum sJoin sZero) + sSz s ≤ 4611686018427387904 := by omega
  have hx := sSz_le (l.sum sJoin sZero) s
  have hsr := Tr.sum_le sSz_le sZero r hnr
  have hler : sSz (sJoin (l.sum sJoin sZero) s) + sSz (r.sum sJoin sZero) ≤ 4611686018427387904 := by omega
  clear ht hc hl hr hw hsl hsr hx
  have hs0 := sumAtQ H0.out.l
  go_enter Try.func65, Try.ntmps65
  go_wp2_with fail
  generalize w.alloc (.cells #[.string k, .int .i64 v, .string s] 124) = V at *
  clear hs0
  refine (HB _ tb n root (l.sum sJoin sZero) s H0.out.tobj H0.out.cnt hlel).mono ?_
  rintro e Vl ⟨rfl, bc, kk⟩
  have H0l := aside ((H0.out.on HC.out kk bc).ph (sJoin (l.sum sJoin sZero) s))
  clear bc kk H0
  have hs1 := sumAtQ H0l.out.r
  go_wp2_with fail
  clear hs1
  refine (HB _ tb (n + 1) root (sJoin (l.sum sJoin sZero) s) (r.sum sJoin sZero) H0l.out.tobj H0l.out.cnt hler).mono ?_
  rintro e Vr ⟨rfl, bc, kk⟩
  have H0lr := aside ((H0l.out.on HC.out kk bc).ph (sJoin (sJoin (l.sum sJoin sZero) s) (r.sum sJoin sZero)))
  clear bc kk H0l
  go_wp2_with fail
  refine wp_region_held_drew (S := fun X => X.cell? ⟨w.heap.size, 0, none⟩ = some (.string k) ∧ X.cell? ⟨w.heap.size, 1, none⟩ = some (.int .i64 v) ∧ X.cell? ⟨w.heap.size, 2, none⟩ = some (.string s) ∧ Hid (HStQ w X tb ((n + 1) + 1) jv root c k v s (sJoin (sJoin (l.sum sJoin sZero) s) (r.sum sJoin sZero)) l r (some ⟨bl, 0, none⟩) (some ⟨br, 0, none⟩))) (by kernel_rfl) H0lr.out.drew.held (fun hHeld => ?_)
  refine wpAnyH_take (i := 0) (v := ?_) rfl (by kernel_rfl) (by kernel_rfl) (by kernel_rfl) (fun _ _ _ h => h) (Or.inl ⟨by rfl, ?_⟩) (by assumption) ?_
  rotate_left
  · intro w hSw
    go_simp
    try with_reducible rfl
  simp only [Act.put, List.getElem_toArray, List.getElem_cons_zero, List.setIfInBounds_toArray, List.set_cons_zero, List.set_cons_succ]
  refine wpAnyH_take (i := 1) (v := ?_) rfl (by kernel_rfl) (by kernel_rfl) (by kernel_rfl) (fun _ _ _ h => h) (Or.inl ⟨by rfl, ?_⟩) (by assumption) ?_
  rotate_left
  · intro w hSw
    go_simp
    try with_reducible rfl
  simp only [Act.put, List.getElem_toArray, List.getElem_cons_zero, List.getElem_cons_succ, List.setIfInBounds_toArray, List.set_cons_zero, List.set_cons_succ]
  refine wpAnyH_take (i := 2) (v := ?_) rfl (by kernel_rfl) (by kernel_rfl) (by kernel_rfl) (fun _ _ _ h => h) (Or.inl ⟨by rfl, ?_⟩) (by assumption) ?_
  rotate_left
  · intro w hSw
    go_simp
    try with_reducible rfl
  simp only [Act.put, List.getElem_toArray, List.getElem_cons_zero, List.getElem_cons_succ, List.setIfInBounds_toArray, List.set_cons_zero, List.set_cons_succ]
  refine wpAnyH_take (i := 3) (v := ?_) rfl (by kernel_rfl) (by kernel_rfl) (by kernel_rfl) (fun _ _ _ h => h) (Or.inl ⟨by rfl, ?_⟩) (by assumption) ?_
  rotate_left
  · intro w hSw
    go_simp
    try with_reducible rfl
  simp only [Act.put, List.getElem_toArray, List.getElem_cons_zero, List.getElem_cons_succ, List.setIfInBounds_toArray, List.set_cons_zero, List.set_cons_succ]
  refine wpAnyH_take (i := 6) (v := ?_) rfl (by kernel_rfl) (by kernel_rfl) (by kernel_rfl) (fun _ _ _ h => h) (Or.inl ⟨by rfl, ?_⟩) (by assumption) ?_
  rotate_left
  · intro w hSw
    go_simp
    try with_reducible rfl
  simp only [Act.put, List.getElem_toArray, List.getElem_cons_zero, List.getElem_cons_succ, List.setIfInBounds_toArray, List.set_cons_zero, List.set_cons_succ]
  refine wpAnyH_take (i := 9) (v := ?_) rfl (by kernel_rfl) (by kernel_rfl) (by kernel_rfl) (fun _ _ _ h => h) (Or.inl ⟨by rfl, ?_⟩) (by assumption) ?_
  rotate_left
  · intro w hSw
    go_simp
    try with_reducible rfl
  simp only [Act.put, List.getElem_toArray, List.getElem_cons_zero, List.getElem_cons_succ, List.setIfInBounds_toArray, List.set_cons_zero, List.set_cons_succ]
  refine wpAnyH_take (i := 11) (v := ?_) rfl (by kernel_rfl) (by kernel_rfl) (by kernel_rfl) (fun _ _ _ h => h) (Or.inl ⟨by rfl, ?_⟩) (by assumption) ?_
  rotate_left
  · intro w hSw
    go_simp
    try with_reducible rfl
  simp only [Act.put, List.getElem_toArray, List.getElem_cons_zero, List.getElem_cons_succ, List.setIfInBounds_toArray, List.set_cons_zero, List.set_cons_succ]
  refine wpAnyH_take (i := 15) (v := ?_) rfl (by kernel_rfl) (by kernel_rfl) (by kernel_rfl) (fun _ _ _ h => h) (Or.inl ⟨by rfl, ?_⟩) (by assumption) ?_
  rotate_left
  · intro w hSw
    go_simp
    try with_reducible rfl
  simp only [Act.put, List.getElem_toArray, List.getElem_cons_zero, List.getElem_cons_succ, List.setIfInBounds_toArray, List.set_cons_zero, List.set_cons_succ]
  refine wpAnyH_ready (rs := [4]) (by kernel_rfl) (by simp) ?_
  refine AllReadyH.cons rfl (fun K hK => ?_) AllReadyH.nil
  go_simp
  refine (rowsQ hHeld.2.2.2.out.l).mono ?_
  rintro e w9 ⟨rfl, rfl⟩
  refine hK.out _ _ (hHeld) (fun hHeld => ?_)
  clear hK K 
  refine wpAnyH_take (i := 5) (v := ?_) rfl (by kernel_rfl) (by kernel_rfl) (by kernel_rfl) (fun _ _ _ h => h) (Or.inl ⟨by rfl, ?_⟩) (by assumption) ?_
  rotate_left
  · intro w hSw
    go_simp
    try with_reducible rfl
  simp only [Act.put, List.getElem_toArray, List.getElem_cons_zero, List.getElem_cons_succ, List.setIfInBounds_toArray, List.set_cons_zero, List.set_cons_succ]
  refine wpAnyH_ready (rs := [7]) (by kernel_rfl) (by simp) ?_
  refine AllReadyH.cons rfl (fun K hK => ?_) AllReadyH.nil
  go_simp
  refine (rowsQ hHeld.2.2.2.out.r).mono ?_
  rintro e w9 ⟨rfl, rfl⟩
  refine hK.out _ _ (hHeld) (fun hHeld => ?_)
  clear hK K 
  refine wpAnyH_take (i := 8) (v := ?_) rfl (by kernel_rfl) (by kernel_rfl) (by kernel_rfl) (fun _ _ _ h => h) (Or.inl ⟨by rfl, ?_⟩) (by assumption) ?_
  rotate_left
  · intro w hSw
    go_simp
    try with_reducible rfl
  simp only [Act.put, List.getElem_toArray, List.getElem_cons_zero, List.getElem_cons_succ, List.setIfInBounds_toArray, List.set_cons_zero, List.set_cons_succ]
  refine wpAnyH_ready (rs := [10]) (by kernel_rfl) (by simp) ?_
  refine AllReadyH.cons rfl (fun K hK => ?_) AllReadyH.nil
  go_simp
  refine (levelsQ hHeld.2.2.2.out.l).mono ?_
  rintro e w9 ⟨rfl, rfl⟩
  refine hK.out _ _ (hHeld) (fun hHeld => ?_)
  clear hK K 
  refine wpAnyH_ready (rs := [12]) (by kernel_rfl) (by simp) ?_
  refine AllReadyH.cons rfl (fun K hK => ?_) AllReadyH.nil
  go_simp
  refine (levelsQ hHeld.2.2.2.out.r).mono ?_
  rintro e w9 ⟨rfl, rfl⟩
  refine hK.out _ _ (hHeld) (fun hHeld => ?_)
  clear hK K 
  refine wpAnyH_take (i := 13) (v := ?_) rfl (by kernel_rfl) (by kernel_rfl) (by kernel_rfl) (fun _ _ _ h => h) (Or.inl ⟨by rfl, ?_⟩) (by assumption) ?_
  rotate_left
  · intro w hSw
    go_simp
    try with_reducible rfl
  simp only [Act.put, List.getElem_toArray, List.getElem_cons_zero, List.getElem_cons_succ, List.setIfInBounds_toArray, List.set_cons_zero, List.set_cons_succ]
  generalize hm : (if l.ht < r.ht then (r.ht : Int) else (l.ht : Int)) = mh
  have HM := aside hm
  clear hm
  refine wpAnyH_take (i := 14) (v := ?_) rfl (by kernel_rfl) (by kernel_rfl) (by kernel_rfl) (fun _ _ _ h => h) (Or.inl ⟨by rfl, ?_⟩) (by assumption) ?_
  rotate_left
  · intro w hSw
    go_simp
    try with_reducible rfl
  simp only [Act.put, List.getElem_toArray, List.getElem_cons_zero, List.getElem_cons_succ, List.setIfInBounds_toArray, List.set_cons_zero, List.set_cons_succ]
  refine wpAnyH_take (i := 16) (v := ?_) rfl (by kernel_rfl) (by kernel_rfl) (by kernel_rfl) (fun _ _ _ h => h) (Or.inl ⟨by rfl, ?_⟩) (by assumption) ?_
  rotate_left
  · intro w hSw
    go_simp
    try with_reducible rfl
  simp only [Act.put, List.getElem_toArray, List.getElem_cons_zero, List.getElem_cons_succ, List.setIfInBounds_toArray, List.set_cons_zero, List.set_cons_succ]
  refine wpAnyH_ready (rs := [17]) (by kernel_rfl) (by simp) ?_
  refine AllReadyH.cons rfl (fun K hK => ?_) AllReadyH.nil
  go_simp
  refine hK.out _ _ ((hHeld.2.2.2.out.alloc _).held) (fun hHeld => ?_)
  clear hK K 
  refine wpAnyH_take (i := 18) (v := ?_) rfl (by kernel_rfl) (by kernel_rfl) (by kernel_rfl) (fun _ _ _ h => h) (Or.inl ⟨by rfl, ?_⟩) (by assumption) ?_
  rotate_left
  · intro w hSw
    go_simp
    try with_reducible rfl
  simp only [Act.put, List.getElem_toArray, List.getElem_cons_zero, List.getElem_cons_succ, List.setIfInBounds_toArray, List.set_cons_zero, List.set_cons_succ]
  refine wpAnyH_done (by kernel_rfl) ?_ _
  go_wp2
  refine bodyPost_ret (v := .pointer (some ⟨Vr.heap.size, 0, none⟩)) (by simp [results, Try.results65, go_sem]) rfl ?_
  exact hangDoneQ (n0 := n) HM.out H0lr.out (by simp [Tr.sum, hnl, hnr]) (by simp [Tr.hangC, hnl, hnr]) HW.out

end Go.Proofs.Ytnlmlhoddchgbaa
namespace Go.Proofs.Ytnlmlhoddchgbaa
open Go.RowKit
set_option linter.unusedVariables false

theorem hangQ {jv : Value} {c : Option Nat} (HB : BothOkQ jv c) {w : World} {tb n : Nat} {root : Option Addr} {l r : Tr Int ByteArray} {lp rp : Option Addr} (k : ByteArray) (v : Int) (s : ByteArray)
    (ht : TObjQ w tb jv root) (hc : Cnt c n w) (hl : IsTQ w lp l) (hr : IsTQ w rp r) (hw : (Tr.node l k v s r).wt sSz ≤ 4611686018427387904) :
    Calls Try.prog 65 #[.pointer (some ⟨tb, 0, none⟩), .agg #[.string k, .int .i64 v, .string s], .pointer lp, .pointer rp] w fun e w' => ∃ p, e = .returned (.pointer p) ∧ IsTQ w' p (Tr.node l k v s r) ∧ Cnt c (n + Tr.hangC l r) w' ∧ Keeps (OnC c) w w' := by
  rcases hl.two with ⟨rfl, e1⟩ | ⟨bl, rfl, e1⟩ <;> rcases hr.two with ⟨rfl, e2⟩ | ⟨br, rfl, e2⟩
  · exact hangQ00 HB k v s ht hc hl hr hw (by rw [e1]; rfl) (by rw [e2]; rfl)
  · exact hangQ01 HB k v s ht hc hl hr hw (by rw [e1]; rfl) e2
  · exact hangQ10 HB k v s ht hc hl hr hw e1 (by rw [e2]; rfl)
  · exact hangQ11 HB k v s ht hc hl hr hw e1 e2

end Go.Proofs.Ytnlmlhoddchgbaa
