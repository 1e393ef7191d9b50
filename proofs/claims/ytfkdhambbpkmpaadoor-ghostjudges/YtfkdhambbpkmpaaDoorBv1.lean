/-
  Bytes that a call owns: what they are as text, and small laws on rows of bytes that the walks of this seat share.
  Memory that a call has made: which blocks a step may turn (Keeps), a writer in its block (IsW), and what an append to it leaves.
  Plain mathematics: the order of keys, trees of rows, what Put makes of them.
  Memory of trees: blocks of one type that stay, a counter of joins, summaries.
  Small facts on blocks of two cells (sums), on frames, and entries as plain data.
  The table of lanes in memory; one word mixed into both lanes.
  Arguments of these laws, from their reading to plain numbers, texts, sums and entries; the table of lanes, from the row's list.
  Versions: which may be, how they compare, which is the next; the code's calls and the document's own, each as a plain function.
  Entries: which may be, which is newer, the better of two; the next version; the code's calls and the document's own.
  The law ItemOrder, walked: it returns true at any three versions.
  long, Newer and Best, the code's and the document's own, by contracts; and the plain laws of the better of two.
-/
import Derived.Test.YtfkdhambbpkmpaaDoorProg
import Derived.WalkKit
import Derived.WalkSpells
import Derived.WalkLawsBesides
import Derived.OwnWalk
import Derived.Lib.UnsafeStr
import Derived.Laws.IdiomStrings
import Derived.Deep.AppendLies
import Derived.KernelRfl
import Derived.Below
import Derived.Laws.Rows
import Derived.Test.YtfkdhambbpkmpaaDoorRows
import Derived.ProofKit
import Derived.OpenShut
import Derived.ShutString
import Derived.SizedLaws
import Derived.HandedShaped
import Derived.Lib.SmallJoins
import Derived.Deep.Slices
import Derived.Deep.Strs
import Derived.Deep.CondSized
import Derived.ChangeOld
import Derived.LaidLaws
import Derived.FnData
import Derived.Laws.StructEq
namespace Go.Proofs.YtfkdhambbpkmpaaDoor
open Go.RowKit
/-- A fact put aside: the walk does not look behind the name. -/
theorem aside {p : Prop} (h : p) : Hid p := h
theorem idx_str' (s : ByteArray) (k : Nat) (hk : k < s.size) (i : Int) (h : i = (k : Int)) (w : World) :
    (Instr.index 9 (.string s) (.int .i64 i)).run Tryd.prog w = .ok (.int .u8 (s[k].toNat : Int)) w := by
  subst h
  rw [run_index_string w 9 _ .i64 _ Tryd.underlying9, dif_pos ⟨by omega, by omega⟩]
  simp only [Int.toNat_natCast]
end Go.Proofs.YtfkdhambbpkmpaaDoor
namespace Go.Proofs.YtfkdhambbpkmpaaDoor
open Go.RowKit
/-- Of the blocks that were there only those in S may have turned; streams as they were; no block has gone. -/
structure Keeps (S : Nat → Prop) (w w' : World) : Prop where
  os : w'.os = w.os
  tape : w'.tape = w.tape
  output : w'.output = w.output
  size : w.heap.size ≤ w'.heap.size
  block : ∀ k, k < w.heap.size → ¬ S k → w'.heap[k]? = w.heap[k]?
theorem Keeps.refl (S : Nat → Prop) (w : World) : Keeps S w w := ⟨rfl, rfl, rfl, Nat.le_refl _, fun _ _ _ => rfl⟩
theorem Keeps.setCell {S : Nat → Prop} {a w : World} (h : Keeps S a w) {p : Addr} (hp : p.block < a.heap.size → S p.block) (u : Value) : Keeps S a (w.setCell p u) :=
  ⟨h.os, h.tape, h.output, Nat.le_trans h.size (by simp [World.setCell]), fun k hk hs => by
    have hne : k ≠ p.block := fun e => by subst e; exact hs (hp hk)
    rw [Below.heap_setCell _ _ _ _ hne]
    exact h.block k hk hs⟩
theorem Keeps.grown {S : Nat → Prop} {a w w' : World} {row : Option Nat} (h : Keeps S a w) (hg : w.grownBy w' row) (hr : ∀ k, row = some k → k < a.heap.size → S k) : Keeps S a w' :=
  ⟨hg.os.trans h.os, hg.tape.trans h.tape, hg.output.trans h.output, Nat.le_trans h.size hg.size, fun k hk hs => (hg.block k (Nat.lt_of_lt_of_le hk h.size) (fun e => hs (hr k e.symm hk))).trans (h.block k hk hs)⟩
theorem Keeps.cell {S : Nat → Prop} {w w' : World} (h : Keeps S w w') {p : Addr} (hp : p.block < w.heap.size) (hn : ¬ S p.block) : w'.cell? p = w.cell? p := World.cell?_of_block (w := w) (h.block p.block hp hn)
theorem ownsRow_keep {S : Nat → Prop} {w w' : World} {base : Nat} {e : TypeId} {size : Nat} {v : Value} {n : Nat} {xs : List Value} (h : w.ownsRow base e size v n xs) (k : Keeps S w w') (hv : ∀ j, v.ownBlock = some j → ¬ S j) : w'.ownsRow base e size v n xs := by
  refine ⟨h.1, ?_⟩
  rcases h.2 with hn | ⟨g, cap, cur, rfl, hb, hg, r⟩
  · exact .inl hn
  · refine .inr ⟨g, cap, cur, rfl, hb, ?_, r⟩
    rw [k.block g (Array.getElem?_eq_some_iff.1 hg).1 (hv g rfl)]
    exact hg
theorem cell_one {w : World} {T b : Nat} {v : Value} (hh : w.heap[b]? = some (.cells #[v] T (0, 0))) : w.cell? ⟨b, 0, none⟩ = some v := by
  rw [cell_of_row w b 0 _ _ _ hh]; rfl
theorem frozen_one {w : World} {T b : Nat} {v : Value} (hh : w.heap[b]? = some (.cells #[v] T (0, 0))) : w.frozen? ⟨b, 0, none⟩ = false := frozen_of_row w b 0 _ _ hh
end Go.Proofs.YtfkdhambbpkmpaaDoor
namespace Go.Proofs.YtfkdhambbpkmpaaDoor
open Go.RowKit
theorem L_irrefl : ∀ x : List UInt8, Op.bytesLess x x = false
  | [] => rfl
  | a :: x => by simp [Op.bytesLess, L_irrefl x]
theorem L_total : ∀ x y : List UInt8, Op.bytesLess x y = false → Op.bytesLess y x = false → x = y
  | [], [], _, _ => rfl
  | [], _ :: _, h, _ => by simp [Op.bytesLess] at h
  | _ :: _, [], _, h => by simp [Op.bytesLess] at h
  | a :: x, b :: y, h1, h2 => by
    simp only [Op.bytesLess, Bool.or_eq_false_iff, decide_eq_false_iff_not, Bool.and_eq_false_iff] at h1 h2
    have e : a = b := by
      have g1 := h1.1; have g2 := h2.1
      simp only [UInt8.lt_iff_toNat_lt] at g1 g2
      exact UInt8.toNat_inj.1 (by omega)
    subst e
    rw [L_total x y (by simpa using h1.2) (by simpa using h2.2)]
theorem L_trans : ∀ x y z : List UInt8, Op.bytesLess x y = true → Op.bytesLess y z = true → Op.bytesLess x z = true
  | _, _, [], _, h => by cases ‹List UInt8› <;> simp [Op.bytesLess] at h
  | _, [], _ :: _, h, _ => by cases ‹List UInt8› <;> simp [Op.bytesLess] at h
  | [], _ :: _, _ :: _, _, _ => by simp [Op.bytesLess]
  | a :: x, b :: y, c :: z, h1, h2 => by
    simp only [Op.bytesLess, Bool.or_eq_true, decide_eq_true_eq, Bool.and_eq_true, beq_iff_eq, UInt8.lt_iff_toNat_lt] at h1 h2 ⊢
    rcases h1 with h1 | ⟨rfl, h1⟩
    · rcases h2 with h2 | ⟨rfl, h2⟩
      · exact .inl (by omega)
      · exact .inl h1
    · rcases h2 with h2 | ⟨rfl, h2⟩
      · exact .inl h2
      · exact .inr ⟨rfl, L_trans x y z h1 h2⟩
theorem toList_inj {a b : ByteArray} (h : a.toList = b.toList) : a = b := by
  rw [ByteArray.toList_eq, ByteArray.toList_eq] at h
  cases a; cases b
  simp only [ByteArray.mk.injEq]
  exact Array.toList_inj.1 h
/-- A key is lower than another. -/
def kLt (a b : ByteArray) : Bool := Op.bytesLess a.toList b.toList
theorem kLt_irrefl (a : ByteArray) : kLt a a = false := L_irrefl _
theorem kLt_trans {a b c : ByteArray} (h : kLt a b = true) (k : kLt b c = true) : kLt a c = true := L_trans _ _ _ h k
theorem kLt_total {a b : ByteArray} (h : kLt a b = false) (k : kLt b a = false) : a = b := toList_inj (L_total _ _ h k)
theorem kLt_ne {a b : ByteArray} (h : kLt a b = true) : a ≠ b := fun e => by subst e; rw [kLt_irrefl] at h; cases h
/-- A row. -/
structure Rw (β α : Type) where
  k : ByteArray
  v : β
  s : α
/-- A tree of rows. -/
inductive Tr (β α : Type) where
  | nil : Tr β α
  | node (l : Tr β α) (k : ByteArray) (v : β) (s : α) (r : Tr β α) : Tr β α
namespace Tr
variable {β α : Type}
def isNil : Tr β α → Bool
  | nil => true
  | node .. => false
def cnt : Tr β α → Nat
  | nil => 0
  | node l _ _ _ r => l.cnt + 1 + r.cnt
def ht : Tr β α → Nat
  | nil => 0
  | node l _ _ _ r => max l.ht r.ht + 1
/-- How much a tree holds: its rows, and what their summaries take. -/
def wt (z : α → Nat) : Tr β α → Nat
  | nil => 0
  | node l _ _ s r => l.wt z + 1 + z s + r.wt z
/-- The sum that a node keeps. -/
def sum (J : α → α → α) (e : α) : Tr β α → α
  | nil => e
  | node l _ _ s r =>
    if r.isNil then (if l.isNil then s else J (l.sum J e) s) else J (if l.isNil then s else J (l.sum J e) s) (r.sum J e)
def rows : Tr β α → List (Rw β α)
  | nil => []
  | node l k v s r => l.rows ++ ⟨k, v, s⟩ :: r.rows
/-- A node turned to the right. -/
def turnR (k : ByteArray) (v : β) (s : α) (l r : Tr β α) : Tr β α :=
  match l with
  | nil => node nil k v s r
  | node ll lk lv ls lr =>
    if lr.ht ≤ ll.ht then node ll lk lv ls (node lr k v s r) else
      match lr with
      | nil => node (node ll lk lv ls nil) k v s r
      | node a ik iv is b => node (node ll lk lv ls a) ik iv is (node b k v s r)
def turnL (k : ByteArray) (v : β) (s : α) (l r : Tr β α) : Tr β α :=
  match r with
  | nil => node l k v s nil
  | node rl rk rv rs rr =>
    if rl.ht ≤ rr.ht then node (node l k v s rl) rk rv rs rr else
      match rl with
      | nil => node l k v s (node nil rk rv rs rr)
      | node a ik iv is b => node (node l k v s a) ik iv is (node b rk rv rs rr)
def level (k : ByteArray) (v : β) (s : α) (l r : Tr β α) : Tr β α :=
  if l.ht = r.ht + 2 then turnR k v s l r else if r.ht = l.ht + 2 then turnL k v s l r else node l k v s r
def put (k : ByteArray) (v : β) (s : α) : Tr β α → Tr β α
  | nil => node nil k v s nil
  | node l k' v' s' r =>
    if kLt k k' then level k' v' s' (put k v s l) r else if kLt k' k then level k' v' s' l (put k v s r) else node l k v s r
end Tr
end Go.Proofs.YtfkdhambbpkmpaaDoor
namespace Go.Proofs.YtfkdhambbpkmpaaDoor
open Go.RowKit
set_option linter.unusedVariables false
theorem bthen {w w1 w2 : World} (h : Below w.heap.size w w1) (h2 : Below w1.heap.size w1 w2) : Below w.heap.size w w2 := h.trans (h2.mono h.size)
theorem bnew (w : World) (o : Obj) : Below w.heap.size w (w.alloc o) := (Below.refl _ w).alloc (Nat.le_refl _) _
theorem blk_on {w w' : World} {i : Nat} {o : Obj} (h : w.heap[i]? = some o) (b : Below w.heap.size w w') : w'.heap[i]? = some o := (b.block i (Array.getElem?_eq_some_iff.1 h).1).trans h
/-- A Map. -/
structure Mp where
  A : UInt64
  B : UInt64
def Mp.a (m : Mp) : Int := (m.A.toNat : Int)
def Mp.b (m : Mp) : Int := (m.B.toNat : Int)
end Go.Proofs.YtfkdhambbpkmpaaDoor
namespace Go.Proofs.YtfkdhambbpkmpaaDoor
open Go.RowKit
set_option linter.unusedVariables false
/-- An entry, plain. -/
structure En where
  k : ByteArray
  c : Int
  n : Int
  v : ByteArray
  d : Bool
theorem ret_bool {a b : Bool} (h : a = b) : Ending.returned (.bool a) = .returned (.bool b) := by rw [h]
theorem cell_in {W W' : World} {p : Addr} {v : Value} (h : W.cell? p = some v) (b : Below W.heap.size W W') : W'.cell? p = some v :=
  (World.cell?_of_block (w := W) (b.block p.block (World.block_lt_of_cell? W _ h))).trans h
/-- The two cells of a sum's block. -/
theorem pair {w : World} {i : Nat} {a b : Value} {T : TypeId} (h : w.heap[i]? = some (.cells #[a, b] T (0, 0))) :
    w.cell? ⟨i, 0, none⟩ = some a ∧ w.cell? ⟨i, 1, none⟩ = some b ∧ w.frozen? ⟨i, 0, none⟩ = false ∧ w.frozen? ⟨i, 1, none⟩ = false :=
  ⟨by simp [World.cell?, h], by simp [World.cell?, h], frozen_of_row w i 0 _ _ h, frozen_of_row w i 1 _ _ h⟩
/-- What is kept of the world in a loop over a sum's two elements: own blocks from n on. -/
structure Two (w wr : World) (i : Nat) (a b : Int) : Prop where
  below : Below w.heap.size w wr
  low : w.heap.size ≤ i
  blk : wr.heap[i]? = some (.cells #[.int .u64 a, .int .u64 b] 38 (0, 0))
end Go.Proofs.YtfkdhambbpkmpaaDoor
namespace Go.Proofs.YtfkdhambbpkmpaaDoor
open Go.RowKit
set_option linter.unusedVariables false
/-- The table of lanes, cell for cell. -/
structure Lanes (w : World) : Prop where
  c0 : w.cell? ⟨0, 0, none⟩ = some (.int .u64 2611923443488327891)
  c1 : w.cell? ⟨0, 1, none⟩ = some (.int .u64 11400714819323198485)
  c2 : w.cell? ⟨0, 2, none⟩ = some (.int .u64 29)
  c3 : w.cell? ⟨0, 3, none⟩ = some (.int .u64 1376283091369227076)
  c4 : w.cell? ⟨0, 4, none⟩ = some (.int .u64 14029467366897019727)
  c5 : w.cell? ⟨0, 5, none⟩ = some (.int .u64 32)
theorem Lanes.keep {w w' : World} (h : Lanes w) (b : Below w.heap.size w w') : Lanes w' :=
  ⟨cell_in h.c0 b, cell_in h.c1 b, cell_in h.c2 b, cell_in h.c3 b, cell_in h.c4 b, cell_in h.c5 b⟩
theorem Lanes.pos {w : World} (h : Lanes w) : 0 < w.heap.size := World.block_lt_of_cell? w _ h.c0
/-- The memory in the loop over a sum's elements. -/
def mix2 (w : World) (x0 x1 r0 r1 : Int) : World :=
  (w.alloc (.cells #[.int .u64 x0, .int .u64 x1] 38)).alloc (.cells #[.int .u64 r0, .int .u64 r1] 38)
theorem mix2_below (w : World) (x0 x1 r0 r1 : Int) : Below w.heap.size w (mix2 w x0 x1 r0 r1) := (bnew w _).alloc (by simp) _
def MixRel (w : World) (a0 a1 s0 s1 : Int) (i : Value) (wr : World) : Prop :=
  (i = .int .i64 0 ∧ wr = mix2 w a0 a1 0 0) ∨ (i = .int .i64 1 ∧ wr = (mix2 w s0 a1 0 0).drew.drew) ∨ (i = .int .i64 2 ∧ wr = (mix2 w s0 s1 0 0).drew.drew.drew.drew)
/-- One word mixed into a lane. -/
def mixI (f : Int) (s : Nat) (x u : Int) : Int :=
  bits .xor .u64 (IntKind.u64.wrap (bits .xor .u64 x u * f)) (IntKind.u64.wrap (bits .xor .u64 x u * f) / 2 ^ s)
set_option maxHeartbeats 1600000 in
set_option maxRecDepth 100000 in
theorem mixed_any (a0 a1 u : Int) (w : World) (L : Lanes w) :
    Calls Tryd.prog 66 #[.agg #[.int .u64 a0, .int .u64 a1], .int .u64 u] w fun e w' => e = .returned (.agg #[.int .u64 (mixI 11400714819323198485 29 a0 u), .int .u64 (mixI 14029467366897019727 32 a1 u)]) ∧ Below w.heap.size w w' := by
  have h0 := L.pos
  obtain ⟨c0, c1, c2, c3, c4, c5⟩ := L
  go_enter Tryd.func66, Tryd.ntmps66
  go_wp2
  go_loopw [6] (fun i wr => MixRel w a0 a1 (mixI 11400714819323198485 29 a0 u) (mixI 14029467366897019727 32 a1 u) i wr) (fun i _ => 2 - (intOf i).toNat)
  case atStart => exact .inl ⟨rfl, rfl⟩
  case round =>
    obtain ⟨rfl, rfl⟩ | ⟨rfl, rfl⟩ | ⟨rfl, rfl⟩ := hrel
    · unfold mix2
      go_wp2
      go_region
      go_wp2
      go_region
      go_wp2
      go_roundw
      case rel => exact .inr (.inl ⟨rfl, rfl⟩)
      case measure => simp [intOf]
    · unfold mix2
      go_wp2
      go_region
      go_wp2
      go_region
      go_wp2
      go_roundw
      case rel => exact .inr (.inr ⟨rfl, rfl⟩)
      case measure => simp [intOf]
    · unfold mix2
      go_wp2
      exact bodyPost_ret (v := .agg #[.int .u64 (mixI 11400714819323198485 29 a0 u), .int .u64 (mixI 14029467366897019727 32 a1 u)]) (by simp [results, Tryd.results66, go_sem]) rfl ⟨rfl, (mix2_below w _ _ _ _).drew.drew.drew.drew⟩
end Go.Proofs.YtfkdhambbpkmpaaDoor
namespace Go.Proofs.YtfkdhambbpkmpaaDoor
open Go.ChangeShapes Go.WideShapes Go.ChangeAt Go.RowKit
set_option linter.unusedVariables false
theorem own : ownKnob Tryd.prog.godebug = none := by kernel_rfl
theorem laidOut : laidOutB Tryd.prog = true := by kernel_rfl
theorem cellsVer : Tryd.prog.cellsOf 53 = 2 := by kernel_rfl
theorem cellsEnt : Tryd.prog.cellsOf 55 = 5 := by kernel_rfl
theorem bytesEnt : Tryd.prog.bytesOf 55 = 56 := by kernel_rfl
theorem cellsInt : Tryd.prog.cellsOf 3 = 1 := by kernel_rfl
theorem cellsStr : Tryd.prog.cellsOf 9 = 1 := by kernel_rfl
theorem cellsBool : Tryd.prog.cellsOf 4 = 1 := by kernel_rfl
theorem cellsU64 : Tryd.prog.cellsOf 36 = 1 := by kernel_rfl
theorem cellsUint : Tryd.prog.cellsOf 97 = 1 := by kernel_rfl
theorem cellsLane : Tryd.prog.cellsOf 99 = 3 := by kernel_rfl
theorem cellsLanes : Tryd.prog.cellsOf 100 = 6 := by kernel_rfl
theorem gLanes : Tryd.prog.globalNamed "tideline/mix.lanes" = some 0 := by kernel_rfl
theorem gLanesType : (Tryd.prog.globals[0]?).map (·.type) = some 100 := by kernel_rfl
variable {H : Type} {enc : TypeId × Value → H} {W : World}
set_option maxRecDepth 100000 in
/-- One row of the table, from its reading. -/
theorem lane_cells {b0 : Nat} {sp : Nat → Bool} {held : Bool} {fuel : Nat} {cs : List Value} {a f s : Int} {p : List MemPlace} (h : DataW.trod enc Tryd.prog W b0 sp held fuel 99 cs = some ((.agg [.lit (.int .u64 a), .lit (.int .u64 f), .lit (.int .u64 s)] : DataW H), p)) :
    cs = [.int .u64 a, .int .u64 f, .int .u64 s] := by
  obtain ⟨y0, y1, y2, m, hx, hl, h0, h1, h2⟩ := Deep.trod_struct3 Tryd.underlying99 h
  rw [cellsLane] at hl
  match cs, hl with
  | [v0, v1, v2], _ =>
    simp [cellsU64, cellsUint] at h0 h1 h2
    obtain ⟨z0, e0, rfl, -⟩ := DataW.trod_int Tryd.underlying36 h0
    obtain ⟨z1, e1, rfl, -⟩ := DataW.trod_int Tryd.underlying36 h1
    obtain ⟨z2, e2, rfl, -⟩ := DataW.trod_int Tryd.underlying97 h2
    simp only [List.cons.injEq, and_true] at e0 e1 e2
    subst e0 e1 e2
    simp at hx
    obtain ⟨⟨rfl, rfl, rfl⟩, -⟩ := hx
    rfl
set_option maxRecDepth 100000 in
theorem lanes_of {W : World} (h : laidMet Tryd.prog [("tideline/mix.lanes", Rows.laid_tideline_mix_lanes)] W) : Lanes W := by
  obtain ⟨ps, ⟨g', t', cs, fuel, p, q, hg', ht', hvar, hd, _, _⟩, _⟩ := h
  obtain rfl := Option.some.inj (gLanes.symm.trans hg')
  obtain rfl := Option.some.inj (gLanesType.symm.trans ht')
  obtain ⟨xs, m, _, hx, hl, hxl, hel⟩ := DataW.trod_array Tryd.underlying100 hd
  rw [cellsLanes] at hl
  rw [cellsLane] at hel
  match xs, hxl with
  | [x0, x1], _ =>
    have g0 := hel 0 (by omega)
    have g1 := hel 1 (by omega)
    simp only [Rows.laid_tideline_mix_lanes, Prod.mk.injEq, List.map_cons, List.map_nil, DataW.agg.injEq, List.cons.injEq, and_true] at hx
    obtain ⟨⟨q0, q1⟩, -⟩ := hx
    have e0 := lane_cells (p := x0.2) (g0.trans (by rw [List.getElem?_cons_zero, q0]))
    have e1 := lane_cells (p := x1.2) (g1.trans (by rw [List.getElem?_cons_succ, List.getElem?_cons_zero, q1]))
    obtain ⟨l⟩ := cs
    match l, hl with
    | [v0, v1, v2, v3, v4, v5], _ =>
      simp at e0 e1
      obtain ⟨rfl, rfl, rfl⟩ := e0
      obtain ⟨rfl, rfl, rfl⟩ := e1
      exact ⟨World.var?_cell gLanes hvar 0, World.var?_cell gLanes hvar 1, World.var?_cell gLanes hvar 2, World.var?_cell gLanes hvar 3, World.var?_cell gLanes hvar 4, World.var?_cell gLanes hvar 5⟩
end Go.Proofs.YtfkdhambbpkmpaaDoor
namespace Go.Proofs.YtfkdhambbpkmpaaDoor
open Go.RowKit
theorem ret_i64 {a b : Int} (h : a = b) : Ending.returned (.int .i64 a) = .returned (.int .i64 b) := by rw [h]
/-- Two numbers. -/
def Vs.c2 (x y : Int) : Int := if y < x then 1 else if x < y then -1 else 0
/-- Two versions. -/
def Vs.cmp (a n b m : Int) : Int := if b < a then 1 else if a < b then -1 else Vs.c2 n m
/-- Whether a version may be. -/
def Vs.chk (c n : Int) : Int := if c < 1 ∨ 1099511627776 < c ∨ n < 0 ∨ 8 ≤ n then 30 else 0
/-- The next version: its numbers, and the error. -/
def Vs.nx (clock node : Int) : Int × Int × Int :=
  if node < 0 ∨ 8 ≤ node ∨ clock < 0 ∨ 1099511627776 < clock then (0, 0, 30) else if clock = 1099511627776 then (0, 0, 33) else (clock + 1, node, 0)
set_option maxHeartbeats 400000 in
theorem isNaN_any (x : Int) (w : World) : Calls Tryd.prog 87 #[.int .i64 x] w fun e w' => e = .returned (.bool false) ∧ w' = w := by
  go_enter Tryd.func87, Tryd.ntmps87
  go_wp2
  go_ret
  exact ⟨by simp, rfl⟩
theorem c2_lt {x y : Int} (h : x < y) : Vs.c2 x y = -1 := by unfold Vs.c2; rw [if_neg (by omega), if_pos h]
theorem c2_gt {x y : Int} (h : y < x) : Vs.c2 x y = 1 := by unfold Vs.c2; rw [if_pos h]
theorem c2_eq (x : Int) : Vs.c2 x x = 0 := by unfold Vs.c2; rw [if_neg (by omega), if_neg (by omega)]
set_option maxHeartbeats 400000 in
theorem cmpI_any (x y : Int) (w : World) : Calls Tryd.prog 78 #[.int .i64 x, .int .i64 y] w fun e w' => e = .returned (.int .i64 (Vs.c2 x y)) ∧ w' = w := by
  rcases Int.lt_trichotomy x y with h | h | h
  · go_enter Tryd.func78, Tryd.ntmps78
    go_wp2_with (go_at_call 87; refine (isNaN_any _ _).mono ?_; rintro e w1 ⟨rfl, rfl⟩)
    go_ret
    exact ⟨ret_i64 (c2_lt h).symm, rfl⟩
  · subst h
    go_enter Tryd.func78, Tryd.ntmps78
    go_wp2_with (go_at_call 87; refine (isNaN_any _ _).mono ?_; rintro e w1 ⟨rfl, rfl⟩)
    go_ret
    exact ⟨ret_i64 (c2_eq x).symm, rfl⟩
  · have h' : ¬ x < y := by omega
    go_enter Tryd.func78, Tryd.ntmps78
    go_wp2_with (go_at_call 87; refine (isNaN_any _ _).mono ?_; rintro e w1 ⟨rfl, rfl⟩)
    go_ret
    exact ⟨ret_i64 (c2_gt h).symm, rfl⟩
theorem cmpI_at {x y q : Int} (h : Vs.c2 x y = q) (w : World) : Calls Tryd.prog 78 #[.int .i64 x, .int .i64 y] w fun e w' => e = .returned (.int .i64 q) ∧ w' = w := by
  subst h; exact cmpI_any x y w
theorem cmp_lt {a b : Int} (h : a < b) (n m : Int) : Vs.cmp a n b m = -1 := by unfold Vs.cmp; rw [if_neg (by omega), if_pos h]
theorem cmp_gt {a b : Int} (h : b < a) (n m : Int) : Vs.cmp a n b m = 1 := by unfold Vs.cmp; rw [if_pos h]
theorem cmp_eq (a n m : Int) : Vs.cmp a n a m = Vs.c2 n m := by unfold Vs.cmp; rw [if_neg (by omega), if_neg (by omega)]
set_option maxHeartbeats 400000 in
theorem compare_any (a n b m : Int) (w : World) : Calls Tryd.prog 65 #[.agg #[.int .i64 a, .int .i64 n], .agg #[.int .i64 b, .int .i64 m]] w fun e w' => e = .returned (.int .i64 (Vs.cmp a n b m)) ∧ Below w.heap.size w w' := by
  rcases Int.lt_trichotomy a b with h | h | h
  · go_enter Tryd.func65, Tryd.ntmps65
    go_wp2_with (go_at_call 78; refine (cmpI_at (c2_lt h) _).mono ?_; rintro e w1 ⟨rfl, rfl⟩)
    go_ret
    exact ⟨ret_i64 (cmp_lt h n m).symm, bthen (bnew w _) (bnew _ _)⟩
  · subst h
    go_enter Tryd.func65, Tryd.ntmps65
    go_wp2_with fail
    refine (cmpI_at (c2_eq a) _).mono ?_
    rintro e w1 ⟨rfl, rfl⟩
    go_wp2_with fail
    refine (cmpI_any n m _).mono ?_
    rintro e w1 ⟨rfl, rfl⟩
    go_wp2
    go_ret
    exact ⟨ret_i64 (cmp_eq a n m).symm, bthen (bnew w _) (bnew _ _)⟩
  · go_enter Tryd.func65, Tryd.ntmps65
    go_wp2_with (go_at_call 78; refine (cmpI_at (c2_gt h) _).mono ?_; rintro e w1 ⟨rfl, rfl⟩)
    go_ret
    exact ⟨ret_i64 (cmp_gt h n m).symm, bthen (bnew w _) (bnew _ _)⟩
set_option maxHeartbeats 400000 in
theorem compareRef_any (a n b m : Int) (w : World) : Calls Tryd.prog 68 #[.agg #[.int .i64 a, .int .i64 n], .agg #[.int .i64 b, .int .i64 m]] w fun e w' => e = .returned (.int .i64 (Vs.cmp a n b m)) ∧ Below w.heap.size w w' := by
  rcases Int.lt_trichotomy a b with h | h | h
  · have h' : ¬ b < a := by omega
    go_enter Tryd.func68, Tryd.ntmps68
    go_wp2
    go_ret
    exact ⟨ret_i64 (cmp_lt h n m).symm, bthen (bnew w _) (bnew _ _)⟩
  · subst h
    have h' : ¬ a < a := by omega
    rcases Int.lt_trichotomy n m with g | g | g
    · have g' : ¬ m < n := by omega
      go_enter Tryd.func68, Tryd.ntmps68
      go_wp2
      go_ret
      exact ⟨ret_i64 (by rw [cmp_eq, c2_lt g]), bthen (bnew w _) (bnew _ _)⟩
    · subst g
      have g' : ¬ n < n := by omega
      go_enter Tryd.func68, Tryd.ntmps68
      go_wp2
      go_ret
      exact ⟨ret_i64 (by rw [cmp_eq, c2_eq]), bthen (bnew w _) (bnew _ _)⟩
    · go_enter Tryd.func68, Tryd.ntmps68
      go_wp2
      go_ret
      exact ⟨ret_i64 (by rw [cmp_eq, c2_gt g]), bthen (bnew w _) (bnew _ _)⟩
  · go_enter Tryd.func68, Tryd.ntmps68
    go_wp2
    go_ret
    exact ⟨ret_i64 (cmp_gt h n m).symm, bthen (bnew w _) (bnew _ _)⟩
theorem chk_bad1 {c : Int} (n : Int) (h : c < 1) : Vs.chk c n = 30 := by unfold Vs.chk; rw [if_pos (.inl h)]
theorem chk_bad2 {c : Int} (n : Int) (h : 1099511627776 < c) : Vs.chk c n = 30 := by unfold Vs.chk; rw [if_pos (.inr (.inl h))]
theorem chk_bad3 (c : Int) {n : Int} (h : n < 0) : Vs.chk c n = 30 := by unfold Vs.chk; rw [if_pos (.inr (.inr (.inl h)))]
theorem chk_bad4 (c : Int) {n : Int} (h : 8 ≤ n) : Vs.chk c n = 30 := by unfold Vs.chk; rw [if_pos (.inr (.inr (.inr h)))]
theorem chk_ok {c n : Int} (h1 : ¬ c < 1) (h2 : ¬ 1099511627776 < c) (h3 : ¬ n < 0) (h4 : ¬ 8 ≤ n) : Vs.chk c n = 0 := by unfold Vs.chk; rw [if_neg (by omega)]
/-- Whether a number is a node's. -/
def nodeB (n : Int) : Bool := decide (0 ≤ n) && decide (n < 8)
theorem node_no1 {n : Int} (h : n < 0) : nodeB n = false := by simp [nodeB]; omega
theorem node_no2 {n : Int} (h : 8 ≤ n) : nodeB n = false := by simp [nodeB]; omega
theorem node_yes {n : Int} (h1 : ¬ n < 0) (h2 : ¬ 8 ≤ n) : nodeB n = true := by simp [nodeB]; omega
set_option maxHeartbeats 400000 in
theorem isNode_any (n : Int) (w : World) : Calls Tryd.prog 77 #[.int .i64 n] w fun e w' => e = .returned (.bool (nodeB n)) ∧ w' = w := by
  by_cases h1 : n < 0
  · have h1' : ¬ 0 ≤ n := by omega
    go_enter Tryd.func77, Tryd.ntmps77
    go_wp2
    go_ret
    exact ⟨ret_bool (by simp [nodeB]; omega), rfl⟩
  · have h1' : 0 ≤ n := by omega
    go_enter Tryd.func77, Tryd.ntmps77
    go_wp2
    go_ret
    exact ⟨ret_bool (by simp [nodeB]; omega), rfl⟩
theorem isNode_at {n : Int} {q : Bool} (h : nodeB n = q) (w : World) : Calls Tryd.prog 77 #[.int .i64 n] w fun e w' => e = .returned (.bool q) ∧ w' = w := by
  subst h; exact isNode_any n w
set_option maxHeartbeats 800000 in
theorem checkVersion_any (c n : Int) (w : World) : Calls Tryd.prog 64 #[.agg #[.int .i64 c, .int .i64 n]] w fun e w' => e = .returned (.int .i64 (Vs.chk c n)) ∧ Below w.heap.size w w' := by
  by_cases h1 : c < 1
  · go_enter Tryd.func64, Tryd.ntmps64
    go_wp2
    go_ret
    exact ⟨ret_i64 (chk_bad1 n h1).symm, bnew w _⟩
  by_cases h2 : 1099511627776 < c
  · go_enter Tryd.func64, Tryd.ntmps64
    go_wp2
    go_ret
    exact ⟨ret_i64 (chk_bad2 n h2).symm, bnew w _⟩
  by_cases h3 : n < 0
  · go_enter Tryd.func64, Tryd.ntmps64
    go_wp2_with (go_at_call 77; refine (isNode_at (node_no1 h3) _).mono ?_; rintro e w1 ⟨rfl, rfl⟩)
    go_ret
    exact ⟨ret_i64 (chk_bad3 c h3).symm, bnew w _⟩
  by_cases h4 : 8 ≤ n
  · go_enter Tryd.func64, Tryd.ntmps64
    go_wp2_with (go_at_call 77; refine (isNode_at (node_no2 h4) _).mono ?_; rintro e w1 ⟨rfl, rfl⟩)
    go_ret
    exact ⟨ret_i64 (chk_bad4 c h4).symm, bnew w _⟩
  · go_enter Tryd.func64, Tryd.ntmps64
    go_wp2_with (go_at_call 77; refine (isNode_at (node_yes h3 h4) _).mono ?_; rintro e w1 ⟨rfl, rfl⟩)
    go_ret
    exact ⟨ret_i64 (chk_ok (by omega) (by omega) (by omega) (by omega)).symm, bnew w _⟩
set_option maxHeartbeats 800000 in
theorem checkVersionRef_any (c n : Int) (w : World) : Calls Tryd.prog 73 #[.agg #[.int .i64 c, .int .i64 n]] w fun e w' => e = .returned (.int .i64 (Vs.chk c n)) ∧ Below w.heap.size w w' := by
  by_cases h1 : c < 1
  · go_enter Tryd.func73, Tryd.ntmps73
    go_wp2
    go_ret
    exact ⟨ret_i64 (chk_bad1 n h1).symm, bnew w _⟩
  by_cases h2 : 1099511627776 < c
  · go_enter Tryd.func73, Tryd.ntmps73
    go_wp2
    go_ret
    exact ⟨ret_i64 (chk_bad2 n h2).symm, bnew w _⟩
  by_cases h3 : n < 0
  · go_enter Tryd.func73, Tryd.ntmps73
    go_wp2
    go_ret
    exact ⟨ret_i64 (chk_bad3 c h3).symm, bnew w _⟩
  by_cases h4 : 8 ≤ n
  · go_enter Tryd.func73, Tryd.ntmps73
    go_wp2
    go_ret
    exact ⟨ret_i64 (chk_bad4 c h4).symm, bnew w _⟩
  · go_enter Tryd.func73, Tryd.ntmps73
    go_wp2
    go_ret
    exact ⟨ret_i64 (chk_ok (by omega) (by omega) (by omega) (by omega)).symm, bnew w _⟩
theorem checkVersion_at {c n q : Int} (h : Vs.chk c n = q) (w : World) : Calls Tryd.prog 64 #[.agg #[.int .i64 c, .int .i64 n]] w fun e w' => e = .returned (.int .i64 q) ∧ Below w.heap.size w w' := by
  subst h; exact checkVersion_any c n w
theorem checkVersionRef_at {c n q : Int} (h : Vs.chk c n = q) (w : World) : Calls Tryd.prog 73 #[.agg #[.int .i64 c, .int .i64 n]] w fun e w' => e = .returned (.int .i64 q) ∧ Below w.heap.size w w' := by
  subst h; exact checkVersionRef_any c n w
end Go.Proofs.YtfkdhambbpkmpaaDoor
namespace Go.Proofs.YtfkdhambbpkmpaaDoor
open Go.RowKit
/-- Whether it may be. -/
def En.chk (e : En) : Int :=
  if (16 : Int) < e.k.size then 20 else if Vs.chk e.c e.n ≠ 0 then 30 else if (32 : Int) < e.v.size then 31 else bif (e.d && !e.v.toList.isEmpty) then 32 else 0
theorem En.chk_key {k : ByteArray} (c n : Int) (v : ByteArray) (d : Bool) (h : (16 : Int) < k.size) : En.chk ⟨k, c, n, v, d⟩ = 20 := by simp only [En.chk]; rw [if_pos h]
theorem En.chk_ver {k : ByteArray} {c n : Int} (v : ByteArray) (d : Bool) (h : ¬ (16 : Int) < k.size) (h2 : Vs.chk c n = 30) : En.chk ⟨k, c, n, v, d⟩ = 30 := by simp only [En.chk]; rw [if_neg h, if_pos (by rw [h2]; decide)]
theorem En.chk_val {k : ByteArray} {c n : Int} {v : ByteArray} (d : Bool) (h : ¬ (16 : Int) < k.size) (h2 : Vs.chk c n = 0) (h3 : (32 : Int) < v.size) : En.chk ⟨k, c, n, v, d⟩ = 31 := by
  simp only [En.chk]; rw [if_neg h, if_neg (by rw [h2]; decide), if_pos h3]
theorem En.chk_rest {k : ByteArray} {c n : Int} {v : ByteArray} (d : Bool) (h : ¬ (16 : Int) < k.size) (h2 : Vs.chk c n = 0) (h3 : ¬ (32 : Int) < v.size) : En.chk ⟨k, c, n, v, d⟩ = bif (d && !v.toList.isEmpty) then 32 else 0 := by
  simp only [En.chk]; rw [if_neg h, if_neg (by rw [h2]; decide), if_neg h3]
theorem Vs.chk_two (c n : Int) : Vs.chk c n = 30 ∨ Vs.chk c n = 0 := by
  unfold Vs.chk; split
  · exact .inl rfl
  · exact .inr rfl
set_option maxHeartbeats 1600000 in
theorem ichk_any (k : ByteArray) (c n : Int) (v : ByteArray) (d : Bool) (w : World) :
    Calls Tryd.prog 47 #[.agg #[.string k, .int .i64 c, .int .i64 n, .string v, .bool d]] w fun e w' => e = .returned (.int .i64 (En.chk ⟨k, c, n, v, d⟩)) ∧ Below w.heap.size w w' := by
  by_cases h1 : (16 : Int) < k.size
  · go_enter Tryd.func47, Tryd.ntmps47
    go_wp2
    go_ret
    exact ⟨ret_i64 (En.chk_key c n v d h1).symm, bnew w _⟩
  rcases Vs.chk_two c n with h2 | h2
  · have H2 := aside h2
    go_enter Tryd.func47, Tryd.ntmps47
    go_wp2_with (go_at_call 64; refine (checkVersion_at H2.out _).mono ?_; rintro e w1 ⟨rfl, b1⟩)
    go_ret
    exact ⟨ret_i64 (En.chk_ver v d (by omega) H2.out).symm, bthen (bnew w _) b1⟩
  have H2 := aside h2
  clear h2
  have X := fun o => (heap_alloc_new w o)
  have HX := aside X
  clear X
  by_cases h3 : (32 : Int) < v.size
  · go_enter Tryd.func47, Tryd.ntmps47
    go_wp2_with fail
    refine (checkVersion_at H2.out _).mono ?_
    rintro e w1 ⟨rfl, b1⟩
    have c3 : w1.cell? ⟨w.heap.size, 3, none⟩ = some (.string v) := (b1.cell (by simp)).trans (by rw [cell_of_row _ w.heap.size 3 _ _ _ (HX.out _)]; rfl)
    go_wp2
    go_ret
    exact ⟨ret_i64 (En.chk_val d (by omega) H2.out (by omega)).symm, bthen (bnew w _) b1⟩
  · cases d <;> cases h5 : v.toList.isEmpty
    all_goals
      go_enter Tryd.func47, Tryd.ntmps47
      go_wp2_with fail
      refine (checkVersion_at H2.out _).mono ?_
      rintro e w1 ⟨rfl, b1⟩
      have c3 : w1.cell? ⟨w.heap.size, 3, none⟩ = some (.string v) := (b1.cell (by simp)).trans (by rw [cell_of_row _ w.heap.size 3 _ _ _ (HX.out _)]; rfl)
      first
        | have c4 : w1.cell? ⟨w.heap.size, 4, none⟩ = some (.bool true) := (b1.cell (by simp)).trans (by rw [cell_of_row _ w.heap.size 4 _ _ _ (HX.out _)]; rfl)
        | have c4 : w1.cell? ⟨w.heap.size, 4, none⟩ = some (.bool false) := (b1.cell (by simp)).trans (by rw [cell_of_row _ w.heap.size 4 _ _ _ (HX.out _)]; rfl)
      go_wp2
      go_ret
      exact ⟨ret_i64 (by rw [En.chk_rest _ (by omega) H2.out (by omega), h5]; rfl), bthen (bnew w _) b1⟩
set_option maxHeartbeats 1600000 in
theorem ichkRef_any (k : ByteArray) (c n : Int) (v : ByteArray) (d : Bool) (w : World) :
    Calls Tryd.prog 56 #[.agg #[.string k, .int .i64 c, .int .i64 n, .string v, .bool d]] w fun e w' => e = .returned (.int .i64 (En.chk ⟨k, c, n, v, d⟩)) ∧ Below w.heap.size w w' := by
  by_cases h1 : (16 : Int) < k.size
  · go_enter Tryd.func56, Tryd.ntmps56
    go_wp2
    go_ret
    exact ⟨ret_i64 (En.chk_key c n v d h1).symm, bnew w _⟩
  rcases Vs.chk_two c n with h2 | h2
  · have H2 := aside h2
    go_enter Tryd.func56, Tryd.ntmps56
    go_wp2_with (go_at_call 73; refine (checkVersionRef_at H2.out _).mono ?_; rintro e w1 ⟨rfl, b1⟩)
    go_ret
    exact ⟨ret_i64 (En.chk_ver v d (by omega) H2.out).symm, bthen (bnew w _) b1⟩
  have H2 := aside h2
  clear h2
  have X := fun o => (heap_alloc_new w o)
  have HX := aside X
  clear X
  by_cases h3 : (32 : Int) < v.size
  · go_enter Tryd.func56, Tryd.ntmps56
    go_wp2_with fail
    refine (checkVersionRef_at H2.out _).mono ?_
    rintro e w1 ⟨rfl, b1⟩
    have c3 : w1.cell? ⟨w.heap.size, 3, none⟩ = some (.string v) := (b1.cell (by simp)).trans (by rw [cell_of_row _ w.heap.size 3 _ _ _ (HX.out _)]; rfl)
    go_wp2
    go_ret
    exact ⟨ret_i64 (En.chk_val d (by omega) H2.out (by omega)).symm, bthen (bnew w _) b1⟩
  · cases d <;> cases h5 : v.toList.isEmpty
    all_goals
      go_enter Tryd.func56, Tryd.ntmps56
      go_wp2_with fail
      refine (checkVersionRef_at H2.out _).mono ?_
      rintro e w1 ⟨rfl, b1⟩
      have c3 : w1.cell? ⟨w.heap.size, 3, none⟩ = some (.string v) := (b1.cell (by simp)).trans (by rw [cell_of_row _ w.heap.size 3 _ _ _ (HX.out _)]; rfl)
      first
        | have c4 : w1.cell? ⟨w.heap.size, 4, none⟩ = some (.bool true) := (b1.cell (by simp)).trans (by rw [cell_of_row _ w.heap.size 4 _ _ _ (HX.out _)]; rfl)
        | have c4 : w1.cell? ⟨w.heap.size, 4, none⟩ = some (.bool false) := (b1.cell (by simp)).trans (by rw [cell_of_row _ w.heap.size 4 _ _ _ (HX.out _)]; rfl)
      go_wp2
      go_ret
      exact ⟨ret_i64 (by rw [En.chk_rest _ (by omega) H2.out (by omega), h5]; rfl), bthen (bnew w _) b1⟩
end Go.Proofs.YtfkdhambbpkmpaaDoor
namespace Go.Proofs.YtfkdhambbpkmpaaDoor
open Go.RowKit
theorem compare_at {a n b m q : Int} (h : Vs.cmp a n b m = q) (w : World) : Calls Tryd.prog 65 #[.agg #[.int .i64 a, .int .i64 n], .agg #[.int .i64 b, .int .i64 m]] w fun e w' => e = .returned (.int .i64 q) ∧ Below w.heap.size w w' := by
  subst h; exact compare_any a n b m w
theorem compareRef_at {a n b m q : Int} (h : Vs.cmp a n b m = q) (w : World) : Calls Tryd.prog 68 #[.agg #[.int .i64 a, .int .i64 n], .agg #[.int .i64 b, .int .i64 m]] w fun e w' => e = .returned (.int .i64 q) ∧ Below w.heap.size w w' := by
  subst h; exact compareRef_any a n b m w
theorem cmp_three (a n b m : Int) : Vs.cmp a n b m = 1 ∧ (b < a ∨ (a = b ∧ m < n)) ∨ Vs.cmp a n b m = 0 ∧ a = b ∧ n = m ∨ Vs.cmp a n b m = -1 ∧ (a < b ∨ (a = b ∧ n < m)) := by
  unfold Vs.cmp Vs.c2
  by_cases h1 : b < a
  · rw [if_pos h1]; omega
  · by_cases h2 : a < b
    · rw [if_neg h1, if_pos h2]; omega
    · by_cases h3 : m < n
      · rw [if_neg h1, if_neg h2, if_pos h3]; omega
      · by_cases h4 : n < m
        · rw [if_neg h1, if_neg h2, if_neg h3, if_pos h4]; omega
        · rw [if_neg h1, if_neg h2, if_neg h3, if_neg h4]; omega
end Go.Proofs.YtfkdhambbpkmpaaDoor
namespace Go.Proofs.YtfkdhambbpkmpaaDoor
open Go.RowKit
/-- Whether a is newer than b. -/
def En.newer (a b : En) : Bool := decide (0 < Vs.cmp a.c a.n b.c b.n)
set_option maxHeartbeats 800000 in
theorem newer_any (ak : ByteArray) (ac an : Int) (av : ByteArray) (ad : Bool) (bk : ByteArray) (bc bn : Int) (bv : ByteArray) (bd : Bool) (q : Bool) (w : World) (h : En.newer ⟨ak, ac, an, av, ad⟩ ⟨bk, bc, bn, bv, bd⟩ = q) :
    Calls Tryd.prog 50 #[.agg #[.string ak, .int .i64 ac, .int .i64 an, .string av, .bool ad], .agg #[.string bk, .int .i64 bc, .int .i64 bn, .string bv, .bool bd]] w fun e w' => e = .returned (.bool q) ∧ Below w.heap.size w w' := by
  obtain ⟨x, hx⟩ : ∃ x, Vs.cmp ac an bc bn = x := ⟨_, rfl⟩
  have H := aside h
  have C := aside (fun w => compare_at hx w)
  have HX := aside hx
  clear h hx
  go_enter Tryd.func50, Tryd.ntmps50
  go_wp2_with fail
  refine (C.out _).mono ?_
  rintro e w1 ⟨rfl, b1⟩
  have b0 := bthen (bthen (bnew w _) (bnew _ _)) b1
  clear b1
  go_wp2
  go_ret
  refine ⟨ret_bool ?_, b0⟩
  rw [← H.out, ← HX.out]; rfl
set_option maxHeartbeats 800000 in
theorem newerRef_any (ak : ByteArray) (ac an : Int) (av : ByteArray) (ad : Bool) (bk : ByteArray) (bc bn : Int) (bv : ByteArray) (bd : Bool) (q : Bool) (w : World) (h : En.newer ⟨ak, ac, an, av, ad⟩ ⟨bk, bc, bn, bv, bd⟩ = q) :
    Calls Tryd.prog 53 #[.agg #[.string ak, .int .i64 ac, .int .i64 an, .string av, .bool ad], .agg #[.string bk, .int .i64 bc, .int .i64 bn, .string bv, .bool bd]] w fun e w' => e = .returned (.bool q) ∧ Below w.heap.size w w' := by
  obtain ⟨x, hx⟩ : ∃ x, Vs.cmp ac an bc bn = x := ⟨_, rfl⟩
  have H := aside h
  have C := aside (fun w => compareRef_at hx w)
  have HX := aside hx
  clear h hx
  go_enter Tryd.func53, Tryd.ntmps53
  go_wp2_with fail
  refine (C.out _).mono ?_
  rintro e w1 ⟨rfl, b1⟩
  have b0 := bthen (bthen (bnew w _) (bnew _ _)) b1
  clear b1
  go_wp2
  go_ret
  refine ⟨ret_bool ?_, b0⟩
  rw [← H.out, ← HX.out]; rfl
theorem newer_iff (a b : En) : En.newer a b = true ↔ b.c < a.c ∨ (a.c = b.c ∧ b.n < a.n) := by
  unfold En.newer
  rw [decide_eq_true_iff]
  rcases cmp_three a.c a.n b.c b.n with h | h | h <;> omega
theorem newer_not (a b : En) : En.newer a b = false ↔ ¬ (b.c < a.c ∨ (a.c = b.c ∧ b.n < a.n)) := by
  rw [← newer_iff]; simp
end Go.Proofs.YtfkdhambbpkmpaaDoor
