/-
  Memory of trees: blocks of one type that stay, a counter of joins, summaries.
  Small facts on blocks of two cells (sums), on frames, and entries as plain data.
  The table of lanes in memory; one word mixed into both lanes.
  Arguments of these laws, from their reading to plain numbers, texts, sums and entries; the table of lanes, from the row's list.
  How often the join is called.
  Plain mathematics: the way down to a key, and the way back up with a row.
  What == says of two sums.
-/
import Derived.Test.YtlgcdcjhflihiaaDoorBstorefills1
import Derived.Laws.Rows
import Derived.Test.YtlgcdcjhflihiaaDoorRows
import Derived.ProofKit
import Derived.OpenShut
import Derived.ShutString
import Derived.SizedLaws
import Derived.HandedShaped
import Derived.Lib.SmallJoins
import Derived.Deep.Slices
import Derived.Deep.Strs
import Derived.Deep.CondSized
import Derived.ChangeOld
import Derived.LaidLaws
import Derived.FnData
import Derived.Laws.Tables
import Derived.Laws.Cover2
namespace Go.Proofs.YtlgcdcjhflihiaaDoor
open Go.RowKit
set_option linter.unusedVariables false
theorem bthen {w w1 w2 : World} (h : Below w.heap.size w w1) (h2 : Below w1.heap.size w1 w2) : Below w.heap.size w w2 := h.trans (h2.mono h.size)

theorem bnew (w : World) (o : Obj) : Below w.heap.size w (w.alloc o) := (Below.refl _ w).alloc (Nat.le_refl _) _

theorem blk_on {w w' : World} {i : Nat} {o : Obj} (h : w.heap[i]? = some o) (b : Below w.heap.size w w') : w'.heap[i]? = some o := (b.block i (Array.getElem?_eq_some_iff.1 h).1).trans h

theorem lt_of_blk {w : World} {i : Nat} {o : Obj} (h : w.heap[i]? = some o) : i < w.heap.size := (Array.getElem?_eq_some_iff.1 h).1

theorem blk_keep {S : Nat → Prop} {w w' : World} {i : Nat} {o : Obj} (h : w.heap[i]? = some o) (k : Keeps S w w') (hn : ¬ S i) : w'.heap[i]? = some o := (k.block i (lt_of_blk h) hn).trans h

/-- Blocks of the type T stay as they are. -/
def Stay (T : TypeId) (w w' : World) : Prop := ∀ (b : Nat) (cs : Array Value), w.heap[b]? = some (.cells cs T (0, 0)) → w'.heap[b]? = some (.cells cs T (0, 0))

theorem Stay.refl (T : TypeId) (w : World) : Stay T w w := fun _ _ h => h

theorem Stay.trans {T : TypeId} {a b c : World} (h : Stay T a b) (k : Stay T b c) : Stay T a c := fun _ _ e => k _ _ (h _ _ e)

theorem Stay.drew {T : TypeId} {a b : World} (h : Stay T a b) : Stay T a b.drew := fun _ _ e => h _ _ e

theorem Stay.alloc {T : TypeId} {a b : World} (h : Stay T a b) (o : Obj) : Stay T a (b.alloc o) := fun _ _ e => blk_on (h _ _ e) (bnew _ _)

theorem Stay.setCell {T : TypeId} {a b : World} (h : Stay T a b) {p : Addr} (u : Value) (hp : ∀ cs, b.heap[p.block]? ≠ some (.cells cs T (0, 0))) : Stay T a (b.setCell p u) := fun i _ e => by
  rw [heap_setCell_other]
  · exact h _ _ e
  · rintro rfl; exact hp _ (h _ _ e)

theorem Stay.keeps {T : TypeId} {S : Nat → Prop} {a b c : World} (h : Stay T a b) (k : Keeps S b c) (hS : ∀ i cs, b.heap[i]? = some (.cells cs T (0, 0)) → ¬ S i) : Stay T a c := fun i _ e => blk_keep (h _ _ e) k (hS _ _ (h _ _ e))

theorem Stay.grown {T : TypeId} {a b c : World} {row : Option Nat} (h : Stay T a b) (hg : b.grownBy c row) (hrow : ∀ r, row = some r → ∀ cs, b.heap[r]? ≠ some (.cells cs T (0, 0))) : Stay T a c := fun i _ e => by
  have e1 := h _ _ e
  rw [hg.block i (lt_of_blk e1) (fun e2 => hrow i e2.symm _ e1)]
  exact e1

/-- How often a join was called, where it counts: in the block c. -/
def Cnt (c : Option Nat) (n : Nat) (w : World) : Prop := ∀ b : Nat, c = some b → w.heap[b]? = some (.cells #[.int .i64 (IntKind.i64.wrap (n : Int))] 3 (0, 0))

/-- The counter's block. -/
def OnC (c : Option Nat) : Nat → Prop := fun k => c = some k

theorem Cnt.drew {c : Option Nat} {n : Nat} {w : World} (h : Cnt c n w) : Cnt c n w.drew := h

theorem Cnt.alloc {c : Option Nat} {n : Nat} {w : World} (h : Cnt c n w) (o : Obj) : Cnt c n (w.alloc o) := fun b e => blk_on (h b e) (bnew _ _)

theorem Cnt.keep {S : Nat → Prop} {c : Option Nat} {n : Nat} {w w' : World} (h : Cnt c n w) (k : Keeps S w w') (hS : ∀ b, c = some b → ¬ S b) : Cnt c n w' := fun b e => blk_keep (h b e) k (hS b e)

theorem Cnt.below {c : Option Nat} {n : Nat} {w w' : World} (h : Cnt c n w) (k : Below w.heap.size w w') : Cnt c n w' := fun b e => blk_on (h b e) k

theorem Cnt.apart {c : Option Nat} {n : Nat} {w : World} (h : Cnt c n w) {i : Nat} {cs : Array Value} {T : TypeId} (hi : w.heap[i]? = some (.cells cs T (0, 0))) (hT : T ≠ 3) : ¬ OnC c i := fun e => by
  have := h i e
  rw [hi] at this
  injection this with this
  injection this with _ e2
  exact hT e2

theorem Cnt.setCell {c : Option Nat} {n : Nat} {w : World} (h : Cnt c n w) {p : Addr} (u : Value) (hp : ¬ OnC c p.block) : Cnt c n (w.setCell p u) := fun b e => by
  rw [heap_setCell_other]
  · exact h b e
  · intro e2; exact hp (by show c = some p.block; rw [e, e2])

theorem Cnt.lt {c : Option Nat} {n : Nat} {w : World} (h : Cnt c n w) {i : Nat} (hi : w.heap.size ≤ i) : ¬ OnC c i := fun e => by
  have := lt_of_blk (h i e)
  omega

theorem Stay.onC {T : TypeId} {a b d : World} {c : Option Nat} {n : Nat} (h : Stay T a b) (hc : Cnt c n b) (k : Keeps (OnC c) b d) (hT : T ≠ 3) : Stay T a d := h.keeps k (fun _ _ e => hc.apart e hT)

theorem str_gtr {a b : ByteArray} {q : Bool} (h : (!(Op.bytesLess a.toList b.toList || a.toList == b.toList)) = q) : binOp .gtr 9 (.string a) (.string b) = pure (.bool q) := by
  simp only [binOp, Op.stringOp, h]

theorem kLt_same {a b : ByteArray} (h : kLt a b = false) (k : kLt b a = false) : (!(Op.bytesLess a.toList b.toList || a.toList == b.toList)) = false := by
  rw [kLt_total h k]; simp

theorem kLt_over {a b : ByteArray} (h : kLt b a = true) : (!(Op.bytesLess a.toList b.toList || a.toList == b.toList)) = true := by
  have h1 := kLt_asymm h
  have h2 : a.toList ≠ b.toList := fun e => by rw [toList_inj e, kLt_irrefl] at h; cases h
  unfold kLt at h1
  simp [h1, h2]

/-- A Map. -/
structure Mp where
  A : UInt64
  B : UInt64

def Mp.a (m : Mp) : Int := (m.A.toNat : Int)

def Mp.b (m : Mp) : Int := (m.B.toNat : Int)

def mZero : Mp := ⟨1, 0⟩

def mJoin (f g : Mp) : Mp := ⟨f.A * g.A, g.A * f.B + g.B⟩

/-- What a Map takes beside its row: nothing that is counted. -/
def mSz (_ : Mp) : Nat := 0

theorem mSz_le (a b : Mp) : mSz (mJoin a b) ≤ mSz a + mSz b := Nat.le_refl _

theorem mZero_a : mZero.a = 1 := rfl

theorem mZero_b : mZero.b = 0 := rfl

theorem u64_mul (x y : UInt64) : IntKind.u64.wrap ((x.toNat : Int) * (y.toNat : Int)) = ((x * y).toNat : Int) := by
  rw [IntKind.wrap_u64, UInt64.toNat_mul]; omega

theorem u64_add (x y : UInt64) : IntKind.u64.wrap ((x.toNat : Int) + (y.toNat : Int)) = ((x + y).toNat : Int) := by
  rw [IntKind.wrap_u64, UInt64.toNat_add]; omega

theorem mJoin_a (f g : Mp) : IntKind.u64.wrap (f.a * g.a) = (mJoin f g).a := u64_mul _ _

theorem mJoin_b (f g : Mp) : IntKind.u64.wrap (IntKind.u64.wrap (g.a * f.b) + g.b) = (mJoin f g).b := by
  unfold Mp.a Mp.b
  rw [u64_mul, u64_add]; rfl

def sSz (s : ByteArray) : Nat := s.size

def sJoin (a b : ByteArray) : ByteArray := a ++ b

def sZero : ByteArray := ⟨#[]⟩

theorem sSz_le (a b : ByteArray) : sSz (sJoin a b) ≤ sSz a + sSz b := by
  unfold sSz sJoin; rw [ByteArray.size_append]; exact Nat.le_refl _

end Go.Proofs.YtlgcdcjhflihiaaDoor
namespace Go.Proofs.YtlgcdcjhflihiaaDoor
open Go.RowKit
set_option linter.unusedVariables false
/-- An entry, plain. -/
structure En where
  k : ByteArray
  c : Int
  n : Int
  v : ByteArray
  d : Bool

theorem ret_bool {a b : Bool} (h : a = b) : Ending.returned (.bool a) = .returned (.bool b) := by rw [h]

theorem cell_in {W W' : World} {p : Addr} {v : Value} (h : W.cell? p = some v) (b : Below W.heap.size W W') : W'.cell? p = some v :=
  (World.cell?_of_block (w := W) (b.block p.block (World.block_lt_of_cell? W _ h))).trans h

/-- The two cells of a sum's block. -/
theorem pair {w : World} {i : Nat} {a b : Value} {T : TypeId} (h : w.heap[i]? = some (.cells #[a, b] T (0, 0))) :
    w.cell? ⟨i, 0, none⟩ = some a ∧ w.cell? ⟨i, 1, none⟩ = some b ∧ w.frozen? ⟨i, 0, none⟩ = false ∧ w.frozen? ⟨i, 1, none⟩ = false :=
  ⟨by simp [World.cell?, h], by simp [World.cell?, h], frozen_of_row w i 0 _ _ h, frozen_of_row w i 1 _ _ h⟩

/-- What is kept of the world in a loop over a sum's two elements: own blocks from n on. -/
structure Two (w wr : World) (i : Nat) (a b : Int) : Prop where
  below : Below w.heap.size w wr
  low : w.heap.size ≤ i
  blk : wr.heap[i]? = some (.cells #[.int .u64 a, .int .u64 b] 62 (0, 0))

end Go.Proofs.YtlgcdcjhflihiaaDoor
namespace Go.Proofs.YtlgcdcjhflihiaaDoor
open Go.RowKit
set_option linter.unusedVariables false
/-- The table of lanes, cell for cell. -/
structure Lanes (w : World) : Prop where
  c0 : w.cell? ⟨0, 0, none⟩ = some (.int .u64 2611923443488327891)
  c1 : w.cell? ⟨0, 1, none⟩ = some (.int .u64 11400714819323198485)
  c2 : w.cell? ⟨0, 2, none⟩ = some (.int .u64 29)
  c3 : w.cell? ⟨0, 3, none⟩ = some (.int .u64 1376283091369227076)
  c4 : w.cell? ⟨0, 4, none⟩ = some (.int .u64 14029467366897019727)
  c5 : w.cell? ⟨0, 5, none⟩ = some (.int .u64 32)

theorem Lanes.keep {w w' : World} (h : Lanes w) (b : Below w.heap.size w w') : Lanes w' :=
  ⟨cell_in h.c0 b, cell_in h.c1 b, cell_in h.c2 b, cell_in h.c3 b, cell_in h.c4 b, cell_in h.c5 b⟩

theorem Lanes.pos {w : World} (h : Lanes w) : 0 < w.heap.size := World.block_lt_of_cell? w _ h.c0

/-- The memory in the loop over a sum's elements. -/
def mix2 (w : World) (x0 x1 r0 r1 : Int) : World :=
  (w.alloc (.cells #[.int .u64 x0, .int .u64 x1] 62)).alloc (.cells #[.int .u64 r0, .int .u64 r1] 62)

theorem mix2_below (w : World) (x0 x1 r0 r1 : Int) : Below w.heap.size w (mix2 w x0 x1 r0 r1) := (bnew w _).alloc (by simp) _

def MixRel (w : World) (a0 a1 s0 s1 : Int) (i : Value) (wr : World) : Prop :=
  (i = .int .i64 0 ∧ wr = mix2 w a0 a1 0 0) ∨ (i = .int .i64 1 ∧ wr = (mix2 w s0 a1 0 0).drew.drew) ∨ (i = .int .i64 2 ∧ wr = (mix2 w s0 s1 0 0).drew.drew.drew.drew)

/-- One word mixed into a lane. -/
def mixI (f : Int) (s : Nat) (x u : Int) : Int :=
  bits .xor .u64 (IntKind.u64.wrap (bits .xor .u64 x u * f)) (IntKind.u64.wrap (bits .xor .u64 x u * f) / 2 ^ s)

set_option maxHeartbeats 1600000 in
set_option maxRecDepth 100000 in
theorem mixed_any (a0 a1 u : Int) (w : World) (L : Lanes w) :
    Calls Tryd.prog 89 #[.agg #[.int .u64 a0, .int .u64 a1], .int .u64 u] w fun e w' => e = .returned (.agg #[.int .u64 (mixI 11400714819323198485 29 a0 u), .int .u64 (mixI 14029467366897019727 32 a1 u)]) ∧ Below w.heap.size w w' := by
  have h0 := L.pos
  obtain ⟨c0, c1, c2, c3, c4, c5⟩ := L
  go_enter Tryd.func89, Tryd.ntmps89
  go_wp2
  go_loopw [6] (fun i wr => MixRel w a0 a1 (mixI 11400714819323198485 29 a0 u) (mixI 14029467366897019727 32 a1 u) i wr) (fun i _ => 2 - (intOf i).toNat)
  case atStart => exact .inl ⟨rfl, rfl⟩
  case round =>
    obtain ⟨rfl, rfl⟩ | ⟨rfl, rfl⟩ | ⟨rfl, rfl⟩ := hrel
    · unfold mix2
      go_wp2
      go_region
      go_wp2
      go_region
      go_wp2
      go_roundw
      case rel => exact .inr (.inl ⟨rfl, rfl⟩)
      case measure => simp [intOf]
    · unfold mix2
      go_wp2
      go_region
      go_wp2
      go_region
      go_wp2
      go_roundw
      case rel => exact .inr (.inr ⟨rfl, rfl⟩)
      case measure => simp [intOf]
    · unfold mix2
      go_wp2
      exact bodyPost_ret (v := .agg #[.int .u64 (mixI 11400714819323198485 29 a0 u), .int .u64 (mixI 14029467366897019727 32 a1 u)]) (by simp [results, Tryd.results89, go_sem]) rfl ⟨rfl, (mix2_below w _ _ _ _).drew.drew.drew.drew⟩

end Go.Proofs.YtlgcdcjhflihiaaDoor
namespace Go.Proofs.YtlgcdcjhflihiaaDoor
open Go.ChangeShapes Go.WideShapes Go.ChangeAt Go.RowKit
set_option linter.unusedVariables false
theorem own : ownKnob Tryd.prog.godebug = none := by kernel_rfl

theorem laidOut : laidOutB Tryd.prog = true := by kernel_rfl

theorem cellsVer : Tryd.prog.cellsOf 37 = 2 := by kernel_rfl

theorem cellsEnt : Tryd.prog.cellsOf 39 = 5 := by kernel_rfl

theorem bytesEnt : Tryd.prog.bytesOf 39 = 56 := by kernel_rfl

theorem cellsInt : Tryd.prog.cellsOf 3 = 1 := by kernel_rfl

theorem cellsStr : Tryd.prog.cellsOf 9 = 1 := by kernel_rfl

theorem cellsBool : Tryd.prog.cellsOf 4 = 1 := by kernel_rfl

theorem cellsU64 : Tryd.prog.cellsOf 60 = 1 := by kernel_rfl

theorem cellsUint : Tryd.prog.cellsOf 151 = 1 := by kernel_rfl

theorem cellsSum : Tryd.prog.cellsOf 62 = 2 := by kernel_rfl

theorem cellsLane : Tryd.prog.cellsOf 153 = 3 := by kernel_rfl

theorem cellsLanes : Tryd.prog.cellsOf 154 = 6 := by kernel_rfl

theorem gLanes : Tryd.prog.globalNamed "tideline/mix.lanes" = some 0 := by kernel_rfl

theorem gLanesType : (Tryd.prog.globals[0]?).map (·.type) = some 154 := by kernel_rfl

variable {H : Type} {enc : TypeId × Value → H} {W : World}
set_option maxRecDepth 100000 in
/-- One row of the table, from its reading. -/
theorem lane_cells {b0 : Nat} {sp : Nat → Bool} {held : Bool} {fuel : Nat} {cs : List Value} {a f s : Int} {p : List MemPlace} (h : DataW.trod enc Tryd.prog W b0 sp held fuel 153 cs = some ((.agg [.lit (.int .u64 a), .lit (.int .u64 f), .lit (.int .u64 s)] : DataW H), p)) :
    cs = [.int .u64 a, .int .u64 f, .int .u64 s] := by
  obtain ⟨y0, y1, y2, m, hx, hl, h0, h1, h2⟩ := Deep.trod_struct3 Tryd.underlying153 h
  rw [cellsLane] at hl
  match cs, hl with
  | [v0, v1, v2], _ =>
    simp [cellsU64, cellsUint] at h0 h1 h2
    obtain ⟨z0, e0, rfl, -⟩ := DataW.trod_int Tryd.underlying60 h0
    obtain ⟨z1, e1, rfl, -⟩ := DataW.trod_int Tryd.underlying60 h1
    obtain ⟨z2, e2, rfl, -⟩ := DataW.trod_int Tryd.underlying151 h2
    simp only [List.cons.injEq, and_true] at e0 e1 e2
    subst e0 e1 e2
    simp at hx
    obtain ⟨⟨rfl, rfl, rfl⟩, -⟩ := hx
    rfl

set_option maxRecDepth 100000 in
theorem lanes_of {W : World} (h : laidMet Tryd.prog [("tideline/mix.lanes", Rows.laid_tideline_mix_lanes)] W) : Lanes W := by
  obtain ⟨ps, ⟨g', t', cs, fuel, p, q, hg', ht', hvar, hd, _, _⟩, _⟩ := h
  obtain rfl := Option.some.inj (gLanes.symm.trans hg')
  obtain rfl := Option.some.inj (gLanesType.symm.trans ht')
  obtain ⟨xs, m, _, hx, hl, hxl, hel⟩ := DataW.trod_array Tryd.underlying154 hd
  rw [cellsLanes] at hl
  rw [cellsLane] at hel
  match xs, hxl with
  | [x0, x1], _ =>
    have g0 := hel 0 (by omega)
    have g1 := hel 1 (by omega)
    simp only [Rows.laid_tideline_mix_lanes, Prod.mk.injEq, List.map_cons, List.map_nil, DataW.agg.injEq, List.cons.injEq, and_true] at hx
    obtain ⟨⟨q0, q1⟩, -⟩ := hx
    have e0 := lane_cells (p := x0.2) (g0.trans (by rw [List.getElem?_cons_zero, q0]))
    have e1 := lane_cells (p := x1.2) (g1.trans (by rw [List.getElem?_cons_succ, List.getElem?_cons_zero, q1]))
    obtain ⟨l⟩ := cs
    match l, hl with
    | [v0, v1, v2, v3, v4, v5], _ =>
      simp at e0 e1
      obtain ⟨rfl, rfl, rfl⟩ := e0
      obtain ⟨rfl, rfl, rfl⟩ := e1
      exact ⟨World.var?_cell gLanes hvar 0, World.var?_cell gLanes hvar 1, World.var?_cell gLanes hvar 2, World.var?_cell gLanes hvar 3, World.var?_cell gLanes hvar 4, World.var?_cell gLanes hvar 5⟩

set_option maxRecDepth 100000 in
theorem open_ver {b0 : Nat} {sp : Nat → Bool} {held : Bool} {v : Value} {d : DataW H} {p : List MemPlace} (hv : Value.okWide Tryd.prog W .any b0 37 v) (h : DataW.Trod enc Tryd.prog W 0 sp held 37 v d p) :
    ∃ (c n : Int), v = .agg #[.int .i64 c, .int .i64 n] ∧ (-9223372036854775808 ≤ c ∧ c ≤ 9223372036854775807) ∧ (-9223372036854775808 ≤ n ∧ n ≤ 9223372036854775807) := by
  obtain ⟨c0, c1, y0, y1, m, rfl, rfl, rfl, hy0, hy1⟩ := Joins.open_agg2 Tryd.underlying37 (by kernel_rfl) cellsVer hv h
  obtain ⟨c, e0, rfl, w0⟩ := DataW.trod_int Tryd.underlying3 hy0
  obtain ⟨n, e1, rfl, w1⟩ := DataW.trod_int Tryd.underlying3 hy1
  simp only [List.cons.injEq, and_true] at e0 e1
  subst e0 e1
  exact ⟨c, n, rfl, bounds_i64 w0, bounds_i64 w1⟩

theorem str_size {s : ByteArray} (h : ∀ n ∈ (DataW.lit (.string s.data.toList) : DataW H).weights Tryd.prog 9, n ≤ reachBytes) : s.size ≤ 140737488351232 := by
  have := h s.data.toList.length (by simp [DataW.weights])
  have e : s.data.toList.length = s.size := by show s.data.toList.length = s.data.size; simp
  rw [e] at this
  exact this

set_option maxRecDepth 100000 in
/-- A sum, opened: its two numbers, of 64 bits. -/
theorem open_sum {b0 : Nat} {sp : Nat → Bool} {held : Bool} {v : Value} {d : DataW H} {p : List MemPlace} (hv : Value.okWide Tryd.prog W .any b0 62 v) (h : DataW.Trod enc Tryd.prog W 0 sp held 62 v d p) :
    ∃ (a b : Nat), v = .agg #[.int .u64 (a : Int), .int .u64 (b : Int)] ∧ a < 18446744073709551616 ∧ b < 18446744073709551616 := by
  simp only [Value.okWide, Tryd.underlying62] at hv
  obtain ⟨cs, rfl, hsz, _⟩ := hv
  rw [cellsSum] at hsz
  obtain ⟨fuel, hf⟩ := h
  obtain ⟨xs, m, _, hx, hl, hxl, hel⟩ := DataW.trod_array Tryd.underlying62 hf
  rw [cellsU64] at hel
  obtain ⟨l⟩ := cs
  match xs, hxl, l, hsz with
  | [x0, x1], _, [v0, v1], _ =>
    have g0 := hel 0 (by omega)
    have g1 := hel 1 (by omega)
    simp [Value.cells] at g0 g1
    obtain ⟨z0, e0, f0, w0⟩ := DataW.trod_int Tryd.underlying60 g0
    obtain ⟨z1, e1, f1, w1⟩ := DataW.trod_int Tryd.underlying60 g1
    simp only [List.cons.injEq, and_true] at e0 e1
    subst e0 e1
    have b0 := bounds_u64 w0
    have b1 := bounds_u64 w1
    refine ⟨z0.toNat, z1.toNat, ?_, by omega, by omega⟩
    rw [show ((z0.toNat : Nat) : Int) = z0 from by omega, show ((z1.toNat : Nat) : Int) = z1 from by omega]

end Go.Proofs.YtlgcdcjhflihiaaDoor
namespace Go.Proofs.YtlgcdcjhflihiaaDoor
open Go.RowKit
set_option linter.unusedVariables false
namespace Tr
variable {β α : Type}
def hangC (l r : Tr β α) : Nat := (if l.isNil then 0 else 1) + (if r.isNil then 0 else 1)

def turnRC (l r : Tr β α) : Nat :=
  match l with
  | nil => 0
  | node ll _ _ _ lr =>
    if lr.ht ≤ ll.ht then hangC lr r + (if ll.isNil then 1 else 2) else
      match lr with
      | nil => 0
      | node a _ _ _ b => hangC ll a + hangC b r + 2

def turnLC (l r : Tr β α) : Nat :=
  match r with
  | nil => 0
  | node rl _ _ _ rr =>
    if rl.ht ≤ rr.ht then hangC l rl + (if rr.isNil then 1 else 2) else
      match rl with
      | nil => 0
      | node a _ _ _ b => hangC l a + hangC b rr + 2

def levelC (l r : Tr β α) : Nat := if l.ht = r.ht + 2 then turnRC l r else if r.ht = l.ht + 2 then turnLC l r else hangC l r

theorem hangC_le (l r : Tr β α) : hangC l r ≤ 2 := by unfold hangC; split <;> split <;> omega

theorem levelC_le (l r : Tr β α) : levelC l r ≤ 6 := by
  unfold levelC
  have h0 := hangC_le l r
  split
  · cases l with
    | nil => simp [turnRC]
    | node ll k v s lr =>
      simp only [turnRC]
      split
      · have := hangC_le lr r; split <;> omega
      · cases lr with
        | nil => simp
        | node a k v s b => have := hangC_le ll a; have := hangC_le b r; simp only; omega
  · split
    · cases r with
      | nil => simp [turnLC]
      | node rl k v s rr =>
        simp only [turnLC]
        split
        · have := hangC_le l rl; split <;> omega
        · cases rl with
          | nil => simp
          | node a k v s b => have := hangC_le l a; have := hangC_le b rr; simp only; omega
    · omega

end Tr
end Go.Proofs.YtlgcdcjhflihiaaDoor
namespace Go.Proofs.YtlgcdcjhflihiaaDoor
open Go.RowKit
set_option linter.unusedVariables false
namespace Tr
variable {β α : Type}
/-- The trees on the way down to k, without the last one. -/
def path (k : ByteArray) : Tr β α → List (Tr β α)
  | nil => []
  | node l k' v s r => if kLt k k' then node l k' v s r :: path k l else if kLt k' k then node l k' v s r :: path k r else []

/-- The tree at the end of the way. -/
def found (k : ByteArray) : Tr β α → Tr β α
  | nil => nil
  | node l k' v s r => if kLt k k' then found k l else if kLt k' k then found k r else node l k' v s r

/-- How many rows have a lower key. -/
def lower (k : ByteArray) : Tr β α → Nat
  | nil => 0
  | node l k' v s r => if kLt k k' then lower k l else if kLt k' k then l.cnt + 1 + lower k r else l.cnt

theorem path_le (k : ByteArray) : ∀ t : Tr β α, (path k t).length ≤ t.ht
  | nil => Nat.le_refl _
  | node l k' v s r => by
    have h1 := path_le k l
    have h2 := path_le k r
    simp only [path, ht]
    split
    · simp only [List.length_cons]; omega
    · split
      · simp only [List.length_cons]; omega
      · simp

theorem lower_le (k : ByteArray) : ∀ t : Tr β α, lower k t ≤ t.cnt
  | nil => Nat.le_refl _
  | node l k' v s r => by
    have h1 := lower_le k l
    have h2 := lower_le k r
    simp only [lower, cnt]
    split
    · omega
    · split <;> omega

/-- What the row becomes at the end of the way. -/
def base (k : ByteArray) (v : β) (s : α) (t : Tr β α) : Tr β α :=
  match t with
  | nil => node nil k v s nil
  | node l _ _ _ r => node l k v s r

/-- One step back up. -/
def step (k : ByteArray) (t made : Tr β α) : Tr β α :=
  match t with
  | nil => made
  | node l k' v' s' r => if kLt k k' then level k' v' s' made r else level k' v' s' l made

def stepC (k : ByteArray) (t made : Tr β α) : Nat :=
  match t with
  | nil => 0
  | node l k' v' s' r => if kLt k k' then levelC made r else levelC l made

/-- All the way back up, the trees as they come. -/
def ups (k : ByteArray) (made : Tr β α) (l : List (Tr β α)) : Tr β α := l.foldl (fun m t => step k t m) made

def upsC (k : ByteArray) (made : Tr β α) : List (Tr β α) → Nat
  | [] => 0
  | t :: l => stepC k t made + upsC k (step k t made) l

theorem ups_snoc (k : ByteArray) (made : Tr β α) (l : List (Tr β α)) (t : Tr β α) : ups k made (l ++ [t]) = step k t (ups k made l) := by simp [ups]

theorem upsC_snoc (k : ByteArray) : ∀ (l : List (Tr β α)) (made t : Tr β α), upsC k made (l ++ [t]) = upsC k made l + stepC k t (ups k made l)
  | [], made, t => by simp [upsC, ups]
  | x :: l, made, t => by
    have := upsC_snoc k l (step k x made) t
    simp only [List.cons_append, upsC, this, ups, List.foldl_cons]
    omega

theorem stepC_le (k : ByteArray) (t made : Tr β α) : stepC k t made ≤ 6 := by
  unfold stepC
  split
  · omega
  · split
    · exact levelC_le _ _
    · exact levelC_le _ _

theorem upsC_le (k : ByteArray) : ∀ (l : List (Tr β α)) (made : Tr β α), upsC k made l ≤ 6 * l.length
  | [], _ => Nat.le_refl _
  | t :: l, made => by
    have h1 := stepC_le k t made
    have h2 := upsC_le k l (step k t made)
    simp only [upsC, List.length_cons]
    omega

theorem put_ups (k : ByteArray) (v : β) (s : α) : ∀ t : Tr β α, ups k (base k v s (found k t)) (path k t).reverse = put k v s t
  | nil => rfl
  | node l k' v' s' r => by
    have h1 := put_ups k v s l
    have h2 := put_ups k v s r
    simp only [path, found, put]
    split
    · rename_i h
      rw [List.reverse_cons, ups_snoc, h1]
      simp [step, h]
    · rename_i h
      split
      · rw [List.reverse_cons, ups_snoc, h2]
        simp [step, h]
      · rfl

theorem wt_step (z : α → Nat) (k : ByteArray) (t made : Tr β α) : (step k t made).wt z ≤ t.wt z + made.wt z := by
  unfold step
  split
  · omega
  · split
    · rw [wt_level]; simp only [wt]; omega
    · rw [wt_level]; simp only [wt]; omega

theorem wt_ups (z : α → Nat) (k : ByteArray) (M : Nat) : ∀ (l : List (Tr β α)) (made : Tr β α), (∀ t ∈ l, t.wt z ≤ M) → (ups k made l).wt z ≤ made.wt z + l.length * M
  | [], made, _ => by simp [ups]
  | t :: l, made, h => by
    have h1 := wt_ups z k M l (step k t made) (fun x hx => h x (List.mem_cons_of_mem _ hx))
    have h2 := wt_step z k t made
    have h3 := h t List.mem_cons_self
    simp only [ups, List.foldl_cons, List.length_cons] at h1 ⊢
    rw [Nat.succ_mul]
    omega

theorem wt_path (z : α → Nat) (k : ByteArray) : ∀ (t x : Tr β α), x ∈ path k t → x.wt z ≤ t.wt z
  | nil, x, h => by simp [path] at h
  | node l k' v s r, x, h => by
    have h1 := wt_path z k l x
    have h2 := wt_path z k r x
    simp only [path] at h
    split at h
    · rcases List.mem_cons.1 h with rfl | h
      · exact Nat.le_refl _
      · have := h1 h; simp only [wt]; omega
    · split at h
      · rcases List.mem_cons.1 h with rfl | h
        · exact Nat.le_refl _
        · have := h2 h; simp only [wt]; omega
      · cases h

theorem wt_found (z : α → Nat) (k : ByteArray) : ∀ t : Tr β α, (found k t).wt z ≤ t.wt z
  | nil => Nat.le_refl _
  | node l k' v s r => by
    have h1 := wt_found z k l
    have h2 := wt_found z k r
    simp only [found]
    split
    · simp only [wt]; omega
    · split
      · simp only [wt]; omega
      · exact Nat.le_refl _

theorem wt_base (z : α → Nat) (k : ByteArray) (v : β) (s : α) (t : Tr β α) : (base k v s t).wt z ≤ t.wt z + 1 + z s := by
  cases t <;> simp only [base, wt] <;> omega

theorem path_node (k : ByteArray) : ∀ (t x : Tr β α), x ∈ path k t → x.isNil = false
  | nil, x, h => by simp [path] at h
  | node l k' v s r, x, h => by
    have h1 := path_node k l x
    have h2 := path_node k r x
    simp only [path] at h
    split at h
    · rcases List.mem_cons.1 h with rfl | h
      · rfl
      · exact h1 h
    · split at h
      · rcases List.mem_cons.1 h with rfl | h
        · rfl
        · exact h2 h
      · cases h

/-- How often a Put joins. -/
def putC (k : ByteArray) (v : β) (s : α) (t : Tr β α) : Nat :=
  (match found k t with
    | nil => 0
    | node l _ _ _ r => hangC l r) + upsC k (base k v s (found k t)) (path k t).reverse

theorem putC_le (k : ByteArray) (v : β) (s : α) (t : Tr β α) : putC k v s t ≤ 6 * t.ht + 2 := by
  have h1 := upsC_le k (path k t).reverse (base k v s (found k t))
  have h2 := path_le k t
  rw [List.length_reverse] at h1
  unfold putC
  split
  · omega
  · rename_i l _ _ _ r _
    have := hangC_le l r
    omega

end Tr
end Go.Proofs.YtlgcdcjhflihiaaDoor
namespace Go.Proofs.YtlgcdcjhflihiaaDoor
open Go.RowKit
theorem sum_in (a b c d : Int) (w : World) : (Op.equalIn 10000 62 (.agg #[.int .u64 a, .int .u64 b]) (.agg #[.int .u64 c, .int .u64 d])).run Tryd.prog w = .ok (a == c && b == d) w := by
  have u3 := Tryd.underlying60
  have a3 := Tryd.isAgg60
  have z3 := Tryd.sizeOf60
  rw [show (10000 : Nat) = 9999 + 1 from rfl, Op.equalIn]
  simp only [Sem.run_bind, run_underlying Tryd.underlying62, Result.andThen_ok]
  simp only [Std.Legacy.Range.forIn_eq_forIn_range', Std.Legacy.Range.size, Nat.sub_zero, Nat.add_sub_cancel, Nat.div_one, List.range'_succ, List.range'_zero, List.forIn_cons, List.forIn_nil]
  go_simp
  by_cases h1 : a = c <;> by_cases h2 : b = d <;> simp [h1, h2]

theorem sum_run (a b c d : Int) (w : World) : (binOp .eql 62 (.agg #[.int .u64 a, .int .u64 b]) (.agg #[.int .u64 c, .int .u64 d])).run Tryd.prog w = .ok (.bool (a == c && b == d)) w := by
  rw [run_eql_struct, sum_in]; rfl

theorem sum_ne_run (a b c d : Int) (w : World) : (binOp .neq 62 (.agg #[.int .u64 a, .int .u64 b]) (.agg #[.int .u64 c, .int .u64 d])).run Tryd.prog w = .ok (.bool (!(a == c && b == d))) w := by
  rw [run_neq_struct, sum_in]; rfl

theorem sum_same (a b : Int) (w : World) : (binOp .eql 62 (.agg #[.int .u64 a, .int .u64 b]) (.agg #[.int .u64 a, .int .u64 b])).run Tryd.prog w = .ok (.bool true) w := by
  rw [sum_run]; simp

theorem sum_yes {a b c d : Int} (h1 : a = c) (h2 : b = d) (w : World) : (binOp .eql 62 (.agg #[.int .u64 a, .int .u64 b]) (.agg #[.int .u64 c, .int .u64 d])).run Tryd.prog w = .ok (.bool true) w := by
  rw [sum_run, h1, h2]; simp

theorem sum_ne_no {a b c d : Int} (h1 : a = c) (h2 : b = d) (w : World) : (binOp .neq 62 (.agg #[.int .u64 a, .int .u64 b]) (.agg #[.int .u64 c, .int .u64 d])).run Tryd.prog w = .ok (.bool false) w := by
  rw [sum_ne_run, h1, h2]; simp

end Go.Proofs.YtlgcdcjhflihiaaDoor
