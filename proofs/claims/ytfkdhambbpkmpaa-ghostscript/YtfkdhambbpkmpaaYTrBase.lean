/-
  Memory of trees: blocks of one type that stay, a counter of joins, summaries.
-/
import Derived.Test.YtfkdhambbpkmpaaYTrOrd
import Derived.Test.YtfkdhambbpkmpaaYMem
import Derived.Laws.Rows
namespace Go.Proofs.Ytfkdhambbpkmpaa
open Go.RowKit
set_option linter.unusedVariables false
theorem bthen {w w1 w2 : World} (h : Below w.heap.size w w1) (h2 : Below w1.heap.size w1 w2) : Below w.heap.size w w2 := h.trans (h2.mono h.size)

theorem bnew (w : World) (o : Obj) : Below w.heap.size w (w.alloc o) := (Below.refl _ w).alloc (Nat.le_refl _) _

theorem blk_on {w w' : World} {i : Nat} {o : Obj} (h : w.heap[i]? = some o) (b : Below w.heap.size w w') : w'.heap[i]? = some o := (b.block i (Array.getElem?_eq_some_iff.1 h).1).trans h

theorem lt_of_blk {w : World} {i : Nat} {o : Obj} (h : w.heap[i]? = some o) : i < w.heap.size := (Array.getElem?_eq_some_iff.1 h).1

theorem blk_keep {S : Nat → Prop} {w w' : World} {i : Nat} {o : Obj} (h : w.heap[i]? = some o) (k : Keeps S w w') (hn : ¬ S i) : w'.heap[i]? = some o := (k.block i (lt_of_blk h) hn).trans h

/-- Blocks of the type T stay as they are. -/
def Stay (T : TypeId) (w w' : World) : Prop := ∀ (b : Nat) (cs : Array Value), w.heap[b]? = some (.cells cs T (0, 0)) → w'.heap[b]? = some (.cells cs T (0, 0))

theorem Stay.refl (T : TypeId) (w : World) : Stay T w w := fun _ _ h => h

theorem Stay.trans {T : TypeId} {a b c : World} (h : Stay T a b) (k : Stay T b c) : Stay T a c := fun _ _ e => k _ _ (h _ _ e)

theorem Stay.drew {T : TypeId} {a b : World} (h : Stay T a b) : Stay T a b.drew := fun _ _ e => h _ _ e

theorem Stay.alloc {T : TypeId} {a b : World} (h : Stay T a b) (o : Obj) : Stay T a (b.alloc o) := fun _ _ e => blk_on (h _ _ e) (bnew _ _)

theorem Stay.setCell {T : TypeId} {a b : World} (h : Stay T a b) {p : Addr} (u : Value) (hp : ∀ cs, b.heap[p.block]? ≠ some (.cells cs T (0, 0))) : Stay T a (b.setCell p u) := fun i _ e => by
  rw [heap_setCell_other]
  · exact h _ _ e
  · rintro rfl; exact hp _ (h _ _ e)

theorem Stay.keeps {T : TypeId} {S : Nat → Prop} {a b c : World} (h : Stay T a b) (k : Keeps S b c) (hS : ∀ i cs, b.heap[i]? = some (.cells cs T (0, 0)) → ¬ S i) : Stay T a c := fun i _ e => blk_keep (h _ _ e) k (hS _ _ (h _ _ e))

theorem Stay.grown {T : TypeId} {a b c : World} {row : Option Nat} (h : Stay T a b) (hg : b.grownBy c row) (hrow : ∀ r, row = some r → ∀ cs, b.heap[r]? ≠ some (.cells cs T (0, 0))) : Stay T a c := fun i _ e => by
  have e1 := h _ _ e
  rw [hg.block i (lt_of_blk e1) (fun e2 => hrow i e2.symm _ e1)]
  exact e1

/-- How often a join was called, where it counts: in the block c. -/
def Cnt (c : Option Nat) (n : Nat) (w : World) : Prop := ∀ b : Nat, c = some b → w.heap[b]? = some (.cells #[.int .i64 (IntKind.i64.wrap (n : Int))] 3 (0, 0))

/-- The counter's block. -/
def OnC (c : Option Nat) : Nat → Prop := fun k => c = some k

theorem Cnt.drew {c : Option Nat} {n : Nat} {w : World} (h : Cnt c n w) : Cnt c n w.drew := h

theorem Cnt.alloc {c : Option Nat} {n : Nat} {w : World} (h : Cnt c n w) (o : Obj) : Cnt c n (w.alloc o) := fun b e => blk_on (h b e) (bnew _ _)

theorem Cnt.keep {S : Nat → Prop} {c : Option Nat} {n : Nat} {w w' : World} (h : Cnt c n w) (k : Keeps S w w') (hS : ∀ b, c = some b → ¬ S b) : Cnt c n w' := fun b e => blk_keep (h b e) k (hS b e)

theorem Cnt.below {c : Option Nat} {n : Nat} {w w' : World} (h : Cnt c n w) (k : Below w.heap.size w w') : Cnt c n w' := fun b e => blk_on (h b e) k

theorem Cnt.apart {c : Option Nat} {n : Nat} {w : World} (h : Cnt c n w) {i : Nat} {cs : Array Value} {T : TypeId} (hi : w.heap[i]? = some (.cells cs T (0, 0))) (hT : T ≠ 3) : ¬ OnC c i := fun e => by
  have := h i e
  rw [hi] at this
  injection this with this
  injection this with _ e2
  exact hT e2

theorem Cnt.setCell {c : Option Nat} {n : Nat} {w : World} (h : Cnt c n w) {p : Addr} (u : Value) (hp : ¬ OnC c p.block) : Cnt c n (w.setCell p u) := fun b e => by
  rw [heap_setCell_other]
  · exact h b e
  · intro e2; exact hp (by show c = some p.block; rw [e, e2])

theorem Cnt.lt {c : Option Nat} {n : Nat} {w : World} (h : Cnt c n w) {i : Nat} (hi : w.heap.size ≤ i) : ¬ OnC c i := fun e => by
  have := lt_of_blk (h i e)
  omega

theorem Stay.onC {T : TypeId} {a b d : World} {c : Option Nat} {n : Nat} (h : Stay T a b) (hc : Cnt c n b) (k : Keeps (OnC c) b d) (hT : T ≠ 3) : Stay T a d := h.keeps k (fun _ _ e => hc.apart e hT)

theorem str_gtr {a b : ByteArray} {q : Bool} (h : (!(Op.bytesLess a.toList b.toList || a.toList == b.toList)) = q) : binOp .gtr 9 (.string a) (.string b) = pure (.bool q) := by
  simp only [binOp, Op.stringOp, h]

theorem kLt_same {a b : ByteArray} (h : kLt a b = false) (k : kLt b a = false) : (!(Op.bytesLess a.toList b.toList || a.toList == b.toList)) = false := by
  rw [kLt_total h k]; simp

theorem kLt_over {a b : ByteArray} (h : kLt b a = true) : (!(Op.bytesLess a.toList b.toList || a.toList == b.toList)) = true := by
  have h1 := kLt_asymm h
  have h2 : a.toList ≠ b.toList := fun e => by rw [toList_inj e, kLt_irrefl] at h; cases h
  unfold kLt at h1
  simp [h1, h2]

/-- A Map. -/
structure Mp where
  A : UInt64
  B : UInt64

def Mp.a (m : Mp) : Int := (m.A.toNat : Int)

def Mp.b (m : Mp) : Int := (m.B.toNat : Int)

def mZero : Mp := ⟨1, 0⟩

def mJoin (f g : Mp) : Mp := ⟨f.A * g.A, g.A * f.B + g.B⟩

/-- What a Map takes beside its row: nothing that is counted. -/
def mSz (_ : Mp) : Nat := 0

theorem mSz_le (a b : Mp) : mSz (mJoin a b) ≤ mSz a + mSz b := Nat.le_refl _

theorem mZero_a : mZero.a = 1 := rfl

theorem mZero_b : mZero.b = 0 := rfl

theorem u64_mul (x y : UInt64) : IntKind.u64.wrap ((x.toNat : Int) * (y.toNat : Int)) = ((x * y).toNat : Int) := by
  rw [IntKind.wrap_u64, UInt64.toNat_mul]; omega

theorem u64_add (x y : UInt64) : IntKind.u64.wrap ((x.toNat : Int) + (y.toNat : Int)) = ((x + y).toNat : Int) := by
  rw [IntKind.wrap_u64, UInt64.toNat_add]; omega

theorem mJoin_a (f g : Mp) : IntKind.u64.wrap (f.a * g.a) = (mJoin f g).a := u64_mul _ _

theorem mJoin_b (f g : Mp) : IntKind.u64.wrap (IntKind.u64.wrap (g.a * f.b) + g.b) = (mJoin f g).b := by
  unfold Mp.a Mp.b
  rw [u64_mul, u64_add]; rfl

def sSz (s : ByteArray) : Nat := s.size

def sJoin (a b : ByteArray) : ByteArray := a ++ b

def sZero : ByteArray := ⟨#[]⟩

theorem sSz_le (a b : ByteArray) : sSz (sJoin a b) ≤ sSz a + sSz b := by
  unfold sSz sJoin; rw [ByteArray.size_append]; exact Nat.le_refl _

end Go.Proofs.Ytfkdhambbpkmpaa
