/-
  Writers by what they hold; ranges and tallies written.
  Two writers, the code's and the document's own, that share no memory; each may hold other bytes. And a list of entries that came in.
  Bytes and Of, the code's and the document's own, by contracts.
  A part written.
  Encode.
  The iterator over neighbours: what it hands to a loop's body, over every slice of ranges.
  Meet, the code's: it returns what the plain function gives, and writes nothing that was there.
  slices.ContainsFunc of Empty over every slice of ranges.
  Rising, the code's: it returns what the plain function gives, and writes nothing that was there.
  The weight of parts: what a weight within the bound says of the sizes.
  Clone of a frame whose parts have no entries.
  checked: a frame that may be is told in new memory.
  First, the code's.
  First, the document's own.
  The law FrameFirst, walked: it returns true at any node, name and tally.
  What follows of a frame that may be: its ranges rise, and the keys of all its entries.
  Answer to a frame that may be, with parts that have no entries.
  Decode of any bytes; a byte appended to a row.
  Clone of the document's, of any frame: parts and entries in memory of its own.
-/
import Derived.Test.YtbnppmkdhnpdfaaBw11
import Derived.Test.YtbnppmkdhnpdfaaBw3
import Derived.Test.YtbnppmkdhnpdfaaBw12
import Derived.Deep.CutBlock
import Derived.Deep.DeepCutAuto
import Derived.Lib.SmallJoins
import Derived.Test.YtbnppmkdhnpdfaaBw5
import Derived.RangeFuncNested
import Derived.RangeFuncBound
import Derived.RangeFuncCalls
import Derived.RangeFuncLeaves
import Derived.Shelf.Abstract
import Derived.Shelf.RegionOpen
import Derived.OwnWalkIn
import Derived.TacticsInMore
import Derived.LoopNIn
import Derived.LoopIn
import Derived.Stop.RegionWithIn
import Derived.Laws.ResultCell
import Derived.Deep.RegionHeld
import Derived.Test.YtbnppmkdhnpdfaaBw1
import Derived.Laws.Tables
namespace Go.Proofs.Ytbnppmkdhnpdfaa
open Go.RowKit
set_option linter.unusedVariables false
/-- A writer in block b that holds l; its row lies above B. -/
def WS (B b : Nat) (l : List UInt8) (w : World) : Prop := ∃ g, IsW 86 B b g l w
/-- What a writer's call keeps: all below B, and all blocks that are neither rows of bytes nor writers. -/
structure WK (B : Nat) (w w' : World) : Prop where
  bel : Below B w w'
  blk : ∀ (i : Nat) (cs : Array Value) (T : TypeId), T ≠ 5 → T ≠ 86 → w.heap[i]? = some (Obj.cells cs T (0, 0)) → w'.heap[i]? = some (Obj.cells cs T (0, 0))
theorem WK.refl (B : Nat) (w : World) : WK B w w := ⟨Below.refl _ _, fun _ _ _ _ _ h => h⟩
theorem WK.trans {B : Nat} {w w1 w2 : World} (h : WK B w w1) (k : WK B w1 w2) : WK B w w2 := ⟨h.bel.trans k.bel, fun i cs T h1 h2 h3 => k.blk i cs T h1 h2 (h.blk i cs T h1 h2 h3)⟩
theorem WK.of {B b : Nat} {g : Option Nat} {l : List UInt8} {w w' : World} (h : IsW 86 B b g l w) (hB : B ≤ w.heap.size) (k : Keeps (fun k => k = b ∨ g = some k) w w') : WK B w w' := by
  have hr := h.row
  obtain ⟨hb, hg, v, hv, rfl, hown⟩ := h
  refine ⟨k.below hB (fun i hi e => ?_), fun i cs T h1 h2 h3 => (k.block i (Array.getElem?_eq_some_iff.1 h3).1 (fun e => ?_)).trans h3⟩
  · rcases e with e | e
    · omega
    · have := (hr i e).1; omega
  · rcases e with e | e
    · subst e
      rw [hv] at h3
      injection h3 with h3
      injection h3 with _ h3 _
      exact h2 h3.symm
    · exact own_nots hown h3 (fun e => h1 e.symm) e
theorem WS.keep {B b : Nat} {l : List UInt8} {w w' : World} (h : WS B b l w) (k : Below w.heap.size w w') : WS B b l w' := by
  obtain ⟨g, hg⟩ := h
  exact ⟨g, hg.keep (Keeps.of_below k (fun _ => False)) (fun h => h) (fun j _ h => h)⟩
theorem WK.of_below {B : Nat} {w w' : World} (hB : B ≤ w.heap.size) (k : Below w.heap.size w w') : WK B w w' := ⟨k.mono hB, fun i cs T _ _ h => blk_on h k⟩
theorem ws_num {B b : Nat} {l : List UInt8} {w : World} (n : Int) (h : WS B b l w) (hB : B ≤ w.heap.size) (hn : n ≤ 9223372036854775807) (hn0 : -9223372036854775808 ≤ n) (hl : l.length ≤ 17592186044416) :
    Calls Try.prog 23 #[.pointer (some ⟨b, 0, none⟩), .int .i64 n] w fun e w' => e = .returned (.tuple #[]) ∧ WS B b (l ++ Nm.enc 8 (up n)) w' ∧ WK B w w' := by
  obtain ⟨g, hg⟩ := h
  exact (wnum_any B b g l n w hg hB hn hn0 (by omega)).mono (by rintro e w' ⟨rfl, g', h1, h2, h3⟩; exact ⟨rfl, ⟨g', h1⟩, WK.of hg hB h3⟩)
theorem ws_text {B b : Nat} {l : List UInt8} {w : World} (s : ByteArray) (h : WS B b l w) (hB : B ≤ w.heap.size) (hl : l.length ≤ 17592186044416) (hs : s.size ≤ 17592186044416) :
    Calls Try.prog 71 #[.pointer (some ⟨b, 0, none⟩), .string s] w fun e w' => e = .returned (.tuple #[]) ∧ WS B b (l ++ strB s) w' ∧ WK B w w' := by
  obtain ⟨g, hg⟩ := h
  exact (wtext_any B b g l s w hg hB (by omega) (by omega)).mono (by rintro e w' ⟨rfl, g', h1, h2, h3⟩; exact ⟨rfl, ⟨g', h1⟩, WK.of hg hB h3⟩)
theorem ws_flag {B b : Nat} {l : List UInt8} {w : World} (d : Bool) (h : WS B b l w) (hB : B ≤ w.heap.size) (hl : l.length ≤ 17592186044416) :
    Calls Try.prog 72 #[.pointer (some ⟨b, 0, none⟩), .bool d] w fun e w' => e = .returned (.tuple #[]) ∧ WS B b (l ++ flagB d) w' ∧ WK B w w' := by
  obtain ⟨g, hg⟩ := h
  exact (wflag_any B b g l d w hg hB (by omega)).mono (by rintro e w' ⟨rfl, g', h1, h2, h3⟩; exact ⟨rfl, ⟨g', h1⟩, WK.of hg hB h3⟩)
theorem ws_word {B b : Nat} {l : List UInt8} {w : World} (u : Nat) (h : WS B b l w) (hB : B ≤ w.heap.size) (hu : u < 18446744073709551616) (hl : l.length ≤ 17592186044416) :
    Calls Try.prog 73 #[.pointer (some ⟨b, 0, none⟩), .int .u64 (u : Int)] w fun e w' => e = .returned (.tuple #[]) ∧ WS B b (l ++ wordB u) w' ∧ WK B w w' := by
  obtain ⟨g, hg⟩ := h
  exact (wword_any B b g l u w hg hB hu (by omega)).mono (by rintro e w' ⟨rfl, g', h1, h2, h3⟩; exact ⟨rfl, ⟨g', h1⟩, WK.of hg hB h3⟩)
theorem ws_ent {B b : Nat} {l : List UInt8} {w : World} (x : En) (h : WS B b l w) (hB : B ≤ w.heap.size) (hc : x.chk = 0) (hl : l.length ≤ 17592186044416) :
    Calls Try.prog 53 #[.pointer (some ⟨b, 0, none⟩), .agg #[.string x.k, .int .i64 x.c, .int .i64 x.n, .string x.v, .bool x.d]] w fun e w' => e = .returned (.tuple #[]) ∧ WS B b (l ++ entB x) w' ∧ WK B w w' := by
  obtain ⟨g, hg⟩ := h
  obtain ⟨k, c, n, v, d⟩ := x
  exact (put_any B b g l k c n v d w hg hB hl).mono (by rintro e w' ⟨rfl, g', h1, h2, h3⟩; rw [putB_yes hc] at h1; exact ⟨rfl, ⟨g', h1⟩, WK.of hg hB h3⟩)
theorem ws_bytes {B b : Nat} {l : List UInt8} {w : World} (h : WS B b l w) (hl : l.length ≤ 17592186044416) :
    Calls Try.prog 25 #[.pointer (some ⟨b, 0, none⟩)] w fun e w' => ∃ v', e = .returned v' ∧ w'.ownsRow w.heap.size 5 1 v' l.length (Lib.byteCells l) ∧ Below w.heap.size w w' := by
  obtain ⟨g, hg⟩ := h
  exact (bytes_any B b g l w hg (by omega)).mono (by rintro e w' ⟨v', rfl, h1, h2⟩; exact ⟨v', rfl, h1, h2.below (Nat.le_refl _) (fun k _ h => h)⟩)
theorem enc9 (n : Nat) : (Nm.enc 8 n).length ≤ 9 := (Nm.enc_length 8 n).2
theorem strB_len (s : ByteArray) : (strB s).length ≤ s.size + 9 := by
  unfold strB
  rw [List.length_append, blen]
  have := enc9 s.size
  omega
set_option maxRecDepth 100000 in
set_option maxHeartbeats 3200000 in
theorem wrng_open {B b : Nat} {l : List UInt8} {w : World} (lo hi : ByteArray) (h : WS B b l w) (hB : B ≤ w.heap.size) (hl : l.length ≤ 8796093022208) (h1 : lo.size ≤ 16) (h2 : hi.size ≤ 16) :
    Calls Try.prog 51 #[.pointer (some ⟨b, 0, none⟩), .agg #[.string lo, .string hi, .bool true]] w fun e w' => e = .returned (.tuple #[]) ∧ WS B b (l ++ rgB lo hi true) w' ∧ WK B w w' := by
  have KB0 := aside (heap_alloc_new w (.cells #[.string lo, .string hi, .bool true] 38))
  have bn := bnew w (.cells #[.string lo, .string hi, .bool true] 38)
  have KK := aside (WK.of_below hB bn)
  have WW := aside (h.keep bn)
  have HZ := aside (Nat.le_trans hB bn.size)
  clear h bn
  go_enter Try.func51, Try.ntmps51
  go_upto_region 1 with fail
  obtain ⟨i0, hi0⟩ : ∃ i0, w.heap.size = i0 := ⟨_, rfl⟩
  rw [hi0] at KB0 ⊢
  clear hi0
  generalize w.alloc (.cells #[.string lo, .string hi, .bool true] 38) = X0 at KB0 KK WW HZ ⊢
  have c0_0 : X0.cell? ⟨i0, 0, none⟩ = some (.string lo) := by rw [cell_of_row _ _ 0 _ _ _ KB0.out]; rfl
  have c0_1 : X0.cell? ⟨i0, 1, none⟩ = some (.string hi) := by rw [cell_of_row _ _ 1 _ _ _ KB0.out]; rfl
  have c0_2 : X0.cell? ⟨i0, 2, none⟩ = some (.bool true) := by rw [cell_of_row _ _ 2 _ _ _ KB0.out]; rfl
  go_wp2_with fail
  refine (ws_text lo WW.out HZ.out (by omega) (by omega)).mono ?_
  rintro r w1 ⟨rfl, W1, k1⟩
  clear c0_0 c0_1 c0_2
  replace KB0 := aside (k1.blk _ _ _ (by decide) (by decide) KB0.out)
  replace KK := aside (KK.out.trans k1)
  replace HZ := aside (Nat.le_trans HZ.out k1.bel.size)
  replace WW := aside W1
  clear k1 W1
  have c0_0 : w1.cell? ⟨i0, 0, none⟩ = some (.string lo) := by rw [cell_of_row _ _ 0 _ _ _ KB0.out]; rfl
  have c0_1 : w1.cell? ⟨i0, 1, none⟩ = some (.string hi) := by rw [cell_of_row _ _ 1 _ _ _ KB0.out]; rfl
  have c0_2 : w1.cell? ⟨i0, 2, none⟩ = some (.bool true) := by rw [cell_of_row _ _ 2 _ _ _ KB0.out]; rfl
  go_wp2_with fail
  refine (ws_flag true WW.out HZ.out (by simp only [List.length_append]; have := strB_len lo; omega)).mono ?_
  rintro r w2 ⟨rfl, W1, k1⟩
  clear c0_0 c0_1 c0_2
  replace KB0 := aside (k1.blk _ _ _ (by decide) (by decide) KB0.out)
  replace KK := aside (KK.out.trans k1)
  replace HZ := aside (Nat.le_trans HZ.out k1.bel.size)
  replace WW := aside W1
  clear k1 W1
  have c0_0 : w2.cell? ⟨i0, 0, none⟩ = some (.string lo) := by rw [cell_of_row _ _ 0 _ _ _ KB0.out]; rfl
  have c0_1 : w2.cell? ⟨i0, 1, none⟩ = some (.string hi) := by rw [cell_of_row _ _ 1 _ _ _ KB0.out]; rfl
  have c0_2 : w2.cell? ⟨i0, 2, none⟩ = some (.bool true) := by rw [cell_of_row _ _ 2 _ _ _ KB0.out]; rfl
  go_wp2
  go_end0
  refine ⟨rfl, ?_, KK.out⟩
  have := WW.out
  simpa [rgB, List.append_assoc] using this
set_option maxRecDepth 100000 in
set_option maxHeartbeats 3200000 in
theorem wrng_shut {B b : Nat} {l : List UInt8} {w : World} (lo hi : ByteArray) (h : WS B b l w) (hB : B ≤ w.heap.size) (hl : l.length ≤ 8796093022208) (h1 : lo.size ≤ 16) (h2 : hi.size ≤ 16) :
    Calls Try.prog 51 #[.pointer (some ⟨b, 0, none⟩), .agg #[.string lo, .string hi, .bool false]] w fun e w' => e = .returned (.tuple #[]) ∧ WS B b (l ++ rgB lo hi false) w' ∧ WK B w w' := by
  have KB0 := aside (heap_alloc_new w (.cells #[.string lo, .string hi, .bool false] 38))
  have bn := bnew w (.cells #[.string lo, .string hi, .bool false] 38)
  have KK := aside (WK.of_below hB bn)
  have WW := aside (h.keep bn)
  have HZ := aside (Nat.le_trans hB bn.size)
  clear h bn
  go_enter Try.func51, Try.ntmps51
  go_upto_region 1 with fail
  obtain ⟨i0, hi0⟩ : ∃ i0, w.heap.size = i0 := ⟨_, rfl⟩
  rw [hi0] at KB0 ⊢
  clear hi0
  generalize w.alloc (.cells #[.string lo, .string hi, .bool false] 38) = X0 at KB0 KK WW HZ ⊢
  have c0_0 : X0.cell? ⟨i0, 0, none⟩ = some (.string lo) := by rw [cell_of_row _ _ 0 _ _ _ KB0.out]; rfl
  have c0_1 : X0.cell? ⟨i0, 1, none⟩ = some (.string hi) := by rw [cell_of_row _ _ 1 _ _ _ KB0.out]; rfl
  have c0_2 : X0.cell? ⟨i0, 2, none⟩ = some (.bool false) := by rw [cell_of_row _ _ 2 _ _ _ KB0.out]; rfl
  go_wp2_with fail
  refine (ws_text lo WW.out HZ.out (by omega) (by omega)).mono ?_
  rintro r w1 ⟨rfl, W1, k1⟩
  clear c0_0 c0_1 c0_2
  replace KB0 := aside (k1.blk _ _ _ (by decide) (by decide) KB0.out)
  replace KK := aside (KK.out.trans k1)
  replace HZ := aside (Nat.le_trans HZ.out k1.bel.size)
  replace WW := aside W1
  clear k1 W1
  have c0_0 : w1.cell? ⟨i0, 0, none⟩ = some (.string lo) := by rw [cell_of_row _ _ 0 _ _ _ KB0.out]; rfl
  have c0_1 : w1.cell? ⟨i0, 1, none⟩ = some (.string hi) := by rw [cell_of_row _ _ 1 _ _ _ KB0.out]; rfl
  have c0_2 : w1.cell? ⟨i0, 2, none⟩ = some (.bool false) := by rw [cell_of_row _ _ 2 _ _ _ KB0.out]; rfl
  go_wp2_with fail
  refine (ws_flag false WW.out HZ.out (by simp only [List.length_append]; have := strB_len lo; omega)).mono ?_
  rintro r w2 ⟨rfl, W1, k1⟩
  clear c0_0 c0_1 c0_2
  replace KB0 := aside (k1.blk _ _ _ (by decide) (by decide) KB0.out)
  replace KK := aside (KK.out.trans k1)
  replace HZ := aside (Nat.le_trans HZ.out k1.bel.size)
  replace WW := aside W1
  clear k1 W1
  have c0_0 : w2.cell? ⟨i0, 0, none⟩ = some (.string lo) := by rw [cell_of_row _ _ 0 _ _ _ KB0.out]; rfl
  have c0_1 : w2.cell? ⟨i0, 1, none⟩ = some (.string hi) := by rw [cell_of_row _ _ 1 _ _ _ KB0.out]; rfl
  have c0_2 : w2.cell? ⟨i0, 2, none⟩ = some (.bool false) := by rw [cell_of_row _ _ 2 _ _ _ KB0.out]; rfl
  go_wp2_with fail
  refine (ws_text hi WW.out HZ.out (by simp only [List.length_append, flagB, List.length_singleton]; have := strB_len lo; omega) (by omega)).mono ?_
  rintro r w3 ⟨rfl, W1, k1⟩
  clear c0_0 c0_1 c0_2
  replace KB0 := aside (k1.blk _ _ _ (by decide) (by decide) KB0.out)
  replace KK := aside (KK.out.trans k1)
  replace HZ := aside (Nat.le_trans HZ.out k1.bel.size)
  replace WW := aside W1
  clear k1 W1
  go_wp2
  go_end0
  refine ⟨rfl, ?_, KK.out⟩
  have := WW.out
  simpa [rgB, List.append_assoc] using this
theorem wrng_any {B b : Nat} {l : List UInt8} {w : World} (lo hi : ByteArray) (op : Bool) (h : WS B b l w) (hB : B ≤ w.heap.size) (hl : l.length ≤ 8796093022208) (h1 : lo.size ≤ 16) (h2 : hi.size ≤ 16) :
    Calls Try.prog 51 #[.pointer (some ⟨b, 0, none⟩), .agg #[.string lo, .string hi, .bool op]] w fun e w' => e = .returned (.tuple #[]) ∧ WS B b (l ++ rgB lo hi op) w' ∧ WK B w w' := by
  cases op
  · exact wrng_shut lo hi h hB hl h1 h2
  · exact wrng_open lo hi h hB hl h1 h2
set_option maxRecDepth 100000 in
set_option maxHeartbeats 3200000 in
theorem wtally_any {B b : Nat} {l : List UInt8} {w : World} (c : Int) (a d : Nat) (h : WS B b l w) (hB : B ≤ w.heap.size) (hl : l.length ≤ 8796093022208) (hc : -9223372036854775808 ≤ c) (hc2 : c ≤ 9223372036854775807) (ha : a < 18446744073709551616) (hd : d < 18446744073709551616) :
    Calls Try.prog 52 #[.pointer (some ⟨b, 0, none⟩), .agg #[.int .i64 c, .int .u64 (a : Int), .int .u64 (d : Int)]] w fun e w' => e = .returned (.tuple #[]) ∧ WS B b (l ++ (Nm.enc 8 (up c) ++ (wordB a ++ wordB d))) w' ∧ WK B w w' := by
  have ix0 : ∀ w : World, (Instr.index 41 (.agg #[.int .u64 (a : Int), .int .u64 (d : Int)]) (.int .i64 0)).run Try.prog w = .ok (.int .u64 (a : Int)) w := fun _ => by kernel_rfl
  have ix1 : ∀ w : World, (Instr.index 41 (.agg #[.int .u64 (a : Int), .int .u64 (d : Int)]) (.int .i64 1)).run Try.prog w = .ok (.int .u64 (d : Int)) w := fun _ => by kernel_rfl
  have KB0 := aside (heap_alloc_new w (.cells #[.int .i64 c, .int .u64 (a : Int), .int .u64 (d : Int)] 43))
  have bn := bnew w (.cells #[.int .i64 c, .int .u64 (a : Int), .int .u64 (d : Int)] 43)
  have KK := aside (WK.of_below hB bn)
  have WW := aside (h.keep bn)
  have HZ := aside (Nat.le_trans hB bn.size)
  clear h bn
  go_enter Try.func52, Try.ntmps52
  go_upto_region 1 with fail
  obtain ⟨i0, hi0⟩ : ∃ i0, w.heap.size = i0 := ⟨_, rfl⟩
  rw [hi0] at KB0 ⊢
  clear hi0
  generalize w.alloc (.cells #[.int .i64 c, .int .u64 (a : Int), .int .u64 (d : Int)] 43) = X0 at KB0 KK WW HZ ⊢
  have c0_0 : X0.cell? ⟨i0, 0, none⟩ = some (.int .i64 c) := by rw [cell_of_row _ _ 0 _ _ _ KB0.out]; rfl
  have c0_1 : X0.cell? ⟨i0, 1, none⟩ = some (.int .u64 (a : Int)) := by rw [cell_of_row _ _ 1 _ _ _ KB0.out]; rfl
  have c0_2 : X0.cell? ⟨i0, 2, none⟩ = some (.int .u64 (d : Int)) := by rw [cell_of_row _ _ 2 _ _ _ KB0.out]; rfl
  go_wp2_with fail
  refine (ws_num c WW.out HZ.out (by omega) (by omega) (by omega)).mono ?_
  rintro r w1 ⟨rfl, W1, k1⟩
  clear c0_0 c0_1 c0_2
  replace KB0 := aside (k1.blk _ _ _ (by decide) (by decide) KB0.out)
  replace KK := aside (KK.out.trans k1)
  replace HZ := aside (Nat.le_trans HZ.out k1.bel.size)
  replace WW := aside W1
  clear k1 W1
  have c0_0 : w1.cell? ⟨i0, 0, none⟩ = some (.int .i64 c) := by rw [cell_of_row _ _ 0 _ _ _ KB0.out]; rfl
  have c0_1 : w1.cell? ⟨i0, 1, none⟩ = some (.int .u64 (a : Int)) := by rw [cell_of_row _ _ 1 _ _ _ KB0.out]; rfl
  have c0_2 : w1.cell? ⟨i0, 2, none⟩ = some (.int .u64 (d : Int)) := by rw [cell_of_row _ _ 2 _ _ _ KB0.out]; rfl
  go_wp2
  go_loopw [12] (fun t wr => Hid (WK B w wr) ∧ Hid (B ≤ wr.heap.size) ∧ ((t = .int .i64 0 ∧ Hid (WS B b (l ++ Nm.enc 8 (up c)) wr)) ∨ (t = .int .i64 1 ∧ Hid (WS B b (l ++ Nm.enc 8 (up c) ++ wordB a) wr)) ∨ (t = .int .i64 2 ∧ Hid (WS B b (l ++ Nm.enc 8 (up c) ++ wordB a ++ wordB d) wr)))) (fun t _ => 2 - (intOf t).toNat)
  case atStart => exact ⟨KK.out, HZ.out, .inl ⟨rfl, WW.out⟩⟩
  case round =>
    clear KK HZ WW KB0
    obtain ⟨KK, HZ, ⟨rfl, WW⟩ | ⟨rfl, WW⟩ | ⟨rfl, WW⟩⟩ := hrel
    · go_wp2_with fail
      refine (ws_word a WW.out HZ.out ha (by simp only [List.length_append]; have := enc9 (up c); omega)).mono ?_
      rintro r w1 ⟨rfl, W1, k1⟩
      replace KK := aside (KK.out.trans k1)
      replace HZ := aside (Nat.le_trans HZ.out k1.bel.size)
      replace WW := aside W1
      clear k1 W1
      go_wp2
      go_roundw
      case rel => exact ⟨KK.out, HZ.out, .inr (.inl ⟨by rfl, WW.out⟩)⟩
      case measure => simp [intOf]
    · go_wp2_with fail
      refine (ws_word d WW.out HZ.out hd (by simp only [List.length_append, wordB_len]; have := enc9 (up c); omega)).mono ?_
      rintro r w1 ⟨rfl, W1, k1⟩
      replace KK := aside (KK.out.trans k1)
      replace HZ := aside (Nat.le_trans HZ.out k1.bel.size)
      replace WW := aside W1
      clear k1 W1
      go_wp2
      go_roundw
      case rel => exact ⟨KK.out, HZ.out, .inr (.inr ⟨by rfl, WW.out⟩)⟩
      case measure => simp [intOf]
    · go_wp2
      go_end0
      refine ⟨rfl, ?_, KK.out⟩
      have := WW.out
      simpa [List.append_assoc] using this
end Go.Proofs.Ytbnppmkdhnpdfaa
namespace Go.Proofs.Ytbnppmkdhnpdfaa
open Go.RowKit
set_option linter.unusedVariables false
end Go.Proofs.Ytbnppmkdhnpdfaa
namespace Go.Proofs.Ytbnppmkdhnpdfaa
open Go.RowKit
set_option linter.unusedVariables false
theorem putB_len (e : En) : (putB e).length ≤ 200 := by
  by_cases h : e.chk = 0
  · rw [putB_yes h]
    obtain ⟨k, c, n, v, d⟩ := e
    obtain ⟨h1, _, _, _, _, h2⟩ := En.ok_parts h
    have e1 := Nm.enc_length 8 k.size
    have e2 := Nm.enc_length 8 v.size
    have e3 := Nm.enc_length 8 (up c)
    have e4 := Nm.enc_length 8 (up n)
    have e5 : k.data.toList.length = k.size := by show k.data.toList.length = k.data.size; simp
    have e6 : v.data.toList.length = v.size := by show v.data.toList.length = v.data.size; simp
    have e7 : (flagB d).length = 1 := rfl
    cases d <;> simp only [entB, List.length_append, cond, List.length_nil] <;> omega
  · rw [putB_no h]; simp
end Go.Proofs.Ytbnppmkdhnpdfaa
namespace Go.Proofs.Ytbnppmkdhnpdfaa
open Go.RowKit
set_option linter.unusedVariables false
def eFirst (T : Nat → En) (n : Nat) : List En := (List.range n).map T
theorem eFirst_step (T : Nat → En) (n : Nat) : eFirst T (n + 1) = eFirst T n ++ [T n] := by unfold eFirst; rw [List.range_succ, List.map_append]; rfl
theorem eFirst_len (T : Nat → En) (n : Nat) : (eFirst T n).length = n := by simp [eFirst]
theorem eFirst_mem (T : Nat → En) {n i : Nat} (h : i < n) : T i ∈ eFirst T n := List.mem_map.2 ⟨i, List.mem_range.2 h, rfl⟩
theorem esB_step (T : Nat → En) (n : Nat) : esB (eFirst T (n + 1)) = esB (eFirst T n) ++ entB (T n) := by rw [eFirst_step, esB_append]; simp [esB]
def pvOf (m : Pm) : PV := ⟨m.kind, m.lo, m.hi, m.op, m.cnt, m.s0.toNat, m.s1.toNat, eFirst m.T m.el⟩
def psOf (P : Nat → Pm) (n : Nat) : List PV := (List.range n).map (fun i => pvOf (P i))
theorem psOf_step (P : Nat → Pm) (n : Nat) : psOf P (n + 1) = psOf P n ++ [pvOf (P n)] := by unfold psOf; rw [List.range_succ, List.map_append]; rfl
theorem psOf_len (P : Nat → Pm) (n : Nat) : (psOf P n).length = n := by simp [psOf]
theorem psOf_mem (P : Nat → Pm) {n i : Nat} (h : i < n) : pvOf (P i) ∈ psOf P n := List.mem_map.2 ⟨i, List.mem_range.2 h, rfl⟩
theorem psB_step (P : Nat → Pm) (n : Nat) : psB (psOf P (n + 1)) = psB (psOf P n) ++ partB (pvOf (P n)) := by rw [psOf_step, psB_append]; simp [psB]
theorem entB_len {e : En} (h : e.chk = 0) : (entB e).length ≤ 200 := by rw [← putB_yes h]; exact putB_len e
theorem esB_len : ∀ (l : List En), (∀ e ∈ l, e.chk = 0) → (esB l).length ≤ l.length * 200
  | [], _ => Nat.le_refl _
  | e :: r, h => by
    have h1 := entB_len (h e (List.mem_cons_self ..))
    have h2 := esB_len r (fun x hx => h x (List.mem_cons_of_mem _ hx))
    simp only [esB, List.length_append, List.length_cons]
    rw [Nat.succ_mul]
    omega
theorem rgB_len (lo hi : ByteArray) (op : Bool) (h1 : lo.size ≤ 16) (h2 : hi.size ≤ 16) : (rgB lo hi op).length ≤ 60 := by
  unfold rgB
  have := strB_len lo
  have := strB_len hi
  cases op
  · simp only [cond, List.length_append, flagB, List.length_singleton]; omega
  · simp only [cond, List.length_append, flagB, List.length_singleton, List.length_nil]; omega
theorem partB_len {v : PV} (h : PVok v) : (partB v).length ≤ 51300 := by
  unfold partB
  have h1 := rgB_len v.lo v.hi v.op h.lo h.hi
  have h2 := enc9 (up v.kind)
  by_cases hk : v.kind = 1
  · rw [if_pos hk]
    have := enc9 (up v.cnt)
    simp only [List.length_append, wordB_len]
    omega
  · rw [if_neg hk]
    have h3 := h.items hk
    have h4 := esB_len v.es h3.2.2.2.2
    have := enc9 v.es.length
    simp only [List.length_append]
    omega
theorem psB_len : ∀ (l : List PV), (∀ v ∈ l, PVok v) → (psB l).length ≤ l.length * 51300
  | [], _ => Nat.le_refl _
  | e :: r, h => by
    have h1 := partB_len (h e (List.mem_cons_self ..))
    have h2 := psB_len r (fun x hx => h x (List.mem_cons_of_mem _ hx))
    simp only [psB, List.length_append, List.length_cons]
    rw [Nat.succ_mul]
    omega
theorem psOf_sub (P : Nat → Pm) {i n : Nat} (h : i ≤ n) : ∀ e ∈ psOf P i, e ∈ psOf P n := by
  intro e he
  obtain ⟨k, hk, rfl⟩ := List.mem_map.1 he
  exact psOf_mem P (by have := List.mem_range.1 hk; omega)
set_option maxRecDepth 100000 in
set_option maxHeartbeats 3200000 in
theorem wpart_print {b : Nat} {l : List UInt8} {V w : World} (lo hi : ByteArray) (op : Bool) (cnt : Int) (a d : Nat) (ea : Option Addr) (el ec : Nat) (T : Nat → En) (h : WS V.heap.size b l w) (hV : Below V.heap.size V w) (hl : l.length ≤ 4398046511104) (hv : PVok ⟨1, lo, hi, op, cnt, a, d, eFirst T el⟩) (hin : EntsIn V ea el ec T) :
    Calls Try.prog 24 #[.pointer (some ⟨b, 0, none⟩), .agg #[.int .i64 1, .string lo, .string hi, .bool op, .int .i64 cnt, .int .u64 (a : Int), .int .u64 (d : Int), .slice ea el ec]] w fun e w' => e = .returned (.tuple #[]) ∧ WS V.heap.size b (l ++ partB ⟨1, lo, hi, op, cnt, a, d, eFirst T el⟩) w' ∧ WK V.heap.size w w' := by
  have hB := hV.size
  have HV := aside hV
  have HVO := aside hv
  have hlo := hv.lo
  have hhi := hv.hi
  dsimp only at hlo hhi
  obtain ⟨-, hc1, hc2, ha, hd⟩ := hv.print rfl
  dsimp only at hc1 hc2 ha hd
  clear hv hV
  have KB0 := aside (heap_alloc_new w (.cells #[.int .i64 1, .string lo, .string hi, .bool op, .int .i64 cnt, .int .u64 (a : Int), .int .u64 (d : Int), .slice ea el ec] 46))
  have bn := bnew w (.cells #[.int .i64 1, .string lo, .string hi, .bool op, .int .i64 cnt, .int .u64 (a : Int), .int .u64 (d : Int), .slice ea el ec] 46)
  have KK := aside (WK.of_below hB bn)
  have WW := aside (h.keep bn)
  have HZ := aside (Nat.le_trans hB bn.size)
  clear h bn
  go_enter Try.func24, Try.ntmps24
  go_upto_region 1 with fail
  obtain ⟨i0, hi0⟩ : ∃ i0, w.heap.size = i0 := ⟨_, rfl⟩
  rw [hi0] at KB0 ⊢
  clear hi0
  generalize w.alloc (.cells #[.int .i64 1, .string lo, .string hi, .bool op, .int .i64 cnt, .int .u64 (a : Int), .int .u64 (d : Int), .slice ea el ec] 46) = X0 at KB0 KK WW HZ ⊢
  have c0_0 : X0.cell? ⟨i0, 0, none⟩ = some (.int .i64 1) := by rw [cell_of_row _ _ 0 _ _ _ KB0.out]; rfl
  have c0_1 : X0.cell? ⟨i0, 1, none⟩ = some (.string lo) := by rw [cell_of_row _ _ 1 _ _ _ KB0.out]; rfl
  have c0_2 : X0.cell? ⟨i0, 2, none⟩ = some (.string hi) := by rw [cell_of_row _ _ 2 _ _ _ KB0.out]; rfl
  have c0_3 : X0.cell? ⟨i0, 3, none⟩ = some (.bool op) := by rw [cell_of_row _ _ 3 _ _ _ KB0.out]; rfl
  have c0_4 : X0.cell? ⟨i0, 4, none⟩ = some (.int .i64 cnt) := by rw [cell_of_row _ _ 4 _ _ _ KB0.out]; rfl
  have c0_5 : X0.cell? ⟨i0, 5, none⟩ = some (.int .u64 (a : Int)) := by rw [cell_of_row _ _ 5 _ _ _ KB0.out]; rfl
  have c0_6 : X0.cell? ⟨i0, 6, none⟩ = some (.int .u64 (d : Int)) := by rw [cell_of_row _ _ 6 _ _ _ KB0.out]; rfl
  have c0_7 : X0.cell? ⟨i0, 7, none⟩ = some (.slice ea el ec) := by rw [cell_of_row _ _ 7 _ _ _ KB0.out]; rfl
  go_wp2_with fail
  refine (ws_num 1 WW.out HZ.out (by omega) (by omega) (by omega)).mono ?_
  rintro r w1 ⟨rfl, W1, k1⟩
  clear c0_0 c0_1 c0_2 c0_3 c0_4 c0_5 c0_6 c0_7
  replace KB0 := aside (k1.blk _ _ _ (by decide) (by decide) KB0.out)
  replace KK := aside (KK.out.trans k1)
  replace HZ := aside (Nat.le_trans HZ.out k1.bel.size)
  replace WW := aside W1
  clear k1 W1
  have c0_0 : w1.cell? ⟨i0, 0, none⟩ = some (.int .i64 1) := by rw [cell_of_row _ _ 0 _ _ _ KB0.out]; rfl
  have c0_1 : w1.cell? ⟨i0, 1, none⟩ = some (.string lo) := by rw [cell_of_row _ _ 1 _ _ _ KB0.out]; rfl
  have c0_2 : w1.cell? ⟨i0, 2, none⟩ = some (.string hi) := by rw [cell_of_row _ _ 2 _ _ _ KB0.out]; rfl
  have c0_3 : w1.cell? ⟨i0, 3, none⟩ = some (.bool op) := by rw [cell_of_row _ _ 3 _ _ _ KB0.out]; rfl
  have c0_4 : w1.cell? ⟨i0, 4, none⟩ = some (.int .i64 cnt) := by rw [cell_of_row _ _ 4 _ _ _ KB0.out]; rfl
  have c0_5 : w1.cell? ⟨i0, 5, none⟩ = some (.int .u64 (a : Int)) := by rw [cell_of_row _ _ 5 _ _ _ KB0.out]; rfl
  have c0_6 : w1.cell? ⟨i0, 6, none⟩ = some (.int .u64 (d : Int)) := by rw [cell_of_row _ _ 6 _ _ _ KB0.out]; rfl
  have c0_7 : w1.cell? ⟨i0, 7, none⟩ = some (.slice ea el ec) := by rw [cell_of_row _ _ 7 _ _ _ KB0.out]; rfl
  go_wp2_with fail
  refine (wrng_any lo hi op WW.out HZ.out (by simp only [List.length_append]; have := enc9 (up (1 : Int)); omega) hlo hhi).mono ?_
  rintro r w2 ⟨rfl, W1, k1⟩
  clear c0_0 c0_1 c0_2 c0_3 c0_4 c0_5 c0_6 c0_7
  replace KB0 := aside (k1.blk _ _ _ (by decide) (by decide) KB0.out)
  replace KK := aside (KK.out.trans k1)
  replace HZ := aside (Nat.le_trans HZ.out k1.bel.size)
  replace WW := aside W1
  clear k1 W1
  have c0_0 : w2.cell? ⟨i0, 0, none⟩ = some (.int .i64 1) := by rw [cell_of_row _ _ 0 _ _ _ KB0.out]; rfl
  have c0_1 : w2.cell? ⟨i0, 1, none⟩ = some (.string lo) := by rw [cell_of_row _ _ 1 _ _ _ KB0.out]; rfl
  have c0_2 : w2.cell? ⟨i0, 2, none⟩ = some (.string hi) := by rw [cell_of_row _ _ 2 _ _ _ KB0.out]; rfl
  have c0_3 : w2.cell? ⟨i0, 3, none⟩ = some (.bool op) := by rw [cell_of_row _ _ 3 _ _ _ KB0.out]; rfl
  have c0_4 : w2.cell? ⟨i0, 4, none⟩ = some (.int .i64 cnt) := by rw [cell_of_row _ _ 4 _ _ _ KB0.out]; rfl
  have c0_5 : w2.cell? ⟨i0, 5, none⟩ = some (.int .u64 (a : Int)) := by rw [cell_of_row _ _ 5 _ _ _ KB0.out]; rfl
  have c0_6 : w2.cell? ⟨i0, 6, none⟩ = some (.int .u64 (d : Int)) := by rw [cell_of_row _ _ 6 _ _ _ KB0.out]; rfl
  have c0_7 : w2.cell? ⟨i0, 7, none⟩ = some (.slice ea el ec) := by rw [cell_of_row _ _ 7 _ _ _ KB0.out]; rfl
  go_wp2_with fail
  refine (wtally_any cnt a d WW.out HZ.out (by simp only [List.length_append]; have := enc9 (up (1 : Int)); have := rgB_len lo hi op hlo hhi; omega) (by omega) (by omega) ha hd).mono ?_
  rintro r w3 ⟨rfl, W1, k1⟩
  clear c0_0 c0_1 c0_2 c0_3 c0_4 c0_5 c0_6 c0_7
  replace KB0 := aside (k1.blk _ _ _ (by decide) (by decide) KB0.out)
  replace KK := aside (KK.out.trans k1)
  replace HZ := aside (Nat.le_trans HZ.out k1.bel.size)
  replace WW := aside W1
  clear k1 W1
  go_wp2
  refine bodyPost_ret (results_none rfl _ _ _) rfl ?_
  refine ⟨rfl, ?_, KK.out⟩
  have := WW.out
  unfold partB
  rw [if_pos rfl]
  simpa [List.append_assoc] using this
set_option maxRecDepth 100000 in
set_option maxHeartbeats 3200000 in
theorem wpart_items {b : Nat} {l : List UInt8} {V w : World} (kind : Int) (lo hi : ByteArray) (op : Bool) (cnt : Int) (a d : Nat) (ea : Option Addr) (el ec : Nat) (T : Nat → En) (h : WS V.heap.size b l w) (hV : Below V.heap.size V w) (hl : l.length ≤ 4398046511104) (hv : PVok ⟨kind, lo, hi, op, cnt, a, d, eFirst T el⟩) (hk : ¬ kind = 1) (hin : EntsIn V ea el ec T) :
    Calls Try.prog 24 #[.pointer (some ⟨b, 0, none⟩), .agg #[.int .i64 kind, .string lo, .string hi, .bool op, .int .i64 cnt, .int .u64 (a : Int), .int .u64 (d : Int), .slice ea el ec]] w fun e w' => e = .returned (.tuple #[]) ∧ WS V.heap.size b (l ++ partB ⟨kind, lo, hi, op, cnt, a, d, eFirst T el⟩) w' ∧ WK V.heap.size w w' := by
  have hB := hV.size
  have HV := aside hV
  have HVO := aside hv
  have hlo := hv.lo
  have hhi := hv.hi
  dsimp only at hlo hhi
  have hel := (hv.items hk).2.2.2.1
  dsimp only at hel
  rw [eFirst_len] at hel
  have hk1 : (kind == 1) = false := by simpa using hk
  have hkk := hv.kind
  dsimp only at hkk
  have HIN := aside hin
  have hmx : (el : Int) ≤ 9223372036854775807 := by omega
  have HEN := aside (show ∀ i, i < el → (T i).chk = 0 from fun i hi => (hv.items hk).2.2.2.2 _ (eFirst_mem T hi))
  clear hin
  clear hv hV
  have KB0 := aside (heap_alloc_new w (.cells #[.int .i64 kind, .string lo, .string hi, .bool op, .int .i64 cnt, .int .u64 (a : Int), .int .u64 (d : Int), .slice ea el ec] 46))
  have bn := bnew w (.cells #[.int .i64 kind, .string lo, .string hi, .bool op, .int .i64 cnt, .int .u64 (a : Int), .int .u64 (d : Int), .slice ea el ec] 46)
  have KK := aside (WK.of_below hB bn)
  have WW := aside (h.keep bn)
  have HZ := aside (Nat.le_trans hB bn.size)
  clear h bn
  go_enter Try.func24, Try.ntmps24
  go_upto_region 1 with fail
  obtain ⟨i0, hi0⟩ : ∃ i0, w.heap.size = i0 := ⟨_, rfl⟩
  rw [hi0] at KB0 ⊢
  clear hi0
  generalize w.alloc (.cells #[.int .i64 kind, .string lo, .string hi, .bool op, .int .i64 cnt, .int .u64 (a : Int), .int .u64 (d : Int), .slice ea el ec] 46) = X0 at KB0 KK WW HZ ⊢
  have c0_0 : X0.cell? ⟨i0, 0, none⟩ = some (.int .i64 kind) := by rw [cell_of_row _ _ 0 _ _ _ KB0.out]; rfl
  have c0_1 : X0.cell? ⟨i0, 1, none⟩ = some (.string lo) := by rw [cell_of_row _ _ 1 _ _ _ KB0.out]; rfl
  have c0_2 : X0.cell? ⟨i0, 2, none⟩ = some (.string hi) := by rw [cell_of_row _ _ 2 _ _ _ KB0.out]; rfl
  have c0_3 : X0.cell? ⟨i0, 3, none⟩ = some (.bool op) := by rw [cell_of_row _ _ 3 _ _ _ KB0.out]; rfl
  have c0_4 : X0.cell? ⟨i0, 4, none⟩ = some (.int .i64 cnt) := by rw [cell_of_row _ _ 4 _ _ _ KB0.out]; rfl
  have c0_5 : X0.cell? ⟨i0, 5, none⟩ = some (.int .u64 (a : Int)) := by rw [cell_of_row _ _ 5 _ _ _ KB0.out]; rfl
  have c0_6 : X0.cell? ⟨i0, 6, none⟩ = some (.int .u64 (d : Int)) := by rw [cell_of_row _ _ 6 _ _ _ KB0.out]; rfl
  have c0_7 : X0.cell? ⟨i0, 7, none⟩ = some (.slice ea el ec) := by rw [cell_of_row _ _ 7 _ _ _ KB0.out]; rfl
  go_wp2_with fail
  refine (ws_num kind WW.out HZ.out (by omega) (by omega) (by omega)).mono ?_
  rintro r w1 ⟨rfl, W1, k1⟩
  clear c0_0 c0_1 c0_2 c0_3 c0_4 c0_5 c0_6 c0_7
  replace KB0 := aside (k1.blk _ _ _ (by decide) (by decide) KB0.out)
  replace KK := aside (KK.out.trans k1)
  replace HZ := aside (Nat.le_trans HZ.out k1.bel.size)
  replace WW := aside W1
  clear k1 W1
  have c0_0 : w1.cell? ⟨i0, 0, none⟩ = some (.int .i64 kind) := by rw [cell_of_row _ _ 0 _ _ _ KB0.out]; rfl
  have c0_1 : w1.cell? ⟨i0, 1, none⟩ = some (.string lo) := by rw [cell_of_row _ _ 1 _ _ _ KB0.out]; rfl
  have c0_2 : w1.cell? ⟨i0, 2, none⟩ = some (.string hi) := by rw [cell_of_row _ _ 2 _ _ _ KB0.out]; rfl
  have c0_3 : w1.cell? ⟨i0, 3, none⟩ = some (.bool op) := by rw [cell_of_row _ _ 3 _ _ _ KB0.out]; rfl
  have c0_4 : w1.cell? ⟨i0, 4, none⟩ = some (.int .i64 cnt) := by rw [cell_of_row _ _ 4 _ _ _ KB0.out]; rfl
  have c0_5 : w1.cell? ⟨i0, 5, none⟩ = some (.int .u64 (a : Int)) := by rw [cell_of_row _ _ 5 _ _ _ KB0.out]; rfl
  have c0_6 : w1.cell? ⟨i0, 6, none⟩ = some (.int .u64 (d : Int)) := by rw [cell_of_row _ _ 6 _ _ _ KB0.out]; rfl
  have c0_7 : w1.cell? ⟨i0, 7, none⟩ = some (.slice ea el ec) := by rw [cell_of_row _ _ 7 _ _ _ KB0.out]; rfl
  go_wp2_with fail
  refine (wrng_any lo hi op WW.out HZ.out (by simp only [List.length_append]; have := enc9 (up (kind : Int)); omega) hlo hhi).mono ?_
  rintro r w2 ⟨rfl, W1, k1⟩
  clear c0_0 c0_1 c0_2 c0_3 c0_4 c0_5 c0_6 c0_7
  replace KB0 := aside (k1.blk _ _ _ (by decide) (by decide) KB0.out)
  replace KK := aside (KK.out.trans k1)
  replace HZ := aside (Nat.le_trans HZ.out k1.bel.size)
  replace WW := aside W1
  clear k1 W1
  have c0_0 : w2.cell? ⟨i0, 0, none⟩ = some (.int .i64 kind) := by rw [cell_of_row _ _ 0 _ _ _ KB0.out]; rfl
  have c0_1 : w2.cell? ⟨i0, 1, none⟩ = some (.string lo) := by rw [cell_of_row _ _ 1 _ _ _ KB0.out]; rfl
  have c0_2 : w2.cell? ⟨i0, 2, none⟩ = some (.string hi) := by rw [cell_of_row _ _ 2 _ _ _ KB0.out]; rfl
  have c0_3 : w2.cell? ⟨i0, 3, none⟩ = some (.bool op) := by rw [cell_of_row _ _ 3 _ _ _ KB0.out]; rfl
  have c0_4 : w2.cell? ⟨i0, 4, none⟩ = some (.int .i64 cnt) := by rw [cell_of_row _ _ 4 _ _ _ KB0.out]; rfl
  have c0_5 : w2.cell? ⟨i0, 5, none⟩ = some (.int .u64 (a : Int)) := by rw [cell_of_row _ _ 5 _ _ _ KB0.out]; rfl
  have c0_6 : w2.cell? ⟨i0, 6, none⟩ = some (.int .u64 (d : Int)) := by rw [cell_of_row _ _ 6 _ _ _ KB0.out]; rfl
  have c0_7 : w2.cell? ⟨i0, 7, none⟩ = some (.slice ea el ec) := by rw [cell_of_row _ _ 7 _ _ _ KB0.out]; rfl
  go_wp2_with fail
  refine (ws_num (el : Int) WW.out HZ.out (by omega) (by omega) (by simp only [List.length_append]; have := enc9 (up (kind : Int)); have := rgB_len lo hi op hlo hhi; omega)).mono ?_
  rintro r w3 ⟨rfl, W1, k1⟩
  clear c0_0 c0_1 c0_2 c0_3 c0_4 c0_5 c0_6 c0_7
  replace KB0 := aside (k1.blk _ _ _ (by decide) (by decide) KB0.out)
  replace KK := aside (KK.out.trans k1)
  replace HZ := aside (Nat.le_trans HZ.out k1.bel.size)
  replace WW := aside W1
  clear k1 W1
  have c0_0 : w3.cell? ⟨i0, 0, none⟩ = some (.int .i64 kind) := by rw [cell_of_row _ _ 0 _ _ _ KB0.out]; rfl
  have c0_1 : w3.cell? ⟨i0, 1, none⟩ = some (.string lo) := by rw [cell_of_row _ _ 1 _ _ _ KB0.out]; rfl
  have c0_2 : w3.cell? ⟨i0, 2, none⟩ = some (.string hi) := by rw [cell_of_row _ _ 2 _ _ _ KB0.out]; rfl
  have c0_3 : w3.cell? ⟨i0, 3, none⟩ = some (.bool op) := by rw [cell_of_row _ _ 3 _ _ _ KB0.out]; rfl
  have c0_4 : w3.cell? ⟨i0, 4, none⟩ = some (.int .i64 cnt) := by rw [cell_of_row _ _ 4 _ _ _ KB0.out]; rfl
  have c0_5 : w3.cell? ⟨i0, 5, none⟩ = some (.int .u64 (a : Int)) := by rw [cell_of_row _ _ 5 _ _ _ KB0.out]; rfl
  have c0_6 : w3.cell? ⟨i0, 6, none⟩ = some (.int .u64 (d : Int)) := by rw [cell_of_row _ _ 6 _ _ _ KB0.out]; rfl
  have c0_7 : w3.cell? ⟨i0, 7, none⟩ = some (.slice ea el ec) := by rw [cell_of_row _ _ 7 _ _ _ KB0.out]; rfl
  obtain ⟨L2, hL2⟩ : ∃ L2, l ++ Nm.enc 8 (up kind) ++ rgB lo hi op ++ Nm.enc 8 (up (el : Int)) = L2 := ⟨_, rfl⟩
  rw [hL2] at WW
  have HLL := aside (show L2.length ≤ l.length + 78 from by rw [← hL2]; simp only [List.length_append]; have := enc9 (up kind); have := enc9 (up (el : Int)); have := rgB_len lo hi op hlo hhi; omega)
  have HL2 := aside hL2
  clear hL2
  go_wp2
  go_loopw [29] (fun t wr => ∃ i : Nat, t = .int .i64 (i : Int) ∧ i ≤ el ∧ Hid (WS V.heap.size b (L2 ++ esB (eFirst T i)) wr) ∧ Hid (WK V.heap.size w wr)) (fun t _ => el - (intOf t).toNat)
  case atStart => exact ⟨0, rfl, Nat.zero_le _, aside (by simpa [eFirst, esB] using WW.out), KK.out⟩
  case round =>
    clear WW KK HZ KB0
    obtain ⟨i, rfl, hi, WW, KK⟩ := hrel
    by_cases hlt : (i : Int) < (el : Int)
    · have hii : (0 : Int) ≤ (i : Int) := by omega
      have HZ := aside (show V.heap.size ≤ wr.heap.size from Nat.le_trans HV.out.size KK.out.bel.size)
      rcases (HIN.out.keep (HV.out.trans KK.out.bel)).2.2 with h0 | ⟨bb, off, rfl, hbb, hc⟩
      · omega
      obtain ⟨x, hx⟩ : ∃ x, T i = x := ⟨_, rfl⟩
      obtain ⟨⟨e0, e1, e2, e3, e4⟩, -⟩ := hc i (by omega)
      rw [hx] at e0 e1 e2 e3 e4
      have HX := aside hx
      have HCH := aside (show x.chk = 0 from by rw [← hx]; exact HEN.out i (by omega))
      have HS := aside (show (esB (eFirst T i)).length ≤ 51200 from by
        have h1 := esB_len (eFirst T i) (fun e he => by
          obtain ⟨k, hk, rfl⟩ := List.mem_map.1 he
          exact HEN.out k (by have := List.mem_range.1 hk; omega))
        rw [eFirst_len] at h1
        omega)
      clear hx hc hbb
      have B2 := aside (bnew wr (.cells #[.string x.k, .int .i64 x.c, .int .i64 x.n, .string x.v, .bool x.d] 50))
      have K2 := aside (heap_alloc_new wr (.cells #[.string x.k, .int .i64 x.c, .int .i64 x.n, .string x.v, .bool x.d] 50))
      replace WW := aside (WW.out.keep B2.out)
      replace KK := aside (KK.out.trans (WK.of_below HZ.out B2.out))
      replace HZ := aside (Nat.le_trans HZ.out B2.out.size)
      go_upto_region 9 with fail
      clear e0 e1 e2 e3 e4 B2
      obtain ⟨i5, hi5⟩ : ∃ i5, wr.heap.size = i5 := ⟨_, rfl⟩
      rw [hi5] at K2 ⊢
      clear hi5
      generalize wr.alloc (.cells #[.string x.k, .int .i64 x.c, .int .i64 x.n, .string x.v, .bool x.d] 50) = X5 at K2 WW KK HZ ⊢
      have x0 : X5.cell? ⟨i5, 0, none⟩ = some (.string x.k) := by rw [cell_of_row _ _ 0 _ _ _ K2.out]; rfl
      have x1 : X5.cell? ⟨i5, 1, none⟩ = some (.int .i64 x.c) := by rw [cell_of_row _ _ 1 _ _ _ K2.out]; rfl
      have x2 : X5.cell? ⟨i5, 2, none⟩ = some (.int .i64 x.n) := by rw [cell_of_row _ _ 2 _ _ _ K2.out]; rfl
      have x3 : X5.cell? ⟨i5, 3, none⟩ = some (.string x.v) := by rw [cell_of_row _ _ 3 _ _ _ K2.out]; rfl
      have x4 : X5.cell? ⟨i5, 4, none⟩ = some (.bool x.d) := by rw [cell_of_row _ _ 4 _ _ _ K2.out]; rfl
      go_wp2_with fail
      refine (ws_ent x WW.out HZ.out HCH.out (by simp only [List.length_append]; have h1 := HS.out; have h2 := HLL.out; omega)).mono ?_
      rintro r w9 ⟨rfl, W1, k1⟩
      replace KK := aside (KK.out.trans k1)
      replace WW := aside (show WS V.heap.size b (L2 ++ esB (eFirst T (i + 1))) w9 from by rw [esB_step, HX.out, ← List.append_assoc]; exact W1)
      clear k1 W1 x0 x1 x2 x3 x4
      go_wp2
      go_roundw
      case rel => exact ⟨i + 1, by go_num, by omega, WW.out, KK.out⟩
      case measure => simp [intOf]; omega
    · obtain rfl : i = el := by omega
      go_wp2
      go_end0
      refine ⟨rfl, ?_, KK.out⟩
      have := WW.out
      rw [← HL2.out, upN] at this
      unfold partB
      dsimp only
      rw [if_neg hk, eFirst_len]
      simpa [List.append_assoc] using this
theorem wpart_any {b : Nat} {l : List UInt8} {V w : World} (m : Pm) (h : WS V.heap.size b l w) (hV : Below V.heap.size V w) (hl : l.length ≤ 4398046511104) (hv : PVok (pvOf m)) (h0 : 0 ≤ m.s0) (h1 : 0 ≤ m.s1) (hin : m.In V) :
    Calls Try.prog 24 #[.pointer (some ⟨b, 0, none⟩), .agg #[.int .i64 m.kind, .string m.lo, .string m.hi, .bool m.op, .int .i64 m.cnt, .int .u64 m.s0, .int .u64 m.s1, .slice m.ea m.el m.ec]] w fun e w' => e = .returned (.tuple #[]) ∧ WS V.heap.size b (l ++ partB (pvOf m)) w' ∧ WK V.heap.size w w' := by
  obtain ⟨kind, lo, hi, op, cnt, s0, s1, ea, el, ec, T⟩ := m
  dsimp only at h0 h1
  obtain ⟨a, rfl⟩ : ∃ a : Nat, s0 = (a : Int) := ⟨s0.toNat, by omega⟩
  obtain ⟨d, rfl⟩ : ∃ a : Nat, s1 = (a : Int) := ⟨s1.toNat, by omega⟩
  have e : pvOf ⟨kind, lo, hi, op, cnt, (a : Int), (d : Int), ea, el, ec, T⟩ = ⟨kind, lo, hi, op, cnt, a, d, eFirst T el⟩ := by simp [pvOf]
  rw [e] at hv ⊢
  by_cases hk : kind = 1
  · subst hk
    exact wpart_print lo hi op cnt a d ea el ec T h hV hl hv hin
  · exact wpart_items kind lo hi op cnt a d ea el ec T h hV hl hv hk hin
end Go.Proofs.Ytbnppmkdhnpdfaa
namespace Go.Proofs.Ytbnppmkdhnpdfaa
open Go.RowKit
set_option linter.unusedVariables false
set_option maxRecDepth 100000 in
set_option maxHeartbeats 3200000 in
theorem enc_no (fr tz o lf n tn : Int) (a : Option Addr) (len cap : Nat) (P : Nat → Pm) (w : World) (hp : PartsIn w a len cap P) (hT : totE P len ≤ 4611686018427387904) {q : Int} (hq : fChk fr tz o lf n tn P len = q) (hq0 : q ≠ 0) :
    Calls Try.prog 11 #[.agg #[.int .i64 fr, .int .i64 tz, .int .i64 o, .int .i64 lf, .int .i64 n, .int .i64 tn, .slice a len cap]] w fun r w' => r = .returned (.tuple #[.slice none 0 0, .int .i64 q]) ∧ Below w.heap.size w w' := by
  have HQ := aside hq
  clear hq
  have HP := aside (hp.keep (bnew w (.cells #[.int .i64 fr, .int .i64 tz, .int .i64 o, .int .i64 lf, .int .i64 n, .int .i64 tn, .slice a len cap] 26)))
  have KB0 := aside (heap_alloc_new w (.cells #[.int .i64 fr, .int .i64 tz, .int .i64 o, .int .i64 lf, .int .i64 n, .int .i64 tn, .slice a len cap] 26))
  have BB := aside (bnew w (.cells #[.int .i64 fr, .int .i64 tz, .int .i64 o, .int .i64 lf, .int .i64 n, .int .i64 tn, .slice a len cap] 26))
  clear hp
  go_enter Try.func11, Try.ntmps11
  go_upto_region 1 with fail
  obtain ⟨i0, hi0⟩ : ∃ i0, w.heap.size = i0 := ⟨_, rfl⟩
  rw [hi0] at KB0 ⊢
  clear hi0
  generalize w.alloc (.cells #[.int .i64 fr, .int .i64 tz, .int .i64 o, .int .i64 lf, .int .i64 n, .int .i64 tn, .slice a len cap] 26) = X0 at KB0 BB HP ⊢
  have c0 : X0.cell? ⟨i0, 0, none⟩ = some (.int .i64 fr) := by rw [cell_of_row _ _ 0 _ _ _ KB0.out]; rfl
  have c1 : X0.cell? ⟨i0, 1, none⟩ = some (.int .i64 tz) := by rw [cell_of_row _ _ 1 _ _ _ KB0.out]; rfl
  have c2 : X0.cell? ⟨i0, 2, none⟩ = some (.int .i64 o) := by rw [cell_of_row _ _ 2 _ _ _ KB0.out]; rfl
  have c3 : X0.cell? ⟨i0, 3, none⟩ = some (.int .i64 lf) := by rw [cell_of_row _ _ 3 _ _ _ KB0.out]; rfl
  have c4 : X0.cell? ⟨i0, 4, none⟩ = some (.int .i64 n) := by rw [cell_of_row _ _ 4 _ _ _ KB0.out]; rfl
  have c5 : X0.cell? ⟨i0, 5, none⟩ = some (.int .i64 tn) := by rw [cell_of_row _ _ 5 _ _ _ KB0.out]; rfl
  have c6 : X0.cell? ⟨i0, 6, none⟩ = some (.slice a len cap) := by rw [cell_of_row _ _ 6 _ _ _ KB0.out]; rfl
  go_wp2_with fail
  refine (chkf_any fr tz o lf n tn a len cap P X0 HP.out hT).mono ?_
  rintro r X1 ⟨rfl, b1⟩
  rw [HQ.out]
  clear c0 c1 c2 c3 c4 c5 c6
  replace BB := aside (bthen BB.out b1)
  have hq1 : (q != 0) = true := by simpa using hq0
  clear b1
  go_wp2
  go_ret2
  exact ⟨rfl, BB.out⟩
set_option maxRecDepth 100000 in
set_option maxHeartbeats 3200000 in
theorem enc_ok (fr tz o lf n tn : Int) (a : Option Addr) (len cap : Nat) (P : Nat → Pm) (w : World) (hp : PartsIn w a len cap P) (hT : totE P len ≤ 4611686018427387904) (hq : fChk fr tz o lf n tn P len = 0) (hok : FVok ⟨fr, tz, o, lf, n, tn, psOf P len⟩) (hu : ∀ i, i < len → 0 ≤ (P i).s0 ∧ 0 ≤ (P i).s1) :
    Calls Try.prog 11 #[.agg #[.int .i64 fr, .int .i64 tz, .int .i64 o, .int .i64 lf, .int .i64 n, .int .i64 tn, .slice a len cap]] w fun r w' => ∃ v', r = .returned (.tuple #[v', .int .i64 0]) ∧ w'.ownsRow w.heap.size 5 1 v' (frameB ⟨fr, tz, o, lf, n, tn, psOf P len⟩).length (Lib.byteCells (frameB ⟨fr, tz, o, lf, n, tn, psOf P len⟩)) ∧ Below w.heap.size w w' := by
  have HQ := aside hq
  have HOK := aside hok
  have HU := aside hu
  have HLE := aside (show len ≤ 768 from by have := hok.len; dsimp only at this; rw [psOf_len] at this; exact this)
  obtain ⟨v1, v2, v3, v4, v5, v6, -, -⟩ := hok
  dsimp only at v1 v2 v3 v4 v5 v6
  have hmx : (len : Int) ≤ 9223372036854775807 := by have := HLE.out; omega
  clear hq hu
  have HP := aside (hp.keep (bnew w (.cells #[.int .i64 fr, .int .i64 tz, .int .i64 o, .int .i64 lf, .int .i64 n, .int .i64 tn, .slice a len cap] 26)))
  have KB0 := aside (heap_alloc_new w (.cells #[.int .i64 fr, .int .i64 tz, .int .i64 o, .int .i64 lf, .int .i64 n, .int .i64 tn, .slice a len cap] 26))
  have BB := aside (bnew w (.cells #[.int .i64 fr, .int .i64 tz, .int .i64 o, .int .i64 lf, .int .i64 n, .int .i64 tn, .slice a len cap] 26))
  clear hp
  go_enter Try.func11, Try.ntmps11
  go_upto_region 1 with fail
  obtain ⟨i0, hi0⟩ : ∃ i0, w.heap.size = i0 := ⟨_, rfl⟩
  rw [hi0] at KB0 ⊢
  clear hi0
  generalize w.alloc (.cells #[.int .i64 fr, .int .i64 tz, .int .i64 o, .int .i64 lf, .int .i64 n, .int .i64 tn, .slice a len cap] 26) = X0 at KB0 BB HP ⊢
  have c0 : X0.cell? ⟨i0, 0, none⟩ = some (.int .i64 fr) := by rw [cell_of_row _ _ 0 _ _ _ KB0.out]; rfl
  have c1 : X0.cell? ⟨i0, 1, none⟩ = some (.int .i64 tz) := by rw [cell_of_row _ _ 1 _ _ _ KB0.out]; rfl
  have c2 : X0.cell? ⟨i0, 2, none⟩ = some (.int .i64 o) := by rw [cell_of_row _ _ 2 _ _ _ KB0.out]; rfl
  have c3 : X0.cell? ⟨i0, 3, none⟩ = some (.int .i64 lf) := by rw [cell_of_row _ _ 3 _ _ _ KB0.out]; rfl
  have c4 : X0.cell? ⟨i0, 4, none⟩ = some (.int .i64 n) := by rw [cell_of_row _ _ 4 _ _ _ KB0.out]; rfl
  have c5 : X0.cell? ⟨i0, 5, none⟩ = some (.int .i64 tn) := by rw [cell_of_row _ _ 5 _ _ _ KB0.out]; rfl
  have c6 : X0.cell? ⟨i0, 6, none⟩ = some (.slice a len cap) := by rw [cell_of_row _ _ 6 _ _ _ KB0.out]; rfl
  go_wp2_with fail
  refine (chkf_any fr tz o lf n tn a len cap P X0 HP.out hT).mono ?_
  rintro r X1 ⟨rfl, b1⟩
  rw [HQ.out]
  clear c0 c1 c2 c3 c4 c5 c6
  replace KB0 := aside (blk_on KB0.out b1)
  replace HP := aside (HP.out.keep b1)
  replace BB := aside (bthen BB.out b1)
  clear b1
  go_wp2_with fail
  refine (newWriter_any X1).mono ?_
  rintro r X2 ⟨rfl, rfl⟩
  have bn := bnew X1 (.cells #[.slice none 0 0] 86)
  have WW := aside (show WS X1.heap.size X1.heap.size [] (X1.alloc (.cells #[.slice none 0 0] 86)) from ⟨none, isW_new 86 X1.heap.size X1 (Nat.le_refl _)⟩)
  replace KB0 := aside (blk_on KB0.out bn)
  have KV := aside bn
  have HZ := aside bn.size
  obtain ⟨b, hb⟩ : ∃ b, X1.heap.size = b := ⟨_, rfl⟩
  have HBV := aside hb
  have WW2 := aside (show WS X1.heap.size b [] (X1.alloc (.cells #[.slice none 0 0] 86)) from by rw [← hb]; exact WW.out)
  clear WW
  rw [hb]
  clear hb bn
  generalize X1.alloc (.cells #[.slice none 0 0] 86) = X2 at KB0 KV HZ WW2 ⊢
  have WW := aside WW2.out
  clear WW2
  have c0 : X2.cell? ⟨i0, 0, none⟩ = some (.int .i64 fr) := by rw [cell_of_row _ _ 0 _ _ _ KB0.out]; rfl
  have c1 : X2.cell? ⟨i0, 1, none⟩ = some (.int .i64 tz) := by rw [cell_of_row _ _ 1 _ _ _ KB0.out]; rfl
  have c2 : X2.cell? ⟨i0, 2, none⟩ = some (.int .i64 o) := by rw [cell_of_row _ _ 2 _ _ _ KB0.out]; rfl
  have c3 : X2.cell? ⟨i0, 3, none⟩ = some (.int .i64 lf) := by rw [cell_of_row _ _ 3 _ _ _ KB0.out]; rfl
  have c4 : X2.cell? ⟨i0, 4, none⟩ = some (.int .i64 n) := by rw [cell_of_row _ _ 4 _ _ _ KB0.out]; rfl
  have c5 : X2.cell? ⟨i0, 5, none⟩ = some (.int .i64 tn) := by rw [cell_of_row _ _ 5 _ _ _ KB0.out]; rfl
  have c6 : X2.cell? ⟨i0, 6, none⟩ = some (.slice a len cap) := by rw [cell_of_row _ _ 6 _ _ _ KB0.out]; rfl
  go_wp2_with fail
  refine (ws_num fr WW.out HZ.out (by omega) (by omega) (by simp only [List.length_nil];  omega)).mono ?_
  rintro r Y0 ⟨rfl, W1, k1⟩
  replace KB0 := aside (k1.blk _ _ _ (by decide) (by decide) KB0.out)
  replace KV := aside (KV.out.trans k1.bel)
  replace HZ := aside (Nat.le_trans HZ.out k1.bel.size)
  replace WW := aside W1
  clear k1 W1
  clear c0 c1 c2 c3 c4 c5 c6
  have c0 : Y0.cell? ⟨i0, 0, none⟩ = some (.int .i64 fr) := by rw [cell_of_row _ _ 0 _ _ _ KB0.out]; rfl
  have c1 : Y0.cell? ⟨i0, 1, none⟩ = some (.int .i64 tz) := by rw [cell_of_row _ _ 1 _ _ _ KB0.out]; rfl
  have c2 : Y0.cell? ⟨i0, 2, none⟩ = some (.int .i64 o) := by rw [cell_of_row _ _ 2 _ _ _ KB0.out]; rfl
  have c3 : Y0.cell? ⟨i0, 3, none⟩ = some (.int .i64 lf) := by rw [cell_of_row _ _ 3 _ _ _ KB0.out]; rfl
  have c4 : Y0.cell? ⟨i0, 4, none⟩ = some (.int .i64 n) := by rw [cell_of_row _ _ 4 _ _ _ KB0.out]; rfl
  have c5 : Y0.cell? ⟨i0, 5, none⟩ = some (.int .i64 tn) := by rw [cell_of_row _ _ 5 _ _ _ KB0.out]; rfl
  have c6 : Y0.cell? ⟨i0, 6, none⟩ = some (.slice a len cap) := by rw [cell_of_row _ _ 6 _ _ _ KB0.out]; rfl
  go_wp2_with fail
  refine (ws_num tz WW.out HZ.out (by omega) (by omega) (by simp only [List.length_append, List.length_nil]; have := enc9 (up fr); omega)).mono ?_
  rintro r Y1 ⟨rfl, W1, k1⟩
  replace KB0 := aside (k1.blk _ _ _ (by decide) (by decide) KB0.out)
  replace KV := aside (KV.out.trans k1.bel)
  replace HZ := aside (Nat.le_trans HZ.out k1.bel.size)
  replace WW := aside W1
  clear k1 W1
  clear c0 c1 c2 c3 c4 c5 c6
  have c0 : Y1.cell? ⟨i0, 0, none⟩ = some (.int .i64 fr) := by rw [cell_of_row _ _ 0 _ _ _ KB0.out]; rfl
  have c1 : Y1.cell? ⟨i0, 1, none⟩ = some (.int .i64 tz) := by rw [cell_of_row _ _ 1 _ _ _ KB0.out]; rfl
  have c2 : Y1.cell? ⟨i0, 2, none⟩ = some (.int .i64 o) := by rw [cell_of_row _ _ 2 _ _ _ KB0.out]; rfl
  have c3 : Y1.cell? ⟨i0, 3, none⟩ = some (.int .i64 lf) := by rw [cell_of_row _ _ 3 _ _ _ KB0.out]; rfl
  have c4 : Y1.cell? ⟨i0, 4, none⟩ = some (.int .i64 n) := by rw [cell_of_row _ _ 4 _ _ _ KB0.out]; rfl
  have c5 : Y1.cell? ⟨i0, 5, none⟩ = some (.int .i64 tn) := by rw [cell_of_row _ _ 5 _ _ _ KB0.out]; rfl
  have c6 : Y1.cell? ⟨i0, 6, none⟩ = some (.slice a len cap) := by rw [cell_of_row _ _ 6 _ _ _ KB0.out]; rfl
  go_wp2_with fail
  refine (ws_num o WW.out HZ.out (by omega) (by omega) (by simp only [List.length_append, List.length_nil]; have := enc9 (up fr); have := enc9 (up tz); omega)).mono ?_
  rintro r Y2 ⟨rfl, W1, k1⟩
  replace KB0 := aside (k1.blk _ _ _ (by decide) (by decide) KB0.out)
  replace KV := aside (KV.out.trans k1.bel)
  replace HZ := aside (Nat.le_trans HZ.out k1.bel.size)
  replace WW := aside W1
  clear k1 W1
  clear c0 c1 c2 c3 c4 c5 c6
  have c0 : Y2.cell? ⟨i0, 0, none⟩ = some (.int .i64 fr) := by rw [cell_of_row _ _ 0 _ _ _ KB0.out]; rfl
  have c1 : Y2.cell? ⟨i0, 1, none⟩ = some (.int .i64 tz) := by rw [cell_of_row _ _ 1 _ _ _ KB0.out]; rfl
  have c2 : Y2.cell? ⟨i0, 2, none⟩ = some (.int .i64 o) := by rw [cell_of_row _ _ 2 _ _ _ KB0.out]; rfl
  have c3 : Y2.cell? ⟨i0, 3, none⟩ = some (.int .i64 lf) := by rw [cell_of_row _ _ 3 _ _ _ KB0.out]; rfl
  have c4 : Y2.cell? ⟨i0, 4, none⟩ = some (.int .i64 n) := by rw [cell_of_row _ _ 4 _ _ _ KB0.out]; rfl
  have c5 : Y2.cell? ⟨i0, 5, none⟩ = some (.int .i64 tn) := by rw [cell_of_row _ _ 5 _ _ _ KB0.out]; rfl
  have c6 : Y2.cell? ⟨i0, 6, none⟩ = some (.slice a len cap) := by rw [cell_of_row _ _ 6 _ _ _ KB0.out]; rfl
  go_wp2_with fail
  refine (ws_num lf WW.out HZ.out (by omega) (by omega) (by simp only [List.length_append, List.length_nil]; have := enc9 (up fr); have := enc9 (up tz); have := enc9 (up o); omega)).mono ?_
  rintro r Y3 ⟨rfl, W1, k1⟩
  replace KB0 := aside (k1.blk _ _ _ (by decide) (by decide) KB0.out)
  replace KV := aside (KV.out.trans k1.bel)
  replace HZ := aside (Nat.le_trans HZ.out k1.bel.size)
  replace WW := aside W1
  clear k1 W1
  clear c0 c1 c2 c3 c4 c5 c6
  have c0 : Y3.cell? ⟨i0, 0, none⟩ = some (.int .i64 fr) := by rw [cell_of_row _ _ 0 _ _ _ KB0.out]; rfl
  have c1 : Y3.cell? ⟨i0, 1, none⟩ = some (.int .i64 tz) := by rw [cell_of_row _ _ 1 _ _ _ KB0.out]; rfl
  have c2 : Y3.cell? ⟨i0, 2, none⟩ = some (.int .i64 o) := by rw [cell_of_row _ _ 2 _ _ _ KB0.out]; rfl
  have c3 : Y3.cell? ⟨i0, 3, none⟩ = some (.int .i64 lf) := by rw [cell_of_row _ _ 3 _ _ _ KB0.out]; rfl
  have c4 : Y3.cell? ⟨i0, 4, none⟩ = some (.int .i64 n) := by rw [cell_of_row _ _ 4 _ _ _ KB0.out]; rfl
  have c5 : Y3.cell? ⟨i0, 5, none⟩ = some (.int .i64 tn) := by rw [cell_of_row _ _ 5 _ _ _ KB0.out]; rfl
  have c6 : Y3.cell? ⟨i0, 6, none⟩ = some (.slice a len cap) := by rw [cell_of_row _ _ 6 _ _ _ KB0.out]; rfl
  go_wp2_with fail
  refine (ws_num n WW.out HZ.out (by omega) (by omega) (by simp only [List.length_append, List.length_nil]; have := enc9 (up fr); have := enc9 (up tz); have := enc9 (up o); have := enc9 (up lf); omega)).mono ?_
  rintro r Y4 ⟨rfl, W1, k1⟩
  replace KB0 := aside (k1.blk _ _ _ (by decide) (by decide) KB0.out)
  replace KV := aside (KV.out.trans k1.bel)
  replace HZ := aside (Nat.le_trans HZ.out k1.bel.size)
  replace WW := aside W1
  clear k1 W1
  clear c0 c1 c2 c3 c4 c5 c6
  have c0 : Y4.cell? ⟨i0, 0, none⟩ = some (.int .i64 fr) := by rw [cell_of_row _ _ 0 _ _ _ KB0.out]; rfl
  have c1 : Y4.cell? ⟨i0, 1, none⟩ = some (.int .i64 tz) := by rw [cell_of_row _ _ 1 _ _ _ KB0.out]; rfl
  have c2 : Y4.cell? ⟨i0, 2, none⟩ = some (.int .i64 o) := by rw [cell_of_row _ _ 2 _ _ _ KB0.out]; rfl
  have c3 : Y4.cell? ⟨i0, 3, none⟩ = some (.int .i64 lf) := by rw [cell_of_row _ _ 3 _ _ _ KB0.out]; rfl
  have c4 : Y4.cell? ⟨i0, 4, none⟩ = some (.int .i64 n) := by rw [cell_of_row _ _ 4 _ _ _ KB0.out]; rfl
  have c5 : Y4.cell? ⟨i0, 5, none⟩ = some (.int .i64 tn) := by rw [cell_of_row _ _ 5 _ _ _ KB0.out]; rfl
  have c6 : Y4.cell? ⟨i0, 6, none⟩ = some (.slice a len cap) := by rw [cell_of_row _ _ 6 _ _ _ KB0.out]; rfl
  go_wp2_with fail
  refine (ws_num tn WW.out HZ.out (by omega) (by omega) (by simp only [List.length_append, List.length_nil]; have := enc9 (up fr); have := enc9 (up tz); have := enc9 (up o); have := enc9 (up lf); have := enc9 (up n); omega)).mono ?_
  rintro r Y5 ⟨rfl, W1, k1⟩
  replace KB0 := aside (k1.blk _ _ _ (by decide) (by decide) KB0.out)
  replace KV := aside (KV.out.trans k1.bel)
  replace HZ := aside (Nat.le_trans HZ.out k1.bel.size)
  replace WW := aside W1
  clear k1 W1
  clear c0 c1 c2 c3 c4 c5 c6
  have c0 : Y5.cell? ⟨i0, 0, none⟩ = some (.int .i64 fr) := by rw [cell_of_row _ _ 0 _ _ _ KB0.out]; rfl
  have c1 : Y5.cell? ⟨i0, 1, none⟩ = some (.int .i64 tz) := by rw [cell_of_row _ _ 1 _ _ _ KB0.out]; rfl
  have c2 : Y5.cell? ⟨i0, 2, none⟩ = some (.int .i64 o) := by rw [cell_of_row _ _ 2 _ _ _ KB0.out]; rfl
  have c3 : Y5.cell? ⟨i0, 3, none⟩ = some (.int .i64 lf) := by rw [cell_of_row _ _ 3 _ _ _ KB0.out]; rfl
  have c4 : Y5.cell? ⟨i0, 4, none⟩ = some (.int .i64 n) := by rw [cell_of_row _ _ 4 _ _ _ KB0.out]; rfl
  have c5 : Y5.cell? ⟨i0, 5, none⟩ = some (.int .i64 tn) := by rw [cell_of_row _ _ 5 _ _ _ KB0.out]; rfl
  have c6 : Y5.cell? ⟨i0, 6, none⟩ = some (.slice a len cap) := by rw [cell_of_row _ _ 6 _ _ _ KB0.out]; rfl
  go_wp2_with fail
  refine (ws_num (len : Int) WW.out HZ.out (by omega) (by omega) (by simp only [List.length_append, List.length_nil]; have := enc9 (up fr); have := enc9 (up tz); have := enc9 (up o); have := enc9 (up lf); have := enc9 (up n); have := enc9 (up tn); omega)).mono ?_
  rintro r Y6 ⟨rfl, W1, k1⟩
  replace KB0 := aside (k1.blk _ _ _ (by decide) (by decide) KB0.out)
  replace KV := aside (KV.out.trans k1.bel)
  replace HZ := aside (Nat.le_trans HZ.out k1.bel.size)
  replace WW := aside W1
  clear k1 W1
  clear c0 c1 c2 c3 c4 c5 c6
  have c0 : Y6.cell? ⟨i0, 0, none⟩ = some (.int .i64 fr) := by rw [cell_of_row _ _ 0 _ _ _ KB0.out]; rfl
  have c1 : Y6.cell? ⟨i0, 1, none⟩ = some (.int .i64 tz) := by rw [cell_of_row _ _ 1 _ _ _ KB0.out]; rfl
  have c2 : Y6.cell? ⟨i0, 2, none⟩ = some (.int .i64 o) := by rw [cell_of_row _ _ 2 _ _ _ KB0.out]; rfl
  have c3 : Y6.cell? ⟨i0, 3, none⟩ = some (.int .i64 lf) := by rw [cell_of_row _ _ 3 _ _ _ KB0.out]; rfl
  have c4 : Y6.cell? ⟨i0, 4, none⟩ = some (.int .i64 n) := by rw [cell_of_row _ _ 4 _ _ _ KB0.out]; rfl
  have c5 : Y6.cell? ⟨i0, 5, none⟩ = some (.int .i64 tn) := by rw [cell_of_row _ _ 5 _ _ _ KB0.out]; rfl
  have c6 : Y6.cell? ⟨i0, 6, none⟩ = some (.slice a len cap) := by rw [cell_of_row _ _ 6 _ _ _ KB0.out]; rfl
  obtain ⟨L2, hL2⟩ : ∃ L2, [] ++ Nm.enc 8 (up fr) ++ Nm.enc 8 (up tz) ++ Nm.enc 8 (up o) ++ Nm.enc 8 (up lf) ++ Nm.enc 8 (up n) ++ Nm.enc 8 (up tn) ++ Nm.enc 8 (up (len : Int)) = L2 := ⟨_, rfl⟩
  rw [hL2] at WW
  have HLL := aside (show L2.length ≤ 63 from by rw [← hL2]; simp only [List.length_append, List.length_nil]; have := enc9 (up fr); have := enc9 (up tz); have := enc9 (up o); have := enc9 (up lf); have := enc9 (up n); have := enc9 (up tn); have := enc9 (up (len : Int)); omega)
  have HL2 := aside hL2
  clear hL2
  go_wp2
  go_loopw [49] (fun t wr => ∃ i : Nat, t = .int .i64 (i : Int) ∧ i ≤ len ∧ Hid (WS X1.heap.size b (L2 ++ psB (psOf P i)) wr) ∧ Hid (Below X1.heap.size X1 wr)) (fun t _ => len - (intOf t).toNat)
  case atStart => exact ⟨0, rfl, Nat.zero_le _, aside (by simpa [psOf, psB] using WW.out), KV.out⟩
  case round =>
    clear WW KV HZ KB0 c0 c1 c2 c3 c4 c5 c6
    obtain ⟨i, rfl, hi, WW, KV⟩ := hrel
    by_cases hlt : (i : Int) < (len : Int)
    · have hii : (0 : Int) ≤ (i : Int) := by omega
      rcases (HP.out.keep KV.out).2.2 with h0 | ⟨bb, off, rfl, hbb, hc⟩
      · omega
      obtain ⟨m, hx⟩ : ∃ m, P i = m := ⟨_, rfl⟩
      obtain ⟨⟨e0, e1, e2, e3, e4, e5, e6, e7⟩, -⟩ := hc i (by omega)
      rw [hx] at e0 e1 e2 e3 e4 e5 e6 e7
      have HX := aside hx
      have HMI := aside (show m.In X1 from by
        rcases HP.out.2.2 with h0 | ⟨bb, off, _, _, hc⟩
        · omega
        · rw [← hx]; exact (hc i (by omega)).2)
      have HMV := aside (show PVok (pvOf m) ∧ 0 ≤ m.s0 ∧ 0 ≤ m.s1 from by rw [← hx]; exact ⟨HOK.out.ps _ (psOf_mem P (by omega)), HU.out i (by omega)⟩)
      have HS := aside (show (psB (psOf P i)).length ≤ 39398400 from by
        have h1 := psB_len (psOf P i) (fun v hv => HOK.out.ps v (psOf_sub P hi v hv))
        rw [psOf_len] at h1
        have h2 := HLE.out
        omega)
      clear hx hc hbb
      have B2 := aside (bnew wr (.cells #[.int .i64 m.kind, .string m.lo, .string m.hi, .bool m.op, .int .i64 m.cnt, .int .u64 m.s0, .int .u64 m.s1, .slice m.ea m.el m.ec] 46))
      have K2 := aside (heap_alloc_new wr (.cells #[.int .i64 m.kind, .string m.lo, .string m.hi, .bool m.op, .int .i64 m.cnt, .int .u64 m.s0, .int .u64 m.s1, .slice m.ea m.el m.ec] 46))
      replace WW := aside (WW.out.keep B2.out)
      replace KV := aside (KV.out.trans (B2.out.mono KV.out.size))
      go_upto_region 15 with fail
      clear e0 e1 e2 e3 e4 e5 e6 e7 B2
      obtain ⟨i5, hi5⟩ : ∃ i5, wr.heap.size = i5 := ⟨_, rfl⟩
      rw [hi5] at K2 ⊢
      clear hi5
      generalize wr.alloc (.cells #[.int .i64 m.kind, .string m.lo, .string m.hi, .bool m.op, .int .i64 m.cnt, .int .u64 m.s0, .int .u64 m.s1, .slice m.ea m.el m.ec] 46) = X5 at K2 WW KV ⊢
      have x0 : X5.cell? ⟨i5, 0, none⟩ = some (.int .i64 m.kind) := by rw [cell_of_row _ _ 0 _ _ _ K2.out]; rfl
      have x1 : X5.cell? ⟨i5, 1, none⟩ = some (.string m.lo) := by rw [cell_of_row _ _ 1 _ _ _ K2.out]; rfl
      have x2 : X5.cell? ⟨i5, 2, none⟩ = some (.string m.hi) := by rw [cell_of_row _ _ 2 _ _ _ K2.out]; rfl
      have x3 : X5.cell? ⟨i5, 3, none⟩ = some (.bool m.op) := by rw [cell_of_row _ _ 3 _ _ _ K2.out]; rfl
      have x4 : X5.cell? ⟨i5, 4, none⟩ = some (.int .i64 m.cnt) := by rw [cell_of_row _ _ 4 _ _ _ K2.out]; rfl
      have x5 : X5.cell? ⟨i5, 5, none⟩ = some (.int .u64 m.s0) := by rw [cell_of_row _ _ 5 _ _ _ K2.out]; rfl
      have x6 : X5.cell? ⟨i5, 6, none⟩ = some (.int .u64 m.s1) := by rw [cell_of_row _ _ 6 _ _ _ K2.out]; rfl
      have x7 : X5.cell? ⟨i5, 7, none⟩ = some (.slice m.ea m.el m.ec) := by rw [cell_of_row _ _ 7 _ _ _ K2.out]; rfl
      go_wp2_with fail
      refine (wpart_any m WW.out KV.out (by simp only [List.length_append]; have h1 := HS.out; have h2 := HLL.out; omega) HMV.out.1 HMV.out.2.1 HMV.out.2.2 HMI.out).mono ?_
      rintro r w9 ⟨rfl, W1, k1⟩
      replace KV := aside (KV.out.trans k1.bel)
      replace WW := aside (show WS X1.heap.size b (L2 ++ psB (psOf P (i + 1))) w9 from by rw [psB_step, HX.out, ← List.append_assoc]; exact W1)
      clear k1 W1 x0 x1 x2 x3 x4 x5 x6 x7
      go_wp2
      go_roundw
      case rel => exact ⟨i + 1, by go_num, by omega, WW.out, KV.out⟩
      case measure => simp [intOf]; omega
    · obtain rfl : i = len := by omega
      have HS := aside (show (psB (psOf P i)).length ≤ 39398400 from by
        have h1 := psB_len (psOf P i) HOK.out.ps
        rw [psOf_len] at h1
        have h2 := HLE.out
        omega)
      go_wp2_with fail
      refine (ws_bytes WW.out (by simp only [List.length_append]; have h1 := HS.out; have h2 := HLL.out; omega)).mono ?_
      rintro r w9 ⟨v', rfl, own, b9⟩
      have OW := aside (own_low own (Nat.le_trans BB.out.size KV.out.size))
      have BF := aside (bthen BB.out (KV.out.trans (b9.mono KV.out.size)))
      clear own b9
      go_wp2
      go_ret2
      have := OW.out
      rw [← HL2.out, upN] at this
      have e : [] ++ Nm.enc 8 (up fr) ++ Nm.enc 8 (up tz) ++ Nm.enc 8 (up o) ++ Nm.enc 8 (up lf) ++ Nm.enc 8 (up n) ++ Nm.enc 8 (up tn) ++ Nm.enc 8 i ++ psB (psOf P i) = frameB ⟨fr, tz, o, lf, n, tn, psOf P i⟩ := by
        unfold frameB
        dsimp only
        rw [psOf_len]
        simp [List.append_assoc]
      rw [e] at this
      exact ⟨v', rfl, this, BF.out⟩
end Go.Proofs.Ytbnppmkdhnpdfaa
namespace Go.Proofs.Ytbnppmkdhnpdfaa
open Go.RowKit Go.Shelf
attribute [local go_sem] Oper.semAt_some
/-- What has come when k rounds are over. -/
def upto {α : Type} (f : Nat → α) (k : Nat) : List α := (List.range k).map f
/-- The ranges T 0, T 1 .. lie one behind the other, three cells each, below n₀. -/
def RgsIn (n₀ : Nat) (w : World) (a : Option Addr) (len cap : Nat) (T : Nat → Rg) : Prop :=
  len ≤ cap ∧ len * 40 ≤ 281474976710656 ∧ (len = 0 ∨ ∃ blk off, a = some ⟨blk, off, none⟩ ∧ blk < n₀ ∧ ∀ i, i < len →
    (w.cell? ⟨blk, off + i * 3, none⟩ = some (.string (T i).lo) ∧ w.cell? ⟨blk, off + i * 3 + 1, none⟩ = some (.string (T i).hi) ∧ w.cell? ⟨blk, off + i * 3 + 2, none⟩ = some (.bool (T i).op)))
theorem RgsIn.below {n₀ : Nat} {A B : World} (h : Below n₀ A B) {a : Option Addr} {len cap : Nat} {T : Nat → Rg} (hr : RgsIn n₀ A a len cap T) : RgsIn n₀ B a len cap T := by
  obtain ⟨h1, h2, h3⟩ := hr
  refine ⟨h1, h2, ?_⟩
  rcases h3 with h3 | ⟨blk, off, e, hb, hc⟩
  · exact .inl h3
  · exact .inr ⟨blk, off, e, hb, fun i hi => ⟨(h.cell (p := ⟨blk, off + i * 3, none⟩) hb).trans (hc i hi).1, (h.cell (p := ⟨blk, off + i * 3 + 1, none⟩) hb).trans (hc i hi).2.1, (h.cell (p := ⟨blk, off + i * 3 + 2, none⟩) hb).trans (hc i hi).2.2⟩⟩
end Go.Proofs.Ytbnppmkdhnpdfaa
namespace Go.Proofs.Ytbnppmkdhnpdfaa
open Go.RowKit
theorem lies {w : World} {k : Nat} {o : Obj} (h : w.heap[k]? = some o) : k < w.heap.size := (Array.getElem?_eq_some_iff.1 h).1
theorem keep {k : Nat} {w1 w2 : World} {o : Obj} (h : w1.heap[k]? = some o) (b : Below w1.heap.size w1 w2) : w2.heap[k]? = some o :=
  (b.block k (Array.getElem?_eq_some_iff.1 h).1).trans h
end Go.Proofs.Ytbnppmkdhnpdfaa
namespace Go.Proofs.Ytbnppmkdhnpdfaa
open Go.RowKit
end Go.Proofs.Ytbnppmkdhnpdfaa
namespace Go.Proofs.Ytbnppmkdhnpdfaa
open Go.RowKit Go.Shelf
attribute [local go_sem] Oper.semAt_some
theorem RgsIn.up {n₀ n₁ : Nat} {A B : World} (h : Below n₀ A B) (hn : n₀ ≤ n₁) {a : Option Addr} {len cap : Nat} {T : Nat → Rg} (hr : RgsIn n₀ A a len cap T) : RgsIn n₁ B a len cap T := by
  obtain ⟨h1, h2, h3⟩ := hr.below h
  refine ⟨h1, h2, ?_⟩
  rcases h3 with h3 | ⟨blk, off, e, hb, hc⟩
  · exact .inl h3
  · exact .inr ⟨blk, off, e, Nat.lt_of_lt_of_le hb hn, hc⟩
end Go.Proofs.Ytbnppmkdhnpdfaa
namespace Go.Proofs.Ytbnppmkdhnpdfaa
open Go.RowKit
set_option linter.unusedVariables false
end Go.Proofs.Ytbnppmkdhnpdfaa
namespace Go.Proofs.Ytbnppmkdhnpdfaa
open Go.RowKit
set_option linter.unusedVariables false
end Go.Proofs.Ytbnppmkdhnpdfaa
namespace Go.Proofs.Ytbnppmkdhnpdfaa
open Go.RowKit
set_option linter.unusedVariables false
end Go.Proofs.Ytbnppmkdhnpdfaa
namespace Go.Proofs.Ytbnppmkdhnpdfaa
open Go.RowKit
set_option linter.unusedVariables false
end Go.Proofs.Ytbnppmkdhnpdfaa
namespace Go.Proofs.Ytbnppmkdhnpdfaa
open Go.RowKit
set_option linter.unusedVariables false
end Go.Proofs.Ytbnppmkdhnpdfaa
namespace Go.Proofs.Ytbnppmkdhnpdfaa
open Go.RowKit
set_option linter.unusedVariables false
end Go.Proofs.Ytbnppmkdhnpdfaa
namespace Go.Proofs.Ytbnppmkdhnpdfaa
open Go.RowKit
set_option linter.unusedVariables false
theorem kLt_le {a b c : ByteArray} (h : kLt a b = true) (h2 : kLt c b = false) : kLt a c = true := by
  unfold kLt at *
  cases h3 : Op.bytesLess b.toList c.toList
  · have e := L_total _ _ h3 h2
    rw [← e]; exact h
  · exact L_trans _ _ _ h h3
theorem kLt_tr {a b c : ByteArray} (h : kLt a b = true) (h2 : kLt b c = true) : kLt a c = true := L_trans _ _ _ h h2
theorem ptN_all {P : Nat → Pm} : ∀ {n : Nat}, ptN P n = 0 → ∀ i, i < n → ptAt P i = 0 := by
  intro n
  induction n with
  | zero => intro _ i hi; omega
  | succ n ih =>
    intro h i hi
    have h0 : ptN P n = 0 := by
      by_cases g : ptN P n = 0
      · exact g
      · rw [ptN_stay g (n + 1) (by omega)] at h; exact absurd h g
    rcases Nat.lt_or_ge i n with g | g
    · exact ih h0 i g
    · obtain rfl : i = n := by omega
      rw [← ptN_step h0]; exact h
theorem itN_all {r : Rg} {T : Nat → En} : ∀ {n : Nat}, itN r T n = 0 → ∀ i, i < n → itAt r T i = 0 := by
  intro n
  induction n with
  | zero => intro _ i hi; omega
  | succ n ih =>
    intro h i hi
    have h0 : itN r T n = 0 := by
      by_cases g : itN r T n = 0
      · exact g
      · rw [itN_stay g (n + 1) (by omega)] at h; exact absurd h g
    rcases Nat.lt_or_ge i n with g | g
    · exact ih h0 i g
    · obtain rfl : i = n := by omega
      rw [← itN_step h0]; exact h
theorem itAt_zero {r : Rg} {T : Nat → En} {i : Nat} (h : itAt r T i = 0) : r.has (T i).k = true ∧ (0 < i → kLt (T (i - 1)).k (T i).k = true) := by
  unfold itAt at h
  by_cases g : (T i).chk = 0
  · rw [if_neg (by simp [g])] at h
    by_cases g2 : r.has (T i).k = false ∨ (0 < i ∧ kLt (T (i - 1)).k (T i).k = false)
    · rw [if_pos g2] at h; cases h
    · refine ⟨?_, fun hi => ?_⟩
      · cases e : r.has (T i).k
        · exact absurd (.inl e) g2
        · rfl
      · cases e : kLt (T (i - 1)).k (T i).k
        · exact absurd (.inr ⟨hi, e⟩) g2
        · rfl
  · rw [if_pos g] at h; exact absurd h g
/-- A part that may be, behind those ahead of it. -/
structure GoodP (P : Nat → Pm) (i : Nat) : Prop where
  chk : (P i).rg.chk = 0
  emp : (P i).rg.emp = false
  op : ahOp P i = false
  lo : kLt (P i).lo (ahHi P i) = false
  its : ∀ k, k < (P i).el → itAt (P i).rg (P i).T k = 0
theorem good_of {P : Nat → Pm} {i : Nat} (h : ptAt P i = 0) : GoodP P i := by
  unfold ptAt Pm.chk at h
  cases h1 : (P i).alone
  · rw [if_pos h1] at h; cases h
  · rw [if_neg (by simp [h1])] at h
    by_cases h2 : (P i).rg.chk = 0
    · rw [if_neg (by simp [h2])] at h
      by_cases h3 : (P i).rg.emp = true ∨ ahOp P i = true ∨ kLt (P i).lo (ahHi P i) = true
      · rw [if_pos h3] at h; cases h
      · rw [if_neg h3] at h
        refine ⟨h2, ?_, ?_, ?_, ?_⟩
        · cases e : (P i).rg.emp
          · rfl
          · exact absurd (.inl e) h3
        · cases e : ahOp P i
          · rfl
          · exact absurd (.inr (.inl e)) h3
        · cases e : kLt (P i).lo (ahHi P i)
          · rfl
          · exact absurd (.inr (.inr e)) h3
        · by_cases h4 : (P i).kind = 1
          · unfold Pm.alone at h1
            rw [if_pos h4] at h1
            intro k hk
            have : (P i).el = 0 := by simpa using h1
            omega
          · rw [if_neg h4] at h
            unfold Pm.its at h
            by_cases h5 : itN (P i).rg (P i).T (P i).el = 0
            · exact fun k hk => itN_all h5 k hk
            · rw [if_pos h5] at h; exact absurd h h5
    · rw [if_pos h2] at h; exact absurd h h2
theorem chk_le {p : Rg} (h : p.chk = 0) (ho : p.op = false) : kLt p.hi p.lo = false := by
  unfold Rg.chk at h
  split at h
  · cases h
  · split at h
    · cases h
    · rename_i g
      rw [ho] at g
      simp only [Bool.false_and, Bool.not_false, Bool.true_and, Bool.false_or] at g
      cases e : kLt p.hi p.lo
      · rfl
      · exfalso
        apply g
        have e1 : Op.bytesLess p.lo.toList p.hi.toList = false := by
          cases q : Op.bytesLess p.lo.toList p.hi.toList
          · rfl
          · have := L_trans _ _ _ q e
            rw [L_irrefl] at this; cases this
        have e2 : (p.lo.toList == p.hi.toList) = false := by
          rw [beq_eq_false_iff_ne]; intro q
          unfold kLt at e; rw [q, L_irrefl] at e; cases e
        rw [e1, e2]; rfl
theorem has_ge {p : Rg} {k : ByteArray} (h : p.has k = true) : kLt k p.lo = false := by
  unfold Rg.has at h
  simp only [Bool.and_eq_true, Bool.not_eq_true'] at h
  exact h.1.2
theorem has_lt {p : Rg} {k : ByteArray} (h : p.has k = true) (ho : p.op = false) : kLt k p.hi = true := by
  unfold Rg.has at h
  simp only [Bool.and_eq_true] at h
  rw [ho, Bool.false_or] at h
  exact h.2
/-- The keys of a part, of the first n parts. -/
def keysP (p : Pm) (k : Nat) : List ByteArray := (List.range k).map fun i => (p.T i).k
def keysL (P : Nat → Pm) : Nat → List ByteArray
  | 0 => []
  | n + 1 => keysL P n ++ keysP (P n) (P n).el
theorem keysP_snoc (p : Pm) (k : Nat) : keysP p (k + 1) = keysP p k ++ [(p.T k).k] := by unfold keysP; rw [List.range_succ, List.map_append]; rfl
abbrev RisesB (l : List ByteArray) : Prop := l.Pairwise (fun a b => kLt a b = true)
theorem snoc_rises {l : List ByteArray} {x : ByteArray} (h : RisesB l) (h2 : ∀ y ∈ l, kLt y x = true) : RisesB (l ++ [x]) :=
  List.pairwise_append.2 ⟨h, List.pairwise_singleton _ _, fun a ha b hb => by rw [List.mem_singleton] at hb; subst hb; exact h2 a ha⟩
theorem keysP_rises {p : Pm} (h : ∀ k, k < p.el → itAt p.rg p.T k = 0) : ∀ k, k ≤ p.el → RisesB (keysP p k) := by
  intro k
  induction k with
  | zero => intro _; exact List.Pairwise.nil
  | succ k ih =>
    intro hk
    rw [keysP_snoc]
    refine snoc_rises (ih (by omega)) ?_
    cases k with
    | zero => intro y hy; simp [keysP] at hy
    | succ k =>
      have h1 := (itAt_zero (h (k + 1) (by omega))).2 (by omega)
      rw [show k + 1 - 1 = k from rfl] at h1
      intro y hy
      rw [keysP_snoc] at hy
      rcases List.mem_append.1 hy with hy | hy
      · have h2 := ih (by omega)
        rw [keysP_snoc] at h2
        exact kLt_tr ((List.pairwise_append.1 h2).2.2 y hy _ (List.mem_singleton.2 rfl)) h1
      · rw [List.mem_singleton] at hy; subst hy; exact h1
theorem keysP_mem {p : Pm} {k : Nat} {b : ByteArray} (h : b ∈ keysP p k) : ∃ i, i < k ∧ b = (p.T i).k := by
  unfold keysP at h
  obtain ⟨i, hi, rfl⟩ := List.mem_map.1 h
  exact ⟨i, List.mem_range.1 hi, rfl⟩
theorem keys_below {P : Nat → Pm} : ∀ n, (∀ i, i < n → GoodP P i) → ahOp P n = false → ∀ a ∈ keysL P n, kLt a (ahHi P n) = true
  | 0, _, _ => fun a ha => by simp [keysL] at ha
  | n + 1, hg, ho => fun a ha => by
    have g := hg n (by omega)
    simp only [keysL, List.mem_append] at ha
    simp only [ahHi]
    simp only [ahOp] at ho
    rcases ha with ha | ha
    · have h1 := keys_below n (fun i hi => hg i (by omega)) g.op a ha
      have h2 : kLt a (P n).lo = true := kLt_le h1 g.lo
      exact kLt_le h2 (chk_le g.chk ho)
    · obtain ⟨i, hi, rfl⟩ := keysP_mem ha
      exact has_lt (itAt_zero (g.its i hi)).1 ho
theorem keysL_rises {P : Nat → Pm} : ∀ n, (∀ i, i < n → GoodP P i) → RisesB (keysL P n)
  | 0, _ => List.Pairwise.nil
  | n + 1, hg => by
    have g := hg n (by omega)
    refine List.pairwise_append.2 ⟨keysL_rises n (fun i hi => hg i (by omega)), keysP_rises g.its _ (Nat.le_refl _), fun a ha b hb => ?_⟩
    have h1 := keys_below n (fun i hi => hg i (by omega)) g.op a ha
    obtain ⟨i, hi, rfl⟩ := keysP_mem hb
    exact kLt_le (kLt_le h1 g.lo) (has_ge (itAt_zero (g.its i hi)).1)
theorem goods {P : Nat → Pm} {n : Nat} (h : psChk P n = 0) : n ≤ 768 ∧ totE P n ≤ 256 ∧ ∀ i, i < n → GoodP P i := by
  unfold psChk at h
  by_cases g : 768 < n ∨ 256 < totE P n
  · rw [if_pos g] at h; cases h
  · rw [if_neg g] at h
    exact ⟨by omega, by omega, fun i hi => good_of (ptN_all h i hi)⟩
/-- A block that is no row stays under an append to a row. -/
theorem blk_grown {w w' : World} {k r : Nat} {o : Obj} (h : w.heap[k]? = some o) (hg : w.grownBy w' (some r)) (hne : k ≠ r) : w'.heap[k]? = some o := by
  obtain ⟨_, _, _, _, hb⟩ := hg
  rw [hb k (Array.getElem?_eq_some_iff.1 h).1 (fun e => hne (by cases e; rfl))]
  exact h
theorem own_grown {w w' : World} {B e s g n c r : Nat} {xs : List Value} (h : w.ownsRow B e s (.slice (some ⟨g, 0, none⟩) n c) n xs) (hg : w.grownBy w' (some r)) (hne : g ≠ r) : w'.ownsRow B e s (.slice (some ⟨g, 0, none⟩) n c) n xs := by
  refine ⟨h.1, ?_⟩
  rcases h.2 with ⟨h1, _⟩ | ⟨g', cap, cur, h1, h2, h3, h4⟩
  · cases h1
  · injection h1 with e1 e2 e3
    injection e1 with e1
    injection e1 with e1
    subst e1
    exact .inr ⟨g, cap, cur, by rw [e3], h2, blk_grown h3 hg hne, h4⟩
end Go.Proofs.Ytbnppmkdhnpdfaa
namespace Go.Proofs.Ytbnppmkdhnpdfaa
open Go.RowKit
set_option linter.unusedVariables false
theorem fchk_zero {fr tz o l n tn : Int} {P : Nat → Pm} {len : Nat} (h : fChk fr tz o l n tn P len = 0) : endsB fr tz o = true ∧ Nm.chk o l n = 0 ∧ turnB tn fr o = true ∧ psChk P len = 0 := by
  unfold fChk at h
  cases h1 : endsB fr tz o
  · rw [if_pos h1] at h; cases h
  · rw [if_neg (by simp [h1])] at h
    by_cases h2 : Nm.chk o l n = 0
    · rw [if_neg (by simp [h2])] at h
      cases h3 : turnB tn fr o
      · rw [if_pos h3] at h; cases h
      · rw [if_neg (by simp [h3])] at h
        by_cases h4 : psChk P len = 0
        · exact ⟨rfl, h2, rfl, h4⟩
        · rw [if_pos h4] at h; exact absurd h h4
    · rw [if_pos h2] at h; exact absurd h h2
end Go.Proofs.Ytbnppmkdhnpdfaa
namespace Go.Proofs.Ytbnppmkdhnpdfaa
open Go.RowKit
set_option linter.unusedVariables false
theorem dec_any (a : Option Addr) (len cap : Nat) (l : List UInt8) (w : World) (hR : ∀ w', Below w.heap.size w w' → Reads w' (.slice a len cap) l) (hlen : len = l.length) :
    Calls Try.prog 14 #[.slice a len cap] w (DecP w l) := by
  rcases hf : frameSt l with ⟨⟨fr, tz, o, lf, n, tn, ps⟩, p, e⟩
  by_cases hl : 65536 < len
  · exact dec_long a len cap l w hR hl (decF_no hf (fun h => by omega))
  · obtain ⟨q, hq⟩ : ∃ q, doneOf ((l.length : Int) - (p : Int)) e = q := ⟨_, rfl⟩
    by_cases hq0 : q = 0
    · subst hq0
      obtain ⟨rfl, -⟩ := done_zero hq
      obtain ⟨hok, -⟩ := frame_inv hf
      obtain ⟨ch, hch⟩ : ∃ ch, FV.chk ⟨fr, tz, o, lf, n, tn, ps⟩ = ch := ⟨_, rfl⟩
      by_cases hc0 : ch = 0
      · exact dec_ok a len cap l w hR (by omega) (by omega) hf hq rfl hok hch hc0 (decF_ok hf (by omega) hq (by rw [hch]; exact hc0))
      · exact dec_chk a len cap l w hR (by omega) (by omega) hf hq rfl hok hch hc0 (decF_no hf (fun h => hc0 (by rw [← hch]; exact h.2.2)))
    · exact dec_done a len cap l w hR (by omega) (by omega) hf hq hq0 (decF_no hf (fun h => hq0 (by rw [← hq]; exact h.2.1)))
theorem decF_put {F : FV} (h : FVok F) (hc : F.chk = 0) (hl : (frameB F).length ≤ 65536) : decF (frameB F) = some F := by
  have h1 := frame_put h (show frameB F = frameB F ++ [] by simp)
  refine decF_ok h1 hl ?_ hc
  unfold doneOf
  rw [if_neg (by omega)]
theorem decF_more {F : FV} {x : List UInt8} (h : FVok F) (hx : x ≠ []) : decF (frameB F ++ x) = none := by
  have h1 := frame_put h (show frameB F ++ x = frameB F ++ x from rfl)
  refine decF_no h1 (fun h => ?_)
  have h2 := (done_zero h.2.1).2
  apply h2
  have : 0 < x.length := List.length_pos_iff.2 hx
  rw [List.length_append]
  omega
/-- What was decoded was written so. -/
theorem decF_inv {l : List UInt8} {F : FV} (h : decF l = some F) : FVok F ∧ F.chk = 0 ∧ l = frameB F ∧ l.length ≤ 65536 := by
  rcases hf : frameSt l with ⟨G, p, e⟩
  by_cases hc : l.length ≤ 65536 ∧ doneOf ((l.length : Int) - (p : Int)) e = 0 ∧ G.chk = 0
  · rw [decF_ok hf hc.1 hc.2.1 hc.2.2] at h
    injection h with h
    subst h
    obtain ⟨rfl, hd⟩ := done_zero hc.2.1
    obtain ⟨h1, h2, h3⟩ := frame_inv hf
    refine ⟨h1, hc.2.2, ?_, hc.1⟩
    rw [List.drop_of_length_le (by omega), List.append_nil] at h2
    exact h2
  · rw [decF_no hf hc] at h
    cases h
theorem own_pre {w : World} {B g n m cap : Nat} {xs : List Value} (h : w.ownsRow B 5 1 (.slice (some ⟨g, 0, none⟩) n cap) n xs) (hm : m ≤ n) : w.ownsRow B 5 1 (.slice (some ⟨g, 0, none⟩) m cap) m (xs.take m) := by
  refine ⟨by rw [List.length_take, h.1]; omega, ?_⟩
  rcases h.2 with ⟨h1, _⟩ | ⟨g', cap', cur, h1, h2, h3, h4, h5, h6, h7⟩
  · cases h1
  · injection h1 with e1 e2 e3
    injection e1 with e1
    injection e1 with e1
    subst e1 e3
    refine .inr ⟨g, cap, cur, rfl, h2, h3, by omega, h5, h6, ?_⟩
    rw [← h7, List.take_take, Nat.min_eq_left (by omega)]; simp
/-- Bytes of a block appended to an owned row that is not nil: the row grows in its place, or a new one is laid. -/
theorem op_append_bytes {w : World} {o : Oper} {act : Act} {K : Act → World → Prop} {Q : Exit → Act → World → Prop} (s x : Operand)
    (ho : o.op = .call { callee := .builtin .append, args := #[s, x], argTypes := #[30, 30] })
    (B n g0 c0 : Nat) (xs : List Value) (hs : act.eval s = .slice (some ⟨g0, 0, none⟩) n c0) (hA : w.ownsRow B 5 1 (.slice (some ⟨g0, 0, none⟩) n c0) n xs) (b m c : Nat) (news : List Value) (hx : act.eval x = .slice (some ⟨b, 0, none⟩) m c)
    (hc : ∀ j u, news[j]? = some u → w.cell? ((⟨b, 0, none⟩ : Addr).add j) = some u) (hn : news.length = m) (h1c : ∀ u ∈ news, u.oneCell' = true) (hlen : n + m ≤ 140737488351232) (hB : B ≤ w.heap.size) (hm : 0 < m)
    (h : ∀ g cap w', w'.ownsRow B 5 1 (.slice (some ⟨g, 0, none⟩) (n + m) cap) (n + m) (xs ++ news) → ((g = g0 ∧ cap = c0 ∧ w.grownBy w' (some g0)) ∨ (w.heap.size ≤ g ∧ w.grownBy w' none)) → K (act.put o.dst (.slice (some ⟨g, 0, none⟩) (n + m) cap)) w') : o.wp Try.prog act w K Q := by
  obtain ⟨i0, hi, hz0, hz1, hz2⟩ := info_parts info8
  by_cases hroom : n + m ≤ c0
  · obtain ⟨w', hrun, r1, r2⟩ := run_append_fits (P := Try.prog) w B 30 o.type 5 i0 1 Try.underlying30 hi hz1 g0 n c0 xs hA ⟨b, 0, none⟩ m c news (by rw [hn]; omega) hc h1c hroom
    unfold Oper.wp
    simp [execOp, ho, resolve, invoke, builtin, hs, hx, hrun, Result.andThen]
    exact h g0 c0 w' r1 (.inl ⟨rfl, rfl, r2⟩)
  · have hl : xs.length = n * 1 := hA.1
    obtain ⟨v', w', hrun, r1, r2⟩ := run_append_arg_grows (P := Try.prog) w 30 o.type 5 i0 _ 1 1 Try.underlying30 hi hz0 hz1 hz2 rfl (by decide) ⟨g0, 0, none⟩ n c0 xs hl (fun j u hj => by
      have hjl : j < n * 1 := by rw [← hl]; exact (List.getElem?_eq_some_iff.1 hj).1
      rw [Addr.add_lit, Nat.zero_add, hA.cellAt j (by omega)]
      exact hj) ⟨b, 0, none⟩ m c news (by rw [hn]; omega) hc (by omega) (by unfold maxLen; omega) (by omega)
    unfold Oper.wp
    simp [execOp, ho, resolve, invoke, builtin, hs, hx, hrun, Result.andThen]
    rcases r1.2 with ⟨h1, h2⟩ | ⟨g, cap', cur, rfl, hge, _⟩
    · omega
    · exact h g cap' w' (own_low r1 hB) (.inr ⟨hge, r2⟩)
/-- What is wrong with nothing wrong: a frame whose bytes can be read again. -/
theorem part_ok {P : Nat → Pm} {i : Nat} (h : ptAt P i = 0) (hel : (P i).el ≤ 256) (hu : (0 ≤ (P i).s0 ∧ (P i).s0 < 18446744073709551616) ∧ 0 ≤ (P i).s1 ∧ (P i).s1 < 18446744073709551616) : PVok (pvOf (P i)) := by
  have g := good_of h
  have hr := g.chk
  unfold ptAt Pm.chk at h
  have hal : (P i).alone = true := by
    cases h1 : (P i).alone
    · rw [if_pos h1] at h; cases h
    · rfl
  rw [if_neg (by simp [hal]), if_neg (by simp [hr]), if_neg (by rw [g.emp, g.op, g.lo]; simp)] at h
  have hk : (P i).kind = 1 ∨ (P i).kind = 2 ∨ (P i).kind = 3 := by
    unfold Pm.alone at hal
    split at hal
    · rename_i e; exact .inl e
    · split at hal
      · rename_i e; exact .inr e
      · cases hal
  have hrg : (P i).lo.size ≤ 16 ∧ (P i).hi.size ≤ 16 ∧ ((P i).op = true → (P i).hi = ⟨#[]⟩) := by
    unfold Rg.chk Pm.rg at hr
    dsimp only at hr
    split at hr
    · cases hr
    · rename_i e
      refine ⟨by omega, by omega, fun ho => ?_⟩
      split at hr
      · cases hr
      · rename_i e2
        rw [ho] at e2
        simp only [Bool.true_and, Bool.not_true, Bool.false_and, Bool.or_false] at e2
        have e3 : (P i).hi.toList.isEmpty = true := by
          cases hE : (P i).hi.toList.isEmpty
          · rw [hE] at e2; simp at e2
          · rfl
        rw [ByteArray.toList_eq] at e3
        generalize (P i).hi = x at e3
        obtain ⟨⟨y⟩⟩ := x
        simp at e3
        rw [e3]
  refine ⟨hk, hrg.1, hrg.2.1, hrg.2.2, fun e => ?_, fun e => ?_⟩
  · have e' : (P i).kind = 1 := e
    rw [if_pos e'] at h
    unfold Pm.alone at hal
    rw [if_pos e'] at hal
    have h0 : (P i).el = 0 := by simpa using hal
    unfold tlChk at h
    refine ⟨by unfold pvOf; dsimp only; rw [h0]; rfl, ?_⟩
    unfold pvOf
    dsimp only
    split at h
    · cases h
    · omega
  · have e' : ¬ (P i).kind = 1 := e
    unfold Pm.alone at hal
    rw [if_neg e', if_pos (by omega)] at hal
    simp only [Bool.and_eq_true, beq_iff_eq] at hal
    unfold pvOf
    dsimp only
    refine ⟨hal.1, by omega, by omega, by rw [eFirst_len]; exact hel, fun x hx => ?_⟩
    obtain ⟨k, hk, rfl⟩ := List.mem_map.1 hx
    have := g.its k (List.mem_range.1 hk)
    unfold itAt at this
    by_cases h1 : ((P i).T k).chk = 0
    · exact h1
    · rw [if_pos h1] at this; exact absurd this h1
theorem frame_ok {fr tz o l n tn : Int} {P : Nat → Pm} {len : Nat} (h : fChk fr tz o l n tn P len = 0) (hu : ∀ i, i < len → (0 ≤ (P i).s0 ∧ (P i).s0 < 18446744073709551616) ∧ 0 ≤ (P i).s1 ∧ (P i).s1 < 18446744073709551616) : FVok ⟨fr, tz, o, l, n, tn, psOf P len⟩ := by
  obtain ⟨h1, h2, h3, h4⟩ := fchk_zero h
  obtain ⟨g1, g2, g3⟩ := goods h4
  have hpt : ∀ i, i < len → ptAt P i = 0 := by
    unfold psChk at h4
    rw [if_neg (by omega)] at h4
    exact ptN_all h4
  unfold Nm.chk at h2
  have h2' : 0 ≤ o ∧ o ≤ 7 ∧ 1 ≤ l ∧ l ≤ 1048576 ∧ 1 ≤ n ∧ n ≤ 1048576 := by
    split at h2
    · omega
    · split at h2 <;> omega
  unfold endsB nodeB at h1
  simp only [Bool.and_eq_true, decide_eq_true_eq] at h1
  unfold turnB at h3
  simp only [Bool.and_eq_true, decide_eq_true_eq] at h3
  refine ⟨by dsimp only; omega, by dsimp only; omega, by dsimp only; omega, by dsimp only; omega, by dsimp only; omega, by dsimp only; omega, by dsimp only; rw [psOf_len]; exact g1, fun v hv => ?_⟩
  obtain ⟨i, hi, rfl⟩ := List.mem_map.1 hv
  have hi' := List.mem_range.1 hi
  exact part_ok (hpt i hi') (by have := el_totE P hi'; omega) (hu i hi')
end Go.Proofs.Ytbnppmkdhnpdfaa
namespace Go.Proofs.Ytbnppmkdhnpdfaa
open Go.RowKit
set_option linter.unusedVariables false
def firstEF (T : Nat → En) (n : Nat) : List En := (List.range n).map T
/-- Parts and their entries in rows of their own, apart from one another. -/
structure OwnF (w : World) (B g n cp : Nat) (P : Nat → Pm) : Prop where
  row : w.ownsRow B 46 8 (.slice (some ⟨g, 0, none⟩) n cp) n (ptCells (firstP P n))
  ent : ∀ i, i < n → ∃ ge, (P i).ea = some ⟨ge, 0, none⟩ ∧ w.ownsRow B 50 5 (.slice (some ⟨ge, 0, none⟩) (P i).el (P i).ec) (P i).el (entCells (firstEF (P i).T (P i).el))
  apart : ∀ i j, i < n → j < n → i ≠ j → (P i).ea ≠ (P j).ea
  keys : ∀ i, i < n → ∀ k, k < (P i).el → ((P i).T k).k.size ≤ 140737488351232
theorem OwnF.on {w w' : World} {B g n cp : Nat} {P : Nat → Pm} (h : OwnF w B g n cp P) (b : Below w.heap.size w w') : OwnF w' B g n cp P :=
  ⟨own_on h.row b, fun i hi => by obtain ⟨ge, h1, h2⟩ := h.ent i hi; exact ⟨ge, h1, own_on h2 b⟩, h.apart, h.keys⟩
theorem OwnF.grown {w w' : World} {B g n cp r : Nat} {P : Nat → Pm} (h : OwnF w B g n cp P) (hg : w.grownBy w' (some r)) (h1 : g ≠ r) (h2 : ∀ i, i < n → ∀ ge, (P i).ea = some ⟨ge, 0, none⟩ → ge ≠ r) : OwnF w' B g n cp P :=
  ⟨own_grown h.row hg h1, fun i hi => by obtain ⟨ge, k1, k2⟩ := h.ent i hi; exact ⟨ge, k1, own_grown k2 hg (h2 i hi ge k1)⟩, h.apart, h.keys⟩
theorem OwnF.low {w : World} {B C g n cp : Nat} {P : Nat → Pm} (h : OwnF w B g n cp P) (hb : C ≤ B) : OwnF w C g n cp P :=
  ⟨own_low h.row hb, fun i hi => by obtain ⟨ge, k1, k2⟩ := h.ent i hi; exact ⟨ge, k1, own_low k2 hb⟩, h.apart, h.keys⟩
end Go.Proofs.Ytbnppmkdhnpdfaa
