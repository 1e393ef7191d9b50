/-
  Writers by what they hold; ranges and tallies written.
  Two writers, the code's and the document's own, that share no memory; each may hold other bytes. And a list of entries that came in.
  Bytes and Of, the code's and the document's own, by contracts.
  A part written.
-/
import Derived.Test.YtbnppmkdhnpdfaaBy14
import Derived.Test.YtbnppmkdhnpdfaaBy5
import Derived.Test.YtbnppmkdhnpdfaaBy4
import Derived.Test.YtbnppmkdhnpdfaaBy15
import Derived.Deep.CutBlock
import Derived.Deep.DeepCutAuto
import Derived.Lib.SmallJoins
import Derived.Test.YtbnppmkdhnpdfaaBy13
namespace Go.Proofs.Ytbnppmkdhnpdfaa
open Go.RowKit
set_option linter.unusedVariables false
/-- A writer in block b that holds l; its row lies above B. -/
def WS (B b : Nat) (l : List UInt8) (w : World) : Prop := ∃ g, IsW 86 B b g l w
/-- What a writer's call keeps: all below B, and all blocks that are neither rows of bytes nor writers. -/
structure WK (B : Nat) (w w' : World) : Prop where
  bel : Below B w w'
  blk : ∀ (i : Nat) (cs : Array Value) (T : TypeId), T ≠ 5 → T ≠ 86 → w.heap[i]? = some (Obj.cells cs T (0, 0)) → w'.heap[i]? = some (Obj.cells cs T (0, 0))
theorem WK.trans {B : Nat} {w w1 w2 : World} (h : WK B w w1) (k : WK B w1 w2) : WK B w w2 := ⟨h.bel.trans k.bel, fun i cs T h1 h2 h3 => k.blk i cs T h1 h2 (h.blk i cs T h1 h2 h3)⟩
theorem WK.of {B b : Nat} {g : Option Nat} {l : List UInt8} {w w' : World} (h : IsW 86 B b g l w) (hB : B ≤ w.heap.size) (k : Keeps (fun k => k = b ∨ g = some k) w w') : WK B w w' := by
  have hr := h.row
  obtain ⟨hb, hg, v, hv, rfl, hown⟩ := h
  refine ⟨k.below hB (fun i hi e => ?_), fun i cs T h1 h2 h3 => (k.block i (Array.getElem?_eq_some_iff.1 h3).1 (fun e => ?_)).trans h3⟩
  · rcases e with e | e
    · omega
    · have := (hr i e).1; omega
  · rcases e with e | e
    · subst e
      rw [hv] at h3
      injection h3 with h3
      injection h3 with _ h3 _
      exact h2 h3.symm
    · exact own_nots hown h3 (fun e => h1 e.symm) e
theorem WS.keep {B b : Nat} {l : List UInt8} {w w' : World} (h : WS B b l w) (k : Below w.heap.size w w') : WS B b l w' := by
  obtain ⟨g, hg⟩ := h
  exact ⟨g, hg.keep (Keeps.of_below k (fun _ => False)) (fun h => h) (fun j _ h => h)⟩
theorem WK.of_below {B : Nat} {w w' : World} (hB : B ≤ w.heap.size) (k : Below w.heap.size w w') : WK B w w' := ⟨k.mono hB, fun i cs T _ _ h => blk_on h k⟩
theorem ws_num {B b : Nat} {l : List UInt8} {w : World} (n : Int) (h : WS B b l w) (hB : B ≤ w.heap.size) (hn : n ≤ 9223372036854775807) (hn0 : -9223372036854775808 ≤ n) (hl : l.length ≤ 17592186044416) :
    Calls Try.prog 23 #[.pointer (some ⟨b, 0, none⟩), .int .i64 n] w fun e w' => e = .returned (.tuple #[]) ∧ WS B b (l ++ Nm.enc 8 (up n)) w' ∧ WK B w w' := by
  obtain ⟨g, hg⟩ := h
  exact (wnum_any B b g l n w hg hB hn hn0 (by omega)).mono (by rintro e w' ⟨rfl, g', h1, h2, h3⟩; exact ⟨rfl, ⟨g', h1⟩, WK.of hg hB h3⟩)
theorem ws_text {B b : Nat} {l : List UInt8} {w : World} (s : ByteArray) (h : WS B b l w) (hB : B ≤ w.heap.size) (hl : l.length ≤ 17592186044416) (hs : s.size ≤ 17592186044416) :
    Calls Try.prog 71 #[.pointer (some ⟨b, 0, none⟩), .string s] w fun e w' => e = .returned (.tuple #[]) ∧ WS B b (l ++ strB s) w' ∧ WK B w w' := by
  obtain ⟨g, hg⟩ := h
  exact (wtext_any B b g l s w hg hB (by omega) (by omega)).mono (by rintro e w' ⟨rfl, g', h1, h2, h3⟩; exact ⟨rfl, ⟨g', h1⟩, WK.of hg hB h3⟩)
theorem ws_flag {B b : Nat} {l : List UInt8} {w : World} (d : Bool) (h : WS B b l w) (hB : B ≤ w.heap.size) (hl : l.length ≤ 17592186044416) :
    Calls Try.prog 72 #[.pointer (some ⟨b, 0, none⟩), .bool d] w fun e w' => e = .returned (.tuple #[]) ∧ WS B b (l ++ flagB d) w' ∧ WK B w w' := by
  obtain ⟨g, hg⟩ := h
  exact (wflag_any B b g l d w hg hB (by omega)).mono (by rintro e w' ⟨rfl, g', h1, h2, h3⟩; exact ⟨rfl, ⟨g', h1⟩, WK.of hg hB h3⟩)
theorem ws_word {B b : Nat} {l : List UInt8} {w : World} (u : Nat) (h : WS B b l w) (hB : B ≤ w.heap.size) (hu : u < 18446744073709551616) (hl : l.length ≤ 17592186044416) :
    Calls Try.prog 73 #[.pointer (some ⟨b, 0, none⟩), .int .u64 (u : Int)] w fun e w' => e = .returned (.tuple #[]) ∧ WS B b (l ++ wordB u) w' ∧ WK B w w' := by
  obtain ⟨g, hg⟩ := h
  exact (wword_any B b g l u w hg hB hu (by omega)).mono (by rintro e w' ⟨rfl, g', h1, h2, h3⟩; exact ⟨rfl, ⟨g', h1⟩, WK.of hg hB h3⟩)
theorem ws_ent {B b : Nat} {l : List UInt8} {w : World} (x : En) (h : WS B b l w) (hB : B ≤ w.heap.size) (hc : x.chk = 0) (hl : l.length ≤ 17592186044416) :
    Calls Try.prog 53 #[.pointer (some ⟨b, 0, none⟩), .agg #[.string x.k, .int .i64 x.c, .int .i64 x.n, .string x.v, .bool x.d]] w fun e w' => e = .returned (.tuple #[]) ∧ WS B b (l ++ entB x) w' ∧ WK B w w' := by
  obtain ⟨g, hg⟩ := h
  obtain ⟨k, c, n, v, d⟩ := x
  exact (put_any B b g l k c n v d w hg hB hl).mono (by rintro e w' ⟨rfl, g', h1, h2, h3⟩; rw [putB_yes hc] at h1; exact ⟨rfl, ⟨g', h1⟩, WK.of hg hB h3⟩)
theorem ws_bytes {B b : Nat} {l : List UInt8} {w : World} (h : WS B b l w) (hl : l.length ≤ 17592186044416) :
    Calls Try.prog 25 #[.pointer (some ⟨b, 0, none⟩)] w fun e w' => ∃ v', e = .returned v' ∧ w'.ownsRow w.heap.size 5 1 v' l.length (Lib.byteCells l) ∧ Below w.heap.size w w' := by
  obtain ⟨g, hg⟩ := h
  exact (bytes_any B b g l w hg (by omega)).mono (by rintro e w' ⟨v', rfl, h1, h2⟩; exact ⟨v', rfl, h1, h2.below (Nat.le_refl _) (fun k _ h => h)⟩)
theorem enc9 (n : Nat) : (Nm.enc 8 n).length ≤ 9 := (Nm.enc_length 8 n).2
theorem strB_len (s : ByteArray) : (strB s).length ≤ s.size + 9 := by
  unfold strB
  rw [List.length_append, blen]
  have := enc9 s.size
  omega
set_option maxRecDepth 100000 in
set_option maxHeartbeats 3200000 in
theorem wrng_open {B b : Nat} {l : List UInt8} {w : World} (lo hi : ByteArray) (h : WS B b l w) (hB : B ≤ w.heap.size) (hl : l.length ≤ 8796093022208) (h1 : lo.size ≤ 16) (h2 : hi.size ≤ 16) :
    Calls Try.prog 51 #[.pointer (some ⟨b, 0, none⟩), .agg #[.string lo, .string hi, .bool true]] w fun e w' => e = .returned (.tuple #[]) ∧ WS B b (l ++ rgB lo hi true) w' ∧ WK B w w' := by
  have KB0 := aside (heap_alloc_new w (.cells #[.string lo, .string hi, .bool true] 38))
  have bn := bnew w (.cells #[.string lo, .string hi, .bool true] 38)
  have KK := aside (WK.of_below hB bn)
  have WW := aside (h.keep bn)
  have HZ := aside (Nat.le_trans hB bn.size)
  clear h bn
  go_enter Try.func51, Try.ntmps51
  go_upto_region 1 with fail
  obtain ⟨i0, hi0⟩ : ∃ i0, w.heap.size = i0 := ⟨_, rfl⟩
  rw [hi0] at KB0 ⊢
  clear hi0
  generalize w.alloc (.cells #[.string lo, .string hi, .bool true] 38) = X0 at KB0 KK WW HZ ⊢
  have c0_0 : X0.cell? ⟨i0, 0, none⟩ = some (.string lo) := by rw [cell_of_row _ _ 0 _ _ _ KB0.out]; rfl
  have c0_1 : X0.cell? ⟨i0, 1, none⟩ = some (.string hi) := by rw [cell_of_row _ _ 1 _ _ _ KB0.out]; rfl
  have c0_2 : X0.cell? ⟨i0, 2, none⟩ = some (.bool true) := by rw [cell_of_row _ _ 2 _ _ _ KB0.out]; rfl
  go_wp2_with fail
  refine (ws_text lo WW.out HZ.out (by omega) (by omega)).mono ?_
  rintro r w1 ⟨rfl, W1, k1⟩
  clear c0_0 c0_1 c0_2
  replace KB0 := aside (k1.blk _ _ _ (by decide) (by decide) KB0.out)
  replace KK := aside (KK.out.trans k1)
  replace HZ := aside (Nat.le_trans HZ.out k1.bel.size)
  replace WW := aside W1
  clear k1 W1
  have c0_0 : w1.cell? ⟨i0, 0, none⟩ = some (.string lo) := by rw [cell_of_row _ _ 0 _ _ _ KB0.out]; rfl
  have c0_1 : w1.cell? ⟨i0, 1, none⟩ = some (.string hi) := by rw [cell_of_row _ _ 1 _ _ _ KB0.out]; rfl
  have c0_2 : w1.cell? ⟨i0, 2, none⟩ = some (.bool true) := by rw [cell_of_row _ _ 2 _ _ _ KB0.out]; rfl
  go_wp2_with fail
  refine (ws_flag true WW.out HZ.out (by simp only [List.length_append]; have := strB_len lo; omega)).mono ?_
  rintro r w2 ⟨rfl, W1, k1⟩
  clear c0_0 c0_1 c0_2
  replace KB0 := aside (k1.blk _ _ _ (by decide) (by decide) KB0.out)
  replace KK := aside (KK.out.trans k1)
  replace HZ := aside (Nat.le_trans HZ.out k1.bel.size)
  replace WW := aside W1
  clear k1 W1
  have c0_0 : w2.cell? ⟨i0, 0, none⟩ = some (.string lo) := by rw [cell_of_row _ _ 0 _ _ _ KB0.out]; rfl
  have c0_1 : w2.cell? ⟨i0, 1, none⟩ = some (.string hi) := by rw [cell_of_row _ _ 1 _ _ _ KB0.out]; rfl
  have c0_2 : w2.cell? ⟨i0, 2, none⟩ = some (.bool true) := by rw [cell_of_row _ _ 2 _ _ _ KB0.out]; rfl
  go_wp2
  go_end0
  refine ⟨rfl, ?_, KK.out⟩
  have := WW.out
  simpa [rgB, List.append_assoc] using this
set_option maxRecDepth 100000 in
set_option maxHeartbeats 3200000 in
theorem wrng_shut {B b : Nat} {l : List UInt8} {w : World} (lo hi : ByteArray) (h : WS B b l w) (hB : B ≤ w.heap.size) (hl : l.length ≤ 8796093022208) (h1 : lo.size ≤ 16) (h2 : hi.size ≤ 16) :
    Calls Try.prog 51 #[.pointer (some ⟨b, 0, none⟩), .agg #[.string lo, .string hi, .bool false]] w fun e w' => e = .returned (.tuple #[]) ∧ WS B b (l ++ rgB lo hi false) w' ∧ WK B w w' := by
  have KB0 := aside (heap_alloc_new w (.cells #[.string lo, .string hi, .bool false] 38))
  have bn := bnew w (.cells #[.string lo, .string hi, .bool false] 38)
  have KK := aside (WK.of_below hB bn)
  have WW := aside (h.keep bn)
  have HZ := aside (Nat.le_trans hB bn.size)
  clear h bn
  go_enter Try.func51, Try.ntmps51
  go_upto_region 1 with fail
  obtain ⟨i0, hi0⟩ : ∃ i0, w.heap.size = i0 := ⟨_, rfl⟩
  rw [hi0] at KB0 ⊢
  clear hi0
  generalize w.alloc (.cells #[.string lo, .string hi, .bool false] 38) = X0 at KB0 KK WW HZ ⊢
  have c0_0 : X0.cell? ⟨i0, 0, none⟩ = some (.string lo) := by rw [cell_of_row _ _ 0 _ _ _ KB0.out]; rfl
  have c0_1 : X0.cell? ⟨i0, 1, none⟩ = some (.string hi) := by rw [cell_of_row _ _ 1 _ _ _ KB0.out]; rfl
  have c0_2 : X0.cell? ⟨i0, 2, none⟩ = some (.bool false) := by rw [cell_of_row _ _ 2 _ _ _ KB0.out]; rfl
  go_wp2_with fail
  refine (ws_text lo WW.out HZ.out (by omega) (by omega)).mono ?_
  rintro r w1 ⟨rfl, W1, k1⟩
  clear c0_0 c0_1 c0_2
  replace KB0 := aside (k1.blk _ _ _ (by decide) (by decide) KB0.out)
  replace KK := aside (KK.out.trans k1)
  replace HZ := aside (Nat.le_trans HZ.out k1.bel.size)
  replace WW := aside W1
  clear k1 W1
  have c0_0 : w1.cell? ⟨i0, 0, none⟩ = some (.string lo) := by rw [cell_of_row _ _ 0 _ _ _ KB0.out]; rfl
  have c0_1 : w1.cell? ⟨i0, 1, none⟩ = some (.string hi) := by rw [cell_of_row _ _ 1 _ _ _ KB0.out]; rfl
  have c0_2 : w1.cell? ⟨i0, 2, none⟩ = some (.bool false) := by rw [cell_of_row _ _ 2 _ _ _ KB0.out]; rfl
  go_wp2_with fail
  refine (ws_flag false WW.out HZ.out (by simp only [List.length_append]; have := strB_len lo; omega)).mono ?_
  rintro r w2 ⟨rfl, W1, k1⟩
  clear c0_0 c0_1 c0_2
  replace KB0 := aside (k1.blk _ _ _ (by decide) (by decide) KB0.out)
  replace KK := aside (KK.out.trans k1)
  replace HZ := aside (Nat.le_trans HZ.out k1.bel.size)
  replace WW := aside W1
  clear k1 W1
  have c0_0 : w2.cell? ⟨i0, 0, none⟩ = some (.string lo) := by rw [cell_of_row _ _ 0 _ _ _ KB0.out]; rfl
  have c0_1 : w2.cell? ⟨i0, 1, none⟩ = some (.string hi) := by rw [cell_of_row _ _ 1 _ _ _ KB0.out]; rfl
  have c0_2 : w2.cell? ⟨i0, 2, none⟩ = some (.bool false) := by rw [cell_of_row _ _ 2 _ _ _ KB0.out]; rfl
  go_wp2_with fail
  refine (ws_text hi WW.out HZ.out (by simp only [List.length_append, flagB, List.length_singleton]; have := strB_len lo; omega) (by omega)).mono ?_
  rintro r w3 ⟨rfl, W1, k1⟩
  clear c0_0 c0_1 c0_2
  replace KB0 := aside (k1.blk _ _ _ (by decide) (by decide) KB0.out)
  replace KK := aside (KK.out.trans k1)
  replace HZ := aside (Nat.le_trans HZ.out k1.bel.size)
  replace WW := aside W1
  clear k1 W1
  go_wp2
  go_end0
  refine ⟨rfl, ?_, KK.out⟩
  have := WW.out
  simpa [rgB, List.append_assoc] using this
theorem wrng_any {B b : Nat} {l : List UInt8} {w : World} (lo hi : ByteArray) (op : Bool) (h : WS B b l w) (hB : B ≤ w.heap.size) (hl : l.length ≤ 8796093022208) (h1 : lo.size ≤ 16) (h2 : hi.size ≤ 16) :
    Calls Try.prog 51 #[.pointer (some ⟨b, 0, none⟩), .agg #[.string lo, .string hi, .bool op]] w fun e w' => e = .returned (.tuple #[]) ∧ WS B b (l ++ rgB lo hi op) w' ∧ WK B w w' := by
  cases op
  · exact wrng_shut lo hi h hB hl h1 h2
  · exact wrng_open lo hi h hB hl h1 h2
set_option maxRecDepth 100000 in
set_option maxHeartbeats 3200000 in
theorem wtally_any {B b : Nat} {l : List UInt8} {w : World} (c : Int) (a d : Nat) (h : WS B b l w) (hB : B ≤ w.heap.size) (hl : l.length ≤ 8796093022208) (hc : -9223372036854775808 ≤ c) (hc2 : c ≤ 9223372036854775807) (ha : a < 18446744073709551616) (hd : d < 18446744073709551616) :
    Calls Try.prog 52 #[.pointer (some ⟨b, 0, none⟩), .agg #[.int .i64 c, .int .u64 (a : Int), .int .u64 (d : Int)]] w fun e w' => e = .returned (.tuple #[]) ∧ WS B b (l ++ (Nm.enc 8 (up c) ++ (wordB a ++ wordB d))) w' ∧ WK B w w' := by
  have ix0 : ∀ w : World, (Instr.index 41 (.agg #[.int .u64 (a : Int), .int .u64 (d : Int)]) (.int .i64 0)).run Try.prog w = .ok (.int .u64 (a : Int)) w := fun _ => by kernel_rfl
  have ix1 : ∀ w : World, (Instr.index 41 (.agg #[.int .u64 (a : Int), .int .u64 (d : Int)]) (.int .i64 1)).run Try.prog w = .ok (.int .u64 (d : Int)) w := fun _ => by kernel_rfl
  have KB0 := aside (heap_alloc_new w (.cells #[.int .i64 c, .int .u64 (a : Int), .int .u64 (d : Int)] 43))
  have bn := bnew w (.cells #[.int .i64 c, .int .u64 (a : Int), .int .u64 (d : Int)] 43)
  have KK := aside (WK.of_below hB bn)
  have WW := aside (h.keep bn)
  have HZ := aside (Nat.le_trans hB bn.size)
  clear h bn
  go_enter Try.func52, Try.ntmps52
  go_upto_region 1 with fail
  obtain ⟨i0, hi0⟩ : ∃ i0, w.heap.size = i0 := ⟨_, rfl⟩
  rw [hi0] at KB0 ⊢
  clear hi0
  generalize w.alloc (.cells #[.int .i64 c, .int .u64 (a : Int), .int .u64 (d : Int)] 43) = X0 at KB0 KK WW HZ ⊢
  have c0_0 : X0.cell? ⟨i0, 0, none⟩ = some (.int .i64 c) := by rw [cell_of_row _ _ 0 _ _ _ KB0.out]; rfl
  have c0_1 : X0.cell? ⟨i0, 1, none⟩ = some (.int .u64 (a : Int)) := by rw [cell_of_row _ _ 1 _ _ _ KB0.out]; rfl
  have c0_2 : X0.cell? ⟨i0, 2, none⟩ = some (.int .u64 (d : Int)) := by rw [cell_of_row _ _ 2 _ _ _ KB0.out]; rfl
  go_wp2_with fail
  refine (ws_num c WW.out HZ.out (by omega) (by omega) (by omega)).mono ?_
  rintro r w1 ⟨rfl, W1, k1⟩
  clear c0_0 c0_1 c0_2
  replace KB0 := aside (k1.blk _ _ _ (by decide) (by decide) KB0.out)
  replace KK := aside (KK.out.trans k1)
  replace HZ := aside (Nat.le_trans HZ.out k1.bel.size)
  replace WW := aside W1
  clear k1 W1
  have c0_0 : w1.cell? ⟨i0, 0, none⟩ = some (.int .i64 c) := by rw [cell_of_row _ _ 0 _ _ _ KB0.out]; rfl
  have c0_1 : w1.cell? ⟨i0, 1, none⟩ = some (.int .u64 (a : Int)) := by rw [cell_of_row _ _ 1 _ _ _ KB0.out]; rfl
  have c0_2 : w1.cell? ⟨i0, 2, none⟩ = some (.int .u64 (d : Int)) := by rw [cell_of_row _ _ 2 _ _ _ KB0.out]; rfl
  go_wp2
  go_loopw [12] (fun t wr => Hid (WK B w wr) ∧ Hid (B ≤ wr.heap.size) ∧ ((t = .int .i64 0 ∧ Hid (WS B b (l ++ Nm.enc 8 (up c)) wr)) ∨ (t = .int .i64 1 ∧ Hid (WS B b (l ++ Nm.enc 8 (up c) ++ wordB a) wr)) ∨ (t = .int .i64 2 ∧ Hid (WS B b (l ++ Nm.enc 8 (up c) ++ wordB a ++ wordB d) wr)))) (fun t _ => 2 - (intOf t).toNat)
  case atStart => exact ⟨KK.out, HZ.out, .inl ⟨rfl, WW.out⟩⟩
  case round =>
    clear KK HZ WW KB0
    obtain ⟨KK, HZ, ⟨rfl, WW⟩ | ⟨rfl, WW⟩ | ⟨rfl, WW⟩⟩ := hrel
    · go_wp2_with fail
      refine (ws_word a WW.out HZ.out ha (by simp only [List.length_append]; have := enc9 (up c); omega)).mono ?_
      rintro r w1 ⟨rfl, W1, k1⟩
      replace KK := aside (KK.out.trans k1)
      replace HZ := aside (Nat.le_trans HZ.out k1.bel.size)
      replace WW := aside W1
      clear k1 W1
      go_wp2
      go_roundw
      case rel => exact ⟨KK.out, HZ.out, .inr (.inl ⟨by rfl, WW.out⟩)⟩
      case measure => simp [intOf]
    · go_wp2_with fail
      refine (ws_word d WW.out HZ.out hd (by simp only [List.length_append, wordB_len]; have := enc9 (up c); omega)).mono ?_
      rintro r w1 ⟨rfl, W1, k1⟩
      replace KK := aside (KK.out.trans k1)
      replace HZ := aside (Nat.le_trans HZ.out k1.bel.size)
      replace WW := aside W1
      clear k1 W1
      go_wp2
      go_roundw
      case rel => exact ⟨KK.out, HZ.out, .inr (.inr ⟨by rfl, WW.out⟩)⟩
      case measure => simp [intOf]
    · go_wp2
      go_end0
      refine ⟨rfl, ?_, KK.out⟩
      have := WW.out
      simpa [List.append_assoc] using this
end Go.Proofs.Ytbnppmkdhnpdfaa
namespace Go.Proofs.Ytbnppmkdhnpdfaa
open Go.RowKit
set_option linter.unusedVariables false
end Go.Proofs.Ytbnppmkdhnpdfaa
namespace Go.Proofs.Ytbnppmkdhnpdfaa
open Go.RowKit
set_option linter.unusedVariables false
theorem putB_len (e : En) : (putB e).length ≤ 200 := by
  by_cases h : e.chk = 0
  · rw [putB_yes h]
    obtain ⟨k, c, n, v, d⟩ := e
    obtain ⟨h1, _, _, _, _, h2⟩ := En.ok_parts h
    have e1 := Nm.enc_length 8 k.size
    have e2 := Nm.enc_length 8 v.size
    have e3 := Nm.enc_length 8 (up c)
    have e4 := Nm.enc_length 8 (up n)
    have e5 : k.data.toList.length = k.size := by show k.data.toList.length = k.data.size; simp
    have e6 : v.data.toList.length = v.size := by show v.data.toList.length = v.data.size; simp
    have e7 : (flagB d).length = 1 := rfl
    cases d <;> simp only [entB, List.length_append, cond, List.length_nil] <;> omega
  · rw [putB_no h]; simp
end Go.Proofs.Ytbnppmkdhnpdfaa
namespace Go.Proofs.Ytbnppmkdhnpdfaa
open Go.RowKit
set_option linter.unusedVariables false
def eFirst (T : Nat → En) (n : Nat) : List En := (List.range n).map T
theorem eFirst_step (T : Nat → En) (n : Nat) : eFirst T (n + 1) = eFirst T n ++ [T n] := by unfold eFirst; rw [List.range_succ, List.map_append]; rfl
theorem eFirst_len (T : Nat → En) (n : Nat) : (eFirst T n).length = n := by simp [eFirst]
theorem eFirst_mem (T : Nat → En) {n i : Nat} (h : i < n) : T i ∈ eFirst T n := List.mem_map.2 ⟨i, List.mem_range.2 h, rfl⟩
theorem esB_step (T : Nat → En) (n : Nat) : esB (eFirst T (n + 1)) = esB (eFirst T n) ++ entB (T n) := by rw [eFirst_step, esB_append]; simp [esB]
def pvOf (m : Pm) : PV := ⟨m.kind, m.lo, m.hi, m.op, m.cnt, m.s0.toNat, m.s1.toNat, eFirst m.T m.el⟩
def psOf (P : Nat → Pm) (n : Nat) : List PV := (List.range n).map (fun i => pvOf (P i))
theorem psOf_step (P : Nat → Pm) (n : Nat) : psOf P (n + 1) = psOf P n ++ [pvOf (P n)] := by unfold psOf; rw [List.range_succ, List.map_append]; rfl
theorem psOf_len (P : Nat → Pm) (n : Nat) : (psOf P n).length = n := by simp [psOf]
theorem psOf_mem (P : Nat → Pm) {n i : Nat} (h : i < n) : pvOf (P i) ∈ psOf P n := List.mem_map.2 ⟨i, List.mem_range.2 h, rfl⟩
theorem psB_step (P : Nat → Pm) (n : Nat) : psB (psOf P (n + 1)) = psB (psOf P n) ++ partB (pvOf (P n)) := by rw [psOf_step, psB_append]; simp [psB]
theorem entB_len {e : En} (h : e.chk = 0) : (entB e).length ≤ 200 := by rw [← putB_yes h]; exact putB_len e
theorem esB_len : ∀ (l : List En), (∀ e ∈ l, e.chk = 0) → (esB l).length ≤ l.length * 200
  | [], _ => Nat.le_refl _
  | e :: r, h => by
    have h1 := entB_len (h e (List.mem_cons_self ..))
    have h2 := esB_len r (fun x hx => h x (List.mem_cons_of_mem _ hx))
    simp only [esB, List.length_append, List.length_cons]
    rw [Nat.succ_mul]
    omega
theorem rgB_len (lo hi : ByteArray) (op : Bool) (h1 : lo.size ≤ 16) (h2 : hi.size ≤ 16) : (rgB lo hi op).length ≤ 60 := by
  unfold rgB
  have := strB_len lo
  have := strB_len hi
  cases op
  · simp only [cond, List.length_append, flagB, List.length_singleton]; omega
  · simp only [cond, List.length_append, flagB, List.length_singleton, List.length_nil]; omega
theorem partB_len {v : PV} (h : PVok v) : (partB v).length ≤ 51300 := by
  unfold partB
  have h1 := rgB_len v.lo v.hi v.op h.lo h.hi
  have h2 := enc9 (up v.kind)
  by_cases hk : v.kind = 1
  · rw [if_pos hk]
    have := enc9 (up v.cnt)
    simp only [List.length_append, wordB_len]
    omega
  · rw [if_neg hk]
    have h3 := h.items hk
    have h4 := esB_len v.es h3.2.2.2.2
    have := enc9 v.es.length
    simp only [List.length_append]
    omega
theorem psB_len : ∀ (l : List PV), (∀ v ∈ l, PVok v) → (psB l).length ≤ l.length * 51300
  | [], _ => Nat.le_refl _
  | e :: r, h => by
    have h1 := partB_len (h e (List.mem_cons_self ..))
    have h2 := psB_len r (fun x hx => h x (List.mem_cons_of_mem _ hx))
    simp only [psB, List.length_append, List.length_cons]
    rw [Nat.succ_mul]
    omega
theorem psOf_sub (P : Nat → Pm) {i n : Nat} (h : i ≤ n) : ∀ e ∈ psOf P i, e ∈ psOf P n := by
  intro e he
  obtain ⟨k, hk, rfl⟩ := List.mem_map.1 he
  exact psOf_mem P (by have := List.mem_range.1 hk; omega)
set_option maxRecDepth 100000 in
set_option maxHeartbeats 3200000 in
theorem wpart_print {b : Nat} {l : List UInt8} {V w : World} (lo hi : ByteArray) (op : Bool) (cnt : Int) (a d : Nat) (ea : Option Addr) (el ec : Nat) (T : Nat → En) (h : WS V.heap.size b l w) (hV : Below V.heap.size V w) (hl : l.length ≤ 4398046511104) (hv : PVok ⟨1, lo, hi, op, cnt, a, d, eFirst T el⟩) (hin : EntsIn V ea el ec T) :
    Calls Try.prog 24 #[.pointer (some ⟨b, 0, none⟩), .agg #[.int .i64 1, .string lo, .string hi, .bool op, .int .i64 cnt, .int .u64 (a : Int), .int .u64 (d : Int), .slice ea el ec]] w fun e w' => e = .returned (.tuple #[]) ∧ WS V.heap.size b (l ++ partB ⟨1, lo, hi, op, cnt, a, d, eFirst T el⟩) w' ∧ WK V.heap.size w w' := by
  have hB := hV.size
  have HV := aside hV
  have HVO := aside hv
  have hlo := hv.lo
  have hhi := hv.hi
  dsimp only at hlo hhi
  obtain ⟨-, hc1, hc2, ha, hd⟩ := hv.print rfl
  dsimp only at hc1 hc2 ha hd
  clear hv hV
  have KB0 := aside (heap_alloc_new w (.cells #[.int .i64 1, .string lo, .string hi, .bool op, .int .i64 cnt, .int .u64 (a : Int), .int .u64 (d : Int), .slice ea el ec] 46))
  have bn := bnew w (.cells #[.int .i64 1, .string lo, .string hi, .bool op, .int .i64 cnt, .int .u64 (a : Int), .int .u64 (d : Int), .slice ea el ec] 46)
  have KK := aside (WK.of_below hB bn)
  have WW := aside (h.keep bn)
  have HZ := aside (Nat.le_trans hB bn.size)
  clear h bn
  go_enter Try.func24, Try.ntmps24
  go_upto_region 1 with fail
  obtain ⟨i0, hi0⟩ : ∃ i0, w.heap.size = i0 := ⟨_, rfl⟩
  rw [hi0] at KB0 ⊢
  clear hi0
  generalize w.alloc (.cells #[.int .i64 1, .string lo, .string hi, .bool op, .int .i64 cnt, .int .u64 (a : Int), .int .u64 (d : Int), .slice ea el ec] 46) = X0 at KB0 KK WW HZ ⊢
  have c0_0 : X0.cell? ⟨i0, 0, none⟩ = some (.int .i64 1) := by rw [cell_of_row _ _ 0 _ _ _ KB0.out]; rfl
  have c0_1 : X0.cell? ⟨i0, 1, none⟩ = some (.string lo) := by rw [cell_of_row _ _ 1 _ _ _ KB0.out]; rfl
  have c0_2 : X0.cell? ⟨i0, 2, none⟩ = some (.string hi) := by rw [cell_of_row _ _ 2 _ _ _ KB0.out]; rfl
  have c0_3 : X0.cell? ⟨i0, 3, none⟩ = some (.bool op) := by rw [cell_of_row _ _ 3 _ _ _ KB0.out]; rfl
  have c0_4 : X0.cell? ⟨i0, 4, none⟩ = some (.int .i64 cnt) := by rw [cell_of_row _ _ 4 _ _ _ KB0.out]; rfl
  have c0_5 : X0.cell? ⟨i0, 5, none⟩ = some (.int .u64 (a : Int)) := by rw [cell_of_row _ _ 5 _ _ _ KB0.out]; rfl
  have c0_6 : X0.cell? ⟨i0, 6, none⟩ = some (.int .u64 (d : Int)) := by rw [cell_of_row _ _ 6 _ _ _ KB0.out]; rfl
  have c0_7 : X0.cell? ⟨i0, 7, none⟩ = some (.slice ea el ec) := by rw [cell_of_row _ _ 7 _ _ _ KB0.out]; rfl
  go_wp2_with fail
  refine (ws_num 1 WW.out HZ.out (by omega) (by omega) (by omega)).mono ?_
  rintro r w1 ⟨rfl, W1, k1⟩
  clear c0_0 c0_1 c0_2 c0_3 c0_4 c0_5 c0_6 c0_7
  replace KB0 := aside (k1.blk _ _ _ (by decide) (by decide) KB0.out)
  replace KK := aside (KK.out.trans k1)
  replace HZ := aside (Nat.le_trans HZ.out k1.bel.size)
  replace WW := aside W1
  clear k1 W1
  have c0_0 : w1.cell? ⟨i0, 0, none⟩ = some (.int .i64 1) := by rw [cell_of_row _ _ 0 _ _ _ KB0.out]; rfl
  have c0_1 : w1.cell? ⟨i0, 1, none⟩ = some (.string lo) := by rw [cell_of_row _ _ 1 _ _ _ KB0.out]; rfl
  have c0_2 : w1.cell? ⟨i0, 2, none⟩ = some (.string hi) := by rw [cell_of_row _ _ 2 _ _ _ KB0.out]; rfl
  have c0_3 : w1.cell? ⟨i0, 3, none⟩ = some (.bool op) := by rw [cell_of_row _ _ 3 _ _ _ KB0.out]; rfl
  have c0_4 : w1.cell? ⟨i0, 4, none⟩ = some (.int .i64 cnt) := by rw [cell_of_row _ _ 4 _ _ _ KB0.out]; rfl
  have c0_5 : w1.cell? ⟨i0, 5, none⟩ = some (.int .u64 (a : Int)) := by rw [cell_of_row _ _ 5 _ _ _ KB0.out]; rfl
  have c0_6 : w1.cell? ⟨i0, 6, none⟩ = some (.int .u64 (d : Int)) := by rw [cell_of_row _ _ 6 _ _ _ KB0.out]; rfl
  have c0_7 : w1.cell? ⟨i0, 7, none⟩ = some (.slice ea el ec) := by rw [cell_of_row _ _ 7 _ _ _ KB0.out]; rfl
  go_wp2_with fail
  refine (wrng_any lo hi op WW.out HZ.out (by simp only [List.length_append]; have := enc9 (up (1 : Int)); omega) hlo hhi).mono ?_
  rintro r w2 ⟨rfl, W1, k1⟩
  clear c0_0 c0_1 c0_2 c0_3 c0_4 c0_5 c0_6 c0_7
  replace KB0 := aside (k1.blk _ _ _ (by decide) (by decide) KB0.out)
  replace KK := aside (KK.out.trans k1)
  replace HZ := aside (Nat.le_trans HZ.out k1.bel.size)
  replace WW := aside W1
  clear k1 W1
  have c0_0 : w2.cell? ⟨i0, 0, none⟩ = some (.int .i64 1) := by rw [cell_of_row _ _ 0 _ _ _ KB0.out]; rfl
  have c0_1 : w2.cell? ⟨i0, 1, none⟩ = some (.string lo) := by rw [cell_of_row _ _ 1 _ _ _ KB0.out]; rfl
  have c0_2 : w2.cell? ⟨i0, 2, none⟩ = some (.string hi) := by rw [cell_of_row _ _ 2 _ _ _ KB0.out]; rfl
  have c0_3 : w2.cell? ⟨i0, 3, none⟩ = some (.bool op) := by rw [cell_of_row _ _ 3 _ _ _ KB0.out]; rfl
  have c0_4 : w2.cell? ⟨i0, 4, none⟩ = some (.int .i64 cnt) := by rw [cell_of_row _ _ 4 _ _ _ KB0.out]; rfl
  have c0_5 : w2.cell? ⟨i0, 5, none⟩ = some (.int .u64 (a : Int)) := by rw [cell_of_row _ _ 5 _ _ _ KB0.out]; rfl
  have c0_6 : w2.cell? ⟨i0, 6, none⟩ = some (.int .u64 (d : Int)) := by rw [cell_of_row _ _ 6 _ _ _ KB0.out]; rfl
  have c0_7 : w2.cell? ⟨i0, 7, none⟩ = some (.slice ea el ec) := by rw [cell_of_row _ _ 7 _ _ _ KB0.out]; rfl
  go_wp2_with fail
  refine (wtally_any cnt a d WW.out HZ.out (by simp only [List.length_append]; have := enc9 (up (1 : Int)); have := rgB_len lo hi op hlo hhi; omega) (by omega) (by omega) ha hd).mono ?_
  rintro r w3 ⟨rfl, W1, k1⟩
  clear c0_0 c0_1 c0_2 c0_3 c0_4 c0_5 c0_6 c0_7
  replace KB0 := aside (k1.blk _ _ _ (by decide) (by decide) KB0.out)
  replace KK := aside (KK.out.trans k1)
  replace HZ := aside (Nat.le_trans HZ.out k1.bel.size)
  replace WW := aside W1
  clear k1 W1
  go_wp2
  refine bodyPost_ret (results_none rfl _ _ _) rfl ?_
  refine ⟨rfl, ?_, KK.out⟩
  have := WW.out
  unfold partB
  rw [if_pos rfl]
  simpa [List.append_assoc] using this
set_option maxRecDepth 100000 in
set_option maxHeartbeats 3200000 in
theorem wpart_items {b : Nat} {l : List UInt8} {V w : World} (kind : Int) (lo hi : ByteArray) (op : Bool) (cnt : Int) (a d : Nat) (ea : Option Addr) (el ec : Nat) (T : Nat → En) (h : WS V.heap.size b l w) (hV : Below V.heap.size V w) (hl : l.length ≤ 4398046511104) (hv : PVok ⟨kind, lo, hi, op, cnt, a, d, eFirst T el⟩) (hk : ¬ kind = 1) (hin : EntsIn V ea el ec T) :
    Calls Try.prog 24 #[.pointer (some ⟨b, 0, none⟩), .agg #[.int .i64 kind, .string lo, .string hi, .bool op, .int .i64 cnt, .int .u64 (a : Int), .int .u64 (d : Int), .slice ea el ec]] w fun e w' => e = .returned (.tuple #[]) ∧ WS V.heap.size b (l ++ partB ⟨kind, lo, hi, op, cnt, a, d, eFirst T el⟩) w' ∧ WK V.heap.size w w' := by
  have hB := hV.size
  have HV := aside hV
  have HVO := aside hv
  have hlo := hv.lo
  have hhi := hv.hi
  dsimp only at hlo hhi
  have hel := (hv.items hk).2.2.2.1
  dsimp only at hel
  rw [eFirst_len] at hel
  have hk1 : (kind == 1) = false := by simpa using hk
  have hkk := hv.kind
  dsimp only at hkk
  have HIN := aside hin
  have hmx : (el : Int) ≤ 9223372036854775807 := by omega
  have HEN := aside (show ∀ i, i < el → (T i).chk = 0 from fun i hi => (hv.items hk).2.2.2.2 _ (eFirst_mem T hi))
  clear hin
  clear hv hV
  have KB0 := aside (heap_alloc_new w (.cells #[.int .i64 kind, .string lo, .string hi, .bool op, .int .i64 cnt, .int .u64 (a : Int), .int .u64 (d : Int), .slice ea el ec] 46))
  have bn := bnew w (.cells #[.int .i64 kind, .string lo, .string hi, .bool op, .int .i64 cnt, .int .u64 (a : Int), .int .u64 (d : Int), .slice ea el ec] 46)
  have KK := aside (WK.of_below hB bn)
  have WW := aside (h.keep bn)
  have HZ := aside (Nat.le_trans hB bn.size)
  clear h bn
  go_enter Try.func24, Try.ntmps24
  go_upto_region 1 with fail
  obtain ⟨i0, hi0⟩ : ∃ i0, w.heap.size = i0 := ⟨_, rfl⟩
  rw [hi0] at KB0 ⊢
  clear hi0
  generalize w.alloc (.cells #[.int .i64 kind, .string lo, .string hi, .bool op, .int .i64 cnt, .int .u64 (a : Int), .int .u64 (d : Int), .slice ea el ec] 46) = X0 at KB0 KK WW HZ ⊢
  have c0_0 : X0.cell? ⟨i0, 0, none⟩ = some (.int .i64 kind) := by rw [cell_of_row _ _ 0 _ _ _ KB0.out]; rfl
  have c0_1 : X0.cell? ⟨i0, 1, none⟩ = some (.string lo) := by rw [cell_of_row _ _ 1 _ _ _ KB0.out]; rfl
  have c0_2 : X0.cell? ⟨i0, 2, none⟩ = some (.string hi) := by rw [cell_of_row _ _ 2 _ _ _ KB0.out]; rfl
  have c0_3 : X0.cell? ⟨i0, 3, none⟩ = some (.bool op) := by rw [cell_of_row _ _ 3 _ _ _ KB0.out]; rfl
  have c0_4 : X0.cell? ⟨i0, 4, none⟩ = some (.int .i64 cnt) := by rw [cell_of_row _ _ 4 _ _ _ KB0.out]; rfl
  have c0_5 : X0.cell? ⟨i0, 5, none⟩ = some (.int .u64 (a : Int)) := by rw [cell_of_row _ _ 5 _ _ _ KB0.out]; rfl
  have c0_6 : X0.cell? ⟨i0, 6, none⟩ = some (.int .u64 (d : Int)) := by rw [cell_of_row _ _ 6 _ _ _ KB0.out]; rfl
  have c0_7 : X0.cell? ⟨i0, 7, none⟩ = some (.slice ea el ec) := by rw [cell_of_row _ _ 7 _ _ _ KB0.out]; rfl
  go_wp2_with fail
  refine (ws_num kind WW.out HZ.out (by omega) (by omega) (by omega)).mono ?_
  rintro r w1 ⟨rfl, W1, k1⟩
  clear c0_0 c0_1 c0_2 c0_3 c0_4 c0_5 c0_6 c0_7
  replace KB0 := aside (k1.blk _ _ _ (by decide) (by decide) KB0.out)
  replace KK := aside (KK.out.trans k1)
  replace HZ := aside (Nat.le_trans HZ.out k1.bel.size)
  replace WW := aside W1
  clear k1 W1
  have c0_0 : w1.cell? ⟨i0, 0, none⟩ = some (.int .i64 kind) := by rw [cell_of_row _ _ 0 _ _ _ KB0.out]; rfl
  have c0_1 : w1.cell? ⟨i0, 1, none⟩ = some (.string lo) := by rw [cell_of_row _ _ 1 _ _ _ KB0.out]; rfl
  have c0_2 : w1.cell? ⟨i0, 2, none⟩ = some (.string hi) := by rw [cell_of_row _ _ 2 _ _ _ KB0.out]; rfl
  have c0_3 : w1.cell? ⟨i0, 3, none⟩ = some (.bool op) := by rw [cell_of_row _ _ 3 _ _ _ KB0.out]; rfl
  have c0_4 : w1.cell? ⟨i0, 4, none⟩ = some (.int .i64 cnt) := by rw [cell_of_row _ _ 4 _ _ _ KB0.out]; rfl
  have c0_5 : w1.cell? ⟨i0, 5, none⟩ = some (.int .u64 (a : Int)) := by rw [cell_of_row _ _ 5 _ _ _ KB0.out]; rfl
  have c0_6 : w1.cell? ⟨i0, 6, none⟩ = some (.int .u64 (d : Int)) := by rw [cell_of_row _ _ 6 _ _ _ KB0.out]; rfl
  have c0_7 : w1.cell? ⟨i0, 7, none⟩ = some (.slice ea el ec) := by rw [cell_of_row _ _ 7 _ _ _ KB0.out]; rfl
  go_wp2_with fail
  refine (wrng_any lo hi op WW.out HZ.out (by simp only [List.length_append]; have := enc9 (up (kind : Int)); omega) hlo hhi).mono ?_
  rintro r w2 ⟨rfl, W1, k1⟩
  clear c0_0 c0_1 c0_2 c0_3 c0_4 c0_5 c0_6 c0_7
  replace KB0 := aside (k1.blk _ _ _ (by decide) (by decide) KB0.out)
  replace KK := aside (KK.out.trans k1)
  replace HZ := aside (Nat.le_trans HZ.out k1.bel.size)
  replace WW := aside W1
  clear k1 W1
  have c0_0 : w2.cell? ⟨i0, 0, none⟩ = some (.int .i64 kind) := by rw [cell_of_row _ _ 0 _ _ _ KB0.out]; rfl
  have c0_1 : w2.cell? ⟨i0, 1, none⟩ = some (.string lo) := by rw [cell_of_row _ _ 1 _ _ _ KB0.out]; rfl
  have c0_2 : w2.cell? ⟨i0, 2, none⟩ = some (.string hi) := by rw [cell_of_row _ _ 2 _ _ _ KB0.out]; rfl
  have c0_3 : w2.cell? ⟨i0, 3, none⟩ = some (.bool op) := by rw [cell_of_row _ _ 3 _ _ _ KB0.out]; rfl
  have c0_4 : w2.cell? ⟨i0, 4, none⟩ = some (.int .i64 cnt) := by rw [cell_of_row _ _ 4 _ _ _ KB0.out]; rfl
  have c0_5 : w2.cell? ⟨i0, 5, none⟩ = some (.int .u64 (a : Int)) := by rw [cell_of_row _ _ 5 _ _ _ KB0.out]; rfl
  have c0_6 : w2.cell? ⟨i0, 6, none⟩ = some (.int .u64 (d : Int)) := by rw [cell_of_row _ _ 6 _ _ _ KB0.out]; rfl
  have c0_7 : w2.cell? ⟨i0, 7, none⟩ = some (.slice ea el ec) := by rw [cell_of_row _ _ 7 _ _ _ KB0.out]; rfl
  go_wp2_with fail
  refine (ws_num (el : Int) WW.out HZ.out (by omega) (by omega) (by simp only [List.length_append]; have := enc9 (up (kind : Int)); have := rgB_len lo hi op hlo hhi; omega)).mono ?_
  rintro r w3 ⟨rfl, W1, k1⟩
  clear c0_0 c0_1 c0_2 c0_3 c0_4 c0_5 c0_6 c0_7
  replace KB0 := aside (k1.blk _ _ _ (by decide) (by decide) KB0.out)
  replace KK := aside (KK.out.trans k1)
  replace HZ := aside (Nat.le_trans HZ.out k1.bel.size)
  replace WW := aside W1
  clear k1 W1
  have c0_0 : w3.cell? ⟨i0, 0, none⟩ = some (.int .i64 kind) := by rw [cell_of_row _ _ 0 _ _ _ KB0.out]; rfl
  have c0_1 : w3.cell? ⟨i0, 1, none⟩ = some (.string lo) := by rw [cell_of_row _ _ 1 _ _ _ KB0.out]; rfl
  have c0_2 : w3.cell? ⟨i0, 2, none⟩ = some (.string hi) := by rw [cell_of_row _ _ 2 _ _ _ KB0.out]; rfl
  have c0_3 : w3.cell? ⟨i0, 3, none⟩ = some (.bool op) := by rw [cell_of_row _ _ 3 _ _ _ KB0.out]; rfl
  have c0_4 : w3.cell? ⟨i0, 4, none⟩ = some (.int .i64 cnt) := by rw [cell_of_row _ _ 4 _ _ _ KB0.out]; rfl
  have c0_5 : w3.cell? ⟨i0, 5, none⟩ = some (.int .u64 (a : Int)) := by rw [cell_of_row _ _ 5 _ _ _ KB0.out]; rfl
  have c0_6 : w3.cell? ⟨i0, 6, none⟩ = some (.int .u64 (d : Int)) := by rw [cell_of_row _ _ 6 _ _ _ KB0.out]; rfl
  have c0_7 : w3.cell? ⟨i0, 7, none⟩ = some (.slice ea el ec) := by rw [cell_of_row _ _ 7 _ _ _ KB0.out]; rfl
  obtain ⟨L2, hL2⟩ : ∃ L2, l ++ Nm.enc 8 (up kind) ++ rgB lo hi op ++ Nm.enc 8 (up (el : Int)) = L2 := ⟨_, rfl⟩
  rw [hL2] at WW
  have HLL := aside (show L2.length ≤ l.length + 78 from by rw [← hL2]; simp only [List.length_append]; have := enc9 (up kind); have := enc9 (up (el : Int)); have := rgB_len lo hi op hlo hhi; omega)
  have HL2 := aside hL2
  clear hL2
  go_wp2
  go_loopw [29] (fun t wr => ∃ i : Nat, t = .int .i64 (i : Int) ∧ i ≤ el ∧ Hid (WS V.heap.size b (L2 ++ esB (eFirst T i)) wr) ∧ Hid (WK V.heap.size w wr)) (fun t _ => el - (intOf t).toNat)
  case atStart => exact ⟨0, rfl, Nat.zero_le _, aside (by simpa [eFirst, esB] using WW.out), KK.out⟩
  case round =>
    clear WW KK HZ KB0
    obtain ⟨i, rfl, hi, WW, KK⟩ := hrel
    by_cases hlt : (i : Int) < (el : Int)
    · have hii : (0 : Int) ≤ (i : Int) := by omega
      have HZ := aside (show V.heap.size ≤ wr.heap.size from Nat.le_trans HV.out.size KK.out.bel.size)
      rcases (HIN.out.keep (HV.out.trans KK.out.bel)).2.2 with h0 | ⟨bb, off, rfl, hbb, hc⟩
      · omega
      obtain ⟨x, hx⟩ : ∃ x, T i = x := ⟨_, rfl⟩
      obtain ⟨⟨e0, e1, e2, e3, e4⟩, -⟩ := hc i (by omega)
      rw [hx] at e0 e1 e2 e3 e4
      have HX := aside hx
      have HCH := aside (show x.chk = 0 from by rw [← hx]; exact HEN.out i (by omega))
      have HS := aside (show (esB (eFirst T i)).length ≤ 51200 from by
        have h1 := esB_len (eFirst T i) (fun e he => by
          obtain ⟨k, hk, rfl⟩ := List.mem_map.1 he
          exact HEN.out k (by have := List.mem_range.1 hk; omega))
        rw [eFirst_len] at h1
        omega)
      clear hx hc hbb
      have B2 := aside (bnew wr (.cells #[.string x.k, .int .i64 x.c, .int .i64 x.n, .string x.v, .bool x.d] 50))
      have K2 := aside (heap_alloc_new wr (.cells #[.string x.k, .int .i64 x.c, .int .i64 x.n, .string x.v, .bool x.d] 50))
      replace WW := aside (WW.out.keep B2.out)
      replace KK := aside (KK.out.trans (WK.of_below HZ.out B2.out))
      replace HZ := aside (Nat.le_trans HZ.out B2.out.size)
      go_upto_region 9 with fail
      clear e0 e1 e2 e3 e4 B2
      obtain ⟨i5, hi5⟩ : ∃ i5, wr.heap.size = i5 := ⟨_, rfl⟩
      rw [hi5] at K2 ⊢
      clear hi5
      generalize wr.alloc (.cells #[.string x.k, .int .i64 x.c, .int .i64 x.n, .string x.v, .bool x.d] 50) = X5 at K2 WW KK HZ ⊢
      have x0 : X5.cell? ⟨i5, 0, none⟩ = some (.string x.k) := by rw [cell_of_row _ _ 0 _ _ _ K2.out]; rfl
      have x1 : X5.cell? ⟨i5, 1, none⟩ = some (.int .i64 x.c) := by rw [cell_of_row _ _ 1 _ _ _ K2.out]; rfl
      have x2 : X5.cell? ⟨i5, 2, none⟩ = some (.int .i64 x.n) := by rw [cell_of_row _ _ 2 _ _ _ K2.out]; rfl
      have x3 : X5.cell? ⟨i5, 3, none⟩ = some (.string x.v) := by rw [cell_of_row _ _ 3 _ _ _ K2.out]; rfl
      have x4 : X5.cell? ⟨i5, 4, none⟩ = some (.bool x.d) := by rw [cell_of_row _ _ 4 _ _ _ K2.out]; rfl
      go_wp2_with fail
      refine (ws_ent x WW.out HZ.out HCH.out (by simp only [List.length_append]; have h1 := HS.out; have h2 := HLL.out; omega)).mono ?_
      rintro r w9 ⟨rfl, W1, k1⟩
      replace KK := aside (KK.out.trans k1)
      replace WW := aside (show WS V.heap.size b (L2 ++ esB (eFirst T (i + 1))) w9 from by rw [esB_step, HX.out, ← List.append_assoc]; exact W1)
      clear k1 W1 x0 x1 x2 x3 x4
      go_wp2
      go_roundw
      case rel => exact ⟨i + 1, by go_num, by omega, WW.out, KK.out⟩
      case measure => simp [intOf]; omega
    · obtain rfl : i = el := by omega
      go_wp2
      go_end0
      refine ⟨rfl, ?_, KK.out⟩
      have := WW.out
      rw [← HL2.out, upN] at this
      unfold partB
      dsimp only
      rw [if_neg hk, eFirst_len]
      simpa [List.append_assoc] using this
theorem wpart_any {b : Nat} {l : List UInt8} {V w : World} (m : Pm) (h : WS V.heap.size b l w) (hV : Below V.heap.size V w) (hl : l.length ≤ 4398046511104) (hv : PVok (pvOf m)) (h0 : 0 ≤ m.s0) (h1 : 0 ≤ m.s1) (hin : m.In V) :
    Calls Try.prog 24 #[.pointer (some ⟨b, 0, none⟩), .agg #[.int .i64 m.kind, .string m.lo, .string m.hi, .bool m.op, .int .i64 m.cnt, .int .u64 m.s0, .int .u64 m.s1, .slice m.ea m.el m.ec]] w fun e w' => e = .returned (.tuple #[]) ∧ WS V.heap.size b (l ++ partB (pvOf m)) w' ∧ WK V.heap.size w w' := by
  obtain ⟨kind, lo, hi, op, cnt, s0, s1, ea, el, ec, T⟩ := m
  dsimp only at h0 h1
  obtain ⟨a, rfl⟩ : ∃ a : Nat, s0 = (a : Int) := ⟨s0.toNat, by omega⟩
  obtain ⟨d, rfl⟩ : ∃ a : Nat, s1 = (a : Int) := ⟨s1.toNat, by omega⟩
  have e : pvOf ⟨kind, lo, hi, op, cnt, (a : Int), (d : Int), ea, el, ec, T⟩ = ⟨kind, lo, hi, op, cnt, a, d, eFirst T el⟩ := by simp [pvOf]
  rw [e] at hv ⊢
  by_cases hk : kind = 1
  · subst hk
    exact wpart_print lo hi op cnt a d ea el ec T h hV hl hv hin
  · exact wpart_items kind lo hi op cnt a d ea el ec T h hV hl hv hk hin
end Go.Proofs.Ytbnppmkdhnpdfaa
