/-
  Encode.
  The iterator over neighbours: what it hands to a loop's body, over every slice of ranges.
  Meet, the code's: it returns what the plain function gives, and writes nothing that was there.
  slices.ContainsFunc of Empty over every slice of ranges.
  Rising, the code's: it returns what the plain function gives, and writes nothing that was there.
  The weight of parts: what a weight within the bound says of the sizes.
  Clone of a frame whose parts have no entries.
  checked: a frame that may be is told in new memory.
  First, the code's.
  First, the document's own.
  The law FrameFirst, walked: it returns true at any node, name and tally.
  Parts that may be: plain.
  What follows of a frame that may be: its ranges rise, and the keys of all its entries.
  Answer to a frame that may be, with parts that have no entries.
  Decode of any bytes; a byte appended to a row.
  Clone of the document's, of any frame: parts and entries in memory of its own.
  What the laws of wire show first.
  What is known of a frame that was read.
-/
import Derived.Test.YtbnppmkdhnpdfaaBy16
import Derived.Test.YtbnppmkdhnpdfaaBy15
import Derived.Deep.CutBlock
import Derived.Deep.DeepCutAuto
import Derived.Test.YtbnppmkdhnpdfaaBy7
import Derived.RangeFuncNested
import Derived.RangeFuncBound
import Derived.RangeFuncCalls
import Derived.RangeFuncLeaves
import Derived.Shelf.Abstract
import Derived.Shelf.RegionOpen
import Derived.OwnWalkIn
import Derived.TacticsInMore
import Derived.LoopNIn
import Derived.LoopIn
import Derived.Stop.RegionWithIn
import Derived.Laws.ResultCell
import Derived.Deep.RegionHeld
import Derived.Test.YtbnppmkdhnpdfaaBy14
import Derived.Test.YtbnppmkdhnpdfaaBy1
import Derived.Laws.Tables
import Derived.Test.YtbnppmkdhnpdfaaBy13
namespace Go.Proofs.Ytbnppmkdhnpdfaa
open Go.RowKit
set_option linter.unusedVariables false
set_option maxRecDepth 100000 in
set_option maxHeartbeats 3200000 in
theorem enc_no (fr tz o lf n tn : Int) (a : Option Addr) (len cap : Nat) (P : Nat → Pm) (w : World) (hp : PartsIn w a len cap P) (hT : totE P len ≤ 4611686018427387904) {q : Int} (hq : fChk fr tz o lf n tn P len = q) (hq0 : q ≠ 0) :
    Calls Try.prog 11 #[.agg #[.int .i64 fr, .int .i64 tz, .int .i64 o, .int .i64 lf, .int .i64 n, .int .i64 tn, .slice a len cap]] w fun r w' => r = .returned (.tuple #[.slice none 0 0, .int .i64 q]) ∧ Below w.heap.size w w' := by
  have HQ := aside hq
  clear hq
  have HP := aside (hp.keep (bnew w (.cells #[.int .i64 fr, .int .i64 tz, .int .i64 o, .int .i64 lf, .int .i64 n, .int .i64 tn, .slice a len cap] 26)))
  have KB0 := aside (heap_alloc_new w (.cells #[.int .i64 fr, .int .i64 tz, .int .i64 o, .int .i64 lf, .int .i64 n, .int .i64 tn, .slice a len cap] 26))
  have BB := aside (bnew w (.cells #[.int .i64 fr, .int .i64 tz, .int .i64 o, .int .i64 lf, .int .i64 n, .int .i64 tn, .slice a len cap] 26))
  clear hp
  go_enter Try.func11, Try.ntmps11
  go_upto_region 1 with fail
  obtain ⟨i0, hi0⟩ : ∃ i0, w.heap.size = i0 := ⟨_, rfl⟩
  rw [hi0] at KB0 ⊢
  clear hi0
  generalize w.alloc (.cells #[.int .i64 fr, .int .i64 tz, .int .i64 o, .int .i64 lf, .int .i64 n, .int .i64 tn, .slice a len cap] 26) = X0 at KB0 BB HP ⊢
  have c0 : X0.cell? ⟨i0, 0, none⟩ = some (.int .i64 fr) := by rw [cell_of_row _ _ 0 _ _ _ KB0.out]; rfl
  have c1 : X0.cell? ⟨i0, 1, none⟩ = some (.int .i64 tz) := by rw [cell_of_row _ _ 1 _ _ _ KB0.out]; rfl
  have c2 : X0.cell? ⟨i0, 2, none⟩ = some (.int .i64 o) := by rw [cell_of_row _ _ 2 _ _ _ KB0.out]; rfl
  have c3 : X0.cell? ⟨i0, 3, none⟩ = some (.int .i64 lf) := by rw [cell_of_row _ _ 3 _ _ _ KB0.out]; rfl
  have c4 : X0.cell? ⟨i0, 4, none⟩ = some (.int .i64 n) := by rw [cell_of_row _ _ 4 _ _ _ KB0.out]; rfl
  have c5 : X0.cell? ⟨i0, 5, none⟩ = some (.int .i64 tn) := by rw [cell_of_row _ _ 5 _ _ _ KB0.out]; rfl
  have c6 : X0.cell? ⟨i0, 6, none⟩ = some (.slice a len cap) := by rw [cell_of_row _ _ 6 _ _ _ KB0.out]; rfl
  go_wp2_with fail
  refine (chkf_any fr tz o lf n tn a len cap P X0 HP.out hT).mono ?_
  rintro r X1 ⟨rfl, b1⟩
  rw [HQ.out]
  clear c0 c1 c2 c3 c4 c5 c6
  replace BB := aside (bthen BB.out b1)
  have hq1 : (q != 0) = true := by simpa using hq0
  clear b1
  go_wp2
  go_ret2
  exact ⟨rfl, BB.out⟩
set_option maxRecDepth 100000 in
set_option maxHeartbeats 3200000 in
theorem enc_ok (fr tz o lf n tn : Int) (a : Option Addr) (len cap : Nat) (P : Nat → Pm) (w : World) (hp : PartsIn w a len cap P) (hT : totE P len ≤ 4611686018427387904) (hq : fChk fr tz o lf n tn P len = 0) (hok : FVok ⟨fr, tz, o, lf, n, tn, psOf P len⟩) (hu : ∀ i, i < len → 0 ≤ (P i).s0 ∧ 0 ≤ (P i).s1) :
    Calls Try.prog 11 #[.agg #[.int .i64 fr, .int .i64 tz, .int .i64 o, .int .i64 lf, .int .i64 n, .int .i64 tn, .slice a len cap]] w fun r w' => ∃ v', r = .returned (.tuple #[v', .int .i64 0]) ∧ w'.ownsRow w.heap.size 5 1 v' (frameB ⟨fr, tz, o, lf, n, tn, psOf P len⟩).length (Lib.byteCells (frameB ⟨fr, tz, o, lf, n, tn, psOf P len⟩)) ∧ Below w.heap.size w w' := by
  have HQ := aside hq
  have HOK := aside hok
  have HU := aside hu
  have HLE := aside (show len ≤ 768 from by have := hok.len; dsimp only at this; rw [psOf_len] at this; exact this)
  obtain ⟨v1, v2, v3, v4, v5, v6, -, -⟩ := hok
  dsimp only at v1 v2 v3 v4 v5 v6
  have hmx : (len : Int) ≤ 9223372036854775807 := by have := HLE.out; omega
  clear hq hu
  have HP := aside (hp.keep (bnew w (.cells #[.int .i64 fr, .int .i64 tz, .int .i64 o, .int .i64 lf, .int .i64 n, .int .i64 tn, .slice a len cap] 26)))
  have KB0 := aside (heap_alloc_new w (.cells #[.int .i64 fr, .int .i64 tz, .int .i64 o, .int .i64 lf, .int .i64 n, .int .i64 tn, .slice a len cap] 26))
  have BB := aside (bnew w (.cells #[.int .i64 fr, .int .i64 tz, .int .i64 o, .int .i64 lf, .int .i64 n, .int .i64 tn, .slice a len cap] 26))
  clear hp
  go_enter Try.func11, Try.ntmps11
  go_upto_region 1 with fail
  obtain ⟨i0, hi0⟩ : ∃ i0, w.heap.size = i0 := ⟨_, rfl⟩
  rw [hi0] at KB0 ⊢
  clear hi0
  generalize w.alloc (.cells #[.int .i64 fr, .int .i64 tz, .int .i64 o, .int .i64 lf, .int .i64 n, .int .i64 tn, .slice a len cap] 26) = X0 at KB0 BB HP ⊢
  have c0 : X0.cell? ⟨i0, 0, none⟩ = some (.int .i64 fr) := by rw [cell_of_row _ _ 0 _ _ _ KB0.out]; rfl
  have c1 : X0.cell? ⟨i0, 1, none⟩ = some (.int .i64 tz) := by rw [cell_of_row _ _ 1 _ _ _ KB0.out]; rfl
  have c2 : X0.cell? ⟨i0, 2, none⟩ = some (.int .i64 o) := by rw [cell_of_row _ _ 2 _ _ _ KB0.out]; rfl
  have c3 : X0.cell? ⟨i0, 3, none⟩ = some (.int .i64 lf) := by rw [cell_of_row _ _ 3 _ _ _ KB0.out]; rfl
  have c4 : X0.cell? ⟨i0, 4, none⟩ = some (.int .i64 n) := by rw [cell_of_row _ _ 4 _ _ _ KB0.out]; rfl
  have c5 : X0.cell? ⟨i0, 5, none⟩ = some (.int .i64 tn) := by rw [cell_of_row _ _ 5 _ _ _ KB0.out]; rfl
  have c6 : X0.cell? ⟨i0, 6, none⟩ = some (.slice a len cap) := by rw [cell_of_row _ _ 6 _ _ _ KB0.out]; rfl
  go_wp2_with fail
  refine (chkf_any fr tz o lf n tn a len cap P X0 HP.out hT).mono ?_
  rintro r X1 ⟨rfl, b1⟩
  rw [HQ.out]
  clear c0 c1 c2 c3 c4 c5 c6
  replace KB0 := aside (blk_on KB0.out b1)
  replace HP := aside (HP.out.keep b1)
  replace BB := aside (bthen BB.out b1)
  clear b1
  go_wp2_with fail
  refine (newWriter_any X1).mono ?_
  rintro r X2 ⟨rfl, rfl⟩
  have bn := bnew X1 (.cells #[.slice none 0 0] 86)
  have WW := aside (show WS X1.heap.size X1.heap.size [] (X1.alloc (.cells #[.slice none 0 0] 86)) from ⟨none, isW_new 86 X1.heap.size X1 (Nat.le_refl _)⟩)
  replace KB0 := aside (blk_on KB0.out bn)
  have KV := aside bn
  have HZ := aside bn.size
  obtain ⟨b, hb⟩ : ∃ b, X1.heap.size = b := ⟨_, rfl⟩
  have HBV := aside hb
  have WW2 := aside (show WS X1.heap.size b [] (X1.alloc (.cells #[.slice none 0 0] 86)) from by rw [← hb]; exact WW.out)
  clear WW
  rw [hb]
  clear hb bn
  generalize X1.alloc (.cells #[.slice none 0 0] 86) = X2 at KB0 KV HZ WW2 ⊢
  have WW := aside WW2.out
  clear WW2
  have c0 : X2.cell? ⟨i0, 0, none⟩ = some (.int .i64 fr) := by rw [cell_of_row _ _ 0 _ _ _ KB0.out]; rfl
  have c1 : X2.cell? ⟨i0, 1, none⟩ = some (.int .i64 tz) := by rw [cell_of_row _ _ 1 _ _ _ KB0.out]; rfl
  have c2 : X2.cell? ⟨i0, 2, none⟩ = some (.int .i64 o) := by rw [cell_of_row _ _ 2 _ _ _ KB0.out]; rfl
  have c3 : X2.cell? ⟨i0, 3, none⟩ = some (.int .i64 lf) := by rw [cell_of_row _ _ 3 _ _ _ KB0.out]; rfl
  have c4 : X2.cell? ⟨i0, 4, none⟩ = some (.int .i64 n) := by rw [cell_of_row _ _ 4 _ _ _ KB0.out]; rfl
  have c5 : X2.cell? ⟨i0, 5, none⟩ = some (.int .i64 tn) := by rw [cell_of_row _ _ 5 _ _ _ KB0.out]; rfl
  have c6 : X2.cell? ⟨i0, 6, none⟩ = some (.slice a len cap) := by rw [cell_of_row _ _ 6 _ _ _ KB0.out]; rfl
  go_wp2_with fail
  refine (ws_num fr WW.out HZ.out (by omega) (by omega) (by simp only [List.length_nil];  omega)).mono ?_
  rintro r Y0 ⟨rfl, W1, k1⟩
  replace KB0 := aside (k1.blk _ _ _ (by decide) (by decide) KB0.out)
  replace KV := aside (KV.out.trans k1.bel)
  replace HZ := aside (Nat.le_trans HZ.out k1.bel.size)
  replace WW := aside W1
  clear k1 W1
  clear c0 c1 c2 c3 c4 c5 c6
  have c0 : Y0.cell? ⟨i0, 0, none⟩ = some (.int .i64 fr) := by rw [cell_of_row _ _ 0 _ _ _ KB0.out]; rfl
  have c1 : Y0.cell? ⟨i0, 1, none⟩ = some (.int .i64 tz) := by rw [cell_of_row _ _ 1 _ _ _ KB0.out]; rfl
  have c2 : Y0.cell? ⟨i0, 2, none⟩ = some (.int .i64 o) := by rw [cell_of_row _ _ 2 _ _ _ KB0.out]; rfl
  have c3 : Y0.cell? ⟨i0, 3, none⟩ = some (.int .i64 lf) := by rw [cell_of_row _ _ 3 _ _ _ KB0.out]; rfl
  have c4 : Y0.cell? ⟨i0, 4, none⟩ = some (.int .i64 n) := by rw [cell_of_row _ _ 4 _ _ _ KB0.out]; rfl
  have c5 : Y0.cell? ⟨i0, 5, none⟩ = some (.int .i64 tn) := by rw [cell_of_row _ _ 5 _ _ _ KB0.out]; rfl
  have c6 : Y0.cell? ⟨i0, 6, none⟩ = some (.slice a len cap) := by rw [cell_of_row _ _ 6 _ _ _ KB0.out]; rfl
  go_wp2_with fail
  refine (ws_num tz WW.out HZ.out (by omega) (by omega) (by simp only [List.length_append, List.length_nil]; have := enc9 (up fr); omega)).mono ?_
  rintro r Y1 ⟨rfl, W1, k1⟩
  replace KB0 := aside (k1.blk _ _ _ (by decide) (by decide) KB0.out)
  replace KV := aside (KV.out.trans k1.bel)
  replace HZ := aside (Nat.le_trans HZ.out k1.bel.size)
  replace WW := aside W1
  clear k1 W1
  clear c0 c1 c2 c3 c4 c5 c6
  have c0 : Y1.cell? ⟨i0, 0, none⟩ = some (.int .i64 fr) := by rw [cell_of_row _ _ 0 _ _ _ KB0.out]; rfl
  have c1 : Y1.cell? ⟨i0, 1, none⟩ = some (.int .i64 tz) := by rw [cell_of_row _ _ 1 _ _ _ KB0.out]; rfl
  have c2 : Y1.cell? ⟨i0, 2, none⟩ = some (.int .i64 o) := by rw [cell_of_row _ _ 2 _ _ _ KB0.out]; rfl
  have c3 : Y1.cell? ⟨i0, 3, none⟩ = some (.int .i64 lf) := by rw [cell_of_row _ _ 3 _ _ _ KB0.out]; rfl
  have c4 : Y1.cell? ⟨i0, 4, none⟩ = some (.int .i64 n) := by rw [cell_of_row _ _ 4 _ _ _ KB0.out]; rfl
  have c5 : Y1.cell? ⟨i0, 5, none⟩ = some (.int .i64 tn) := by rw [cell_of_row _ _ 5 _ _ _ KB0.out]; rfl
  have c6 : Y1.cell? ⟨i0, 6, none⟩ = some (.slice a len cap) := by rw [cell_of_row _ _ 6 _ _ _ KB0.out]; rfl
  go_wp2_with fail
  refine (ws_num o WW.out HZ.out (by omega) (by omega) (by simp only [List.length_append, List.length_nil]; have := enc9 (up fr); have := enc9 (up tz); omega)).mono ?_
  rintro r Y2 ⟨rfl, W1, k1⟩
  replace KB0 := aside (k1.blk _ _ _ (by decide) (by decide) KB0.out)
  replace KV := aside (KV.out.trans k1.bel)
  replace HZ := aside (Nat.le_trans HZ.out k1.bel.size)
  replace WW := aside W1
  clear k1 W1
  clear c0 c1 c2 c3 c4 c5 c6
  have c0 : Y2.cell? ⟨i0, 0, none⟩ = some (.int .i64 fr) := by rw [cell_of_row _ _ 0 _ _ _ KB0.out]; rfl
  have c1 : Y2.cell? ⟨i0, 1, none⟩ = some (.int .i64 tz) := by rw [cell_of_row _ _ 1 _ _ _ KB0.out]; rfl
  have c2 : Y2.cell? ⟨i0, 2, none⟩ = some (.int .i64 o) := by rw [cell_of_row _ _ 2 _ _ _ KB0.out]; rfl
  have c3 : Y2.cell? ⟨i0, 3, none⟩ = some (.int .i64 lf) := by rw [cell_of_row _ _ 3 _ _ _ KB0.out]; rfl
  have c4 : Y2.cell? ⟨i0, 4, none⟩ = some (.int .i64 n) := by rw [cell_of_row _ _ 4 _ _ _ KB0.out]; rfl
  have c5 : Y2.cell? ⟨i0, 5, none⟩ = some (.int .i64 tn) := by rw [cell_of_row _ _ 5 _ _ _ KB0.out]; rfl
  have c6 : Y2.cell? ⟨i0, 6, none⟩ = some (.slice a len cap) := by rw [cell_of_row _ _ 6 _ _ _ KB0.out]; rfl
  go_wp2_with fail
  refine (ws_num lf WW.out HZ.out (by omega) (by omega) (by simp only [List.length_append, List.length_nil]; have := enc9 (up fr); have := enc9 (up tz); have := enc9 (up o); omega)).mono ?_
  rintro r Y3 ⟨rfl, W1, k1⟩
  replace KB0 := aside (k1.blk _ _ _ (by decide) (by decide) KB0.out)
  replace KV := aside (KV.out.trans k1.bel)
  replace HZ := aside (Nat.le_trans HZ.out k1.bel.size)
  replace WW := aside W1
  clear k1 W1
  clear c0 c1 c2 c3 c4 c5 c6
  have c0 : Y3.cell? ⟨i0, 0, none⟩ = some (.int .i64 fr) := by rw [cell_of_row _ _ 0 _ _ _ KB0.out]; rfl
  have c1 : Y3.cell? ⟨i0, 1, none⟩ = some (.int .i64 tz) := by rw [cell_of_row _ _ 1 _ _ _ KB0.out]; rfl
  have c2 : Y3.cell? ⟨i0, 2, none⟩ = some (.int .i64 o) := by rw [cell_of_row _ _ 2 _ _ _ KB0.out]; rfl
  have c3 : Y3.cell? ⟨i0, 3, none⟩ = some (.int .i64 lf) := by rw [cell_of_row _ _ 3 _ _ _ KB0.out]; rfl
  have c4 : Y3.cell? ⟨i0, 4, none⟩ = some (.int .i64 n) := by rw [cell_of_row _ _ 4 _ _ _ KB0.out]; rfl
  have c5 : Y3.cell? ⟨i0, 5, none⟩ = some (.int .i64 tn) := by rw [cell_of_row _ _ 5 _ _ _ KB0.out]; rfl
  have c6 : Y3.cell? ⟨i0, 6, none⟩ = some (.slice a len cap) := by rw [cell_of_row _ _ 6 _ _ _ KB0.out]; rfl
  go_wp2_with fail
  refine (ws_num n WW.out HZ.out (by omega) (by omega) (by simp only [List.length_append, List.length_nil]; have := enc9 (up fr); have := enc9 (up tz); have := enc9 (up o); have := enc9 (up lf); omega)).mono ?_
  rintro r Y4 ⟨rfl, W1, k1⟩
  replace KB0 := aside (k1.blk _ _ _ (by decide) (by decide) KB0.out)
  replace KV := aside (KV.out.trans k1.bel)
  replace HZ := aside (Nat.le_trans HZ.out k1.bel.size)
  replace WW := aside W1
  clear k1 W1
  clear c0 c1 c2 c3 c4 c5 c6
  have c0 : Y4.cell? ⟨i0, 0, none⟩ = some (.int .i64 fr) := by rw [cell_of_row _ _ 0 _ _ _ KB0.out]; rfl
  have c1 : Y4.cell? ⟨i0, 1, none⟩ = some (.int .i64 tz) := by rw [cell_of_row _ _ 1 _ _ _ KB0.out]; rfl
  have c2 : Y4.cell? ⟨i0, 2, none⟩ = some (.int .i64 o) := by rw [cell_of_row _ _ 2 _ _ _ KB0.out]; rfl
  have c3 : Y4.cell? ⟨i0, 3, none⟩ = some (.int .i64 lf) := by rw [cell_of_row _ _ 3 _ _ _ KB0.out]; rfl
  have c4 : Y4.cell? ⟨i0, 4, none⟩ = some (.int .i64 n) := by rw [cell_of_row _ _ 4 _ _ _ KB0.out]; rfl
  have c5 : Y4.cell? ⟨i0, 5, none⟩ = some (.int .i64 tn) := by rw [cell_of_row _ _ 5 _ _ _ KB0.out]; rfl
  have c6 : Y4.cell? ⟨i0, 6, none⟩ = some (.slice a len cap) := by rw [cell_of_row _ _ 6 _ _ _ KB0.out]; rfl
  go_wp2_with fail
  refine (ws_num tn WW.out HZ.out (by omega) (by omega) (by simp only [List.length_append, List.length_nil]; have := enc9 (up fr); have := enc9 (up tz); have := enc9 (up o); have := enc9 (up lf); have := enc9 (up n); omega)).mono ?_
  rintro r Y5 ⟨rfl, W1, k1⟩
  replace KB0 := aside (k1.blk _ _ _ (by decide) (by decide) KB0.out)
  replace KV := aside (KV.out.trans k1.bel)
  replace HZ := aside (Nat.le_trans HZ.out k1.bel.size)
  replace WW := aside W1
  clear k1 W1
  clear c0 c1 c2 c3 c4 c5 c6
  have c0 : Y5.cell? ⟨i0, 0, none⟩ = some (.int .i64 fr) := by rw [cell_of_row _ _ 0 _ _ _ KB0.out]; rfl
  have c1 : Y5.cell? ⟨i0, 1, none⟩ = some (.int .i64 tz) := by rw [cell_of_row _ _ 1 _ _ _ KB0.out]; rfl
  have c2 : Y5.cell? ⟨i0, 2, none⟩ = some (.int .i64 o) := by rw [cell_of_row _ _ 2 _ _ _ KB0.out]; rfl
  have c3 : Y5.cell? ⟨i0, 3, none⟩ = some (.int .i64 lf) := by rw [cell_of_row _ _ 3 _ _ _ KB0.out]; rfl
  have c4 : Y5.cell? ⟨i0, 4, none⟩ = some (.int .i64 n) := by rw [cell_of_row _ _ 4 _ _ _ KB0.out]; rfl
  have c5 : Y5.cell? ⟨i0, 5, none⟩ = some (.int .i64 tn) := by rw [cell_of_row _ _ 5 _ _ _ KB0.out]; rfl
  have c6 : Y5.cell? ⟨i0, 6, none⟩ = some (.slice a len cap) := by rw [cell_of_row _ _ 6 _ _ _ KB0.out]; rfl
  go_wp2_with fail
  refine (ws_num (len : Int) WW.out HZ.out (by omega) (by omega) (by simp only [List.length_append, List.length_nil]; have := enc9 (up fr); have := enc9 (up tz); have := enc9 (up o); have := enc9 (up lf); have := enc9 (up n); have := enc9 (up tn); omega)).mono ?_
  rintro r Y6 ⟨rfl, W1, k1⟩
  replace KB0 := aside (k1.blk _ _ _ (by decide) (by decide) KB0.out)
  replace KV := aside (KV.out.trans k1.bel)
  replace HZ := aside (Nat.le_trans HZ.out k1.bel.size)
  replace WW := aside W1
  clear k1 W1
  clear c0 c1 c2 c3 c4 c5 c6
  have c0 : Y6.cell? ⟨i0, 0, none⟩ = some (.int .i64 fr) := by rw [cell_of_row _ _ 0 _ _ _ KB0.out]; rfl
  have c1 : Y6.cell? ⟨i0, 1, none⟩ = some (.int .i64 tz) := by rw [cell_of_row _ _ 1 _ _ _ KB0.out]; rfl
  have c2 : Y6.cell? ⟨i0, 2, none⟩ = some (.int .i64 o) := by rw [cell_of_row _ _ 2 _ _ _ KB0.out]; rfl
  have c3 : Y6.cell? ⟨i0, 3, none⟩ = some (.int .i64 lf) := by rw [cell_of_row _ _ 3 _ _ _ KB0.out]; rfl
  have c4 : Y6.cell? ⟨i0, 4, none⟩ = some (.int .i64 n) := by rw [cell_of_row _ _ 4 _ _ _ KB0.out]; rfl
  have c5 : Y6.cell? ⟨i0, 5, none⟩ = some (.int .i64 tn) := by rw [cell_of_row _ _ 5 _ _ _ KB0.out]; rfl
  have c6 : Y6.cell? ⟨i0, 6, none⟩ = some (.slice a len cap) := by rw [cell_of_row _ _ 6 _ _ _ KB0.out]; rfl
  obtain ⟨L2, hL2⟩ : ∃ L2, [] ++ Nm.enc 8 (up fr) ++ Nm.enc 8 (up tz) ++ Nm.enc 8 (up o) ++ Nm.enc 8 (up lf) ++ Nm.enc 8 (up n) ++ Nm.enc 8 (up tn) ++ Nm.enc 8 (up (len : Int)) = L2 := ⟨_, rfl⟩
  rw [hL2] at WW
  have HLL := aside (show L2.length ≤ 63 from by rw [← hL2]; simp only [List.length_append, List.length_nil]; have := enc9 (up fr); have := enc9 (up tz); have := enc9 (up o); have := enc9 (up lf); have := enc9 (up n); have := enc9 (up tn); have := enc9 (up (len : Int)); omega)
  have HL2 := aside hL2
  clear hL2
  go_wp2
  go_loopw [49] (fun t wr => ∃ i : Nat, t = .int .i64 (i : Int) ∧ i ≤ len ∧ Hid (WS X1.heap.size b (L2 ++ psB (psOf P i)) wr) ∧ Hid (Below X1.heap.size X1 wr)) (fun t _ => len - (intOf t).toNat)
  case atStart => exact ⟨0, rfl, Nat.zero_le _, aside (by simpa [psOf, psB] using WW.out), KV.out⟩
  case round =>
    clear WW KV HZ KB0 c0 c1 c2 c3 c4 c5 c6
    obtain ⟨i, rfl, hi, WW, KV⟩ := hrel
    by_cases hlt : (i : Int) < (len : Int)
    · have hii : (0 : Int) ≤ (i : Int) := by omega
      rcases (HP.out.keep KV.out).2.2 with h0 | ⟨bb, off, rfl, hbb, hc⟩
      · omega
      obtain ⟨m, hx⟩ : ∃ m, P i = m := ⟨_, rfl⟩
      obtain ⟨⟨e0, e1, e2, e3, e4, e5, e6, e7⟩, -⟩ := hc i (by omega)
      rw [hx] at e0 e1 e2 e3 e4 e5 e6 e7
      have HX := aside hx
      have HMI := aside (show m.In X1 from by
        rcases HP.out.2.2 with h0 | ⟨bb, off, _, _, hc⟩
        · omega
        · rw [← hx]; exact (hc i (by omega)).2)
      have HMV := aside (show PVok (pvOf m) ∧ 0 ≤ m.s0 ∧ 0 ≤ m.s1 from by rw [← hx]; exact ⟨HOK.out.ps _ (psOf_mem P (by omega)), HU.out i (by omega)⟩)
      have HS := aside (show (psB (psOf P i)).length ≤ 39398400 from by
        have h1 := psB_len (psOf P i) (fun v hv => HOK.out.ps v (psOf_sub P hi v hv))
        rw [psOf_len] at h1
        have h2 := HLE.out
        omega)
      clear hx hc hbb
      have B2 := aside (bnew wr (.cells #[.int .i64 m.kind, .string m.lo, .string m.hi, .bool m.op, .int .i64 m.cnt, .int .u64 m.s0, .int .u64 m.s1, .slice m.ea m.el m.ec] 46))
      have K2 := aside (heap_alloc_new wr (.cells #[.int .i64 m.kind, .string m.lo, .string m.hi, .bool m.op, .int .i64 m.cnt, .int .u64 m.s0, .int .u64 m.s1, .slice m.ea m.el m.ec] 46))
      replace WW := aside (WW.out.keep B2.out)
      replace KV := aside (KV.out.trans (B2.out.mono KV.out.size))
      go_upto_region 15 with fail
      clear e0 e1 e2 e3 e4 e5 e6 e7 B2
      obtain ⟨i5, hi5⟩ : ∃ i5, wr.heap.size = i5 := ⟨_, rfl⟩
      rw [hi5] at K2 ⊢
      clear hi5
      generalize wr.alloc (.cells #[.int .i64 m.kind, .string m.lo, .string m.hi, .bool m.op, .int .i64 m.cnt, .int .u64 m.s0, .int .u64 m.s1, .slice m.ea m.el m.ec] 46) = X5 at K2 WW KV ⊢
      have x0 : X5.cell? ⟨i5, 0, none⟩ = some (.int .i64 m.kind) := by rw [cell_of_row _ _ 0 _ _ _ K2.out]; rfl
      have x1 : X5.cell? ⟨i5, 1, none⟩ = some (.string m.lo) := by rw [cell_of_row _ _ 1 _ _ _ K2.out]; rfl
      have x2 : X5.cell? ⟨i5, 2, none⟩ = some (.string m.hi) := by rw [cell_of_row _ _ 2 _ _ _ K2.out]; rfl
      have x3 : X5.cell? ⟨i5, 3, none⟩ = some (.bool m.op) := by rw [cell_of_row _ _ 3 _ _ _ K2.out]; rfl
      have x4 : X5.cell? ⟨i5, 4, none⟩ = some (.int .i64 m.cnt) := by rw [cell_of_row _ _ 4 _ _ _ K2.out]; rfl
      have x5 : X5.cell? ⟨i5, 5, none⟩ = some (.int .u64 m.s0) := by rw [cell_of_row _ _ 5 _ _ _ K2.out]; rfl
      have x6 : X5.cell? ⟨i5, 6, none⟩ = some (.int .u64 m.s1) := by rw [cell_of_row _ _ 6 _ _ _ K2.out]; rfl
      have x7 : X5.cell? ⟨i5, 7, none⟩ = some (.slice m.ea m.el m.ec) := by rw [cell_of_row _ _ 7 _ _ _ K2.out]; rfl
      go_wp2_with fail
      refine (wpart_any m WW.out KV.out (by simp only [List.length_append]; have h1 := HS.out; have h2 := HLL.out; omega) HMV.out.1 HMV.out.2.1 HMV.out.2.2 HMI.out).mono ?_
      rintro r w9 ⟨rfl, W1, k1⟩
      replace KV := aside (KV.out.trans k1.bel)
      replace WW := aside (show WS X1.heap.size b (L2 ++ psB (psOf P (i + 1))) w9 from by rw [psB_step, HX.out, ← List.append_assoc]; exact W1)
      clear k1 W1 x0 x1 x2 x3 x4 x5 x6 x7
      go_wp2
      go_roundw
      case rel => exact ⟨i + 1, by go_num, by omega, WW.out, KV.out⟩
      case measure => simp [intOf]; omega
    · obtain rfl : i = len := by omega
      have HS := aside (show (psB (psOf P i)).length ≤ 39398400 from by
        have h1 := psB_len (psOf P i) HOK.out.ps
        rw [psOf_len] at h1
        have h2 := HLE.out
        omega)
      go_wp2_with fail
      refine (ws_bytes WW.out (by simp only [List.length_append]; have h1 := HS.out; have h2 := HLL.out; omega)).mono ?_
      rintro r w9 ⟨v', rfl, own, b9⟩
      have OW := aside (own_low own (Nat.le_trans BB.out.size KV.out.size))
      have BF := aside (bthen BB.out (KV.out.trans (b9.mono KV.out.size)))
      clear own b9
      go_wp2
      go_ret2
      have := OW.out
      rw [← HL2.out, upN] at this
      have e : [] ++ Nm.enc 8 (up fr) ++ Nm.enc 8 (up tz) ++ Nm.enc 8 (up o) ++ Nm.enc 8 (up lf) ++ Nm.enc 8 (up n) ++ Nm.enc 8 (up tn) ++ Nm.enc 8 i ++ psB (psOf P i) = frameB ⟨fr, tz, o, lf, n, tn, psOf P i⟩ := by
        unfold frameB
        dsimp only
        rw [psOf_len]
        simp [List.append_assoc]
      rw [e] at this
      exact ⟨v', rfl, this, BF.out⟩
end Go.Proofs.Ytbnppmkdhnpdfaa
namespace Go.Proofs.Ytbnppmkdhnpdfaa
open Go.RowKit Go.Shelf
attribute [local go_sem] Oper.semAt_some
end Go.Proofs.Ytbnppmkdhnpdfaa
namespace Go.Proofs.Ytbnppmkdhnpdfaa
open Go.RowKit
end Go.Proofs.Ytbnppmkdhnpdfaa
namespace Go.Proofs.Ytbnppmkdhnpdfaa
open Go.RowKit
end Go.Proofs.Ytbnppmkdhnpdfaa
namespace Go.Proofs.Ytbnppmkdhnpdfaa
open Go.RowKit Go.Shelf
attribute [local go_sem] Oper.semAt_some
end Go.Proofs.Ytbnppmkdhnpdfaa
namespace Go.Proofs.Ytbnppmkdhnpdfaa
open Go.RowKit
set_option linter.unusedVariables false
end Go.Proofs.Ytbnppmkdhnpdfaa
namespace Go.Proofs.Ytbnppmkdhnpdfaa
open Go.RowKit
set_option linter.unusedVariables false
end Go.Proofs.Ytbnppmkdhnpdfaa
namespace Go.Proofs.Ytbnppmkdhnpdfaa
open Go.RowKit
set_option linter.unusedVariables false
end Go.Proofs.Ytbnppmkdhnpdfaa
namespace Go.Proofs.Ytbnppmkdhnpdfaa
open Go.RowKit
set_option linter.unusedVariables false
end Go.Proofs.Ytbnppmkdhnpdfaa
namespace Go.Proofs.Ytbnppmkdhnpdfaa
open Go.RowKit
set_option linter.unusedVariables false
end Go.Proofs.Ytbnppmkdhnpdfaa
namespace Go.Proofs.Ytbnppmkdhnpdfaa
open Go.RowKit
set_option linter.unusedVariables false
end Go.Proofs.Ytbnppmkdhnpdfaa
namespace Go.Proofs.Ytbnppmkdhnpdfaa
open Go.RowKit
set_option linter.unusedVariables false
theorem ptN_all {P : Nat → Pm} : ∀ {n : Nat}, ptN P n = 0 → ∀ i, i < n → ptAt P i = 0 := by
  intro n
  induction n with
  | zero => intro _ i hi; omega
  | succ n ih =>
    intro h i hi
    have h0 : ptN P n = 0 := by
      by_cases g : ptN P n = 0
      · exact g
      · rw [ptN_stay g (n + 1) (by omega)] at h; exact absurd h g
    rcases Nat.lt_or_ge i n with g | g
    · exact ih h0 i g
    · obtain rfl : i = n := by omega
      rw [← ptN_step h0]; exact h
theorem itN_all {r : Rg} {T : Nat → En} : ∀ {n : Nat}, itN r T n = 0 → ∀ i, i < n → itAt r T i = 0 := by
  intro n
  induction n with
  | zero => intro _ i hi; omega
  | succ n ih =>
    intro h i hi
    have h0 : itN r T n = 0 := by
      by_cases g : itN r T n = 0
      · exact g
      · rw [itN_stay g (n + 1) (by omega)] at h; exact absurd h g
    rcases Nat.lt_or_ge i n with g | g
    · exact ih h0 i g
    · obtain rfl : i = n := by omega
      rw [← itN_step h0]; exact h
/-- A part that may be, behind those ahead of it. -/
structure GoodP (P : Nat → Pm) (i : Nat) : Prop where
  chk : (P i).rg.chk = 0
  emp : (P i).rg.emp = false
  op : ahOp P i = false
  lo : kLt (P i).lo (ahHi P i) = false
  its : ∀ k, k < (P i).el → itAt (P i).rg (P i).T k = 0
theorem good_of {P : Nat → Pm} {i : Nat} (h : ptAt P i = 0) : GoodP P i := by
  unfold ptAt Pm.chk at h
  cases h1 : (P i).alone
  · rw [if_pos h1] at h; cases h
  · rw [if_neg (by simp [h1])] at h
    by_cases h2 : (P i).rg.chk = 0
    · rw [if_neg (by simp [h2])] at h
      by_cases h3 : (P i).rg.emp = true ∨ ahOp P i = true ∨ kLt (P i).lo (ahHi P i) = true
      · rw [if_pos h3] at h; cases h
      · rw [if_neg h3] at h
        refine ⟨h2, ?_, ?_, ?_, ?_⟩
        · cases e : (P i).rg.emp
          · rfl
          · exact absurd (.inl e) h3
        · cases e : ahOp P i
          · rfl
          · exact absurd (.inr (.inl e)) h3
        · cases e : kLt (P i).lo (ahHi P i)
          · rfl
          · exact absurd (.inr (.inr e)) h3
        · by_cases h4 : (P i).kind = 1
          · unfold Pm.alone at h1
            rw [if_pos h4] at h1
            intro k hk
            have : (P i).el = 0 := by simpa using h1
            omega
          · rw [if_neg h4] at h
            unfold Pm.its at h
            by_cases h5 : itN (P i).rg (P i).T (P i).el = 0
            · exact fun k hk => itN_all h5 k hk
            · rw [if_pos h5] at h; exact absurd h h5
    · rw [if_pos h2] at h; exact absurd h h2
theorem goods {P : Nat → Pm} {n : Nat} (h : psChk P n = 0) : n ≤ 768 ∧ totE P n ≤ 256 ∧ ∀ i, i < n → GoodP P i := by
  unfold psChk at h
  by_cases g : 768 < n ∨ 256 < totE P n
  · rw [if_pos g] at h; cases h
  · rw [if_neg g] at h
    exact ⟨by omega, by omega, fun i hi => good_of (ptN_all h i hi)⟩
end Go.Proofs.Ytbnppmkdhnpdfaa
namespace Go.Proofs.Ytbnppmkdhnpdfaa
open Go.RowKit
set_option linter.unusedVariables false
end Go.Proofs.Ytbnppmkdhnpdfaa
namespace Go.Proofs.Ytbnppmkdhnpdfaa
open Go.RowKit
set_option linter.unusedVariables false
theorem fchk_zero {fr tz o l n tn : Int} {P : Nat → Pm} {len : Nat} (h : fChk fr tz o l n tn P len = 0) : endsB fr tz o = true ∧ Nm.chk o l n = 0 ∧ turnB tn fr o = true ∧ psChk P len = 0 := by
  unfold fChk at h
  cases h1 : endsB fr tz o
  · rw [if_pos h1] at h; cases h
  · rw [if_neg (by simp [h1])] at h
    by_cases h2 : Nm.chk o l n = 0
    · rw [if_neg (by simp [h2])] at h
      cases h3 : turnB tn fr o
      · rw [if_pos h3] at h; cases h
      · rw [if_neg (by simp [h3])] at h
        by_cases h4 : psChk P len = 0
        · exact ⟨rfl, h2, rfl, h4⟩
        · rw [if_pos h4] at h; exact absurd h h4
    · rw [if_pos h2] at h; exact absurd h h2
end Go.Proofs.Ytbnppmkdhnpdfaa
namespace Go.Proofs.Ytbnppmkdhnpdfaa
open Go.RowKit
set_option linter.unusedVariables false
theorem dec_any (a : Option Addr) (len cap : Nat) (l : List UInt8) (w : World) (hR : ∀ w', Below w.heap.size w w' → Reads w' (.slice a len cap) l) (hlen : len = l.length) :
    Calls Try.prog 14 #[.slice a len cap] w (DecP w l) := by
  rcases hf : frameSt l with ⟨⟨fr, tz, o, lf, n, tn, ps⟩, p, e⟩
  by_cases hl : 65536 < len
  · exact dec_long a len cap l w hR hl (decF_no hf (fun h => by omega))
  · obtain ⟨q, hq⟩ : ∃ q, doneOf ((l.length : Int) - (p : Int)) e = q := ⟨_, rfl⟩
    by_cases hq0 : q = 0
    · subst hq0
      obtain ⟨rfl, -⟩ := done_zero hq
      obtain ⟨hok, -⟩ := frame_inv hf
      obtain ⟨ch, hch⟩ : ∃ ch, FV.chk ⟨fr, tz, o, lf, n, tn, ps⟩ = ch := ⟨_, rfl⟩
      by_cases hc0 : ch = 0
      · exact dec_ok a len cap l w hR (by omega) (by omega) hf hq rfl hok hch hc0 (decF_ok hf (by omega) hq (by rw [hch]; exact hc0))
      · exact dec_chk a len cap l w hR (by omega) (by omega) hf hq rfl hok hch hc0 (decF_no hf (fun h => hc0 (by rw [← hch]; exact h.2.2)))
    · exact dec_done a len cap l w hR (by omega) (by omega) hf hq hq0 (decF_no hf (fun h => hq0 (by rw [← hq]; exact h.2.1)))
theorem decF_put {F : FV} (h : FVok F) (hc : F.chk = 0) (hl : (frameB F).length ≤ 65536) : decF (frameB F) = some F := by
  have h1 := frame_put h (show frameB F = frameB F ++ [] by simp)
  refine decF_ok h1 hl ?_ hc
  unfold doneOf
  rw [if_neg (by omega)]
theorem decF_more {F : FV} {x : List UInt8} (h : FVok F) (hx : x ≠ []) : decF (frameB F ++ x) = none := by
  have h1 := frame_put h (show frameB F ++ x = frameB F ++ x from rfl)
  refine decF_no h1 (fun h => ?_)
  have h2 := (done_zero h.2.1).2
  apply h2
  have : 0 < x.length := List.length_pos_iff.2 hx
  rw [List.length_append]
  omega
/-- What was decoded was written so. -/
theorem decF_inv {l : List UInt8} {F : FV} (h : decF l = some F) : FVok F ∧ F.chk = 0 ∧ l = frameB F ∧ l.length ≤ 65536 := by
  rcases hf : frameSt l with ⟨G, p, e⟩
  by_cases hc : l.length ≤ 65536 ∧ doneOf ((l.length : Int) - (p : Int)) e = 0 ∧ G.chk = 0
  · rw [decF_ok hf hc.1 hc.2.1 hc.2.2] at h
    injection h with h
    subst h
    obtain ⟨rfl, hd⟩ := done_zero hc.2.1
    obtain ⟨h1, h2, h3⟩ := frame_inv hf
    refine ⟨h1, hc.2.2, ?_, hc.1⟩
    rw [List.drop_of_length_le (by omega), List.append_nil] at h2
    exact h2
  · rw [decF_no hf hc] at h
    cases h
theorem own_pre {w : World} {B g n m cap : Nat} {xs : List Value} (h : w.ownsRow B 5 1 (.slice (some ⟨g, 0, none⟩) n cap) n xs) (hm : m ≤ n) : w.ownsRow B 5 1 (.slice (some ⟨g, 0, none⟩) m cap) m (xs.take m) := by
  refine ⟨by rw [List.length_take, h.1]; omega, ?_⟩
  rcases h.2 with ⟨h1, _⟩ | ⟨g', cap', cur, h1, h2, h3, h4, h5, h6, h7⟩
  · cases h1
  · injection h1 with e1 e2 e3
    injection e1 with e1
    injection e1 with e1
    subst e1 e3
    refine .inr ⟨g, cap, cur, rfl, h2, h3, by omega, h5, h6, ?_⟩
    rw [← h7, List.take_take, Nat.min_eq_left (by omega)]; simp
/-- Bytes of a block appended to an owned row that is not nil: the row grows in its place, or a new one is laid. -/
theorem op_append_bytes {w : World} {o : Oper} {act : Act} {K : Act → World → Prop} {Q : Exit → Act → World → Prop} (s x : Operand)
    (ho : o.op = .call { callee := .builtin .append, args := #[s, x], argTypes := #[30, 30] })
    (B n g0 c0 : Nat) (xs : List Value) (hs : act.eval s = .slice (some ⟨g0, 0, none⟩) n c0) (hA : w.ownsRow B 5 1 (.slice (some ⟨g0, 0, none⟩) n c0) n xs) (b m c : Nat) (news : List Value) (hx : act.eval x = .slice (some ⟨b, 0, none⟩) m c)
    (hc : ∀ j u, news[j]? = some u → w.cell? ((⟨b, 0, none⟩ : Addr).add j) = some u) (hn : news.length = m) (h1c : ∀ u ∈ news, u.oneCell' = true) (hlen : n + m ≤ 140737488351232) (hB : B ≤ w.heap.size) (hm : 0 < m)
    (h : ∀ g cap w', w'.ownsRow B 5 1 (.slice (some ⟨g, 0, none⟩) (n + m) cap) (n + m) (xs ++ news) → ((g = g0 ∧ cap = c0 ∧ w.grownBy w' (some g0)) ∨ (w.heap.size ≤ g ∧ w.grownBy w' none)) → K (act.put o.dst (.slice (some ⟨g, 0, none⟩) (n + m) cap)) w') : o.wp Try.prog act w K Q := by
  obtain ⟨i0, hi, hz0, hz1, hz2⟩ := info_parts info8
  by_cases hroom : n + m ≤ c0
  · obtain ⟨w', hrun, r1, r2⟩ := run_append_fits (P := Try.prog) w B 30 o.type 5 i0 1 Try.underlying30 hi hz1 g0 n c0 xs hA ⟨b, 0, none⟩ m c news (by rw [hn]; omega) hc h1c hroom
    unfold Oper.wp
    simp [execOp, ho, resolve, invoke, builtin, hs, hx, hrun, Result.andThen]
    exact h g0 c0 w' r1 (.inl ⟨rfl, rfl, r2⟩)
  · have hl : xs.length = n * 1 := hA.1
    obtain ⟨v', w', hrun, r1, r2⟩ := run_append_arg_grows (P := Try.prog) w 30 o.type 5 i0 _ 1 1 Try.underlying30 hi hz0 hz1 hz2 rfl (by decide) ⟨g0, 0, none⟩ n c0 xs hl (fun j u hj => by
      have hjl : j < n * 1 := by rw [← hl]; exact (List.getElem?_eq_some_iff.1 hj).1
      rw [Addr.add_lit, Nat.zero_add, hA.cellAt j (by omega)]
      exact hj) ⟨b, 0, none⟩ m c news (by rw [hn]; omega) hc (by omega) (by unfold maxLen; omega) (by omega)
    unfold Oper.wp
    simp [execOp, ho, resolve, invoke, builtin, hs, hx, hrun, Result.andThen]
    rcases r1.2 with ⟨h1, h2⟩ | ⟨g, cap', cur, rfl, hge, _⟩
    · omega
    · exact h g cap' w' (own_low r1 hB) (.inr ⟨hge, r2⟩)
/-- What is wrong with nothing wrong: a frame whose bytes can be read again. -/
theorem part_ok {P : Nat → Pm} {i : Nat} (h : ptAt P i = 0) (hel : (P i).el ≤ 256) (hu : (0 ≤ (P i).s0 ∧ (P i).s0 < 18446744073709551616) ∧ 0 ≤ (P i).s1 ∧ (P i).s1 < 18446744073709551616) : PVok (pvOf (P i)) := by
  have g := good_of h
  have hr := g.chk
  unfold ptAt Pm.chk at h
  have hal : (P i).alone = true := by
    cases h1 : (P i).alone
    · rw [if_pos h1] at h; cases h
    · rfl
  rw [if_neg (by simp [hal]), if_neg (by simp [hr]), if_neg (by rw [g.emp, g.op, g.lo]; simp)] at h
  have hk : (P i).kind = 1 ∨ (P i).kind = 2 ∨ (P i).kind = 3 := by
    unfold Pm.alone at hal
    split at hal
    · rename_i e; exact .inl e
    · split at hal
      · rename_i e; exact .inr e
      · cases hal
  have hrg : (P i).lo.size ≤ 16 ∧ (P i).hi.size ≤ 16 ∧ ((P i).op = true → (P i).hi = ⟨#[]⟩) := by
    unfold Rg.chk Pm.rg at hr
    dsimp only at hr
    split at hr
    · cases hr
    · rename_i e
      refine ⟨by omega, by omega, fun ho => ?_⟩
      split at hr
      · cases hr
      · rename_i e2
        rw [ho] at e2
        simp only [Bool.true_and, Bool.not_true, Bool.false_and, Bool.or_false] at e2
        have e3 : (P i).hi.toList.isEmpty = true := by
          cases hE : (P i).hi.toList.isEmpty
          · rw [hE] at e2; simp at e2
          · rfl
        rw [ByteArray.toList_eq] at e3
        generalize (P i).hi = x at e3
        obtain ⟨⟨y⟩⟩ := x
        simp at e3
        rw [e3]
  refine ⟨hk, hrg.1, hrg.2.1, hrg.2.2, fun e => ?_, fun e => ?_⟩
  · have e' : (P i).kind = 1 := e
    rw [if_pos e'] at h
    unfold Pm.alone at hal
    rw [if_pos e'] at hal
    have h0 : (P i).el = 0 := by simpa using hal
    unfold tlChk at h
    refine ⟨by unfold pvOf; dsimp only; rw [h0]; rfl, ?_⟩
    unfold pvOf
    dsimp only
    split at h
    · cases h
    · omega
  · have e' : ¬ (P i).kind = 1 := e
    unfold Pm.alone at hal
    rw [if_neg e', if_pos (by omega)] at hal
    simp only [Bool.and_eq_true, beq_iff_eq] at hal
    unfold pvOf
    dsimp only
    refine ⟨hal.1, by omega, by omega, by rw [eFirst_len]; exact hel, fun x hx => ?_⟩
    obtain ⟨k, hk, rfl⟩ := List.mem_map.1 hx
    have := g.its k (List.mem_range.1 hk)
    unfold itAt at this
    by_cases h1 : ((P i).T k).chk = 0
    · exact h1
    · rw [if_pos h1] at this; exact absurd this h1
theorem frame_ok {fr tz o l n tn : Int} {P : Nat → Pm} {len : Nat} (h : fChk fr tz o l n tn P len = 0) (hu : ∀ i, i < len → (0 ≤ (P i).s0 ∧ (P i).s0 < 18446744073709551616) ∧ 0 ≤ (P i).s1 ∧ (P i).s1 < 18446744073709551616) : FVok ⟨fr, tz, o, l, n, tn, psOf P len⟩ := by
  obtain ⟨h1, h2, h3, h4⟩ := fchk_zero h
  obtain ⟨g1, g2, g3⟩ := goods h4
  have hpt : ∀ i, i < len → ptAt P i = 0 := by
    unfold psChk at h4
    rw [if_neg (by omega)] at h4
    exact ptN_all h4
  unfold Nm.chk at h2
  have h2' : 0 ≤ o ∧ o ≤ 7 ∧ 1 ≤ l ∧ l ≤ 1048576 ∧ 1 ≤ n ∧ n ≤ 1048576 := by
    split at h2
    · omega
    · split at h2 <;> omega
  unfold endsB nodeB at h1
  simp only [Bool.and_eq_true, decide_eq_true_eq] at h1
  unfold turnB at h3
  simp only [Bool.and_eq_true, decide_eq_true_eq] at h3
  refine ⟨by dsimp only; omega, by dsimp only; omega, by dsimp only; omega, by dsimp only; omega, by dsimp only; omega, by dsimp only; omega, by dsimp only; rw [psOf_len]; exact g1, fun v hv => ?_⟩
  obtain ⟨i, hi, rfl⟩ := List.mem_map.1 hv
  have hi' := List.mem_range.1 hi
  exact part_ok (hpt i hi') (by have := el_totE P hi'; omega) (hu i hi')
end Go.Proofs.Ytbnppmkdhnpdfaa
namespace Go.Proofs.Ytbnppmkdhnpdfaa
open Go.RowKit
set_option linter.unusedVariables false
end Go.Proofs.Ytbnppmkdhnpdfaa
namespace Go.Proofs.Ytbnppmkdhnpdfaa
open Go.RowKit
set_option linter.unusedVariables false
theorem fchk1 : fChk 2 1 1 1 1 1 (fun _ => pm0) 0 = 0 := by decide
theorem fchk2 (ge : Nat) : fChk 2 1 1 1 1 1 (fun _ => (⟨3, ⟨#[97]⟩, ⟨#[98]⟩, false, 0, 0, 0, some ⟨ge, 0, none⟩, 1, 1, fun _ => ⟨⟨#[97]⟩, 7, 0, ⟨#[]⟩, true⟩⟩ : Pm)) 1 = 0 := by kernel_rfl
theorem fB1 : frameB (⟨2, 1, 1, 1, 1, 1, []⟩ : FV) = [2, 1, 1, 1, 1, 1, 0] := by decide
theorem fB2 : frameB (⟨2, 1, 1, 1, 1, 1, [⟨3, ⟨#[97]⟩, ⟨#[98]⟩, false, 0, 0, 0, [⟨⟨#[97]⟩, 7, 0, ⟨#[]⟩, true⟩]⟩]⟩ : FV) = [2, 1, 1, 1, 1, 1, 1, 3, 1, 97, 0, 1, 98, 1, 1, 97, 7, 0, 1] := by decide
theorem fps2 (ge : Nat) : psOf (fun _ => (⟨3, ⟨#[97]⟩, ⟨#[98]⟩, false, 0, 0, 0, some ⟨ge, 0, none⟩, 1, 1, fun _ => ⟨⟨#[97]⟩, 7, 0, ⟨#[]⟩, true⟩⟩ : Pm)) 1 = [⟨3, ⟨#[97]⟩, ⟨#[98]⟩, false, 0, 0, 0, [⟨⟨#[97]⟩, 7, 0, ⟨#[]⟩, true⟩]⟩] := by rfl
theorem fok1 : FVok (⟨2, 1, 1, 1, 1, 1, []⟩ : FV) := frame_ok (P := fun _ => pm0) fchk1 (fun i hi => by omega)
theorem fok2 : FVok (⟨2, 1, 1, 1, 1, 1, [⟨3, ⟨#[97]⟩, ⟨#[98]⟩, false, 0, 0, 0, [⟨⟨#[97]⟩, 7, 0, ⟨#[]⟩, true⟩]⟩]⟩ : FV) := frame_ok (P := (fun _ => (⟨3, ⟨#[97]⟩, ⟨#[98]⟩, false, 0, 0, 0, some ⟨0, 0, none⟩, 1, 1, fun _ => ⟨⟨#[97]⟩, 7, 0, ⟨#[]⟩, true⟩⟩ : Pm))) (fchk2 0) (fun i hi => by simp)
theorem fch2 : FV.chk (⟨2, 1, 1, 1, 1, 1, [⟨3, ⟨#[97]⟩, ⟨#[98]⟩, false, 0, 0, 0, [⟨⟨#[97]⟩, 7, 0, ⟨#[]⟩, true⟩]⟩]⟩ : FV) = 0 := by kernel_rfl
theorem fdec2 : decF [2, 1, 1, 1, 1, 1, 1, 3, 1, 97, 0, 1, 98, 1, 1, 97, 7, 0, 1] = some (⟨2, 1, 1, 1, 1, 1, [⟨3, ⟨#[97]⟩, ⟨#[98]⟩, false, 0, 0, 0, [⟨⟨#[97]⟩, 7, 0, ⟨#[]⟩, true⟩]⟩]⟩ : FV) := by rw [← fB2]; exact decF_put fok2 fch2 (by rw [fB2]; decide)
theorem fdec1 : decF [2, 1, 1, 1, 1, 1, 0, 0] = none := by
  rw [show ([2, 1, 1, 1, 1, 1, 0, 0] : List UInt8) = frameB (⟨2, 1, 1, 1, 1, 1, []⟩ : FV) ++ [0] from by rw [fB1]; rfl]
  exact decF_more fok1 (by simp)
set_option maxRecDepth 100000 in
set_option maxHeartbeats 3200000 in
theorem shown_any (w : World) : Calls Try.prog 9 #[] w fun e w' => e = .returned (.bool true) ∧ Below w.heap.size w w' := by
  have KN := aside (heap_alloc_new w (.cells #[.int .i64 1, .int .i64 1, .int .i64 1] 23))
  have BB := aside (bnew w (.cells #[.int .i64 1, .int .i64 1, .int .i64 1] 23))
  go_enter Try.func9, Try.ntmps9
  go_upto_region 2 with fail
  obtain ⟨i0, hi0⟩ : ∃ i0, w.heap.size = i0 := ⟨_, rfl⟩
  rw [hi0] at KN ⊢
  clear hi0
  generalize w.alloc (.cells #[.int .i64 1, .int .i64 1, .int .i64 1] 23) = X0 at KN BB ⊢
  have n0 : X0.cell? ⟨i0, 0, none⟩ = some (.int .i64 1) := by rw [cell_of_row _ _ 0 _ _ _ KN.out]; rfl
  have n1 : X0.cell? ⟨i0, 1, none⟩ = some (.int .i64 1) := by rw [cell_of_row _ _ 1 _ _ _ KN.out]; rfl
  have n2 : X0.cell? ⟨i0, 2, none⟩ = some (.int .i64 1) := by rw [cell_of_row _ _ 2 _ _ _ KN.out]; rfl
  go_wp2_with fail
  refine (enc_ok 2 1 1 1 1 1 none 0 0 (fun _ => pm0) X0 ⟨Nat.le_refl _, by unfold maxLen; omega, .inl rfl⟩ (by simp [totE]) fchk1 fok1 (fun i hi => by omega)).mono ?_
  rintro r X1 ⟨v1, rfl, own1, b1⟩
  rw [show psOf (fun _ => pm0) 0 = [] from rfl, fB1] at own1
  obtain ⟨g1, c1, rfl, hg1⟩ : ∃ g c, v1 = .slice (some ⟨g, 0, none⟩) 7 c ∧ g < X1.heap.size := by
    rcases own1.2 with ⟨_, h2⟩ | ⟨g, c, cur, h1, _⟩
    · cases h2
    · exact ⟨g, c, h1, by rw [h1] at own1; exact (own1.lt g rfl).2⟩
  have O1 := aside (show X1.ownsRow w.heap.size 5 1 (.slice (some ⟨g1, 0, none⟩) 7 c1) 7 (Lib.byteCells [2, 1, 1, 1, 1, 1, 0]) from own_low own1 BB.out.size)
  have HG1 := aside hg1
  replace KN := aside (blk_on KN.out b1)
  replace BB := aside (bthen BB.out b1)
  clear own1 hg1 b1 n0 n1 n2
  have KE := aside (blk_on (heap_alloc_new X1 (.cells #[.string ⟨#[97]⟩, .int .i64 7, .int .i64 0, .string ⟨#[]⟩, .bool true] 50)) (bnew _ (.cells #[.int .i64 3, .string ⟨#[97]⟩, .string ⟨#[98]⟩, .bool false, .int .i64 0, .int .u64 0, .int .u64 0, .slice (some ⟨X1.heap.size, 0, none⟩) 1 1] 46)))
  have KP := aside (heap_alloc_new (X1.alloc (.cells #[.string ⟨#[97]⟩, .int .i64 7, .int .i64 0, .string ⟨#[]⟩, .bool true] 50)) (.cells #[.int .i64 3, .string ⟨#[97]⟩, .string ⟨#[98]⟩, .bool false, .int .i64 0, .int .u64 0, .int .u64 0, .slice (some ⟨X1.heap.size, 0, none⟩) 1 1] 46))
  have bb := bthen (bnew X1 (.cells #[.string ⟨#[97]⟩, .int .i64 7, .int .i64 0, .string ⟨#[]⟩, .bool true] 50)) (bnew _ (.cells #[.int .i64 3, .string ⟨#[97]⟩, .string ⟨#[98]⟩, .bool false, .int .i64 0, .int .u64 0, .int .u64 0, .slice (some ⟨X1.heap.size, 0, none⟩) 1 1] 46))
  simp only [World.size_alloc] at KP
  replace KN := aside (blk_on KN.out bb)
  replace BB := aside (bthen BB.out bb)
  replace O1 := aside (own_on O1.out bb)
  have HS2 := aside bb.size
  go_upto_region 4 with fail
  obtain ⟨ge, hge⟩ : ∃ ge, X1.heap.size = ge := ⟨_, rfl⟩
  rw [hge] at KE KP HG1 HS2 ⊢
  obtain ⟨gp, hgp⟩ : ∃ gp, ge + 1 = gp := ⟨_, rfl⟩
  rw [hgp] at KP ⊢
  rw [hge] at KN BB O1
  clear bb hgp hge
  generalize (X1.alloc (.cells #[.string ⟨#[97]⟩, .int .i64 7, .int .i64 0, .string ⟨#[]⟩, .bool true] 50)).alloc (.cells #[.int .i64 3, .string ⟨#[97]⟩, .string ⟨#[98]⟩, .bool false, .int .i64 0, .int .u64 0, .int .u64 0, .slice (some ⟨ge, 0, none⟩) 1 1] 46) = X2 at KE KP KN BB O1 HS2 ⊢
  have n0 : X2.cell? ⟨i0, 0, none⟩ = some (.int .i64 1) := by rw [cell_of_row _ _ 0 _ _ _ KN.out]; rfl
  have n1 : X2.cell? ⟨i0, 1, none⟩ = some (.int .i64 1) := by rw [cell_of_row _ _ 1 _ _ _ KN.out]; rfl
  have n2 : X2.cell? ⟨i0, 2, none⟩ = some (.int .i64 1) := by rw [cell_of_row _ _ 2 _ _ _ KN.out]; rfl
  have p0 : X2.cell? ⟨gp, 0, none⟩ = some (.int .i64 3) := by rw [cell_of_row _ _ 0 _ _ _ KP.out]; rfl
  have p1 : X2.cell? ⟨gp, 1, none⟩ = some (.string ⟨#[97]⟩) := by rw [cell_of_row _ _ 1 _ _ _ KP.out]; rfl
  have p2 : X2.cell? ⟨gp, 2, none⟩ = some (.string ⟨#[98]⟩) := by rw [cell_of_row _ _ 2 _ _ _ KP.out]; rfl
  have p3 : X2.cell? ⟨gp, 3, none⟩ = some (.bool false) := by rw [cell_of_row _ _ 3 _ _ _ KP.out]; rfl
  have p4 : X2.cell? ⟨gp, 4, none⟩ = some (.int .i64 0) := by rw [cell_of_row _ _ 4 _ _ _ KP.out]; rfl
  have p5 : X2.cell? ⟨gp, 5, none⟩ = some (.int .u64 0) := by rw [cell_of_row _ _ 5 _ _ _ KP.out]; rfl
  have p6 : X2.cell? ⟨gp, 6, none⟩ = some (.int .u64 0) := by rw [cell_of_row _ _ 6 _ _ _ KP.out]; rfl
  have p7 : X2.cell? ⟨gp, 7, none⟩ = some (.slice (some ⟨ge, 0, none⟩) 1 1) := by rw [cell_of_row _ _ 7 _ _ _ KP.out]; rfl
  have B3 := aside (bnew X2 (.cells #[.int .i64 3, .string ⟨#[97]⟩, .string ⟨#[98]⟩, .bool false, .int .i64 0, .int .u64 0, .int .u64 0, .slice (some ⟨ge, 0, none⟩) 1 1] 46))
  have HPI := aside (show PartsIn (X2.alloc (.cells #[.int .i64 3, .string ⟨#[97]⟩, .string ⟨#[98]⟩, .bool false, .int .i64 0, .int .u64 0, .int .u64 0, .slice (some ⟨ge, 0, none⟩) 1 1] 46)) (some ⟨X2.heap.size, 0, none⟩) 1 1 (fun _ => (⟨3, ⟨#[97]⟩, ⟨#[98]⟩, false, 0, 0, 0, some ⟨ge, 0, none⟩, 1, 1, fun _ => ⟨⟨#[97]⟩, 7, 0, ⟨#[]⟩, true⟩⟩ : Pm)) from
    ⟨Nat.le_refl _, by unfold maxLen; omega, .inr ⟨X2.heap.size, 0, rfl, by rw [World.size_alloc]; omega, fun i hii => ⟨by
      obtain rfl : i = 0 := by omega
      exact oct8 (heap_alloc_new X2 (.cells #[.int .i64 3, .string ⟨#[97]⟩, .string ⟨#[98]⟩, .bool false, .int .i64 0, .int .u64 0, .int .u64 0, .slice (some ⟨ge, 0, none⟩) 1 1] 46)), ⟨Nat.le_refl _, by dsimp only; unfold maxLen; omega, .inr ⟨ge, 0, rfl, by have := (Array.getElem?_eq_some_iff.1 KE.out).1; rw [World.size_alloc]; omega, fun k hk => by
        have hk0 : k = 0 := by dsimp only at hk; omega
        subst hk0
        have h5 := blk_on KE.out B3.out
        exact ⟨⟨by rw [cell_of_row _ _ 0 _ _ _ h5]; rfl, by rw [cell_of_row _ _ 1 _ _ _ h5]; rfl, by rw [cell_of_row _ _ 2 _ _ _ h5]; rfl, by rw [cell_of_row _ _ 3 _ _ _ h5]; rfl, by rw [cell_of_row _ _ 4 _ _ _ h5]; rfl⟩, by show ByteArray.size ⟨#[97]⟩ ≤ 140737488351232; decide⟩⟩⟩⟩⟩⟩)
  go_wp2_with fail
  refine (enc_ok 2 1 1 1 1 1 (some ⟨X2.heap.size, 0, none⟩) 1 1 (fun _ => (⟨3, ⟨#[97]⟩, ⟨#[98]⟩, false, 0, 0, 0, some ⟨ge, 0, none⟩, 1, 1, fun _ => ⟨⟨#[97]⟩, 7, 0, ⟨#[]⟩, true⟩⟩ : Pm)) _ HPI.out (by simp [totE]) (fchk2 ge) (by rw [fps2]; exact fok2) (fun i hi => by simp)).mono ?_
  rintro r X4 ⟨v2, rfl, own2, b4⟩
  rw [fps2, fB2] at own2
  have HS4 := aside (show ge ≤ (X2.alloc (.cells #[.int .i64 3, .string ⟨#[97]⟩, .string ⟨#[98]⟩, .bool false, .int .i64 0, .int .u64 0, .int .u64 0, .slice (some ⟨ge, 0, none⟩) 1 1] 46)).heap.size from by have := HS2.out; rw [World.size_alloc]; omega)
  obtain ⟨g2, c2, rfl, hg2⟩ : ∃ g c, v2 = .slice (some ⟨g, 0, none⟩) 19 c ∧ ge ≤ g := by
    rcases own2.2 with ⟨_, h2⟩ | ⟨g, c, cur, h1, _⟩
    · cases h2
    · exact ⟨g, c, h1, by rw [h1] at own2; have := (own2.lt g rfl).1; have := HS4.out; omega⟩
  have HNE := aside (show g1 ≠ g2 from by have := HG1.out; omega)
  have HBX := aside (bthen BB.out B3.out).size
  replace BB := aside (bthen BB.out (bthen B3.out b4))
  have O2 := aside (show X4.ownsRow w.heap.size 5 1 (.slice (some ⟨g2, 0, none⟩) 19 c2) 19 (Lib.byteCells [2, 1, 1, 1, 1, 1, 1, 3, 1, 97, 0, 1, 98, 1, 1, 97, 7, 0, 1]) from own_low own2 HBX.out)
  replace O1 := aside (own_on O1.out (bthen B3.out b4))
  clear own2 hg2 b4 n0 n1 n2 p0 p1 p2 p3 p4 p5 p6 p7 HPI B3 KE KP KN HS4 HS2 HBX
  go_wp2_with fail
  refine (dec_any (some ⟨g2, 0, none⟩) 19 c2 [2, 1, 1, 1, 1, 1, 1, 3, 1, 97, 0, 1, 98, 1, 1, 97, 7, 0, 1] X4 (fun w' b => reads_own (own_on O2.out b)) rfl).mono ?_
  rintro r X5 ⟨b5, ⟨hd, -⟩ | ⟨F, pa, pn, pc, hd, rfl, hpr⟩⟩
  · rw [fdec2] at hd; cases hd
  rw [fdec2] at hd
  injection hd with hd
  subst hd
  dsimp only
  obtain ⟨P, hP⟩ := hpr
  obtain rfl : pn = 1 := hP.len.symm
  replace BB := aside (bthen BB.out b5)
  replace O1 := aside (own_on O1.out b5)
  replace O2 := aside (own_on O2.out b5)
  clear hP b5
  have bn := bnew X5 (.cells #[.int .i64 2, .int .i64 1, .int .i64 1, .int .i64 1, .int .i64 1, .int .i64 1, .slice pa 1 pc] 26)
  have K7 := aside (heap_alloc_new X5 (.cells #[.int .i64 2, .int .i64 1, .int .i64 1, .int .i64 1, .int .i64 1, .int .i64 1, .slice pa 1 pc] 26))
  replace BB := aside (bthen BB.out bn)
  replace O1 := aside (own_on O1.out bn)
  replace O2 := aside (own_on O2.out bn)
  clear bn
  go_upto_region 6 with fail
  obtain ⟨i7, hi7⟩ : ∃ i7, X5.heap.size = i7 := ⟨_, rfl⟩
  rw [hi7] at K7 ⊢
  clear hi7
  generalize X5.alloc (.cells #[.int .i64 2, .int .i64 1, .int .i64 1, .int .i64 1, .int .i64 1, .int .i64 1, .slice pa 1 pc] 26) = X6 at K7 BB O1 O2 ⊢
  have bn := aside (bnew X6 (.cells #[.int .u8 0] 5))
  have KZ := aside (heap_alloc_new X6 (.cells #[.int .u8 0] 5))
  replace K7 := aside (blk_on K7.out bn.out)
  replace BB := aside (bthen BB.out bn.out)
  replace O1 := aside (own_on O1.out bn.out)
  replace O2 := aside (own_on O2.out bn.out)
  go_wp2_with (at_builtin; refine wpList_plain rfl fun K hK => op_append_bytes _ _ rfl w.heap.size 7 g1 c1 (Lib.byteCells [2, 1, 1, 1, 1, 1, 0]) (by rfl) O1.out X6.heap.size 1 1 [.int .u8 0] (by rfl) (World.news_of_block (cs := #[.int .u8 0]) (t := 5) (fr := (0, 0)) KZ.out) rfl (fun u hu => by simp at hu; subst hu; rfl) (by omega) BB.out.size (by omega) ?_; intro g3 cap3 w7 own7 gr7; refine hK _ _ ?_; refine Hid.out ?_)
  refine aside ?_
  have kg : Keeps (fun x => x = g1) (X6.alloc (.cells #[.int .u8 0] 5)) w7 := by
    rcases gr7 with ⟨-, -, gr7⟩ | ⟨-, gr7⟩
    · exact (Keeps.refl _ _).grown gr7 (fun k hk _ => (Option.some.inj hk).symm)
    · exact (Keeps.refl _ _).grown gr7 (fun k hk _ => by cases hk)
  have HI7 := aside (show i7 ≠ g1 from fun e => own_nots O1.out K7.out (by decide) (by rw [e]; rfl))
  have HW1 := aside (show w.heap.size ≤ g1 from (O1.out.lt g1 rfl).1)
  have O1' := aside (show w7.ownsRow w.heap.size 5 1 (.slice (some ⟨g1, 0, none⟩) 7 c1) 7 (Lib.byteCells [2, 1, 1, 1, 1, 1, 0]) from by
    rcases gr7 with ⟨rfl, rfl, gr7⟩ | ⟨-, gr7⟩
    · exact own_pre own7 (by omega)
    · exact ownsRow_keep O1.out ((Keeps.refl (fun _ => False) _).grown gr7 (fun k hk _ => by cases hk)) (fun _ _ h => h))
  replace O2 := aside (ownsRow_keep O2.out kg (fun j hj x => by
    have h1 : g2 = j := (by simpa [Value.ownBlock] using hj)
    have := HNE.out
    omega))
  replace K7 := aside ((kg.block i7 (Array.getElem?_eq_some_iff.1 K7.out).1 (fun h => HI7.out h)).trans K7.out)
  replace BB := aside (BB.out.trans (kg.below BB.out.size (fun k hk e => by have := HW1.out; omega)))
  have O3 := aside (show w7.ownsRow w.heap.size 5 1 (.slice (some ⟨g3, 0, none⟩) 8 cap3) 8 (Lib.byteCells [2, 1, 1, 1, 1, 1, 0, 0]) from own7)
  clear kg gr7 own7 O1 HI7 HW1 HNE HG1 KZ bn
  go_wp2_with fail
  refine (dec_any (some ⟨g3, 0, none⟩) 8 cap3 [2, 1, 1, 1, 1, 1, 0, 0] w7 (fun w' b => reads_own (own_on O3.out b)) rfl).mono ?_
  rintro r X8 ⟨b8, ⟨hd, rfl⟩ | ⟨F, qa, qn, qc, hd, -⟩⟩
  rotate_left
  · rw [fdec1] at hd; cases hd
  have bx := bthen b8 (bnew X8 (.cells #[.int .i64 0, .int .i64 0, .int .i64 0, .int .i64 0, .int .i64 0, .int .i64 0, .slice none 0 0] 26))
  replace K7 := aside (blk_on K7.out bx)
  replace BB := aside (bthen BB.out bx)
  replace O1' := aside (own_on O1'.out bx)
  replace O2 := aside (own_on O2.out bx)
  clear hd b8 bx O3
  go_upto_region 7 with fail
  generalize X8.alloc (.cells #[.int .i64 0, .int .i64 0, .int .i64 0, .int .i64 0, .int .i64 0, .int .i64 0, .slice none 0 0] 26) = X9 at K7 BB O1' O2 ⊢
  have q1 := conv_own X9 w.heap.size (.slice (some ⟨g1, 0, none⟩) 7 c1) [2, 1, 1, 1, 1, 1, 0] O1'.out
  have q2 := conv_own X9 w.heap.size (.slice (some ⟨g2, 0, none⟩) 19 c2) [2, 1, 1, 1, 1, 1, 1, 3, 1, 97, 0, 1, 98, 1, 1, 97, 7, 0, 1] O2.out
  have m0 : X9.cell? ⟨i7, 0, none⟩ = some (.int .i64 2) := by rw [cell_of_row _ _ 0 _ _ _ K7.out]; rfl
  have m1 : X9.cell? ⟨i7, 1, none⟩ = some (.int .i64 1) := by rw [cell_of_row _ _ 1 _ _ _ K7.out]; rfl
  have m2 : X9.cell? ⟨i7, 2, none⟩ = some (.int .i64 1) := by rw [cell_of_row _ _ 2 _ _ _ K7.out]; rfl
  have m3 : X9.cell? ⟨i7, 3, none⟩ = some (.int .i64 1) := by rw [cell_of_row _ _ 3 _ _ _ K7.out]; rfl
  have m4 : X9.cell? ⟨i7, 4, none⟩ = some (.int .i64 1) := by rw [cell_of_row _ _ 4 _ _ _ K7.out]; rfl
  have m5 : X9.cell? ⟨i7, 5, none⟩ = some (.int .i64 1) := by rw [cell_of_row _ _ 5 _ _ _ K7.out]; rfl
  have m6 : X9.cell? ⟨i7, 6, none⟩ = some (.slice pa 1 pc) := by rw [cell_of_row _ _ 6 _ _ _ K7.out]; rfl
  go_wp2
  go_ret
  exact ⟨rfl, BB.out⟩
end Go.Proofs.Ytbnppmkdhnpdfaa
namespace Go.Proofs.Ytbnppmkdhnpdfaa
open Go.RowKit
set_option linter.unusedVariables false
end Go.Proofs.Ytbnppmkdhnpdfaa
