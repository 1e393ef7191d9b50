/-
  Decode: a frame.
  A new writer; the bytes that a writer tells, in new memory (the code's, by slices.Clone); two rows of bytes compared.
  Writers by what they hold; ranges and tallies written.
  Two writers, the code's and the document's own, that share no memory; each may hold other bytes. And a list of entries that came in.
  Bytes and Of, the code's and the document's own, by contracts.
  A part written.
  Encode.
  The iterator over neighbours: what it hands to a loop's body, over every slice of ranges.
  Meet, the code's: it returns what the plain function gives, and writes nothing that was there.
  slices.ContainsFunc of Empty over every slice of ranges.
  Rising, the code's: it returns what the plain function gives, and writes nothing that was there.
-/
import Derived.Test.YtbnppmkdhnpdfaaBwireonce12
import Derived.Deep.CutBlock
import Derived.Deep.DeepCutAuto
import Derived.Test.YtbnppmkdhnpdfaaBwireonce1
import Derived.Test.YtbnppmkdhnpdfaaBwireonce11
import Derived.Test.YtbnppmkdhnpdfaaBwireonce5
import Derived.Test.YtbnppmkdhnpdfaaBwireonce4
import Derived.Lib.SmallJoins
import Derived.Test.YtbnppmkdhnpdfaaBwireonce6
import Derived.RangeFuncNested
import Derived.RangeFuncBound
import Derived.RangeFuncCalls
import Derived.RangeFuncLeaves
import Derived.Shelf.Abstract
import Derived.Shelf.RegionOpen
import Derived.OwnWalkIn
import Derived.TacticsInMore
import Derived.LoopNIn
import Derived.LoopIn
import Derived.Stop.RegionWithIn
import Derived.Laws.ResultCell
namespace Go.Proofs.Ytbnppmkdhnpdfaa
open Go.RowKit
set_option linter.unusedVariables false

set_option maxRecDepth 100000 in
set_option maxHeartbeats 3200000 in
theorem dec_ok (a : Option Addr) (len cap : Nat) (l : List UInt8) (w : World) (hR : ∀ w', Below w.heap.size w w' → Reads w' (.slice a len cap) l) (hle : ¬ (65536 : Int) < (len : Int)) (hl2 : l.length ≤ 65536) {fr tz o lf n tn : Int} {ps : List PV} {p : Nat} {e q : Int} (hf : frameSt l = (⟨fr, tz, o, lf, n, tn, ps⟩, p, e)) (hq : doneOf ((l.length : Int) - (p : Int)) e = q) (hq0 : q = 0) (hok : FVok ⟨fr, tz, o, lf, n, tn, ps⟩) {ch : Int} (hc : FV.chk ⟨fr, tz, o, lf, n, tn, ps⟩ = ch) (hc0 : ch = 0) (hd : decF l = some ⟨fr, tz, o, lf, n, tn, ps⟩) :
    Calls Try.prog 14 #[.slice a len cap] w (DecP w l) := by
  have HD := aside hd
  have HF := aside hf
  have HQ := aside hq
  have HOK := aside hok
  have HC := aside hc
  clear hd hf hq hok hc
  have HR := aside hR
  have B0 := aside (bnew w (.cells #[.int .i64 0, .int .i64 0, .int .i64 0, .int .i64 0, .int .i64 0, .int .i64 0, .slice none 0 0] 26))
  have K0 := aside (heap_alloc_new w (.cells #[.int .i64 0, .int .i64 0, .int .i64 0, .int .i64 0, .int .i64 0, .int .i64 0, .slice none 0 0] 26))
  clear hR
  go_enter Try.func14, Try.ntmps14
  go_wp2_with fail
  have HS0 := aside (show (w.alloc (.cells #[.int .i64 0, .int .i64 0, .int .i64 0, .int .i64 0, .int .i64 0, .int .i64 0, .slice none 0 0] 26)).heap.size = w.heap.size + 1 from by rw [World.size_alloc])
  obtain ⟨i0, hi0⟩ : ∃ i0, w.heap.size = i0 := ⟨_, rfl⟩
  have HI0 := aside (show w.heap.size ≤ i0 by omega)
  rw [hi0] at K0 HS0 ⊢
  clear hi0
  generalize w.alloc (.cells #[.int .i64 0, .int .i64 0, .int .i64 0, .int .i64 0, .int .i64 0, .int .i64 0, .slice none 0 0] 26) = X0 at B0 K0 HS0 ⊢
  refine (newReader_any _ l _ (HR.out _ B0.out)).mono ?_
  rintro r X1 ⟨rfl, rfl⟩
  have R1 := aside (isR_new X0 ⟨l.toArray⟩)
  have B1 := aside (bnew X0 (.cells #[.string ⟨l.toArray⟩, .int .i64 0, .int .i64 0] 95))
  replace K0 := aside (blk_on K0.out B1.out)
  have BB := aside (bthen B0.out B1.out)
  have HS1 := aside (show (X0.alloc (.cells #[.string ⟨l.toArray⟩, .int .i64 0, .int .i64 0] 95)).heap.size = X0.heap.size + 1 from by rw [World.size_alloc])
  obtain ⟨br, hbr⟩ : ∃ br, X0.heap.size = br := ⟨_, rfl⟩
  rw [hbr] at R1 HS0 HS1 ⊢
  clear hbr B0
  generalize X0.alloc (.cells #[.string ⟨l.toArray⟩, .int .i64 0, .int .i64 0] 95) = X1 at R1 BB K0 HS1 ⊢
  clear B1
  have B2 := aside (bnew X1 (.cells #[.pointer (some ⟨br, 0, none⟩)] 72))
  have K1 := aside (heap_alloc_new X1 (.cells #[.pointer (some ⟨br, 0, none⟩)] 72))
  replace K0 := aside (blk_on K0.out B2.out)
  replace BB := aside (bthen BB.out B2.out)
  have RR := aside (show OneR br ⟨l.toArray⟩ l 0 0 (X1.alloc (.cells #[.pointer (some ⟨br, 0, none⟩)] 72)) from ⟨blk_on R1.out B2.out, by simp, Nat.zero_le _, by omega⟩)
  have HS2 := aside (show (X1.alloc (.cells #[.pointer (some ⟨br, 0, none⟩)] 72)).heap.size = X1.heap.size + 1 from by rw [World.size_alloc])
  clear R1 B2
  go_upto_region 4 with fail
  obtain ⟨i1, hi1⟩ : ∃ i1, X1.heap.size = i1 := ⟨_, rfl⟩
  rw [hi1] at K1 HS1 HS2 ⊢
  clear hi1
  generalize X1.alloc (.cells #[.pointer (some ⟨br, 0, none⟩)] 72) = X2 at RR BB K0 K1 HS2 ⊢
  have HN := aside (show w.heap.size ≤ i0 ∧ br = i0 + 1 ∧ i1 = br + 1 ∧ X2.heap.size = i1 + 1 from ⟨HI0.out, HS0.out, HS1.out, HS2.out⟩)
  clear HS0 HS1 HS2
  have c1 : X2.cell? ⟨i1, 0, none⟩ = some (.pointer (some ⟨br, 0, none⟩)) := by rw [cell_of_row _ _ 0 _ _ _ K1.out]; rfl
  go_wp2_with fail
  refine (rframe_at RR.out HF.out).mono ?_
  rintro r X3 ⟨pa, pn, pc, rfl, PR1, R1, k1⟩
  dsimp only
  have PR := aside PR1
  replace K0 := aside ((k1.block i0 (Array.getElem?_eq_some_iff.1 K0.out).1 (fun h => by have := HN.out; omega)).trans K0.out)
  replace K1 := aside ((k1.block i1 (Array.getElem?_eq_some_iff.1 K1.out).1 (fun h => by have := HN.out; omega)).trans K1.out)
  replace BB := aside (BB.out.trans (k1.below BB.out.size (fun k hk e => by have := HN.out; omega)))
  replace RR := aside R1
  have HSZ := aside (show i1 + 1 ≤ X3.heap.size from by have h1 := HN.out; have h2 := k1.size; omega)
  clear PR1 R1 k1 c1
  have B4 := aside (bnew X3 (.cells #[.int .i64 fr, .int .i64 tz, .int .i64 o, .int .i64 lf, .int .i64 n, .int .i64 tn, .slice pa pn pc] 26))
  have K2 := aside (heap_alloc_new X3 (.cells #[.int .i64 fr, .int .i64 tz, .int .i64 o, .int .i64 lf, .int .i64 n, .int .i64 tn, .slice pa pn pc] 26))
  replace K0 := aside (blk_on K0.out B4.out)
  replace K1 := aside (blk_on K1.out B4.out)
  replace PR := aside (PR.out.on B4.out)
  replace BB := aside (bthen BB.out B4.out)
  replace RR := aside (RR.out.keep (Keeps.of_below B4.out (fun _ => False)) (fun h => h))
  clear B4
  go_upto_region 5 with fail
  obtain ⟨i2, hi2⟩ : ∃ i2, X3.heap.size = i2 := ⟨_, rfl⟩
  rw [hi2] at K2 HSZ ⊢
  clear hi2
  generalize X3.alloc (.cells #[.int .i64 fr, .int .i64 tz, .int .i64 o, .int .i64 lf, .int .i64 n, .int .i64 tn, .slice pa pn pc] 26) = X4 at RR BB K0 K1 K2 PR ⊢
  have c1 : X4.cell? ⟨i1, 0, none⟩ = some (.pointer (some ⟨br, 0, none⟩)) := by rw [cell_of_row _ _ 0 _ _ _ K1.out]; rfl
  go_wp2_with fail
  refine (rdone_any br ⟨l.toArray⟩ p e X4 RR.out.code (by omega) (by rw [bsize]; have := RR.out.le; omega) (by rw [bsize]; omega)).mono ?_
  rintro r X5 ⟨rfl, nn, rfl⟩
  rw [bsize, HQ.out]
  have sk := (Keeps.refl (fun _ => False) X4).drewN nn
  replace K0 := aside ((sk.block i0 (Array.getElem?_eq_some_iff.1 K0.out).1 (fun h => h)).trans K0.out)
  replace K2 := aside ((sk.block i2 (Array.getElem?_eq_some_iff.1 K2.out).1 (fun h => h)).trans K2.out)
  replace PR := aside (PR.out.keep sk (fun k h => h.elim))
  replace BB := aside (BB.out.trans (sk.below BB.out.size (fun k _ h => h)))
  clear sk c1 K1 RR
  generalize X4.drewN nn = X5 at BB K0 K2 PR ⊢
  obtain rfl := hq0
  have x0 : X5.cell? ⟨i2, 0, none⟩ = some (.int .i64 fr) := by rw [cell_of_row _ _ 0 _ _ _ K2.out]; rfl
  have x1 : X5.cell? ⟨i2, 1, none⟩ = some (.int .i64 tz) := by rw [cell_of_row _ _ 1 _ _ _ K2.out]; rfl
  have x2 : X5.cell? ⟨i2, 2, none⟩ = some (.int .i64 o) := by rw [cell_of_row _ _ 2 _ _ _ K2.out]; rfl
  have x3 : X5.cell? ⟨i2, 3, none⟩ = some (.int .i64 lf) := by rw [cell_of_row _ _ 3 _ _ _ K2.out]; rfl
  have x4 : X5.cell? ⟨i2, 4, none⟩ = some (.int .i64 n) := by rw [cell_of_row _ _ 4 _ _ _ K2.out]; rfl
  have x5 : X5.cell? ⟨i2, 5, none⟩ = some (.int .i64 tn) := by rw [cell_of_row _ _ 5 _ _ _ K2.out]; rfl
  have x6 : X5.cell? ⟨i2, 6, none⟩ = some (.slice pa pn pc) := by rw [cell_of_row _ _ 6 _ _ _ K2.out]; rfl
  go_wp2_with fail
  obtain ⟨P, hP⟩ := PR.out
  have hlen := hP.len
  have hPI := hP.parts (fun v hv => (HOK.out.ps v hv).keys)
  have hTT := hP.tot (by rw [← hlen]; exact HOK.out.len) HOK.out.ps
  have hext := fChk_ext (fr := fr) (tz := tz) (o := o) (l := lf) (k := n) (tn := tn) hP.same
  rw [← hlen] at hext
  refine (chkf_any fr tz o lf n tn pa pn pc P X5 hPI hTT).mono ?_
  rintro r X6 ⟨rfl, b6⟩
  rw [← hlen, hext]
  have HCH := aside (show fChk fr tz o lf n tn (fvP ps) ps.length = ch from HC.out)
  rw [HCH.out]
  replace K0 := aside (blk_on K0.out b6)
  replace K2 := aside (blk_on K2.out b6)
  replace PR := aside (PR.out.on b6)
  replace BB := aside (bthen BB.out b6)
  clear hP hlen hPI hTT hext b6 x0 x1 x2 x3 x4 x5 x6
  subst hc0
  go_upto_region 7 with fail
  have x0 : X6.cell? ⟨i2, 0, none⟩ = some (.int .i64 fr) := by rw [cell_of_row _ _ 0 _ _ _ K2.out]; rfl
  have x1 : X6.cell? ⟨i2, 1, none⟩ = some (.int .i64 tz) := by rw [cell_of_row _ _ 1 _ _ _ K2.out]; rfl
  have x2 : X6.cell? ⟨i2, 2, none⟩ = some (.int .i64 o) := by rw [cell_of_row _ _ 2 _ _ _ K2.out]; rfl
  have x3 : X6.cell? ⟨i2, 3, none⟩ = some (.int .i64 lf) := by rw [cell_of_row _ _ 3 _ _ _ K2.out]; rfl
  have x4 : X6.cell? ⟨i2, 4, none⟩ = some (.int .i64 n) := by rw [cell_of_row _ _ 4 _ _ _ K2.out]; rfl
  have x5 : X6.cell? ⟨i2, 5, none⟩ = some (.int .i64 tn) := by rw [cell_of_row _ _ 5 _ _ _ K2.out]; rfl
  have x6 : X6.cell? ⟨i2, 6, none⟩ = some (.slice pa pn pc) := by rw [cell_of_row _ _ 6 _ _ _ K2.out]; rfl
  obtain ⟨a0, a1, a2, a3, a4, a5, a6, hk0⟩ : ∃ a0 a1 a2 a3 a4 a5 a6 : Value, X6.heap[i0]? = some (.cells #[a0, a1, a2, a3, a4, a5, a6] 26 (0, 0)) := ⟨_, _, _, _, _, _, _, K0.out⟩
  replace K0 := aside hk0
  clear hk0
  have z0 : X6.cell? ⟨i0, 0, none⟩ = some a0 := by rw [cell_of_row _ _ 0 _ _ _ K0.out]; rfl
  have y0 := frozen_of_row _ _ 0 _ _ K0.out
  have z1 : X6.cell? ⟨i0, 1, none⟩ = some a1 := by rw [cell_of_row _ _ 1 _ _ _ K0.out]; rfl
  have y1 := frozen_of_row _ _ 1 _ _ K0.out
  have z2 : X6.cell? ⟨i0, 2, none⟩ = some a2 := by rw [cell_of_row _ _ 2 _ _ _ K0.out]; rfl
  have y2 := frozen_of_row _ _ 2 _ _ K0.out
  have z3 : X6.cell? ⟨i0, 3, none⟩ = some a3 := by rw [cell_of_row _ _ 3 _ _ _ K0.out]; rfl
  have y3 := frozen_of_row _ _ 3 _ _ K0.out
  have z4 : X6.cell? ⟨i0, 4, none⟩ = some a4 := by rw [cell_of_row _ _ 4 _ _ _ K0.out]; rfl
  have y4 := frozen_of_row _ _ 4 _ _ K0.out
  have z5 : X6.cell? ⟨i0, 5, none⟩ = some a5 := by rw [cell_of_row _ _ 5 _ _ _ K0.out]; rfl
  have y5 := frozen_of_row _ _ 5 _ _ K0.out
  have z6 : X6.cell? ⟨i0, 6, none⟩ = some a6 := by rw [cell_of_row _ _ 6 _ _ _ K0.out]; rfl
  have y6 := frozen_of_row _ _ 6 _ _ K0.out
  have kz := (heap_setCell_same _ i0 6 _ _ (.slice pa pn pc) (heap_setCell_same _ i0 5 _ _ (.int .i64 tn) (heap_setCell_same _ i0 4 _ _ (.int .i64 n) (heap_setCell_same _ i0 3 _ _ (.int .i64 lf) (heap_setCell_same _ i0 2 _ _ (.int .i64 o) (heap_setCell_same _ i0 1 _ _ (.int .i64 tz) (heap_setCell_same _ i0 0 _ _ (.int .i64 fr) K0.out)))))))
  simp only [List.setIfInBounds_toArray, List.set_cons_zero, List.set_cons_succ] at kz
  have KR := aside kz
  have BF := aside (((((((BB.out.setCell (p := ⟨i0, 0, none⟩) HI0.out (.int .i64 fr)).setCell (p := ⟨i0, 1, none⟩) HI0.out (.int .i64 tz)).setCell (p := ⟨i0, 2, none⟩) HI0.out (.int .i64 o)).setCell (p := ⟨i0, 3, none⟩) HI0.out (.int .i64 lf)).setCell (p := ⟨i0, 4, none⟩) HI0.out (.int .i64 n)).setCell (p := ⟨i0, 5, none⟩) HI0.out (.int .i64 tn)).setCell (p := ⟨i0, 6, none⟩) HI0.out (.slice pa pn pc))
  have SK := aside ((((((((Keeps.refl (fun x => x = i0) X6).setCell (p := ⟨i0, 0, none⟩) (fun _ => rfl) (.int .i64 fr)).setCell (p := ⟨i0, 1, none⟩) (fun _ => rfl) (.int .i64 tz)).setCell (p := ⟨i0, 2, none⟩) (fun _ => rfl) (.int .i64 o)).setCell (p := ⟨i0, 3, none⟩) (fun _ => rfl) (.int .i64 lf)).setCell (p := ⟨i0, 4, none⟩) (fun _ => rfl) (.int .i64 n)).setCell (p := ⟨i0, 5, none⟩) (fun _ => rfl) (.int .i64 tn)).setCell (p := ⟨i0, 6, none⟩) (fun _ => rfl) (.slice pa pn pc))
  clear kz
  go_wp2
  exact bodyPost_ret (v := .tuple #[.agg #[.int .i64 fr, .int .i64 tz, .int .i64 o, .int .i64 lf, .int .i64 n, .int .i64 tn, .slice pa pn pc], .int .i64 0]) (by simp [results, Try.results14, go_sem, cell_of_row _ _ 0 _ _ _ KR.out, cell_of_row _ _ 1 _ _ _ KR.out, cell_of_row _ _ 2 _ _ _ KR.out, cell_of_row _ _ 3 _ _ _ KR.out, cell_of_row _ _ 4 _ _ _ KR.out, cell_of_row _ _ 5 _ _ _ KR.out, cell_of_row _ _ 6 _ _ _ KR.out]) rfl ⟨BF.out, .inr ⟨⟨fr, tz, o, lf, n, tn, ps⟩, pa, pn, pc, HD.out, rfl, (PR.out.keep SK.out (fun k e h => by have := HN.out; omega)).low (by have h1 := HN.out; omega)⟩⟩


end Go.Proofs.Ytbnppmkdhnpdfaa
namespace Go.Proofs.Ytbnppmkdhnpdfaa
open Go.RowKit
set_option linter.unusedVariables false
set_option maxHeartbeats 400000 in
theorem newWriter_any (w : World) :
    Calls Try.prog 22 #[] w fun e w' => e = .returned (.pointer (some ⟨w.heap.size, 0, none⟩)) ∧ w' = w.alloc (.cells #[.slice none 0 0] 86) := by
  go_enter Try.func22, Try.ntmps22
  go_wp2
  go_ret
  exact ⟨rfl, rfl⟩

theorem isW_new (T B : Nat) (w : World) (hB : B ≤ w.heap.size) : IsW T B w.heap.size none [] (w.alloc (.cells #[.slice none 0 0] T)) :=
  ⟨hB, by simp, .slice none 0 0, heap_alloc_new w _, rfl, World.ownsRow_nil _ _ _ _⟩

set_option maxHeartbeats 1600000 in
set_option maxRecDepth 100000 in
theorem clone_any (B : Nat) (v : Value) (l : List UInt8) (w : World) (hown : w.ownsRow B 5 1 v l.length (Lib.byteCells l)) (hl : l.length ≤ 70368744177664) :
    Calls Try.prog 54 #[v] w fun e w' => ∃ v', e = .returned v' ∧ w'.ownsRow w.heap.size 5 1 v' l.length (Lib.byteCells l) ∧ Keeps (fun _ => False) w w' := by
  obtain ⟨i0, hi, hz0, hz1, hz2⟩ := info_parts info8
  have hkeep := hown
  rcases hown.2 with ⟨rfl, h0⟩ | ⟨g, cap, cur, rfl, hb, hh, hr⟩
  · have hl0 : l = [] := List.length_eq_zero_iff.1 h0
    subst hl0
    have hnil := fun w => Lib.run_eql_slice_nil (P := Try.prog) w 30 5 none 0 0 0 0 Try.underlying30
    go_enter Try.func54, Try.ntmps54
    go_wp2
    go_ret
    exact ⟨_, rfl, World.ownsRow_nil _ _ _ _, Keeps.refl _ _⟩
  · have hnil := fun w => Lib.run_eql_slice_nil (P := Try.prog) w 30 5 (some ⟨g, 0, none⟩) l.length cap 0 0 Try.underlying30
    have hown0 : (w.alloc (.cells #[] 5)).ownsRow w.heap.size 5 1 (.slice (some ⟨w.heap.size, 0, none⟩) 0 0) 0 [] := World.ownsRow_made w #[] 0 (Nat.le_refl _) (Nat.zero_le _) rfl
    have hcells : ∀ j u, (Lib.byteCells l)[j]? = some u → (w.alloc (.cells #[] 5)).cell? ((⟨g, 0, none⟩ : Addr).add j) = some u := (hkeep.alloc _).cells rfl
    go_enter Try.func54, Try.ntmps54
    go_wp2_with (at_builtin; refine wpList_append_own _ rfl _ _ _ rfl w.heap.size 5 i0 (.int .u8 0) 1 1 Try.underlying30 hi hz0 hz1 hz2 rfl (by decide) _ _ _ (by rfl) hown0 ⟨g, 0, none⟩ l.length cap (Lib.byteCells l) (by rfl) (by simp [Lib.byteCells]) hcells (by intro u hu; simp only [Lib.byteCells, List.mem_map] at hu; obtain ⟨x, _, rfl⟩ := hu; rfl) (by unfold maxLen; omega) (by omega) (by simp) ?_; intro v' w1 hown1 hgrow _; refine Hid.out ?_)
    refine aside ?_
    rw [Nat.zero_add, List.nil_append] at hown1
    have HO := aside hown1
    have HK : Keeps (fun _ => False) w w1 := ((Keeps.refl _ w).alloc _).grown hgrow (fun k hk hlt => by simp [Value.ownBlock] at hk; omega)
    clear hown1 hgrow
    go_wp2
    go_ret
    exact ⟨_, rfl, HO.out, HK⟩

set_option maxHeartbeats 400000 in
theorem bytes_any (B b : Nat) (g : Option Nat) (l : List UInt8) (w : World) (hW : IsW 86 B b g l w) (hl : l.length ≤ 70368744177664) :
    Calls Try.prog 25 #[.pointer (some ⟨b, 0, none⟩)] w fun e w' => ∃ v', e = .returned v' ∧ w'.ownsRow w.heap.size 5 1 v' l.length (Lib.byteCells l) ∧ Keeps (fun _ => False) w w' := by
  obtain ⟨hBb, hgb, v, hh, rfl, hown⟩ := hW
  have hc := cell_one hh
  go_enter Try.func25, Try.ntmps25
  go_wp2_with (go_at_call 54; refine (clone_any B v l _ hown hl).mono ?_; rintro e w' ⟨v', rfl, ho, hk⟩)
  go_ret
  exact ⟨_, rfl, ho, hk⟩


end Go.Proofs.Ytbnppmkdhnpdfaa
namespace Go.Proofs.Ytbnppmkdhnpdfaa
open Go.RowKit
set_option linter.unusedVariables false

/-- A writer in block b that holds l; its row lies above B. -/
def WS (B b : Nat) (l : List UInt8) (w : World) : Prop := ∃ g, IsW 86 B b g l w
/-- What a writer's call keeps: all below B, and all blocks that are neither rows of bytes nor writers. -/
structure WK (B : Nat) (w w' : World) : Prop where
  bel : Below B w w'
  blk : ∀ (i : Nat) (cs : Array Value) (T : TypeId), T ≠ 5 → T ≠ 86 → w.heap[i]? = some (Obj.cells cs T (0, 0)) → w'.heap[i]? = some (Obj.cells cs T (0, 0))
theorem WK.refl (B : Nat) (w : World) : WK B w w := ⟨Below.refl _ _, fun _ _ _ _ _ h => h⟩
theorem WK.trans {B : Nat} {w w1 w2 : World} (h : WK B w w1) (k : WK B w1 w2) : WK B w w2 := ⟨h.bel.trans k.bel, fun i cs T h1 h2 h3 => k.blk i cs T h1 h2 (h.blk i cs T h1 h2 h3)⟩
theorem WK.of {B b : Nat} {g : Option Nat} {l : List UInt8} {w w' : World} (h : IsW 86 B b g l w) (hB : B ≤ w.heap.size) (k : Keeps (fun k => k = b ∨ g = some k) w w') : WK B w w' := by
  have hr := h.row
  obtain ⟨hb, hg, v, hv, rfl, hown⟩ := h
  refine ⟨k.below hB (fun i hi e => ?_), fun i cs T h1 h2 h3 => (k.block i (Array.getElem?_eq_some_iff.1 h3).1 (fun e => ?_)).trans h3⟩
  · rcases e with e | e
    · omega
    · have := (hr i e).1; omega
  · rcases e with e | e
    · subst e
      rw [hv] at h3
      injection h3 with h3
      injection h3 with _ h3 _
      exact h2 h3.symm
    · exact own_nots hown h3 (fun e => h1 e.symm) e
theorem WS.keep {B b : Nat} {l : List UInt8} {w w' : World} (h : WS B b l w) (k : Below w.heap.size w w') : WS B b l w' := by
  obtain ⟨g, hg⟩ := h
  exact ⟨g, hg.keep (Keeps.of_below k (fun _ => False)) (fun h => h) (fun j _ h => h)⟩
theorem WK.of_below {B : Nat} {w w' : World} (hB : B ≤ w.heap.size) (k : Below w.heap.size w w') : WK B w w' := ⟨k.mono hB, fun i cs T _ _ h => blk_on h k⟩
theorem ws_num {B b : Nat} {l : List UInt8} {w : World} (n : Int) (h : WS B b l w) (hB : B ≤ w.heap.size) (hn : n ≤ 9223372036854775807) (hn0 : -9223372036854775808 ≤ n) (hl : l.length ≤ 17592186044416) :
    Calls Try.prog 23 #[.pointer (some ⟨b, 0, none⟩), .int .i64 n] w fun e w' => e = .returned (.tuple #[]) ∧ WS B b (l ++ Nm.enc 8 (up n)) w' ∧ WK B w w' := by
  obtain ⟨g, hg⟩ := h
  exact (wnum_any B b g l n w hg hB hn hn0 (by omega)).mono (by rintro e w' ⟨rfl, g', h1, h2, h3⟩; exact ⟨rfl, ⟨g', h1⟩, WK.of hg hB h3⟩)
theorem ws_text {B b : Nat} {l : List UInt8} {w : World} (s : ByteArray) (h : WS B b l w) (hB : B ≤ w.heap.size) (hl : l.length ≤ 17592186044416) (hs : s.size ≤ 17592186044416) :
    Calls Try.prog 71 #[.pointer (some ⟨b, 0, none⟩), .string s] w fun e w' => e = .returned (.tuple #[]) ∧ WS B b (l ++ strB s) w' ∧ WK B w w' := by
  obtain ⟨g, hg⟩ := h
  exact (wtext_any B b g l s w hg hB (by omega) (by omega)).mono (by rintro e w' ⟨rfl, g', h1, h2, h3⟩; exact ⟨rfl, ⟨g', h1⟩, WK.of hg hB h3⟩)
theorem ws_flag {B b : Nat} {l : List UInt8} {w : World} (d : Bool) (h : WS B b l w) (hB : B ≤ w.heap.size) (hl : l.length ≤ 17592186044416) :
    Calls Try.prog 72 #[.pointer (some ⟨b, 0, none⟩), .bool d] w fun e w' => e = .returned (.tuple #[]) ∧ WS B b (l ++ flagB d) w' ∧ WK B w w' := by
  obtain ⟨g, hg⟩ := h
  exact (wflag_any B b g l d w hg hB (by omega)).mono (by rintro e w' ⟨rfl, g', h1, h2, h3⟩; exact ⟨rfl, ⟨g', h1⟩, WK.of hg hB h3⟩)
theorem ws_word {B b : Nat} {l : List UInt8} {w : World} (u : Nat) (h : WS B b l w) (hB : B ≤ w.heap.size) (hu : u < 18446744073709551616) (hl : l.length ≤ 17592186044416) :
    Calls Try.prog 73 #[.pointer (some ⟨b, 0, none⟩), .int .u64 (u : Int)] w fun e w' => e = .returned (.tuple #[]) ∧ WS B b (l ++ wordB u) w' ∧ WK B w w' := by
  obtain ⟨g, hg⟩ := h
  exact (wword_any B b g l u w hg hB hu (by omega)).mono (by rintro e w' ⟨rfl, g', h1, h2, h3⟩; exact ⟨rfl, ⟨g', h1⟩, WK.of hg hB h3⟩)
theorem ws_ent {B b : Nat} {l : List UInt8} {w : World} (x : En) (h : WS B b l w) (hB : B ≤ w.heap.size) (hc : x.chk = 0) (hl : l.length ≤ 17592186044416) :
    Calls Try.prog 53 #[.pointer (some ⟨b, 0, none⟩), .agg #[.string x.k, .int .i64 x.c, .int .i64 x.n, .string x.v, .bool x.d]] w fun e w' => e = .returned (.tuple #[]) ∧ WS B b (l ++ entB x) w' ∧ WK B w w' := by
  obtain ⟨g, hg⟩ := h
  obtain ⟨k, c, n, v, d⟩ := x
  exact (put_any B b g l k c n v d w hg hB hl).mono (by rintro e w' ⟨rfl, g', h1, h2, h3⟩; rw [putB_yes hc] at h1; exact ⟨rfl, ⟨g', h1⟩, WK.of hg hB h3⟩)
theorem ws_bytes {B b : Nat} {l : List UInt8} {w : World} (h : WS B b l w) (hl : l.length ≤ 17592186044416) :
    Calls Try.prog 25 #[.pointer (some ⟨b, 0, none⟩)] w fun e w' => ∃ v', e = .returned v' ∧ w'.ownsRow w.heap.size 5 1 v' l.length (Lib.byteCells l) ∧ Below w.heap.size w w' := by
  obtain ⟨g, hg⟩ := h
  exact (bytes_any B b g l w hg (by omega)).mono (by rintro e w' ⟨v', rfl, h1, h2⟩; exact ⟨v', rfl, h1, h2.below (Nat.le_refl _) (fun k _ h => h)⟩)
theorem enc9 (n : Nat) : (Nm.enc 8 n).length ≤ 9 := (Nm.enc_length 8 n).2
theorem strB_len (s : ByteArray) : (strB s).length ≤ s.size + 9 := by
  unfold strB
  rw [List.length_append, blen]
  have := enc9 s.size
  omega
set_option maxRecDepth 100000 in
set_option maxHeartbeats 3200000 in
theorem wrng_open {B b : Nat} {l : List UInt8} {w : World} (lo hi : ByteArray) (h : WS B b l w) (hB : B ≤ w.heap.size) (hl : l.length ≤ 8796093022208) (h1 : lo.size ≤ 16) (h2 : hi.size ≤ 16) :
    Calls Try.prog 51 #[.pointer (some ⟨b, 0, none⟩), .agg #[.string lo, .string hi, .bool true]] w fun e w' => e = .returned (.tuple #[]) ∧ WS B b (l ++ rgB lo hi true) w' ∧ WK B w w' := by
  have KB0 := aside (heap_alloc_new w (.cells #[.string lo, .string hi, .bool true] 38))
  have bn := bnew w (.cells #[.string lo, .string hi, .bool true] 38)
  have KK := aside (WK.of_below hB bn)
  have WW := aside (h.keep bn)
  have HZ := aside (Nat.le_trans hB bn.size)
  clear h bn
  go_enter Try.func51, Try.ntmps51
  go_upto_region 1 with fail
  obtain ⟨i0, hi0⟩ : ∃ i0, w.heap.size = i0 := ⟨_, rfl⟩
  rw [hi0] at KB0 ⊢
  clear hi0
  generalize w.alloc (.cells #[.string lo, .string hi, .bool true] 38) = X0 at KB0 KK WW HZ ⊢
  have c0_0 : X0.cell? ⟨i0, 0, none⟩ = some (.string lo) := by rw [cell_of_row _ _ 0 _ _ _ KB0.out]; rfl
  have c0_1 : X0.cell? ⟨i0, 1, none⟩ = some (.string hi) := by rw [cell_of_row _ _ 1 _ _ _ KB0.out]; rfl
  have c0_2 : X0.cell? ⟨i0, 2, none⟩ = some (.bool true) := by rw [cell_of_row _ _ 2 _ _ _ KB0.out]; rfl
  go_wp2_with fail
  refine (ws_text lo WW.out HZ.out (by omega) (by omega)).mono ?_
  rintro r w1 ⟨rfl, W1, k1⟩
  clear c0_0 c0_1 c0_2
  replace KB0 := aside (k1.blk _ _ _ (by decide) (by decide) KB0.out)
  replace KK := aside (KK.out.trans k1)
  replace HZ := aside (Nat.le_trans HZ.out k1.bel.size)
  replace WW := aside W1
  clear k1 W1
  have c0_0 : w1.cell? ⟨i0, 0, none⟩ = some (.string lo) := by rw [cell_of_row _ _ 0 _ _ _ KB0.out]; rfl
  have c0_1 : w1.cell? ⟨i0, 1, none⟩ = some (.string hi) := by rw [cell_of_row _ _ 1 _ _ _ KB0.out]; rfl
  have c0_2 : w1.cell? ⟨i0, 2, none⟩ = some (.bool true) := by rw [cell_of_row _ _ 2 _ _ _ KB0.out]; rfl
  go_wp2_with fail
  refine (ws_flag true WW.out HZ.out (by simp only [List.length_append]; have := strB_len lo; omega)).mono ?_
  rintro r w2 ⟨rfl, W1, k1⟩
  clear c0_0 c0_1 c0_2
  replace KB0 := aside (k1.blk _ _ _ (by decide) (by decide) KB0.out)
  replace KK := aside (KK.out.trans k1)
  replace HZ := aside (Nat.le_trans HZ.out k1.bel.size)
  replace WW := aside W1
  clear k1 W1
  have c0_0 : w2.cell? ⟨i0, 0, none⟩ = some (.string lo) := by rw [cell_of_row _ _ 0 _ _ _ KB0.out]; rfl
  have c0_1 : w2.cell? ⟨i0, 1, none⟩ = some (.string hi) := by rw [cell_of_row _ _ 1 _ _ _ KB0.out]; rfl
  have c0_2 : w2.cell? ⟨i0, 2, none⟩ = some (.bool true) := by rw [cell_of_row _ _ 2 _ _ _ KB0.out]; rfl
  go_wp2
  go_end0
  refine ⟨rfl, ?_, KK.out⟩
  have := WW.out
  simpa [rgB, List.append_assoc] using this

set_option maxRecDepth 100000 in
set_option maxHeartbeats 3200000 in
theorem wrng_shut {B b : Nat} {l : List UInt8} {w : World} (lo hi : ByteArray) (h : WS B b l w) (hB : B ≤ w.heap.size) (hl : l.length ≤ 8796093022208) (h1 : lo.size ≤ 16) (h2 : hi.size ≤ 16) :
    Calls Try.prog 51 #[.pointer (some ⟨b, 0, none⟩), .agg #[.string lo, .string hi, .bool false]] w fun e w' => e = .returned (.tuple #[]) ∧ WS B b (l ++ rgB lo hi false) w' ∧ WK B w w' := by
  have KB0 := aside (heap_alloc_new w (.cells #[.string lo, .string hi, .bool false] 38))
  have bn := bnew w (.cells #[.string lo, .string hi, .bool false] 38)
  have KK := aside (WK.of_below hB bn)
  have WW := aside (h.keep bn)
  have HZ := aside (Nat.le_trans hB bn.size)
  clear h bn
  go_enter Try.func51, Try.ntmps51
  go_upto_region 1 with fail
  obtain ⟨i0, hi0⟩ : ∃ i0, w.heap.size = i0 := ⟨_, rfl⟩
  rw [hi0] at KB0 ⊢
  clear hi0
  generalize w.alloc (.cells #[.string lo, .string hi, .bool false] 38) = X0 at KB0 KK WW HZ ⊢
  have c0_0 : X0.cell? ⟨i0, 0, none⟩ = some (.string lo) := by rw [cell_of_row _ _ 0 _ _ _ KB0.out]; rfl
  have c0_1 : X0.cell? ⟨i0, 1, none⟩ = some (.string hi) := by rw [cell_of_row _ _ 1 _ _ _ KB0.out]; rfl
  have c0_2 : X0.cell? ⟨i0, 2, none⟩ = some (.bool false) := by rw [cell_of_row _ _ 2 _ _ _ KB0.out]; rfl
  go_wp2_with fail
  refine (ws_text lo WW.out HZ.out (by omega) (by omega)).mono ?_
  rintro r w1 ⟨rfl, W1, k1⟩
  clear c0_0 c0_1 c0_2
  replace KB0 := aside (k1.blk _ _ _ (by decide) (by decide) KB0.out)
  replace KK := aside (KK.out.trans k1)
  replace HZ := aside (Nat.le_trans HZ.out k1.bel.size)
  replace WW := aside W1
  clear k1 W1
  have c0_0 : w1.cell? ⟨i0, 0, none⟩ = some (.string lo) := by rw [cell_of_row _ _ 0 _ _ _ KB0.out]; rfl
  have c0_1 : w1.cell? ⟨i0, 1, none⟩ = some (.string hi) := by rw [cell_of_row _ _ 1 _ _ _ KB0.out]; rfl
  have c0_2 : w1.cell? ⟨i0, 2, none⟩ = some (.bool false) := by rw [cell_of_row _ _ 2 _ _ _ KB0.out]; rfl
  go_wp2_with fail
  refine (ws_flag false WW.out HZ.out (by simp only [List.length_append]; have := strB_len lo; omega)).mono ?_
  rintro r w2 ⟨rfl, W1, k1⟩
  clear c0_0 c0_1 c0_2
  replace KB0 := aside (k1.blk _ _ _ (by decide) (by decide) KB0.out)
  replace KK := aside (KK.out.trans k1)
  replace HZ := aside (Nat.le_trans HZ.out k1.bel.size)
  replace WW := aside W1
  clear k1 W1
  have c0_0 : w2.cell? ⟨i0, 0, none⟩ = some (.string lo) := by rw [cell_of_row _ _ 0 _ _ _ KB0.out]; rfl
  have c0_1 : w2.cell? ⟨i0, 1, none⟩ = some (.string hi) := by rw [cell_of_row _ _ 1 _ _ _ KB0.out]; rfl
  have c0_2 : w2.cell? ⟨i0, 2, none⟩ = some (.bool false) := by rw [cell_of_row _ _ 2 _ _ _ KB0.out]; rfl
  go_wp2_with fail
  refine (ws_text hi WW.out HZ.out (by simp only [List.length_append, flagB, List.length_singleton]; have := strB_len lo; omega) (by omega)).mono ?_
  rintro r w3 ⟨rfl, W1, k1⟩
  clear c0_0 c0_1 c0_2
  replace KB0 := aside (k1.blk _ _ _ (by decide) (by decide) KB0.out)
  replace KK := aside (KK.out.trans k1)
  replace HZ := aside (Nat.le_trans HZ.out k1.bel.size)
  replace WW := aside W1
  clear k1 W1
  go_wp2
  go_end0
  refine ⟨rfl, ?_, KK.out⟩
  have := WW.out
  simpa [rgB, List.append_assoc] using this

theorem wrng_any {B b : Nat} {l : List UInt8} {w : World} (lo hi : ByteArray) (op : Bool) (h : WS B b l w) (hB : B ≤ w.heap.size) (hl : l.length ≤ 8796093022208) (h1 : lo.size ≤ 16) (h2 : hi.size ≤ 16) :
    Calls Try.prog 51 #[.pointer (some ⟨b, 0, none⟩), .agg #[.string lo, .string hi, .bool op]] w fun e w' => e = .returned (.tuple #[]) ∧ WS B b (l ++ rgB lo hi op) w' ∧ WK B w w' := by
  cases op
  · exact wrng_shut lo hi h hB hl h1 h2
  · exact wrng_open lo hi h hB hl h1 h2
set_option maxRecDepth 100000 in
set_option maxHeartbeats 3200000 in
theorem wtally_any {B b : Nat} {l : List UInt8} {w : World} (c : Int) (a d : Nat) (h : WS B b l w) (hB : B ≤ w.heap.size) (hl : l.length ≤ 8796093022208) (hc : -9223372036854775808 ≤ c) (hc2 : c ≤ 9223372036854775807) (ha : a < 18446744073709551616) (hd : d < 18446744073709551616) :
    Calls Try.prog 52 #[.pointer (some ⟨b, 0, none⟩), .agg #[.int .i64 c, .int .u64 (a : Int), .int .u64 (d : Int)]] w fun e w' => e = .returned (.tuple #[]) ∧ WS B b (l ++ (Nm.enc 8 (up c) ++ (wordB a ++ wordB d))) w' ∧ WK B w w' := by
  have ix0 : ∀ w : World, (Instr.index 41 (.agg #[.int .u64 (a : Int), .int .u64 (d : Int)]) (.int .i64 0)).run Try.prog w = .ok (.int .u64 (a : Int)) w := fun _ => by kernel_rfl
  have ix1 : ∀ w : World, (Instr.index 41 (.agg #[.int .u64 (a : Int), .int .u64 (d : Int)]) (.int .i64 1)).run Try.prog w = .ok (.int .u64 (d : Int)) w := fun _ => by kernel_rfl
  have KB0 := aside (heap_alloc_new w (.cells #[.int .i64 c, .int .u64 (a : Int), .int .u64 (d : Int)] 43))
  have bn := bnew w (.cells #[.int .i64 c, .int .u64 (a : Int), .int .u64 (d : Int)] 43)
  have KK := aside (WK.of_below hB bn)
  have WW := aside (h.keep bn)
  have HZ := aside (Nat.le_trans hB bn.size)
  clear h bn
  go_enter Try.func52, Try.ntmps52
  go_upto_region 1 with fail
  obtain ⟨i0, hi0⟩ : ∃ i0, w.heap.size = i0 := ⟨_, rfl⟩
  rw [hi0] at KB0 ⊢
  clear hi0
  generalize w.alloc (.cells #[.int .i64 c, .int .u64 (a : Int), .int .u64 (d : Int)] 43) = X0 at KB0 KK WW HZ ⊢
  have c0_0 : X0.cell? ⟨i0, 0, none⟩ = some (.int .i64 c) := by rw [cell_of_row _ _ 0 _ _ _ KB0.out]; rfl
  have c0_1 : X0.cell? ⟨i0, 1, none⟩ = some (.int .u64 (a : Int)) := by rw [cell_of_row _ _ 1 _ _ _ KB0.out]; rfl
  have c0_2 : X0.cell? ⟨i0, 2, none⟩ = some (.int .u64 (d : Int)) := by rw [cell_of_row _ _ 2 _ _ _ KB0.out]; rfl
  go_wp2_with fail
  refine (ws_num c WW.out HZ.out (by omega) (by omega) (by omega)).mono ?_
  rintro r w1 ⟨rfl, W1, k1⟩
  clear c0_0 c0_1 c0_2
  replace KB0 := aside (k1.blk _ _ _ (by decide) (by decide) KB0.out)
  replace KK := aside (KK.out.trans k1)
  replace HZ := aside (Nat.le_trans HZ.out k1.bel.size)
  replace WW := aside W1
  clear k1 W1
  have c0_0 : w1.cell? ⟨i0, 0, none⟩ = some (.int .i64 c) := by rw [cell_of_row _ _ 0 _ _ _ KB0.out]; rfl
  have c0_1 : w1.cell? ⟨i0, 1, none⟩ = some (.int .u64 (a : Int)) := by rw [cell_of_row _ _ 1 _ _ _ KB0.out]; rfl
  have c0_2 : w1.cell? ⟨i0, 2, none⟩ = some (.int .u64 (d : Int)) := by rw [cell_of_row _ _ 2 _ _ _ KB0.out]; rfl
  go_wp2
  go_loopw [12] (fun t wr => Hid (WK B w wr) ∧ Hid (B ≤ wr.heap.size) ∧ ((t = .int .i64 0 ∧ Hid (WS B b (l ++ Nm.enc 8 (up c)) wr)) ∨ (t = .int .i64 1 ∧ Hid (WS B b (l ++ Nm.enc 8 (up c) ++ wordB a) wr)) ∨ (t = .int .i64 2 ∧ Hid (WS B b (l ++ Nm.enc 8 (up c) ++ wordB a ++ wordB d) wr)))) (fun t _ => 2 - (intOf t).toNat)
  case atStart => exact ⟨KK.out, HZ.out, .inl ⟨rfl, WW.out⟩⟩
  case round =>
    clear KK HZ WW KB0
    obtain ⟨KK, HZ, ⟨rfl, WW⟩ | ⟨rfl, WW⟩ | ⟨rfl, WW⟩⟩ := hrel
    · go_wp2_with fail
      refine (ws_word a WW.out HZ.out ha (by simp only [List.length_append]; have := enc9 (up c); omega)).mono ?_
      rintro r w1 ⟨rfl, W1, k1⟩
      replace KK := aside (KK.out.trans k1)
      replace HZ := aside (Nat.le_trans HZ.out k1.bel.size)
      replace WW := aside W1
      clear k1 W1
      go_wp2
      go_roundw
      case rel => exact ⟨KK.out, HZ.out, .inr (.inl ⟨by rfl, WW.out⟩)⟩
      case measure => simp [intOf]
    · go_wp2_with fail
      refine (ws_word d WW.out HZ.out hd (by simp only [List.length_append, wordB_len]; have := enc9 (up c); omega)).mono ?_
      rintro r w1 ⟨rfl, W1, k1⟩
      replace KK := aside (KK.out.trans k1)
      replace HZ := aside (Nat.le_trans HZ.out k1.bel.size)
      replace WW := aside W1
      clear k1 W1
      go_wp2
      go_roundw
      case rel => exact ⟨KK.out, HZ.out, .inr (.inr ⟨by rfl, WW.out⟩)⟩
      case measure => simp [intOf]
    · go_wp2
      go_end0
      refine ⟨rfl, ?_, KK.out⟩
      have := WW.out
      simpa [List.append_assoc] using this


end Go.Proofs.Ytbnppmkdhnpdfaa
namespace Go.Proofs.Ytbnppmkdhnpdfaa
open Go.RowKit
set_option linter.unusedVariables false
theorem fresh_ne {w : World} {g g' : Option Nat} {b : Nat} (fr : Fresh w g g') (h : g ≠ some b) (hb : b < w.heap.size) : g' ≠ some b := by
  rcases fr with rfl | ⟨k, rfl, hk⟩
  · exact h
  · intro e; cases e; omega

structure TwoL (B bw bd : Nat) (gw gd : Option Nat) (lw ld : List UInt8) (w : World) : Prop where
  code : IsW 86 B bw gw lw w
  doc : IsW 92 B bd gd ld w
  ne : bw ≠ bd
  wd : gw ≠ some bd
  dw : gd ≠ some bw
  gg : ∀ k, gw = some k → gd ≠ some k

theorem TwoL.code_step {B bw bd : Nat} {gw gd gw' : Option Nat} {lw ld lw' : List UInt8} {w w' : World} (h : TwoL B bw bd gw gd lw ld w) (W' : IsW 86 B bw gw' lw' w') (fr : Fresh w gw gw') (k : Keeps (fun k => k = bw ∨ gw = some k) w w') : TwoL B bw bd gw' gd lw' ld w' :=
  ⟨W', h.doc.keep k (fun x => x.elim (fun x => h.ne x.symm) (fun x => h.wd x)) (fun j hj x => x.elim (fun x => h.dw (by rw [hj, x])) (fun x => h.gg j x hj)), h.ne, fresh_ne fr h.wd h.doc.lt, h.dw, fun q hq e => by
    rcases fr with e' | ⟨z, e', hz⟩
    · exact h.gg q (by rw [← e']; exact hq) e
    · have := (h.doc.row q e).2
      rw [hq] at e'
      cases e'
      omega⟩

theorem TwoL.doc_step {B bw bd : Nat} {gw gd gd' : Option Nat} {lw ld ld' : List UInt8} {w w' : World} (h : TwoL B bw bd gw gd lw ld w) (D' : IsW 92 B bd gd' ld' w') (fr : Fresh w gd gd') (k : Keeps (fun k => k = bd ∨ gd = some k) w w') : TwoL B bw bd gw gd' lw ld' w' :=
  ⟨h.code.keep k (fun x => x.elim (fun x => h.ne x) (fun x => h.dw x)) (fun j hj x => x.elim (fun x => h.wd (by rw [hj, x])) (fun x => h.gg j hj x)), D', h.ne, h.wd, fresh_ne fr h.dw h.code.lt, fun q hq e => by
    rcases fr with e' | ⟨z, e', hz⟩
    · exact h.gg q hq (by rw [← e']; exact e)
    · have := (h.code.row q hq).2
      rw [e] at e'
      cases e'
      omega⟩

theorem TwoL.code_below {B bw bd : Nat} {gw gd : Option Nat} {lw ld : List UInt8} {w w' : World} (h : TwoL B bw bd gw gd lw ld w) (k : Keeps (fun k => k = bw ∨ gw = some k) w w') (hB : B ≤ w.heap.size) : Below B w w' :=
  k.below hB (fun j hj h' => h'.elim (fun h' => by have := h.code.1; omega) (fun h' => by have := (h.code.row j h').1; omega))

theorem TwoL.doc_below {B bw bd : Nat} {gw gd : Option Nat} {lw ld : List UInt8} {w w' : World} (h : TwoL B bw bd gw gd lw ld w) (k : Keeps (fun k => k = bd ∨ gd = some k) w w') (hB : B ≤ w.heap.size) : Below B w w' :=
  k.below hB (fun j hj h' => h'.elim (fun h' => by have := h.doc.1; omega) (fun h' => by have := (h.doc.row j h').1; omega))

set_option maxHeartbeats 400000 in
theorem newWriterRef_any (w : World) :
    Calls Try.prog 26 #[] w fun e w' => e = .returned (.pointer (some ⟨w.heap.size, 0, none⟩)) ∧ w' = w.alloc (.cells #[.slice none 0 0] 92) := by
  go_enter Try.func26, Try.ntmps26
  go_wp2
  go_ret
  exact ⟨rfl, rfl⟩


/-- A list of entries that came in. -/
def EntsInF (w : World) (a : Option Addr) (len cap : Nat) (T : Nat → En) : Prop :=
  len ≤ cap ∧ cap ≤ maxLen ∧ (len = 0 ∨ ∃ b off, a = some ⟨b, off, none⟩ ∧ b < w.heap.size ∧ ∀ i, i < len →
    w.cell? ⟨b, off + i * 5, none⟩ = some (.string (T i).k) ∧ w.cell? ⟨b, off + i * 5 + 1, none⟩ = some (.int .i64 (T i).c) ∧ w.cell? ⟨b, off + i * 5 + 2, none⟩ = some (.int .i64 (T i).n) ∧ w.cell? ⟨b, off + i * 5 + 3, none⟩ = some (.string (T i).v) ∧ w.cell? ⟨b, off + i * 5 + 4, none⟩ = some (.bool (T i).d))

end Go.Proofs.Ytbnppmkdhnpdfaa
namespace Go.Proofs.Ytbnppmkdhnpdfaa
open Go.RowKit
set_option linter.unusedVariables false
theorem putB_len (e : En) : (putB e).length ≤ 200 := by
  by_cases h : e.chk = 0
  · rw [putB_yes h]
    obtain ⟨k, c, n, v, d⟩ := e
    obtain ⟨h1, _, _, _, _, h2⟩ := En.ok_parts h
    have e1 := Nm.enc_length 8 k.size
    have e2 := Nm.enc_length 8 v.size
    have e3 := Nm.enc_length 8 (up c)
    have e4 := Nm.enc_length 8 (up n)
    have e5 : k.data.toList.length = k.size := by show k.data.toList.length = k.data.size; simp
    have e6 : v.data.toList.length = v.size := by show v.data.toList.length = v.data.size; simp
    have e7 : (flagB d).length = 1 := rfl
    cases d <;> simp only [entB, List.length_append, cond, List.length_nil] <;> omega
  · rw [putB_no h]; simp

set_option maxHeartbeats 1600000 in
set_option maxRecDepth 100000 in
theorem bytesRef_any (B b : Nat) (g : Option Nat) (l : List UInt8) (w : World) (hW : IsW 92 B b g l w) (hl : l.length ≤ 70368744177664) :
    Calls Try.prog 32 #[.pointer (some ⟨b, 0, none⟩)] w fun e w' => ∃ v', e = .returned v' ∧ w'.ownsRow w.heap.size 5 1 v' l.length (Lib.byteCells l) ∧ Keeps (fun _ => False) w w' := by
  obtain ⟨hBb, hgb, v, hh, rfl, hown⟩ := hW
  obtain ⟨i0, hi, hz0, hz1, hz2⟩ := info_parts info8
  have hh2 := blk_on hh (bnew w (.cells #[] 5))
  have hc := cell_one hh2
  have hown0 : (w.alloc (.cells #[] 5)).ownsRow w.heap.size 5 1 (.slice (some ⟨w.heap.size, 0, none⟩) 0 0) 0 [] := World.ownsRow_made w #[] 0 (Nat.le_refl _) (Nat.zero_le _) rfl
  have HO0 := aside hown0
  have hkeep := hown
  rcases hown.2 with ⟨rfl, h0⟩ | ⟨g, cap, cur, rfl, hb, hh', hr⟩
  · have hl0 : l = [] := List.length_eq_zero_iff.1 h0
    subst hl0
    clear hown0 hh hh2 hown hkeep hgb
    go_enter Try.func32, Try.ntmps32
    go_wp2_with (at_builtin; refine wpList_append_own_none rfl _ _ _ rfl w.heap.size 5 i0 1 Try.underlying30 hi _ _ _ (by rfl) HO0.out (by rfl) ?_; refine Hid.out ?_)
    refine aside ?_
    go_wp2
    go_ret
    exact ⟨_, rfl, HO0.out, (Keeps.refl _ _).alloc _⟩
  · have hcells : ∀ j u, (Lib.byteCells l)[j]? = some u → (w.alloc (.cells #[] 5)).cell? ((⟨g, 0, none⟩ : Addr).add j) = some u := (hkeep.alloc _).cells rfl
    have HCE := aside hcells
    clear hown0 hh hh2 hown hkeep hgb hb hh' hr hcells
    go_enter Try.func32, Try.ntmps32
    go_wp2_with (at_builtin; refine wpList_append_own _ rfl _ _ _ rfl w.heap.size 5 i0 (.int .u8 0) 1 1 Try.underlying30 hi hz0 hz1 hz2 rfl (by decide) _ _ _ (by rfl) HO0.out ⟨g, 0, none⟩ l.length cap (Lib.byteCells l) (by rfl) (by simp [Lib.byteCells]) HCE.out (by intro u hu; simp only [Lib.byteCells, List.mem_map] at hu; obtain ⟨x, _, rfl⟩ := hu; rfl) (by unfold maxLen; omega) (by omega) (by simp) ?_; intro v' w1 hown1 hgrow _; refine Hid.out ?_)
    refine aside ?_
    rw [Nat.zero_add, List.nil_append] at hown1
    have HO := aside hown1
    have HK : Keeps (fun _ => False) w w1 := ((Keeps.refl _ w).alloc _).grown hgrow (fun k hk hlt => by simp [Value.ownBlock] at hk; omega)
    clear hown1 hgrow
    go_wp2
    go_ret
    exact ⟨_, rfl, HO.out, HK⟩











end Go.Proofs.Ytbnppmkdhnpdfaa
namespace Go.Proofs.Ytbnppmkdhnpdfaa
open Go.RowKit
set_option linter.unusedVariables false

def eFirst (T : Nat → En) (n : Nat) : List En := (List.range n).map T
theorem eFirst_step (T : Nat → En) (n : Nat) : eFirst T (n + 1) = eFirst T n ++ [T n] := by unfold eFirst; rw [List.range_succ, List.map_append]; rfl
theorem eFirst_len (T : Nat → En) (n : Nat) : (eFirst T n).length = n := by simp [eFirst]
theorem eFirst_mem (T : Nat → En) {n i : Nat} (h : i < n) : T i ∈ eFirst T n := List.mem_map.2 ⟨i, List.mem_range.2 h, rfl⟩
theorem esB_step (T : Nat → En) (n : Nat) : esB (eFirst T (n + 1)) = esB (eFirst T n) ++ entB (T n) := by rw [eFirst_step, esB_append]; simp [esB]
def pvOf (m : Pm) : PV := ⟨m.kind, m.lo, m.hi, m.op, m.cnt, m.s0.toNat, m.s1.toNat, eFirst m.T m.el⟩
def psOf (P : Nat → Pm) (n : Nat) : List PV := (List.range n).map (fun i => pvOf (P i))
theorem psOf_step (P : Nat → Pm) (n : Nat) : psOf P (n + 1) = psOf P n ++ [pvOf (P n)] := by unfold psOf; rw [List.range_succ, List.map_append]; rfl
theorem psOf_len (P : Nat → Pm) (n : Nat) : (psOf P n).length = n := by simp [psOf]
theorem psOf_mem (P : Nat → Pm) {n i : Nat} (h : i < n) : pvOf (P i) ∈ psOf P n := List.mem_map.2 ⟨i, List.mem_range.2 h, rfl⟩
theorem psB_step (P : Nat → Pm) (n : Nat) : psB (psOf P (n + 1)) = psB (psOf P n) ++ partB (pvOf (P n)) := by rw [psOf_step, psB_append]; simp [psB]
theorem entB_len {e : En} (h : e.chk = 0) : (entB e).length ≤ 200 := by rw [← putB_yes h]; exact putB_len e
theorem esB_len : ∀ (l : List En), (∀ e ∈ l, e.chk = 0) → (esB l).length ≤ l.length * 200
  | [], _ => Nat.le_refl _
  | e :: r, h => by
    have h1 := entB_len (h e (List.mem_cons_self ..))
    have h2 := esB_len r (fun x hx => h x (List.mem_cons_of_mem _ hx))
    simp only [esB, List.length_append, List.length_cons]
    rw [Nat.succ_mul]
    omega
theorem eFirst_sub (T : Nat → En) {i n : Nat} (h : i ≤ n) : ∀ e ∈ eFirst T i, e ∈ eFirst T n := by
  intro e he
  obtain ⟨k, hk, rfl⟩ := List.mem_map.1 he
  exact eFirst_mem T (by have := List.mem_range.1 hk; omega)
theorem rgB_len (lo hi : ByteArray) (op : Bool) (h1 : lo.size ≤ 16) (h2 : hi.size ≤ 16) : (rgB lo hi op).length ≤ 60 := by
  unfold rgB
  have := strB_len lo
  have := strB_len hi
  cases op
  · simp only [cond, List.length_append, flagB, List.length_singleton]; omega
  · simp only [cond, List.length_append, flagB, List.length_singleton, List.length_nil]; omega
theorem partB_len {v : PV} (h : PVok v) : (partB v).length ≤ 51300 := by
  unfold partB
  have h1 := rgB_len v.lo v.hi v.op h.lo h.hi
  have h2 := enc9 (up v.kind)
  by_cases hk : v.kind = 1
  · rw [if_pos hk]
    have := enc9 (up v.cnt)
    simp only [List.length_append, wordB_len]
    omega
  · rw [if_neg hk]
    have h3 := h.items hk
    have h4 := esB_len v.es h3.2.2.2.2
    have := enc9 v.es.length
    simp only [List.length_append]
    omega
theorem psB_len : ∀ (l : List PV), (∀ v ∈ l, PVok v) → (psB l).length ≤ l.length * 51300
  | [], _ => Nat.le_refl _
  | e :: r, h => by
    have h1 := partB_len (h e (List.mem_cons_self ..))
    have h2 := psB_len r (fun x hx => h x (List.mem_cons_of_mem _ hx))
    simp only [psB, List.length_append, List.length_cons]
    rw [Nat.succ_mul]
    omega
theorem psOf_sub (P : Nat → Pm) {i n : Nat} (h : i ≤ n) : ∀ e ∈ psOf P i, e ∈ psOf P n := by
  intro e he
  obtain ⟨k, hk, rfl⟩ := List.mem_map.1 he
  exact psOf_mem P (by have := List.mem_range.1 hk; omega)
set_option maxRecDepth 100000 in
set_option maxHeartbeats 3200000 in
theorem wpart_print {b : Nat} {l : List UInt8} {V w : World} (lo hi : ByteArray) (op : Bool) (cnt : Int) (a d : Nat) (ea : Option Addr) (el ec : Nat) (T : Nat → En) (h : WS V.heap.size b l w) (hV : Below V.heap.size V w) (hl : l.length ≤ 4398046511104) (hv : PVok ⟨1, lo, hi, op, cnt, a, d, eFirst T el⟩) (hin : EntsIn V ea el ec T) :
    Calls Try.prog 24 #[.pointer (some ⟨b, 0, none⟩), .agg #[.int .i64 1, .string lo, .string hi, .bool op, .int .i64 cnt, .int .u64 (a : Int), .int .u64 (d : Int), .slice ea el ec]] w fun e w' => e = .returned (.tuple #[]) ∧ WS V.heap.size b (l ++ partB ⟨1, lo, hi, op, cnt, a, d, eFirst T el⟩) w' ∧ WK V.heap.size w w' := by
  have hB := hV.size
  have HV := aside hV
  have HVO := aside hv
  have hlo := hv.lo
  have hhi := hv.hi
  dsimp only at hlo hhi
  obtain ⟨-, hc1, hc2, ha, hd⟩ := hv.print rfl
  dsimp only at hc1 hc2 ha hd
  clear hv hV
  have KB0 := aside (heap_alloc_new w (.cells #[.int .i64 1, .string lo, .string hi, .bool op, .int .i64 cnt, .int .u64 (a : Int), .int .u64 (d : Int), .slice ea el ec] 46))
  have bn := bnew w (.cells #[.int .i64 1, .string lo, .string hi, .bool op, .int .i64 cnt, .int .u64 (a : Int), .int .u64 (d : Int), .slice ea el ec] 46)
  have KK := aside (WK.of_below hB bn)
  have WW := aside (h.keep bn)
  have HZ := aside (Nat.le_trans hB bn.size)
  clear h bn
  go_enter Try.func24, Try.ntmps24
  go_upto_region 1 with fail
  obtain ⟨i0, hi0⟩ : ∃ i0, w.heap.size = i0 := ⟨_, rfl⟩
  rw [hi0] at KB0 ⊢
  clear hi0
  generalize w.alloc (.cells #[.int .i64 1, .string lo, .string hi, .bool op, .int .i64 cnt, .int .u64 (a : Int), .int .u64 (d : Int), .slice ea el ec] 46) = X0 at KB0 KK WW HZ ⊢
  have c0_0 : X0.cell? ⟨i0, 0, none⟩ = some (.int .i64 1) := by rw [cell_of_row _ _ 0 _ _ _ KB0.out]; rfl
  have c0_1 : X0.cell? ⟨i0, 1, none⟩ = some (.string lo) := by rw [cell_of_row _ _ 1 _ _ _ KB0.out]; rfl
  have c0_2 : X0.cell? ⟨i0, 2, none⟩ = some (.string hi) := by rw [cell_of_row _ _ 2 _ _ _ KB0.out]; rfl
  have c0_3 : X0.cell? ⟨i0, 3, none⟩ = some (.bool op) := by rw [cell_of_row _ _ 3 _ _ _ KB0.out]; rfl
  have c0_4 : X0.cell? ⟨i0, 4, none⟩ = some (.int .i64 cnt) := by rw [cell_of_row _ _ 4 _ _ _ KB0.out]; rfl
  have c0_5 : X0.cell? ⟨i0, 5, none⟩ = some (.int .u64 (a : Int)) := by rw [cell_of_row _ _ 5 _ _ _ KB0.out]; rfl
  have c0_6 : X0.cell? ⟨i0, 6, none⟩ = some (.int .u64 (d : Int)) := by rw [cell_of_row _ _ 6 _ _ _ KB0.out]; rfl
  have c0_7 : X0.cell? ⟨i0, 7, none⟩ = some (.slice ea el ec) := by rw [cell_of_row _ _ 7 _ _ _ KB0.out]; rfl
  go_wp2_with fail
  refine (ws_num 1 WW.out HZ.out (by omega) (by omega) (by omega)).mono ?_
  rintro r w1 ⟨rfl, W1, k1⟩
  clear c0_0 c0_1 c0_2 c0_3 c0_4 c0_5 c0_6 c0_7
  replace KB0 := aside (k1.blk _ _ _ (by decide) (by decide) KB0.out)
  replace KK := aside (KK.out.trans k1)
  replace HZ := aside (Nat.le_trans HZ.out k1.bel.size)
  replace WW := aside W1
  clear k1 W1
  have c0_0 : w1.cell? ⟨i0, 0, none⟩ = some (.int .i64 1) := by rw [cell_of_row _ _ 0 _ _ _ KB0.out]; rfl
  have c0_1 : w1.cell? ⟨i0, 1, none⟩ = some (.string lo) := by rw [cell_of_row _ _ 1 _ _ _ KB0.out]; rfl
  have c0_2 : w1.cell? ⟨i0, 2, none⟩ = some (.string hi) := by rw [cell_of_row _ _ 2 _ _ _ KB0.out]; rfl
  have c0_3 : w1.cell? ⟨i0, 3, none⟩ = some (.bool op) := by rw [cell_of_row _ _ 3 _ _ _ KB0.out]; rfl
  have c0_4 : w1.cell? ⟨i0, 4, none⟩ = some (.int .i64 cnt) := by rw [cell_of_row _ _ 4 _ _ _ KB0.out]; rfl
  have c0_5 : w1.cell? ⟨i0, 5, none⟩ = some (.int .u64 (a : Int)) := by rw [cell_of_row _ _ 5 _ _ _ KB0.out]; rfl
  have c0_6 : w1.cell? ⟨i0, 6, none⟩ = some (.int .u64 (d : Int)) := by rw [cell_of_row _ _ 6 _ _ _ KB0.out]; rfl
  have c0_7 : w1.cell? ⟨i0, 7, none⟩ = some (.slice ea el ec) := by rw [cell_of_row _ _ 7 _ _ _ KB0.out]; rfl
  go_wp2_with fail
  refine (wrng_any lo hi op WW.out HZ.out (by simp only [List.length_append]; have := enc9 (up (1 : Int)); omega) hlo hhi).mono ?_
  rintro r w2 ⟨rfl, W1, k1⟩
  clear c0_0 c0_1 c0_2 c0_3 c0_4 c0_5 c0_6 c0_7
  replace KB0 := aside (k1.blk _ _ _ (by decide) (by decide) KB0.out)
  replace KK := aside (KK.out.trans k1)
  replace HZ := aside (Nat.le_trans HZ.out k1.bel.size)
  replace WW := aside W1
  clear k1 W1
  have c0_0 : w2.cell? ⟨i0, 0, none⟩ = some (.int .i64 1) := by rw [cell_of_row _ _ 0 _ _ _ KB0.out]; rfl
  have c0_1 : w2.cell? ⟨i0, 1, none⟩ = some (.string lo) := by rw [cell_of_row _ _ 1 _ _ _ KB0.out]; rfl
  have c0_2 : w2.cell? ⟨i0, 2, none⟩ = some (.string hi) := by rw [cell_of_row _ _ 2 _ _ _ KB0.out]; rfl
  have c0_3 : w2.cell? ⟨i0, 3, none⟩ = some (.bool op) := by rw [cell_of_row _ _ 3 _ _ _ KB0.out]; rfl
  have c0_4 : w2.cell? ⟨i0, 4, none⟩ = some (.int .i64 cnt) := by rw [cell_of_row _ _ 4 _ _ _ KB0.out]; rfl
  have c0_5 : w2.cell? ⟨i0, 5, none⟩ = some (.int .u64 (a : Int)) := by rw [cell_of_row _ _ 5 _ _ _ KB0.out]; rfl
  have c0_6 : w2.cell? ⟨i0, 6, none⟩ = some (.int .u64 (d : Int)) := by rw [cell_of_row _ _ 6 _ _ _ KB0.out]; rfl
  have c0_7 : w2.cell? ⟨i0, 7, none⟩ = some (.slice ea el ec) := by rw [cell_of_row _ _ 7 _ _ _ KB0.out]; rfl
  go_wp2_with fail
  refine (wtally_any cnt a d WW.out HZ.out (by simp only [List.length_append]; have := enc9 (up (1 : Int)); have := rgB_len lo hi op hlo hhi; omega) (by omega) (by omega) ha hd).mono ?_
  rintro r w3 ⟨rfl, W1, k1⟩
  clear c0_0 c0_1 c0_2 c0_3 c0_4 c0_5 c0_6 c0_7
  replace KB0 := aside (k1.blk _ _ _ (by decide) (by decide) KB0.out)
  replace KK := aside (KK.out.trans k1)
  replace HZ := aside (Nat.le_trans HZ.out k1.bel.size)
  replace WW := aside W1
  clear k1 W1
  go_wp2
  refine bodyPost_ret (results_none rfl _ _ _) rfl ?_
  refine ⟨rfl, ?_, KK.out⟩
  have := WW.out
  unfold partB
  rw [if_pos rfl]
  simpa [List.append_assoc] using this

set_option maxRecDepth 100000 in
set_option maxHeartbeats 3200000 in
theorem wpart_items {b : Nat} {l : List UInt8} {V w : World} (kind : Int) (lo hi : ByteArray) (op : Bool) (cnt : Int) (a d : Nat) (ea : Option Addr) (el ec : Nat) (T : Nat → En) (h : WS V.heap.size b l w) (hV : Below V.heap.size V w) (hl : l.length ≤ 4398046511104) (hv : PVok ⟨kind, lo, hi, op, cnt, a, d, eFirst T el⟩) (hk : ¬ kind = 1) (hin : EntsIn V ea el ec T) :
    Calls Try.prog 24 #[.pointer (some ⟨b, 0, none⟩), .agg #[.int .i64 kind, .string lo, .string hi, .bool op, .int .i64 cnt, .int .u64 (a : Int), .int .u64 (d : Int), .slice ea el ec]] w fun e w' => e = .returned (.tuple #[]) ∧ WS V.heap.size b (l ++ partB ⟨kind, lo, hi, op, cnt, a, d, eFirst T el⟩) w' ∧ WK V.heap.size w w' := by
  have hB := hV.size
  have HV := aside hV
  have HVO := aside hv
  have hlo := hv.lo
  have hhi := hv.hi
  dsimp only at hlo hhi
  have hel := (hv.items hk).2.2.2.1
  dsimp only at hel
  rw [eFirst_len] at hel
  have hk1 : (kind == 1) = false := by simpa using hk
  have hkk := hv.kind
  dsimp only at hkk
  have HIN := aside hin
  have hmx : (el : Int) ≤ 9223372036854775807 := by omega
  have HEN := aside (show ∀ i, i < el → (T i).chk = 0 from fun i hi => (hv.items hk).2.2.2.2 _ (eFirst_mem T hi))
  clear hin
  clear hv hV
  have KB0 := aside (heap_alloc_new w (.cells #[.int .i64 kind, .string lo, .string hi, .bool op, .int .i64 cnt, .int .u64 (a : Int), .int .u64 (d : Int), .slice ea el ec] 46))
  have bn := bnew w (.cells #[.int .i64 kind, .string lo, .string hi, .bool op, .int .i64 cnt, .int .u64 (a : Int), .int .u64 (d : Int), .slice ea el ec] 46)
  have KK := aside (WK.of_below hB bn)
  have WW := aside (h.keep bn)
  have HZ := aside (Nat.le_trans hB bn.size)
  clear h bn
  go_enter Try.func24, Try.ntmps24
  go_upto_region 1 with fail
  obtain ⟨i0, hi0⟩ : ∃ i0, w.heap.size = i0 := ⟨_, rfl⟩
  rw [hi0] at KB0 ⊢
  clear hi0
  generalize w.alloc (.cells #[.int .i64 kind, .string lo, .string hi, .bool op, .int .i64 cnt, .int .u64 (a : Int), .int .u64 (d : Int), .slice ea el ec] 46) = X0 at KB0 KK WW HZ ⊢
  have c0_0 : X0.cell? ⟨i0, 0, none⟩ = some (.int .i64 kind) := by rw [cell_of_row _ _ 0 _ _ _ KB0.out]; rfl
  have c0_1 : X0.cell? ⟨i0, 1, none⟩ = some (.string lo) := by rw [cell_of_row _ _ 1 _ _ _ KB0.out]; rfl
  have c0_2 : X0.cell? ⟨i0, 2, none⟩ = some (.string hi) := by rw [cell_of_row _ _ 2 _ _ _ KB0.out]; rfl
  have c0_3 : X0.cell? ⟨i0, 3, none⟩ = some (.bool op) := by rw [cell_of_row _ _ 3 _ _ _ KB0.out]; rfl
  have c0_4 : X0.cell? ⟨i0, 4, none⟩ = some (.int .i64 cnt) := by rw [cell_of_row _ _ 4 _ _ _ KB0.out]; rfl
  have c0_5 : X0.cell? ⟨i0, 5, none⟩ = some (.int .u64 (a : Int)) := by rw [cell_of_row _ _ 5 _ _ _ KB0.out]; rfl
  have c0_6 : X0.cell? ⟨i0, 6, none⟩ = some (.int .u64 (d : Int)) := by rw [cell_of_row _ _ 6 _ _ _ KB0.out]; rfl
  have c0_7 : X0.cell? ⟨i0, 7, none⟩ = some (.slice ea el ec) := by rw [cell_of_row _ _ 7 _ _ _ KB0.out]; rfl
  go_wp2_with fail
  refine (ws_num kind WW.out HZ.out (by omega) (by omega) (by omega)).mono ?_
  rintro r w1 ⟨rfl, W1, k1⟩
  clear c0_0 c0_1 c0_2 c0_3 c0_4 c0_5 c0_6 c0_7
  replace KB0 := aside (k1.blk _ _ _ (by decide) (by decide) KB0.out)
  replace KK := aside (KK.out.trans k1)
  replace HZ := aside (Nat.le_trans HZ.out k1.bel.size)
  replace WW := aside W1
  clear k1 W1
  have c0_0 : w1.cell? ⟨i0, 0, none⟩ = some (.int .i64 kind) := by rw [cell_of_row _ _ 0 _ _ _ KB0.out]; rfl
  have c0_1 : w1.cell? ⟨i0, 1, none⟩ = some (.string lo) := by rw [cell_of_row _ _ 1 _ _ _ KB0.out]; rfl
  have c0_2 : w1.cell? ⟨i0, 2, none⟩ = some (.string hi) := by rw [cell_of_row _ _ 2 _ _ _ KB0.out]; rfl
  have c0_3 : w1.cell? ⟨i0, 3, none⟩ = some (.bool op) := by rw [cell_of_row _ _ 3 _ _ _ KB0.out]; rfl
  have c0_4 : w1.cell? ⟨i0, 4, none⟩ = some (.int .i64 cnt) := by rw [cell_of_row _ _ 4 _ _ _ KB0.out]; rfl
  have c0_5 : w1.cell? ⟨i0, 5, none⟩ = some (.int .u64 (a : Int)) := by rw [cell_of_row _ _ 5 _ _ _ KB0.out]; rfl
  have c0_6 : w1.cell? ⟨i0, 6, none⟩ = some (.int .u64 (d : Int)) := by rw [cell_of_row _ _ 6 _ _ _ KB0.out]; rfl
  have c0_7 : w1.cell? ⟨i0, 7, none⟩ = some (.slice ea el ec) := by rw [cell_of_row _ _ 7 _ _ _ KB0.out]; rfl
  go_wp2_with fail
  refine (wrng_any lo hi op WW.out HZ.out (by simp only [List.length_append]; have := enc9 (up (kind : Int)); omega) hlo hhi).mono ?_
  rintro r w2 ⟨rfl, W1, k1⟩
  clear c0_0 c0_1 c0_2 c0_3 c0_4 c0_5 c0_6 c0_7
  replace KB0 := aside (k1.blk _ _ _ (by decide) (by decide) KB0.out)
  replace KK := aside (KK.out.trans k1)
  replace HZ := aside (Nat.le_trans HZ.out k1.bel.size)
  replace WW := aside W1
  clear k1 W1
  have c0_0 : w2.cell? ⟨i0, 0, none⟩ = some (.int .i64 kind) := by rw [cell_of_row _ _ 0 _ _ _ KB0.out]; rfl
  have c0_1 : w2.cell? ⟨i0, 1, none⟩ = some (.string lo) := by rw [cell_of_row _ _ 1 _ _ _ KB0.out]; rfl
  have c0_2 : w2.cell? ⟨i0, 2, none⟩ = some (.string hi) := by rw [cell_of_row _ _ 2 _ _ _ KB0.out]; rfl
  have c0_3 : w2.cell? ⟨i0, 3, none⟩ = some (.bool op) := by rw [cell_of_row _ _ 3 _ _ _ KB0.out]; rfl
  have c0_4 : w2.cell? ⟨i0, 4, none⟩ = some (.int .i64 cnt) := by rw [cell_of_row _ _ 4 _ _ _ KB0.out]; rfl
  have c0_5 : w2.cell? ⟨i0, 5, none⟩ = some (.int .u64 (a : Int)) := by rw [cell_of_row _ _ 5 _ _ _ KB0.out]; rfl
  have c0_6 : w2.cell? ⟨i0, 6, none⟩ = some (.int .u64 (d : Int)) := by rw [cell_of_row _ _ 6 _ _ _ KB0.out]; rfl
  have c0_7 : w2.cell? ⟨i0, 7, none⟩ = some (.slice ea el ec) := by rw [cell_of_row _ _ 7 _ _ _ KB0.out]; rfl
  go_wp2_with fail
  refine (ws_num (el : Int) WW.out HZ.out (by omega) (by omega) (by simp only [List.length_append]; have := enc9 (up (kind : Int)); have := rgB_len lo hi op hlo hhi; omega)).mono ?_
  rintro r w3 ⟨rfl, W1, k1⟩
  clear c0_0 c0_1 c0_2 c0_3 c0_4 c0_5 c0_6 c0_7
  replace KB0 := aside (k1.blk _ _ _ (by decide) (by decide) KB0.out)
  replace KK := aside (KK.out.trans k1)
  replace HZ := aside (Nat.le_trans HZ.out k1.bel.size)
  replace WW := aside W1
  clear k1 W1
  have c0_0 : w3.cell? ⟨i0, 0, none⟩ = some (.int .i64 kind) := by rw [cell_of_row _ _ 0 _ _ _ KB0.out]; rfl
  have c0_1 : w3.cell? ⟨i0, 1, none⟩ = some (.string lo) := by rw [cell_of_row _ _ 1 _ _ _ KB0.out]; rfl
  have c0_2 : w3.cell? ⟨i0, 2, none⟩ = some (.string hi) := by rw [cell_of_row _ _ 2 _ _ _ KB0.out]; rfl
  have c0_3 : w3.cell? ⟨i0, 3, none⟩ = some (.bool op) := by rw [cell_of_row _ _ 3 _ _ _ KB0.out]; rfl
  have c0_4 : w3.cell? ⟨i0, 4, none⟩ = some (.int .i64 cnt) := by rw [cell_of_row _ _ 4 _ _ _ KB0.out]; rfl
  have c0_5 : w3.cell? ⟨i0, 5, none⟩ = some (.int .u64 (a : Int)) := by rw [cell_of_row _ _ 5 _ _ _ KB0.out]; rfl
  have c0_6 : w3.cell? ⟨i0, 6, none⟩ = some (.int .u64 (d : Int)) := by rw [cell_of_row _ _ 6 _ _ _ KB0.out]; rfl
  have c0_7 : w3.cell? ⟨i0, 7, none⟩ = some (.slice ea el ec) := by rw [cell_of_row _ _ 7 _ _ _ KB0.out]; rfl
  obtain ⟨L2, hL2⟩ : ∃ L2, l ++ Nm.enc 8 (up kind) ++ rgB lo hi op ++ Nm.enc 8 (up (el : Int)) = L2 := ⟨_, rfl⟩
  rw [hL2] at WW
  have HLL := aside (show L2.length ≤ l.length + 78 from by rw [← hL2]; simp only [List.length_append]; have := enc9 (up kind); have := enc9 (up (el : Int)); have := rgB_len lo hi op hlo hhi; omega)
  have HL2 := aside hL2
  clear hL2
  go_wp2
  go_loopw [29] (fun t wr => ∃ i : Nat, t = .int .i64 (i : Int) ∧ i ≤ el ∧ Hid (WS V.heap.size b (L2 ++ esB (eFirst T i)) wr) ∧ Hid (WK V.heap.size w wr)) (fun t _ => el - (intOf t).toNat)
  case atStart => exact ⟨0, rfl, Nat.zero_le _, aside (by simpa [eFirst, esB] using WW.out), KK.out⟩
  case round =>
    clear WW KK HZ KB0
    obtain ⟨i, rfl, hi, WW, KK⟩ := hrel
    by_cases hlt : (i : Int) < (el : Int)
    · have hii : (0 : Int) ≤ (i : Int) := by omega
      have HZ := aside (show V.heap.size ≤ wr.heap.size from Nat.le_trans HV.out.size KK.out.bel.size)
      rcases (HIN.out.keep (HV.out.trans KK.out.bel)).2.2 with h0 | ⟨bb, off, rfl, hbb, hc⟩
      · omega
      obtain ⟨x, hx⟩ : ∃ x, T i = x := ⟨_, rfl⟩
      obtain ⟨⟨e0, e1, e2, e3, e4⟩, -⟩ := hc i (by omega)
      rw [hx] at e0 e1 e2 e3 e4
      have HX := aside hx
      have HCH := aside (show x.chk = 0 from by rw [← hx]; exact HEN.out i (by omega))
      have HS := aside (show (esB (eFirst T i)).length ≤ 51200 from by
        have h1 := esB_len (eFirst T i) (fun e he => by
          obtain ⟨k, hk, rfl⟩ := List.mem_map.1 he
          exact HEN.out k (by have := List.mem_range.1 hk; omega))
        rw [eFirst_len] at h1
        omega)
      clear hx hc hbb
      have B2 := aside (bnew wr (.cells #[.string x.k, .int .i64 x.c, .int .i64 x.n, .string x.v, .bool x.d] 50))
      have K2 := aside (heap_alloc_new wr (.cells #[.string x.k, .int .i64 x.c, .int .i64 x.n, .string x.v, .bool x.d] 50))
      replace WW := aside (WW.out.keep B2.out)
      replace KK := aside (KK.out.trans (WK.of_below HZ.out B2.out))
      replace HZ := aside (Nat.le_trans HZ.out B2.out.size)
      go_upto_region 9 with fail
      clear e0 e1 e2 e3 e4 B2
      obtain ⟨i5, hi5⟩ : ∃ i5, wr.heap.size = i5 := ⟨_, rfl⟩
      rw [hi5] at K2 ⊢
      clear hi5
      generalize wr.alloc (.cells #[.string x.k, .int .i64 x.c, .int .i64 x.n, .string x.v, .bool x.d] 50) = X5 at K2 WW KK HZ ⊢
      have x0 : X5.cell? ⟨i5, 0, none⟩ = some (.string x.k) := by rw [cell_of_row _ _ 0 _ _ _ K2.out]; rfl
      have x1 : X5.cell? ⟨i5, 1, none⟩ = some (.int .i64 x.c) := by rw [cell_of_row _ _ 1 _ _ _ K2.out]; rfl
      have x2 : X5.cell? ⟨i5, 2, none⟩ = some (.int .i64 x.n) := by rw [cell_of_row _ _ 2 _ _ _ K2.out]; rfl
      have x3 : X5.cell? ⟨i5, 3, none⟩ = some (.string x.v) := by rw [cell_of_row _ _ 3 _ _ _ K2.out]; rfl
      have x4 : X5.cell? ⟨i5, 4, none⟩ = some (.bool x.d) := by rw [cell_of_row _ _ 4 _ _ _ K2.out]; rfl
      go_wp2_with fail
      refine (ws_ent x WW.out HZ.out HCH.out (by simp only [List.length_append]; have h1 := HS.out; have h2 := HLL.out; omega)).mono ?_
      rintro r w9 ⟨rfl, W1, k1⟩
      replace KK := aside (KK.out.trans k1)
      replace WW := aside (show WS V.heap.size b (L2 ++ esB (eFirst T (i + 1))) w9 from by rw [esB_step, HX.out, ← List.append_assoc]; exact W1)
      clear k1 W1 x0 x1 x2 x3 x4
      go_wp2
      go_roundw
      case rel => exact ⟨i + 1, by go_num, by omega, WW.out, KK.out⟩
      case measure => simp [intOf]; omega
    · obtain rfl : i = el := by omega
      go_wp2
      go_end0
      refine ⟨rfl, ?_, KK.out⟩
      have := WW.out
      rw [← HL2.out, upN] at this
      unfold partB
      dsimp only
      rw [if_neg hk, eFirst_len]
      simpa [List.append_assoc] using this

theorem wpart_any {b : Nat} {l : List UInt8} {V w : World} (m : Pm) (h : WS V.heap.size b l w) (hV : Below V.heap.size V w) (hl : l.length ≤ 4398046511104) (hv : PVok (pvOf m)) (h0 : 0 ≤ m.s0) (h1 : 0 ≤ m.s1) (hin : m.In V) :
    Calls Try.prog 24 #[.pointer (some ⟨b, 0, none⟩), .agg #[.int .i64 m.kind, .string m.lo, .string m.hi, .bool m.op, .int .i64 m.cnt, .int .u64 m.s0, .int .u64 m.s1, .slice m.ea m.el m.ec]] w fun e w' => e = .returned (.tuple #[]) ∧ WS V.heap.size b (l ++ partB (pvOf m)) w' ∧ WK V.heap.size w w' := by
  obtain ⟨kind, lo, hi, op, cnt, s0, s1, ea, el, ec, T⟩ := m
  dsimp only at h0 h1
  obtain ⟨a, rfl⟩ : ∃ a : Nat, s0 = (a : Int) := ⟨s0.toNat, by omega⟩
  obtain ⟨d, rfl⟩ : ∃ a : Nat, s1 = (a : Int) := ⟨s1.toNat, by omega⟩
  have e : pvOf ⟨kind, lo, hi, op, cnt, (a : Int), (d : Int), ea, el, ec, T⟩ = ⟨kind, lo, hi, op, cnt, a, d, eFirst T el⟩ := by simp [pvOf]
  rw [e] at hv ⊢
  by_cases hk : kind = 1
  · subst hk
    exact wpart_print lo hi op cnt a d ea el ec T h hV hl hv hin
  · exact wpart_items kind lo hi op cnt a d ea el ec T h hV hl hv hk hin

end Go.Proofs.Ytbnppmkdhnpdfaa
namespace Go.Proofs.Ytbnppmkdhnpdfaa
open Go.RowKit
set_option linter.unusedVariables false

set_option maxRecDepth 100000 in
set_option maxHeartbeats 3200000 in
theorem enc_no (fr tz o lf n tn : Int) (a : Option Addr) (len cap : Nat) (P : Nat → Pm) (w : World) (hp : PartsIn w a len cap P) (hT : totE P len ≤ 4611686018427387904) {q : Int} (hq : fChk fr tz o lf n tn P len = q) (hq0 : q ≠ 0) :
    Calls Try.prog 11 #[.agg #[.int .i64 fr, .int .i64 tz, .int .i64 o, .int .i64 lf, .int .i64 n, .int .i64 tn, .slice a len cap]] w fun r w' => r = .returned (.tuple #[.slice none 0 0, .int .i64 q]) ∧ Below w.heap.size w w' := by
  have HQ := aside hq
  clear hq
  have HP := aside (hp.keep (bnew w (.cells #[.int .i64 fr, .int .i64 tz, .int .i64 o, .int .i64 lf, .int .i64 n, .int .i64 tn, .slice a len cap] 26)))
  have KB0 := aside (heap_alloc_new w (.cells #[.int .i64 fr, .int .i64 tz, .int .i64 o, .int .i64 lf, .int .i64 n, .int .i64 tn, .slice a len cap] 26))
  have BB := aside (bnew w (.cells #[.int .i64 fr, .int .i64 tz, .int .i64 o, .int .i64 lf, .int .i64 n, .int .i64 tn, .slice a len cap] 26))
  clear hp
  go_enter Try.func11, Try.ntmps11
  go_upto_region 1 with fail
  obtain ⟨i0, hi0⟩ : ∃ i0, w.heap.size = i0 := ⟨_, rfl⟩
  rw [hi0] at KB0 ⊢
  clear hi0
  generalize w.alloc (.cells #[.int .i64 fr, .int .i64 tz, .int .i64 o, .int .i64 lf, .int .i64 n, .int .i64 tn, .slice a len cap] 26) = X0 at KB0 BB HP ⊢
  have c0 : X0.cell? ⟨i0, 0, none⟩ = some (.int .i64 fr) := by rw [cell_of_row _ _ 0 _ _ _ KB0.out]; rfl
  have c1 : X0.cell? ⟨i0, 1, none⟩ = some (.int .i64 tz) := by rw [cell_of_row _ _ 1 _ _ _ KB0.out]; rfl
  have c2 : X0.cell? ⟨i0, 2, none⟩ = some (.int .i64 o) := by rw [cell_of_row _ _ 2 _ _ _ KB0.out]; rfl
  have c3 : X0.cell? ⟨i0, 3, none⟩ = some (.int .i64 lf) := by rw [cell_of_row _ _ 3 _ _ _ KB0.out]; rfl
  have c4 : X0.cell? ⟨i0, 4, none⟩ = some (.int .i64 n) := by rw [cell_of_row _ _ 4 _ _ _ KB0.out]; rfl
  have c5 : X0.cell? ⟨i0, 5, none⟩ = some (.int .i64 tn) := by rw [cell_of_row _ _ 5 _ _ _ KB0.out]; rfl
  have c6 : X0.cell? ⟨i0, 6, none⟩ = some (.slice a len cap) := by rw [cell_of_row _ _ 6 _ _ _ KB0.out]; rfl
  go_wp2_with fail
  refine (chkf_any fr tz o lf n tn a len cap P X0 HP.out hT).mono ?_
  rintro r X1 ⟨rfl, b1⟩
  rw [HQ.out]
  clear c0 c1 c2 c3 c4 c5 c6
  replace BB := aside (bthen BB.out b1)
  have hq1 : (q != 0) = true := by simpa using hq0
  clear b1
  go_wp2
  go_ret2
  exact ⟨rfl, BB.out⟩

set_option maxRecDepth 100000 in
set_option maxHeartbeats 3200000 in
theorem enc_ok (fr tz o lf n tn : Int) (a : Option Addr) (len cap : Nat) (P : Nat → Pm) (w : World) (hp : PartsIn w a len cap P) (hT : totE P len ≤ 4611686018427387904) (hq : fChk fr tz o lf n tn P len = 0) (hok : FVok ⟨fr, tz, o, lf, n, tn, psOf P len⟩) (hu : ∀ i, i < len → 0 ≤ (P i).s0 ∧ 0 ≤ (P i).s1) :
    Calls Try.prog 11 #[.agg #[.int .i64 fr, .int .i64 tz, .int .i64 o, .int .i64 lf, .int .i64 n, .int .i64 tn, .slice a len cap]] w fun r w' => ∃ v', r = .returned (.tuple #[v', .int .i64 0]) ∧ w'.ownsRow w.heap.size 5 1 v' (frameB ⟨fr, tz, o, lf, n, tn, psOf P len⟩).length (Lib.byteCells (frameB ⟨fr, tz, o, lf, n, tn, psOf P len⟩)) ∧ Below w.heap.size w w' := by
  have HQ := aside hq
  have HOK := aside hok
  have HU := aside hu
  have HLE := aside (show len ≤ 768 from by have := hok.len; dsimp only at this; rw [psOf_len] at this; exact this)
  obtain ⟨v1, v2, v3, v4, v5, v6, -, -⟩ := hok
  dsimp only at v1 v2 v3 v4 v5 v6
  have hmx : (len : Int) ≤ 9223372036854775807 := by have := HLE.out; omega
  clear hq hu
  have HP := aside (hp.keep (bnew w (.cells #[.int .i64 fr, .int .i64 tz, .int .i64 o, .int .i64 lf, .int .i64 n, .int .i64 tn, .slice a len cap] 26)))
  have KB0 := aside (heap_alloc_new w (.cells #[.int .i64 fr, .int .i64 tz, .int .i64 o, .int .i64 lf, .int .i64 n, .int .i64 tn, .slice a len cap] 26))
  have BB := aside (bnew w (.cells #[.int .i64 fr, .int .i64 tz, .int .i64 o, .int .i64 lf, .int .i64 n, .int .i64 tn, .slice a len cap] 26))
  clear hp
  go_enter Try.func11, Try.ntmps11
  go_upto_region 1 with fail
  obtain ⟨i0, hi0⟩ : ∃ i0, w.heap.size = i0 := ⟨_, rfl⟩
  rw [hi0] at KB0 ⊢
  clear hi0
  generalize w.alloc (.cells #[.int .i64 fr, .int .i64 tz, .int .i64 o, .int .i64 lf, .int .i64 n, .int .i64 tn, .slice a len cap] 26) = X0 at KB0 BB HP ⊢
  have c0 : X0.cell? ⟨i0, 0, none⟩ = some (.int .i64 fr) := by rw [cell_of_row _ _ 0 _ _ _ KB0.out]; rfl
  have c1 : X0.cell? ⟨i0, 1, none⟩ = some (.int .i64 tz) := by rw [cell_of_row _ _ 1 _ _ _ KB0.out]; rfl
  have c2 : X0.cell? ⟨i0, 2, none⟩ = some (.int .i64 o) := by rw [cell_of_row _ _ 2 _ _ _ KB0.out]; rfl
  have c3 : X0.cell? ⟨i0, 3, none⟩ = some (.int .i64 lf) := by rw [cell_of_row _ _ 3 _ _ _ KB0.out]; rfl
  have c4 : X0.cell? ⟨i0, 4, none⟩ = some (.int .i64 n) := by rw [cell_of_row _ _ 4 _ _ _ KB0.out]; rfl
  have c5 : X0.cell? ⟨i0, 5, none⟩ = some (.int .i64 tn) := by rw [cell_of_row _ _ 5 _ _ _ KB0.out]; rfl
  have c6 : X0.cell? ⟨i0, 6, none⟩ = some (.slice a len cap) := by rw [cell_of_row _ _ 6 _ _ _ KB0.out]; rfl
  go_wp2_with fail
  refine (chkf_any fr tz o lf n tn a len cap P X0 HP.out hT).mono ?_
  rintro r X1 ⟨rfl, b1⟩
  rw [HQ.out]
  clear c0 c1 c2 c3 c4 c5 c6
  replace KB0 := aside (blk_on KB0.out b1)
  replace HP := aside (HP.out.keep b1)
  replace BB := aside (bthen BB.out b1)
  clear b1
  go_wp2_with fail
  refine (newWriter_any X1).mono ?_
  rintro r X2 ⟨rfl, rfl⟩
  have bn := bnew X1 (.cells #[.slice none 0 0] 86)
  have WW := aside (show WS X1.heap.size X1.heap.size [] (X1.alloc (.cells #[.slice none 0 0] 86)) from ⟨none, isW_new 86 X1.heap.size X1 (Nat.le_refl _)⟩)
  replace KB0 := aside (blk_on KB0.out bn)
  have KV := aside bn
  have HZ := aside bn.size
  obtain ⟨b, hb⟩ : ∃ b, X1.heap.size = b := ⟨_, rfl⟩
  have HBV := aside hb
  have WW2 := aside (show WS X1.heap.size b [] (X1.alloc (.cells #[.slice none 0 0] 86)) from by rw [← hb]; exact WW.out)
  clear WW
  rw [hb]
  clear hb bn
  generalize X1.alloc (.cells #[.slice none 0 0] 86) = X2 at KB0 KV HZ WW2 ⊢
  have WW := aside WW2.out
  clear WW2
  have c0 : X2.cell? ⟨i0, 0, none⟩ = some (.int .i64 fr) := by rw [cell_of_row _ _ 0 _ _ _ KB0.out]; rfl
  have c1 : X2.cell? ⟨i0, 1, none⟩ = some (.int .i64 tz) := by rw [cell_of_row _ _ 1 _ _ _ KB0.out]; rfl
  have c2 : X2.cell? ⟨i0, 2, none⟩ = some (.int .i64 o) := by rw [cell_of_row _ _ 2 _ _ _ KB0.out]; rfl
  have c3 : X2.cell? ⟨i0, 3, none⟩ = some (.int .i64 lf) := by rw [cell_of_row _ _ 3 _ _ _ KB0.out]; rfl
  have c4 : X2.cell? ⟨i0, 4, none⟩ = some (.int .i64 n) := by rw [cell_of_row _ _ 4 _ _ _ KB0.out]; rfl
  have c5 : X2.cell? ⟨i0, 5, none⟩ = some (.int .i64 tn) := by rw [cell_of_row _ _ 5 _ _ _ KB0.out]; rfl
  have c6 : X2.cell? ⟨i0, 6, none⟩ = some (.slice a len cap) := by rw [cell_of_row _ _ 6 _ _ _ KB0.out]; rfl
  go_wp2_with fail
  refine (ws_num fr WW.out HZ.out (by omega) (by omega) (by simp only [List.length_nil];  omega)).mono ?_
  rintro r Y0 ⟨rfl, W1, k1⟩
  replace KB0 := aside (k1.blk _ _ _ (by decide) (by decide) KB0.out)
  replace KV := aside (KV.out.trans k1.bel)
  replace HZ := aside (Nat.le_trans HZ.out k1.bel.size)
  replace WW := aside W1
  clear k1 W1
  clear c0 c1 c2 c3 c4 c5 c6
  have c0 : Y0.cell? ⟨i0, 0, none⟩ = some (.int .i64 fr) := by rw [cell_of_row _ _ 0 _ _ _ KB0.out]; rfl
  have c1 : Y0.cell? ⟨i0, 1, none⟩ = some (.int .i64 tz) := by rw [cell_of_row _ _ 1 _ _ _ KB0.out]; rfl
  have c2 : Y0.cell? ⟨i0, 2, none⟩ = some (.int .i64 o) := by rw [cell_of_row _ _ 2 _ _ _ KB0.out]; rfl
  have c3 : Y0.cell? ⟨i0, 3, none⟩ = some (.int .i64 lf) := by rw [cell_of_row _ _ 3 _ _ _ KB0.out]; rfl
  have c4 : Y0.cell? ⟨i0, 4, none⟩ = some (.int .i64 n) := by rw [cell_of_row _ _ 4 _ _ _ KB0.out]; rfl
  have c5 : Y0.cell? ⟨i0, 5, none⟩ = some (.int .i64 tn) := by rw [cell_of_row _ _ 5 _ _ _ KB0.out]; rfl
  have c6 : Y0.cell? ⟨i0, 6, none⟩ = some (.slice a len cap) := by rw [cell_of_row _ _ 6 _ _ _ KB0.out]; rfl
  go_wp2_with fail
  refine (ws_num tz WW.out HZ.out (by omega) (by omega) (by simp only [List.length_append, List.length_nil]; have := enc9 (up fr); omega)).mono ?_
  rintro r Y1 ⟨rfl, W1, k1⟩
  replace KB0 := aside (k1.blk _ _ _ (by decide) (by decide) KB0.out)
  replace KV := aside (KV.out.trans k1.bel)
  replace HZ := aside (Nat.le_trans HZ.out k1.bel.size)
  replace WW := aside W1
  clear k1 W1
  clear c0 c1 c2 c3 c4 c5 c6
  have c0 : Y1.cell? ⟨i0, 0, none⟩ = some (.int .i64 fr) := by rw [cell_of_row _ _ 0 _ _ _ KB0.out]; rfl
  have c1 : Y1.cell? ⟨i0, 1, none⟩ = some (.int .i64 tz) := by rw [cell_of_row _ _ 1 _ _ _ KB0.out]; rfl
  have c2 : Y1.cell? ⟨i0, 2, none⟩ = some (.int .i64 o) := by rw [cell_of_row _ _ 2 _ _ _ KB0.out]; rfl
  have c3 : Y1.cell? ⟨i0, 3, none⟩ = some (.int .i64 lf) := by rw [cell_of_row _ _ 3 _ _ _ KB0.out]; rfl
  have c4 : Y1.cell? ⟨i0, 4, none⟩ = some (.int .i64 n) := by rw [cell_of_row _ _ 4 _ _ _ KB0.out]; rfl
  have c5 : Y1.cell? ⟨i0, 5, none⟩ = some (.int .i64 tn) := by rw [cell_of_row _ _ 5 _ _ _ KB0.out]; rfl
  have c6 : Y1.cell? ⟨i0, 6, none⟩ = some (.slice a len cap) := by rw [cell_of_row _ _ 6 _ _ _ KB0.out]; rfl
  go_wp2_with fail
  refine (ws_num o WW.out HZ.out (by omega) (by omega) (by simp only [List.length_append, List.length_nil]; have := enc9 (up fr); have := enc9 (up tz); omega)).mono ?_
  rintro r Y2 ⟨rfl, W1, k1⟩
  replace KB0 := aside (k1.blk _ _ _ (by decide) (by decide) KB0.out)
  replace KV := aside (KV.out.trans k1.bel)
  replace HZ := aside (Nat.le_trans HZ.out k1.bel.size)
  replace WW := aside W1
  clear k1 W1
  clear c0 c1 c2 c3 c4 c5 c6
  have c0 : Y2.cell? ⟨i0, 0, none⟩ = some (.int .i64 fr) := by rw [cell_of_row _ _ 0 _ _ _ KB0.out]; rfl
  have c1 : Y2.cell? ⟨i0, 1, none⟩ = some (.int .i64 tz) := by rw [cell_of_row _ _ 1 _ _ _ KB0.out]; rfl
  have c2 : Y2.cell? ⟨i0, 2, none⟩ = some (.int .i64 o) := by rw [cell_of_row _ _ 2 _ _ _ KB0.out]; rfl
  have c3 : Y2.cell? ⟨i0, 3, none⟩ = some (.int .i64 lf) := by rw [cell_of_row _ _ 3 _ _ _ KB0.out]; rfl
  have c4 : Y2.cell? ⟨i0, 4, none⟩ = some (.int .i64 n) := by rw [cell_of_row _ _ 4 _ _ _ KB0.out]; rfl
  have c5 : Y2.cell? ⟨i0, 5, none⟩ = some (.int .i64 tn) := by rw [cell_of_row _ _ 5 _ _ _ KB0.out]; rfl
  have c6 : Y2.cell? ⟨i0, 6, none⟩ = some (.slice a len cap) := by rw [cell_of_row _ _ 6 _ _ _ KB0.out]; rfl
  go_wp2_with fail
  refine (ws_num lf WW.out HZ.out (by omega) (by omega) (by simp only [List.length_append, List.length_nil]; have := enc9 (up fr); have := enc9 (up tz); have := enc9 (up o); omega)).mono ?_
  rintro r Y3 ⟨rfl, W1, k1⟩
  replace KB0 := aside (k1.blk _ _ _ (by decide) (by decide) KB0.out)
  replace KV := aside (KV.out.trans k1.bel)
  replace HZ := aside (Nat.le_trans HZ.out k1.bel.size)
  replace WW := aside W1
  clear k1 W1
  clear c0 c1 c2 c3 c4 c5 c6
  have c0 : Y3.cell? ⟨i0, 0, none⟩ = some (.int .i64 fr) := by rw [cell_of_row _ _ 0 _ _ _ KB0.out]; rfl
  have c1 : Y3.cell? ⟨i0, 1, none⟩ = some (.int .i64 tz) := by rw [cell_of_row _ _ 1 _ _ _ KB0.out]; rfl
  have c2 : Y3.cell? ⟨i0, 2, none⟩ = some (.int .i64 o) := by rw [cell_of_row _ _ 2 _ _ _ KB0.out]; rfl
  have c3 : Y3.cell? ⟨i0, 3, none⟩ = some (.int .i64 lf) := by rw [cell_of_row _ _ 3 _ _ _ KB0.out]; rfl
  have c4 : Y3.cell? ⟨i0, 4, none⟩ = some (.int .i64 n) := by rw [cell_of_row _ _ 4 _ _ _ KB0.out]; rfl
  have c5 : Y3.cell? ⟨i0, 5, none⟩ = some (.int .i64 tn) := by rw [cell_of_row _ _ 5 _ _ _ KB0.out]; rfl
  have c6 : Y3.cell? ⟨i0, 6, none⟩ = some (.slice a len cap) := by rw [cell_of_row _ _ 6 _ _ _ KB0.out]; rfl
  go_wp2_with fail
  refine (ws_num n WW.out HZ.out (by omega) (by omega) (by simp only [List.length_append, List.length_nil]; have := enc9 (up fr); have := enc9 (up tz); have := enc9 (up o); have := enc9 (up lf); omega)).mono ?_
  rintro r Y4 ⟨rfl, W1, k1⟩
  replace KB0 := aside (k1.blk _ _ _ (by decide) (by decide) KB0.out)
  replace KV := aside (KV.out.trans k1.bel)
  replace HZ := aside (Nat.le_trans HZ.out k1.bel.size)
  replace WW := aside W1
  clear k1 W1
  clear c0 c1 c2 c3 c4 c5 c6
  have c0 : Y4.cell? ⟨i0, 0, none⟩ = some (.int .i64 fr) := by rw [cell_of_row _ _ 0 _ _ _ KB0.out]; rfl
  have c1 : Y4.cell? ⟨i0, 1, none⟩ = some (.int .i64 tz) := by rw [cell_of_row _ _ 1 _ _ _ KB0.out]; rfl
  have c2 : Y4.cell? ⟨i0, 2, none⟩ = some (.int .i64 o) := by rw [cell_of_row _ _ 2 _ _ _ KB0.out]; rfl
  have c3 : Y4.cell? ⟨i0, 3, none⟩ = some (.int .i64 lf) := by rw [cell_of_row _ _ 3 _ _ _ KB0.out]; rfl
  have c4 : Y4.cell? ⟨i0, 4, none⟩ = some (.int .i64 n) := by rw [cell_of_row _ _ 4 _ _ _ KB0.out]; rfl
  have c5 : Y4.cell? ⟨i0, 5, none⟩ = some (.int .i64 tn) := by rw [cell_of_row _ _ 5 _ _ _ KB0.out]; rfl
  have c6 : Y4.cell? ⟨i0, 6, none⟩ = some (.slice a len cap) := by rw [cell_of_row _ _ 6 _ _ _ KB0.out]; rfl
  go_wp2_with fail
  refine (ws_num tn WW.out HZ.out (by omega) (by omega) (by simp only [List.length_append, List.length_nil]; have := enc9 (up fr); have := enc9 (up tz); have := enc9 (up o); have := enc9 (up lf); have := enc9 (up n); omega)).mono ?_
  rintro r Y5 ⟨rfl, W1, k1⟩
  replace KB0 := aside (k1.blk _ _ _ (by decide) (by decide) KB0.out)
  replace KV := aside (KV.out.trans k1.bel)
  replace HZ := aside (Nat.le_trans HZ.out k1.bel.size)
  replace WW := aside W1
  clear k1 W1
  clear c0 c1 c2 c3 c4 c5 c6
  have c0 : Y5.cell? ⟨i0, 0, none⟩ = some (.int .i64 fr) := by rw [cell_of_row _ _ 0 _ _ _ KB0.out]; rfl
  have c1 : Y5.cell? ⟨i0, 1, none⟩ = some (.int .i64 tz) := by rw [cell_of_row _ _ 1 _ _ _ KB0.out]; rfl
  have c2 : Y5.cell? ⟨i0, 2, none⟩ = some (.int .i64 o) := by rw [cell_of_row _ _ 2 _ _ _ KB0.out]; rfl
  have c3 : Y5.cell? ⟨i0, 3, none⟩ = some (.int .i64 lf) := by rw [cell_of_row _ _ 3 _ _ _ KB0.out]; rfl
  have c4 : Y5.cell? ⟨i0, 4, none⟩ = some (.int .i64 n) := by rw [cell_of_row _ _ 4 _ _ _ KB0.out]; rfl
  have c5 : Y5.cell? ⟨i0, 5, none⟩ = some (.int .i64 tn) := by rw [cell_of_row _ _ 5 _ _ _ KB0.out]; rfl
  have c6 : Y5.cell? ⟨i0, 6, none⟩ = some (.slice a len cap) := by rw [cell_of_row _ _ 6 _ _ _ KB0.out]; rfl
  go_wp2_with fail
  refine (ws_num (len : Int) WW.out HZ.out (by omega) (by omega) (by simp only [List.length_append, List.length_nil]; have := enc9 (up fr); have := enc9 (up tz); have := enc9 (up o); have := enc9 (up lf); have := enc9 (up n); have := enc9 (up tn); omega)).mono ?_
  rintro r Y6 ⟨rfl, W1, k1⟩
  replace KB0 := aside (k1.blk _ _ _ (by decide) (by decide) KB0.out)
  replace KV := aside (KV.out.trans k1.bel)
  replace HZ := aside (Nat.le_trans HZ.out k1.bel.size)
  replace WW := aside W1
  clear k1 W1
  clear c0 c1 c2 c3 c4 c5 c6
  have c0 : Y6.cell? ⟨i0, 0, none⟩ = some (.int .i64 fr) := by rw [cell_of_row _ _ 0 _ _ _ KB0.out]; rfl
  have c1 : Y6.cell? ⟨i0, 1, none⟩ = some (.int .i64 tz) := by rw [cell_of_row _ _ 1 _ _ _ KB0.out]; rfl
  have c2 : Y6.cell? ⟨i0, 2, none⟩ = some (.int .i64 o) := by rw [cell_of_row _ _ 2 _ _ _ KB0.out]; rfl
  have c3 : Y6.cell? ⟨i0, 3, none⟩ = some (.int .i64 lf) := by rw [cell_of_row _ _ 3 _ _ _ KB0.out]; rfl
  have c4 : Y6.cell? ⟨i0, 4, none⟩ = some (.int .i64 n) := by rw [cell_of_row _ _ 4 _ _ _ KB0.out]; rfl
  have c5 : Y6.cell? ⟨i0, 5, none⟩ = some (.int .i64 tn) := by rw [cell_of_row _ _ 5 _ _ _ KB0.out]; rfl
  have c6 : Y6.cell? ⟨i0, 6, none⟩ = some (.slice a len cap) := by rw [cell_of_row _ _ 6 _ _ _ KB0.out]; rfl
  obtain ⟨L2, hL2⟩ : ∃ L2, [] ++ Nm.enc 8 (up fr) ++ Nm.enc 8 (up tz) ++ Nm.enc 8 (up o) ++ Nm.enc 8 (up lf) ++ Nm.enc 8 (up n) ++ Nm.enc 8 (up tn) ++ Nm.enc 8 (up (len : Int)) = L2 := ⟨_, rfl⟩
  rw [hL2] at WW
  have HLL := aside (show L2.length ≤ 63 from by rw [← hL2]; simp only [List.length_append, List.length_nil]; have := enc9 (up fr); have := enc9 (up tz); have := enc9 (up o); have := enc9 (up lf); have := enc9 (up n); have := enc9 (up tn); have := enc9 (up (len : Int)); omega)
  have HL2 := aside hL2
  clear hL2
  go_wp2
  go_loopw [49] (fun t wr => ∃ i : Nat, t = .int .i64 (i : Int) ∧ i ≤ len ∧ Hid (WS X1.heap.size b (L2 ++ psB (psOf P i)) wr) ∧ Hid (Below X1.heap.size X1 wr)) (fun t _ => len - (intOf t).toNat)
  case atStart => exact ⟨0, rfl, Nat.zero_le _, aside (by simpa [psOf, psB] using WW.out), KV.out⟩
  case round =>
    clear WW KV HZ KB0 c0 c1 c2 c3 c4 c5 c6
    obtain ⟨i, rfl, hi, WW, KV⟩ := hrel
    by_cases hlt : (i : Int) < (len : Int)
    · have hii : (0 : Int) ≤ (i : Int) := by omega
      rcases (HP.out.keep KV.out).2.2 with h0 | ⟨bb, off, rfl, hbb, hc⟩
      · omega
      obtain ⟨m, hx⟩ : ∃ m, P i = m := ⟨_, rfl⟩
      obtain ⟨⟨e0, e1, e2, e3, e4, e5, e6, e7⟩, -⟩ := hc i (by omega)
      rw [hx] at e0 e1 e2 e3 e4 e5 e6 e7
      have HX := aside hx
      have HMI := aside (show m.In X1 from by
        rcases HP.out.2.2 with h0 | ⟨bb, off, _, _, hc⟩
        · omega
        · rw [← hx]; exact (hc i (by omega)).2)
      have HMV := aside (show PVok (pvOf m) ∧ 0 ≤ m.s0 ∧ 0 ≤ m.s1 from by rw [← hx]; exact ⟨HOK.out.ps _ (psOf_mem P (by omega)), HU.out i (by omega)⟩)
      have HS := aside (show (psB (psOf P i)).length ≤ 39398400 from by
        have h1 := psB_len (psOf P i) (fun v hv => HOK.out.ps v (psOf_sub P hi v hv))
        rw [psOf_len] at h1
        have h2 := HLE.out
        omega)
      clear hx hc hbb
      have B2 := aside (bnew wr (.cells #[.int .i64 m.kind, .string m.lo, .string m.hi, .bool m.op, .int .i64 m.cnt, .int .u64 m.s0, .int .u64 m.s1, .slice m.ea m.el m.ec] 46))
      have K2 := aside (heap_alloc_new wr (.cells #[.int .i64 m.kind, .string m.lo, .string m.hi, .bool m.op, .int .i64 m.cnt, .int .u64 m.s0, .int .u64 m.s1, .slice m.ea m.el m.ec] 46))
      replace WW := aside (WW.out.keep B2.out)
      replace KV := aside (KV.out.trans (B2.out.mono KV.out.size))
      go_upto_region 15 with fail
      clear e0 e1 e2 e3 e4 e5 e6 e7 B2
      obtain ⟨i5, hi5⟩ : ∃ i5, wr.heap.size = i5 := ⟨_, rfl⟩
      rw [hi5] at K2 ⊢
      clear hi5
      generalize wr.alloc (.cells #[.int .i64 m.kind, .string m.lo, .string m.hi, .bool m.op, .int .i64 m.cnt, .int .u64 m.s0, .int .u64 m.s1, .slice m.ea m.el m.ec] 46) = X5 at K2 WW KV ⊢
      have x0 : X5.cell? ⟨i5, 0, none⟩ = some (.int .i64 m.kind) := by rw [cell_of_row _ _ 0 _ _ _ K2.out]; rfl
      have x1 : X5.cell? ⟨i5, 1, none⟩ = some (.string m.lo) := by rw [cell_of_row _ _ 1 _ _ _ K2.out]; rfl
      have x2 : X5.cell? ⟨i5, 2, none⟩ = some (.string m.hi) := by rw [cell_of_row _ _ 2 _ _ _ K2.out]; rfl
      have x3 : X5.cell? ⟨i5, 3, none⟩ = some (.bool m.op) := by rw [cell_of_row _ _ 3 _ _ _ K2.out]; rfl
      have x4 : X5.cell? ⟨i5, 4, none⟩ = some (.int .i64 m.cnt) := by rw [cell_of_row _ _ 4 _ _ _ K2.out]; rfl
      have x5 : X5.cell? ⟨i5, 5, none⟩ = some (.int .u64 m.s0) := by rw [cell_of_row _ _ 5 _ _ _ K2.out]; rfl
      have x6 : X5.cell? ⟨i5, 6, none⟩ = some (.int .u64 m.s1) := by rw [cell_of_row _ _ 6 _ _ _ K2.out]; rfl
      have x7 : X5.cell? ⟨i5, 7, none⟩ = some (.slice m.ea m.el m.ec) := by rw [cell_of_row _ _ 7 _ _ _ K2.out]; rfl
      go_wp2_with fail
      refine (wpart_any m WW.out KV.out (by simp only [List.length_append]; have h1 := HS.out; have h2 := HLL.out; omega) HMV.out.1 HMV.out.2.1 HMV.out.2.2 HMI.out).mono ?_
      rintro r w9 ⟨rfl, W1, k1⟩
      replace KV := aside (KV.out.trans k1.bel)
      replace WW := aside (show WS X1.heap.size b (L2 ++ psB (psOf P (i + 1))) w9 from by rw [psB_step, HX.out, ← List.append_assoc]; exact W1)
      clear k1 W1 x0 x1 x2 x3 x4 x5 x6 x7
      go_wp2
      go_roundw
      case rel => exact ⟨i + 1, by go_num, by omega, WW.out, KV.out⟩
      case measure => simp [intOf]; omega
    · obtain rfl : i = len := by omega
      have HS := aside (show (psB (psOf P i)).length ≤ 39398400 from by
        have h1 := psB_len (psOf P i) HOK.out.ps
        rw [psOf_len] at h1
        have h2 := HLE.out
        omega)
      go_wp2_with fail
      refine (ws_bytes WW.out (by simp only [List.length_append]; have h1 := HS.out; have h2 := HLL.out; omega)).mono ?_
      rintro r w9 ⟨v', rfl, own, b9⟩
      have OW := aside (own_low own (Nat.le_trans BB.out.size KV.out.size))
      have BF := aside (bthen BB.out (KV.out.trans (b9.mono KV.out.size)))
      clear own b9
      go_wp2
      go_ret2
      have := OW.out
      rw [← HL2.out, upN] at this
      have e : [] ++ Nm.enc 8 (up fr) ++ Nm.enc 8 (up tz) ++ Nm.enc 8 (up o) ++ Nm.enc 8 (up lf) ++ Nm.enc 8 (up n) ++ Nm.enc 8 (up tn) ++ Nm.enc 8 i ++ psB (psOf P i) = frameB ⟨fr, tz, o, lf, n, tn, psOf P i⟩ := by
        unfold frameB
        dsimp only
        rw [psOf_len]
        simp [List.append_assoc]
      rw [e] at this
      exact ⟨v', rfl, this, BF.out⟩


end Go.Proofs.Ytbnppmkdhnpdfaa
namespace Go.Proofs.Ytbnppmkdhnpdfaa
open Go.RowKit Go.Shelf
attribute [local go_sem] Oper.semAt_some
/-- What has come when k rounds are over. -/
def upto {α : Type} (f : Nat → α) (k : Nat) : List α := (List.range k).map f

theorem upto_succ {α : Type} (f : Nat → α) (k : Nat) : upto f (k + 1) = upto f k ++ [f k] := by simp [upto, List.range_succ]

theorem upto_length {α : Type} (f : Nat → α) (k : Nat) : (upto f k).length = k := by simp [upto]

/-- The ranges T 0, T 1 .. lie one behind the other, three cells each, below n₀. -/
def RgsIn (n₀ : Nat) (w : World) (a : Option Addr) (len cap : Nat) (T : Nat → Rg) : Prop :=
  len ≤ cap ∧ len * 40 ≤ 281474976710656 ∧ (len = 0 ∨ ∃ blk off, a = some ⟨blk, off, none⟩ ∧ blk < n₀ ∧ ∀ i, i < len →
    (w.cell? ⟨blk, off + i * 3, none⟩ = some (.string (T i).lo) ∧ w.cell? ⟨blk, off + i * 3 + 1, none⟩ = some (.string (T i).hi) ∧ w.cell? ⟨blk, off + i * 3 + 2, none⟩ = some (.bool (T i).op)))

theorem RgsIn.below {n₀ : Nat} {A B : World} (h : Below n₀ A B) {a : Option Addr} {len cap : Nat} {T : Nat → Rg} (hr : RgsIn n₀ A a len cap T) : RgsIn n₀ B a len cap T := by
  obtain ⟨h1, h2, h3⟩ := hr
  refine ⟨h1, h2, ?_⟩
  rcases h3 with h3 | ⟨blk, off, e, hb, hc⟩
  · exact .inl h3
  · exact .inr ⟨blk, off, e, hb, fun i hi => ⟨(h.cell (p := ⟨blk, off + i * 3, none⟩) hb).trans (hc i hi).1, (h.cell (p := ⟨blk, off + i * 3 + 1, none⟩) hb).trans (hc i hi).2.1, (h.cell (p := ⟨blk, off + i * 3 + 2, none⟩) hb).trans (hc i hi).2.2⟩⟩

def pairV (x : Rg × Rg) : Array Value := #[.agg #[.string x.1.lo, .string x.1.hi, .bool x.1.op], .agg #[.string x.2.lo, .string x.2.hi, .bool x.2.op]]

/-- How a round may end: it goes on, or it says no more. -/
def wentOn (n₀ : Nat) (W : World) (J Jx : List (Rg × Rg) → World → Prop) (xs : List (Rg × Rg)) (q : Bool) (W' : World) : Prop :=
  (q = true ∧ J xs W' ∧ Below n₀ W W') ∨ (q = false ∧ Jx xs W')

theorem grown_drew0 (w : World) : w.grownBy w.drew none := ⟨rfl, rfl, rfl, Nat.le_refl _, fun _ _ _ => rfl⟩





end Go.Proofs.Ytbnppmkdhnpdfaa
namespace Go.Proofs.Ytbnppmkdhnpdfaa
open Go.RowKit
/-- A block of three cells, as the walk asks for it. -/
theorem box_out {W : World} {k : Nat} {a b c : Value} {t : TypeId} (h : W.heap[k]? = some (.cells #[a, b, c] t (0, 0))) :
    (W.cell? ⟨k, 0, none⟩ = some a ∧ W.cell? ⟨k, 1, none⟩ = some b ∧ W.cell? ⟨k, 2, none⟩ = some c) ∧ (W.frozen? ⟨k, 0, none⟩ = false ∧ W.frozen? ⟨k, 1, none⟩ = false ∧ W.frozen? ⟨k, 2, none⟩ = false) := by
  simp [World.cell?, World.frozen?, h]

theorem run_max2 (w : World) (ts : Array TypeId) (t : TypeId) (x y : ByteArray) : (Builtin.max_ ts t #[.string x, .string y]).run Try.prog w = .ok (.string (Rg.mx x y)) w := by
  cases h : Op.bytesLess x.toList y.toList <;> simp [Builtin.max_, Builtin.max2, Op.stringOp, asBool, Rg.mx, h]

theorem empty_at {lo hi : ByteArray} {op m : Bool} (h : Rg.emp ⟨lo, hi, op⟩ = m) (w : World) :
    Calls Try.prog 88 #[.agg #[.string lo, .string hi, .bool op]] w fun e w' => e = .returned (.bool m) ∧ Below w.heap.size w w' := by
  subst h; exact empty_any lo hi op w

theorem heap_new (w : World) (o : Obj) : (w.alloc o).heap[w.heap.size]? = some o := heap_alloc_new w o

theorem lies {w : World} {k : Nat} {o : Obj} (h : w.heap[k]? = some o) : k < w.heap.size := (Array.getElem?_eq_some_iff.1 h).1

theorem keep {k : Nat} {w1 w2 : World} {o : Obj} (h : w1.heap[k]? = some o) (b : Below w1.heap.size w1 w2) : w2.heap[k]? = some o :=
  (b.block k (Array.getElem?_eq_some_iff.1 h).1).trans h

theorem keepA {k : Nat} {w1 : World} {o p : Obj} (h : w1.heap[k]? = some o) : (w1.alloc p).heap[k]? = some o :=
  (Below.heap_alloc w1 p k (Array.getElem?_eq_some_iff.1 h).1).trans h

theorem two_new {w w1 : World} {o1 o2 : Obj} (b : Below ((w.alloc o1).alloc o2).heap.size ((w.alloc o1).alloc o2) w1) :
    w1.heap[w.heap.size]? = some o1 ∧ w1.heap[w.heap.size + 1]? = some o2 ∧ Below w.heap.size w w1 := by
  have e1 : (w.alloc o1).heap.size = w.heap.size + 1 := by simp
  refine ⟨keep (keepA (heap_new w o1)) b, ?_, bthen (bthen (bnew w o1) (bnew _ o2)) b⟩
  have h := heap_new (w.alloc o1) o2
  rw [e1] at h
  exact keep h b

theorem three_new {w w1 : World} {o1 o2 o3 : Obj} (b : Below (((w.alloc o1).alloc o2).alloc o3).heap.size (((w.alloc o1).alloc o2).alloc o3) w1) :
    w1.heap[w.heap.size]? = some o1 ∧ w1.heap[w.heap.size + 1]? = some o2 ∧ w1.heap[w.heap.size + 1 + 1]? = some o3 ∧ Below w.heap.size w w1 := by
  have e1 : (w.alloc o1).heap.size = w.heap.size + 1 := by simp
  have e2 : ((w.alloc o1).alloc o2).heap.size = w.heap.size + 1 + 1 := by simp
  have h2 := heap_new (w.alloc o1) o2
  have h3 := heap_new ((w.alloc o1).alloc o2) o3
  rw [e1] at h2
  rw [e2] at h3
  exact ⟨keep (keepA (keepA (heap_new w o1))) b, keep (keepA h2) b, keep h3 b, bthen (bthen (bthen (bnew w o1) (bnew _ o2)) (bnew _ o3)) b⟩

theorem meet_some {a b r : Rg} (hA : a.emp = false) (hB : b.emp = false) (h : Rg.both a b = r) (he : r.emp = false) : Rg.meetV (Rg.meet a b) = .tuple #[.agg #[.string r.lo, .string r.hi, .bool r.op], .bool true] := by
  simp [Rg.meet, hA, hB, h, he, Rg.meetV]

theorem meet_none {a b r : Rg} (hA : a.emp = false) (hB : b.emp = false) (h : Rg.both a b = r) (he : r.emp = true) : Rg.meetV (Rg.meet a b) = .tuple #[.agg #[.string ⟨#[]⟩, .string ⟨#[]⟩, .bool false], .bool false] := by
  simp [Rg.meet, hA, hB, h, he, Rg.meetV]

theorem ret_val {u v : Value} (h : v = u) : Ending.returned u = .returned v := by rw [h]


end Go.Proofs.Ytbnppmkdhnpdfaa
namespace Go.Proofs.Ytbnppmkdhnpdfaa
open Go.RowKit
/-- Is one of the first n ranges empty? -/
def anyE (T : Nat → Rg) (n : Nat) : Bool := (List.range n).any fun i => (T i).emp

theorem anyE_false {T : Nat → Rg} {n : Nat} (h : ∀ j, j < n → (T j).emp = false) : anyE T n = false := by
  simp only [anyE, List.any_eq_false, List.mem_range]
  intro j hj; simp [h j hj]

theorem anyE_true {T : Nat → Rg} {n j : Nat} (hj : j < n) (h : (T j).emp = true) : anyE T n = true := by
  simp only [anyE, List.any_eq_true, List.mem_range]
  exact ⟨j, hj, h⟩



end Go.Proofs.Ytbnppmkdhnpdfaa
namespace Go.Proofs.Ytbnppmkdhnpdfaa
open Go.RowKit Go.Shelf
attribute [local go_sem] Oper.semAt_some
/-- May the second of two neighbours stand behind the first? -/
def okP (x : Rg × Rg) : Bool := !(x.1.op || Op.bytesLess x.2.lo.toList x.1.hi.toList)

/-- Do the first n ranges rise? -/
def rises (T : Nat → Rg) (n : Nat) : Bool := !anyE T n && (upto (fun j => (T j, T (j + 1))) (n - 1)).all okP

theorem cells_kept {W W' : World} {row : Option Nat} {k : Nat} {cs : Array Value} {t : TypeId} {fr : Nat × Nat} (h : W.heap[k]? = some (.cells cs t fr)) (hg : W.grownBy W' row) (hrow : ∀ r, row = some r → ∃ o : Obj, W.heap[r]? = some o ∧ o.isCells = false) :
    W'.heap[k]? = some (.cells cs t fr) := (grownBy_keeps_cells hg hrow h rfl).trans h

theorem RgsIn.up {n₀ n₁ : Nat} {A B : World} (h : Below n₀ A B) (hn : n₀ ≤ n₁) {a : Option Addr} {len cap : Nat} {T : Nat → Rg} (hr : RgsIn n₀ A a len cap T) : RgsIn n₁ B a len cap T := by
  obtain ⟨h1, h2, h3⟩ := hr.below h
  refine ⟨h1, h2, ?_⟩
  rcases h3 with h3 | ⟨blk, off, e, hb, hc⟩
  · exact .inl h3
  · exact .inr ⟨blk, off, e, Nat.lt_of_lt_of_le hb hn, hc⟩

theorem box1_out {W : World} {k : Nat} {a : Value} {t : TypeId} (h : W.heap[k]? = some (.cells #[a] t (0, 0))) : W.cell? ⟨k, 0, none⟩ = some a ∧ W.frozen? ⟨k, 0, none⟩ = false := by
  simp [World.cell?, World.frozen?, h]

theorem rises_no {T : Nat → Rg} {len k : Nat} (hk : k ≤ len - 1) (h : (upto (fun j => (T j, T (j + 1))) k).all okP = false) : rises T len = false := by
  have : (upto (fun j => (T j, T (j + 1))) (len - 1)).all okP = false := by
    rw [Bool.eq_false_iff] at h ⊢
    intro h2
    apply h
    rw [List.all_eq_true] at h2 ⊢
    intro x hx
    apply h2
    simp only [upto, List.mem_map, List.mem_range] at hx ⊢
    obtain ⟨j, hj, e⟩ := hx
    exact ⟨j, by omega, e⟩
  simp [rises, this]




end Go.Proofs.Ytbnppmkdhnpdfaa
