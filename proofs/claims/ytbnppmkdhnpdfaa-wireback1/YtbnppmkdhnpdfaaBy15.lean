/-
  Parts that were read, as a list of parts in memory; what is wrong with them.
  Decode: too many bytes.
  Decode: bytes that are no frame.
  Decode: a frame that may not be.
  Decode: a frame.
  A new writer; the bytes that a writer tells, in new memory (the code's, by slices.Clone); two rows of bytes compared.
-/
import Derived.Test.YtbnppmkdhnpdfaaBy14
import Derived.Deep.CutBlock
import Derived.Deep.DeepCutAuto
import Derived.Test.YtbnppmkdhnpdfaaBy1
namespace Go.Proofs.Ytbnppmkdhnpdfaa
open Go.RowKit
set_option linter.unusedVariables false
/-- A plain part as one in memory. -/
def pvPm (v : PV) : Pm := ⟨v.kind, v.lo, v.hi, v.op, v.cnt, v.s0, v.s1, none, v.es.length, 0, nthE v.es⟩
def fvP (vs : List PV) : Nat → Pm := fun i => pvPm (vs.getD i ⟨0, ⟨#[]⟩, ⟨#[]⟩, false, 0, 0, 0, []⟩)
/-- What is wrong with a plain frame. -/
def FV.chk (F : FV) : Int := fChk F.fr F.tz F.o F.l F.n F.tn (fvP F.ps) F.ps.length
theorem fvP_at {vs : List PV} {i : Nat} {v : PV} (h : vs[i]? = some v) : fvP vs i = pvPm v := by
  unfold fvP
  rw [List.getD, h]; rfl
theorem at_of_lt {vs : List PV} {i : Nat} (h : i < vs.length) : ∃ v, vs[i]? = some v ∧ v ∈ vs := ⟨vs[i], List.getElem?_eq_getElem h, List.getElem_mem h⟩
theorem PmV.len {w : World} {B : Nat} {m : Pm} {v : PV} (h : PmV w B m v) : m.el = v.es.length := by
  have := h.2.2.2.2.2.2.2.2.1
  rw [entCells_length] at this
  omega
theorem PmV.same {w : World} {B : Nat} {m : Pm} {v : PV} (h : PmV w B m v) : SamePm m (pvPm v) := by
  have hl := h.len
  obtain ⟨h1, h2, h3, h4, h5, h6, h7, h8, h9⟩ := h
  exact ⟨h1, h2, h3, h4, h5, h6, h7, hl, fun k _ => by rw [h8]; rfl⟩
theorem RdF.same {w : World} {B n c : Nat} {a : Option Addr} {P : Nat → Pm} {vs : List PV} (h : RdF w B a n c P vs) : ∀ i, i < n → SamePm (P i) (fvP vs i) := by
  intro i hi
  obtain ⟨v, hv, -⟩ := at_of_lt (vs := vs) (i := i) (by rw [h.len]; exact hi)
  rw [fvP_at hv]
  exact (h.ent i v hv).same
theorem ents_in {w : World} {B n c : Nat} {a : Option Addr} {es : List En} (h : w.ownsRow B 50 5 (.slice a n c) n (entCells es)) (hk : ∀ e ∈ es, e.k.size ≤ 140737488351232) : EntsIn w a n c (nthE es) := by
  have hn : es.length = n := by have := h.1; rw [entCells_length] at this; omega
  obtain ⟨a', c', e1, h2, h3, h4⟩ := own_slice h
  injection e1 with e1 e2 e3
  subst e1 e3
  rcases h4 with ⟨rfl, rfl, rfl⟩ | h4
  · exact ⟨h2, h3, .inl rfl⟩
  · by_cases h0 : n = 0
    · exact ⟨h2, h3, .inl h0⟩
    · obtain ⟨g, rfl⟩ : ∃ g, a = some ⟨g, 0, none⟩ := by
        rcases h.2 with ⟨q, q2⟩ | ⟨g, cap, cur, q, _⟩
        · omega
        · injection q with q _ _; exact ⟨g, q⟩
      refine ⟨h2, h3, .inr ⟨g, 0, rfl, (h.lt g rfl).2, fun i hi => ⟨?_, hk _ ?_⟩⟩⟩
      · have := row_cells h (i := i) (by rw [hn]; exact hi)
        simpa using this
      · exact List.mem_of_getElem? (nthE_get (l := es) (i := i) (by rw [hn]; exact hi))
theorem RdF.parts {w : World} {B n c : Nat} {a : Option Addr} {P : Nat → Pm} {vs : List PV} (h : RdF w B a n c P vs) (hk : ∀ v ∈ vs, ∀ e ∈ v.es, e.k.size ≤ 140737488351232) : PartsIn w a n c P := by
  have hin : ∀ i, i < n → (P i).In w := fun i hi => by
    obtain ⟨v, hv, hm⟩ := at_of_lt (vs := vs) (i := i) (by rw [h.len]; exact hi)
    obtain ⟨h1, h2, h3, h4, h5, h6, h7, h8, h9⟩ := h.ent i v hv
    unfold Pm.In
    rw [h8]
    exact ents_in h9 (hk v hm)
  obtain ⟨a', c', e1, h2, h3, h4⟩ := own_slice h.row
  injection e1 with e1 e2 e3
  subst e1 e3
  by_cases h0 : n = 0
  · exact ⟨h2, h3, .inl h0⟩
  · obtain ⟨g, rfl⟩ : ∃ g, a = some ⟨g, 0, none⟩ := by
      rcases h.row.2 with ⟨q, q2⟩ | ⟨g, cap, cur, q, _⟩
      · omega
      · injection q with q _ _; exact ⟨g, q⟩
    exact parts_of_row h.row hin
theorem PVok.keys {v : PV} (h : PVok v) : ∀ e ∈ v.es, e.k.size ≤ 140737488351232 := by
  intro e he
  by_cases hk : v.kind = 1
  · rw [(h.print hk).1] at he; cases he
  · have h1 := (h.items hk).2.2.2.2 e he
    obtain ⟨k, c, n, x, d⟩ := e
    have := (En.ok_parts h1).1
    dsimp only
    omega
theorem PVok.few {v : PV} (h : PVok v) : v.es.length ≤ 256 := by
  by_cases hk : v.kind = 1
  · rw [(h.print hk).1]; exact Nat.zero_le _
  · exact (h.items hk).2.2.2.1
theorem RdF.tot {w : World} {B n c : Nat} {a : Option Addr} {P : Nat → Pm} {vs : List PV} (h : RdF w B a n c P vs) (hn : n ≤ 768) (hk : ∀ v ∈ vs, PVok v) : totE P n ≤ 4611686018427387904 := by
  have := totE_most (P := P) (m := 256) (n := n) (fun i hi => by
    obtain ⟨v, hv, hm⟩ := at_of_lt (vs := vs) (i := i) (by rw [h.len]; exact hi)
    rw [(h.ent i v hv).len]
    exact (hk v hm).few)
  omega
/-- The frame that bytes are, if they are one. -/
def decF (l : List UInt8) : Option FV := match frameSt l with
  | (F, p, e) => if l.length ≤ 65536 ∧ doneOf ((l.length : Int) - (p : Int)) e = 0 ∧ F.chk = 0 then some F else none
theorem decF_ok {l : List UInt8} {F : FV} {p : Nat} {e : Int} (h : frameSt l = (F, p, e)) (h1 : l.length ≤ 65536) (h2 : doneOf ((l.length : Int) - (p : Int)) e = 0) (h3 : F.chk = 0) : decF l = some F := by
  unfold decF; rw [h]; dsimp only; rw [if_pos ⟨h1, h2, h3⟩]
theorem decF_no {l : List UInt8} {F : FV} {p : Nat} {e : Int} (h : frameSt l = (F, p, e)) (h1 : ¬ (l.length ≤ 65536 ∧ doneOf ((l.length : Int) - (p : Int)) e = 0 ∧ F.chk = 0)) : decF l = none := by
  unfold decF; rw [h]; dsimp only; rw [if_neg h1]
theorem done_zero {n e : Int} (h : doneOf n e = 0) : e = 0 ∧ ¬ 0 < n := by
  unfold doneOf at h
  split at h
  · omega
  · rename_i h1; refine ⟨h, fun h2 => h1 ⟨h, h2⟩⟩
end Go.Proofs.Ytbnppmkdhnpdfaa
namespace Go.Proofs.Ytbnppmkdhnpdfaa
open Go.RowKit
set_option linter.unusedVariables false
/-- What Decode says of bytes. -/
def DecP (w : World) (l : List UInt8) (r : Ending) (w' : World) : Prop := Below w.heap.size w w' ∧
  ((decF l = none ∧ r = .returned (.tuple #[.agg #[.int .i64 0, .int .i64 0, .int .i64 0, .int .i64 0, .int .i64 0, .int .i64 0, .slice none 0 0], .int .i64 120])) ∨
   ∃ F pa pn pc, decF l = some F ∧ r = .returned (.tuple #[.agg #[.int .i64 F.fr, .int .i64 F.tz, .int .i64 F.o, .int .i64 F.l, .int .i64 F.n, .int .i64 F.tn, .slice pa pn pc], .int .i64 0]) ∧ PartsRd w' w.heap.size pa pn pc F.ps)
set_option maxRecDepth 100000 in
set_option maxHeartbeats 3200000 in
theorem dec_long (a : Option Addr) (len cap : Nat) (l : List UInt8) (w : World) (hR : ∀ w', Below w.heap.size w w' → Reads w' (.slice a len cap) l) (hl : 65536 < len) (hd : decF l = none) :
    Calls Try.prog 14 #[.slice a len cap] w (DecP w l) := by
  have HD := aside hd
  clear hd
  have HR := aside hR
  have B0 := aside (bnew w (.cells #[.int .i64 0, .int .i64 0, .int .i64 0, .int .i64 0, .int .i64 0, .int .i64 0, .slice none 0 0] 26))
  have K0 := aside (heap_alloc_new w (.cells #[.int .i64 0, .int .i64 0, .int .i64 0, .int .i64 0, .int .i64 0, .int .i64 0, .slice none 0 0] 26))
  clear hR
  go_enter Try.func14, Try.ntmps14
  have hgt : (65536 : Int) < (len : Int) := by omega
  go_upto_region 2 with fail
  have HS0 := aside (show (w.alloc (.cells #[.int .i64 0, .int .i64 0, .int .i64 0, .int .i64 0, .int .i64 0, .int .i64 0, .slice none 0 0] 26)).heap.size = w.heap.size + 1 from by rw [World.size_alloc])
  obtain ⟨i0, hi0⟩ : ∃ i0, w.heap.size = i0 := ⟨_, rfl⟩
  have HI0 := aside (show w.heap.size ≤ i0 by omega)
  rw [hi0] at K0 HS0 ⊢
  clear hi0
  generalize w.alloc (.cells #[.int .i64 0, .int .i64 0, .int .i64 0, .int .i64 0, .int .i64 0, .int .i64 0, .slice none 0 0] 26) = X0 at B0 K0 HS0 ⊢
  have BB := aside B0.out
  obtain ⟨a0, a1, a2, a3, a4, a5, a6, hk0⟩ : ∃ a0 a1 a2 a3 a4 a5 a6 : Value, X0.heap[i0]? = some (.cells #[a0, a1, a2, a3, a4, a5, a6] 26 (0, 0)) := ⟨_, _, _, _, _, _, _, K0.out⟩
  replace K0 := aside hk0
  clear hk0
  have z0 : X0.cell? ⟨i0, 0, none⟩ = some a0 := by rw [cell_of_row _ _ 0 _ _ _ K0.out]; rfl
  have y0 := frozen_of_row _ _ 0 _ _ K0.out
  have z1 : X0.cell? ⟨i0, 1, none⟩ = some a1 := by rw [cell_of_row _ _ 1 _ _ _ K0.out]; rfl
  have y1 := frozen_of_row _ _ 1 _ _ K0.out
  have z2 : X0.cell? ⟨i0, 2, none⟩ = some a2 := by rw [cell_of_row _ _ 2 _ _ _ K0.out]; rfl
  have y2 := frozen_of_row _ _ 2 _ _ K0.out
  have z3 : X0.cell? ⟨i0, 3, none⟩ = some a3 := by rw [cell_of_row _ _ 3 _ _ _ K0.out]; rfl
  have y3 := frozen_of_row _ _ 3 _ _ K0.out
  have z4 : X0.cell? ⟨i0, 4, none⟩ = some a4 := by rw [cell_of_row _ _ 4 _ _ _ K0.out]; rfl
  have y4 := frozen_of_row _ _ 4 _ _ K0.out
  have z5 : X0.cell? ⟨i0, 5, none⟩ = some a5 := by rw [cell_of_row _ _ 5 _ _ _ K0.out]; rfl
  have y5 := frozen_of_row _ _ 5 _ _ K0.out
  have z6 : X0.cell? ⟨i0, 6, none⟩ = some a6 := by rw [cell_of_row _ _ 6 _ _ _ K0.out]; rfl
  have y6 := frozen_of_row _ _ 6 _ _ K0.out
  have kz := (heap_setCell_same _ i0 6 _ _ (.slice none 0 0) (heap_setCell_same _ i0 5 _ _ (.int .i64 0) (heap_setCell_same _ i0 4 _ _ (.int .i64 0) (heap_setCell_same _ i0 3 _ _ (.int .i64 0) (heap_setCell_same _ i0 2 _ _ (.int .i64 0) (heap_setCell_same _ i0 1 _ _ (.int .i64 0) (heap_setCell_same _ i0 0 _ _ (.int .i64 0) K0.out)))))))
  simp only [List.setIfInBounds_toArray, List.set_cons_zero, List.set_cons_succ] at kz
  have KR := aside kz
  have BF := aside (((((((BB.out.setCell (p := ⟨i0, 0, none⟩) HI0.out (.int .i64 0)).setCell (p := ⟨i0, 1, none⟩) HI0.out (.int .i64 0)).setCell (p := ⟨i0, 2, none⟩) HI0.out (.int .i64 0)).setCell (p := ⟨i0, 3, none⟩) HI0.out (.int .i64 0)).setCell (p := ⟨i0, 4, none⟩) HI0.out (.int .i64 0)).setCell (p := ⟨i0, 5, none⟩) HI0.out (.int .i64 0)).setCell (p := ⟨i0, 6, none⟩) HI0.out (.slice none 0 0))
  have SK := aside ((((((((Keeps.refl (fun x => x = i0) X0).setCell (p := ⟨i0, 0, none⟩) (fun _ => rfl) (.int .i64 0)).setCell (p := ⟨i0, 1, none⟩) (fun _ => rfl) (.int .i64 0)).setCell (p := ⟨i0, 2, none⟩) (fun _ => rfl) (.int .i64 0)).setCell (p := ⟨i0, 3, none⟩) (fun _ => rfl) (.int .i64 0)).setCell (p := ⟨i0, 4, none⟩) (fun _ => rfl) (.int .i64 0)).setCell (p := ⟨i0, 5, none⟩) (fun _ => rfl) (.int .i64 0)).setCell (p := ⟨i0, 6, none⟩) (fun _ => rfl) (.slice none 0 0))
  clear kz
  go_wp2
  exact bodyPost_ret (v := .tuple #[.agg #[.int .i64 0, .int .i64 0, .int .i64 0, .int .i64 0, .int .i64 0, .int .i64 0, .slice none 0 0], .int .i64 120]) (by simp [results, Try.results14, go_sem, cell_of_row _ _ 0 _ _ _ KR.out, cell_of_row _ _ 1 _ _ _ KR.out, cell_of_row _ _ 2 _ _ _ KR.out, cell_of_row _ _ 3 _ _ _ KR.out, cell_of_row _ _ 4 _ _ _ KR.out, cell_of_row _ _ 5 _ _ _ KR.out, cell_of_row _ _ 6 _ _ _ KR.out]) rfl ⟨BF.out, .inl ⟨HD.out, rfl⟩⟩
end Go.Proofs.Ytbnppmkdhnpdfaa
namespace Go.Proofs.Ytbnppmkdhnpdfaa
open Go.RowKit
set_option linter.unusedVariables false
set_option maxRecDepth 100000 in
set_option maxHeartbeats 3200000 in
theorem dec_done (a : Option Addr) (len cap : Nat) (l : List UInt8) (w : World) (hR : ∀ w', Below w.heap.size w w' → Reads w' (.slice a len cap) l) (hle : ¬ (65536 : Int) < (len : Int)) (hl2 : l.length ≤ 65536) {fr tz o lf n tn : Int} {ps : List PV} {p : Nat} {e q : Int} (hf : frameSt l = (⟨fr, tz, o, lf, n, tn, ps⟩, p, e)) (hq : doneOf ((l.length : Int) - (p : Int)) e = q) (hq0 : q ≠ 0) (hd : decF l = none) :
    Calls Try.prog 14 #[.slice a len cap] w (DecP w l) := by
  have HD := aside hd
  have HF := aside hf
  have HQ := aside hq
  clear hd hf hq
  have HR := aside hR
  have B0 := aside (bnew w (.cells #[.int .i64 0, .int .i64 0, .int .i64 0, .int .i64 0, .int .i64 0, .int .i64 0, .slice none 0 0] 26))
  have K0 := aside (heap_alloc_new w (.cells #[.int .i64 0, .int .i64 0, .int .i64 0, .int .i64 0, .int .i64 0, .int .i64 0, .slice none 0 0] 26))
  clear hR
  go_enter Try.func14, Try.ntmps14
  go_wp2_with fail
  have HS0 := aside (show (w.alloc (.cells #[.int .i64 0, .int .i64 0, .int .i64 0, .int .i64 0, .int .i64 0, .int .i64 0, .slice none 0 0] 26)).heap.size = w.heap.size + 1 from by rw [World.size_alloc])
  obtain ⟨i0, hi0⟩ : ∃ i0, w.heap.size = i0 := ⟨_, rfl⟩
  have HI0 := aside (show w.heap.size ≤ i0 by omega)
  rw [hi0] at K0 HS0 ⊢
  clear hi0
  generalize w.alloc (.cells #[.int .i64 0, .int .i64 0, .int .i64 0, .int .i64 0, .int .i64 0, .int .i64 0, .slice none 0 0] 26) = X0 at B0 K0 HS0 ⊢
  refine (newReader_any _ l _ (HR.out _ B0.out)).mono ?_
  rintro r X1 ⟨rfl, rfl⟩
  have R1 := aside (isR_new X0 ⟨l.toArray⟩)
  have B1 := aside (bnew X0 (.cells #[.string ⟨l.toArray⟩, .int .i64 0, .int .i64 0] 95))
  replace K0 := aside (blk_on K0.out B1.out)
  have BB := aside (bthen B0.out B1.out)
  have HS1 := aside (show (X0.alloc (.cells #[.string ⟨l.toArray⟩, .int .i64 0, .int .i64 0] 95)).heap.size = X0.heap.size + 1 from by rw [World.size_alloc])
  obtain ⟨br, hbr⟩ : ∃ br, X0.heap.size = br := ⟨_, rfl⟩
  rw [hbr] at R1 HS0 HS1 ⊢
  clear hbr B0
  generalize X0.alloc (.cells #[.string ⟨l.toArray⟩, .int .i64 0, .int .i64 0] 95) = X1 at R1 BB K0 HS1 ⊢
  clear B1
  have B2 := aside (bnew X1 (.cells #[.pointer (some ⟨br, 0, none⟩)] 72))
  have K1 := aside (heap_alloc_new X1 (.cells #[.pointer (some ⟨br, 0, none⟩)] 72))
  replace K0 := aside (blk_on K0.out B2.out)
  replace BB := aside (bthen BB.out B2.out)
  have RR := aside (show OneR br ⟨l.toArray⟩ l 0 0 (X1.alloc (.cells #[.pointer (some ⟨br, 0, none⟩)] 72)) from ⟨blk_on R1.out B2.out, by simp, Nat.zero_le _, by omega⟩)
  have HS2 := aside (show (X1.alloc (.cells #[.pointer (some ⟨br, 0, none⟩)] 72)).heap.size = X1.heap.size + 1 from by rw [World.size_alloc])
  clear R1 B2
  go_upto_region 4 with fail
  obtain ⟨i1, hi1⟩ : ∃ i1, X1.heap.size = i1 := ⟨_, rfl⟩
  rw [hi1] at K1 HS1 HS2 ⊢
  clear hi1
  generalize X1.alloc (.cells #[.pointer (some ⟨br, 0, none⟩)] 72) = X2 at RR BB K0 K1 HS2 ⊢
  have HN := aside (show w.heap.size ≤ i0 ∧ br = i0 + 1 ∧ i1 = br + 1 ∧ X2.heap.size = i1 + 1 from ⟨HI0.out, HS0.out, HS1.out, HS2.out⟩)
  clear HS0 HS1 HS2
  have c1 : X2.cell? ⟨i1, 0, none⟩ = some (.pointer (some ⟨br, 0, none⟩)) := by rw [cell_of_row _ _ 0 _ _ _ K1.out]; rfl
  go_wp2_with fail
  refine (rframe_at RR.out HF.out).mono ?_
  rintro r X3 ⟨pa, pn, pc, rfl, PR1, R1, k1⟩
  dsimp only
  have PR := aside PR1
  replace K0 := aside ((k1.block i0 (Array.getElem?_eq_some_iff.1 K0.out).1 (fun h => by have := HN.out; omega)).trans K0.out)
  replace K1 := aside ((k1.block i1 (Array.getElem?_eq_some_iff.1 K1.out).1 (fun h => by have := HN.out; omega)).trans K1.out)
  replace BB := aside (BB.out.trans (k1.below BB.out.size (fun k hk e => by have := HN.out; omega)))
  replace RR := aside R1
  have HSZ := aside (show i1 + 1 ≤ X3.heap.size from by have h1 := HN.out; have h2 := k1.size; omega)
  clear PR1 R1 k1 c1
  have B4 := aside (bnew X3 (.cells #[.int .i64 fr, .int .i64 tz, .int .i64 o, .int .i64 lf, .int .i64 n, .int .i64 tn, .slice pa pn pc] 26))
  have K2 := aside (heap_alloc_new X3 (.cells #[.int .i64 fr, .int .i64 tz, .int .i64 o, .int .i64 lf, .int .i64 n, .int .i64 tn, .slice pa pn pc] 26))
  replace K0 := aside (blk_on K0.out B4.out)
  replace K1 := aside (blk_on K1.out B4.out)
  replace PR := aside (PR.out.on B4.out)
  replace BB := aside (bthen BB.out B4.out)
  replace RR := aside (RR.out.keep (Keeps.of_below B4.out (fun _ => False)) (fun h => h))
  clear B4
  go_upto_region 5 with fail
  obtain ⟨i2, hi2⟩ : ∃ i2, X3.heap.size = i2 := ⟨_, rfl⟩
  rw [hi2] at K2 HSZ ⊢
  clear hi2
  generalize X3.alloc (.cells #[.int .i64 fr, .int .i64 tz, .int .i64 o, .int .i64 lf, .int .i64 n, .int .i64 tn, .slice pa pn pc] 26) = X4 at RR BB K0 K1 K2 PR ⊢
  have c1 : X4.cell? ⟨i1, 0, none⟩ = some (.pointer (some ⟨br, 0, none⟩)) := by rw [cell_of_row _ _ 0 _ _ _ K1.out]; rfl
  go_wp2_with fail
  refine (rdone_any br ⟨l.toArray⟩ p e X4 RR.out.code (by omega) (by rw [bsize]; have := RR.out.le; omega) (by rw [bsize]; omega)).mono ?_
  rintro r X5 ⟨rfl, nn, rfl⟩
  rw [bsize, HQ.out]
  have sk := (Keeps.refl (fun _ => False) X4).drewN nn
  replace K0 := aside ((sk.block i0 (Array.getElem?_eq_some_iff.1 K0.out).1 (fun h => h)).trans K0.out)
  replace K2 := aside ((sk.block i2 (Array.getElem?_eq_some_iff.1 K2.out).1 (fun h => h)).trans K2.out)
  replace PR := aside (PR.out.keep sk (fun k h => h.elim))
  replace BB := aside (BB.out.trans (sk.below BB.out.size (fun k _ h => h)))
  clear sk c1 K1 RR
  generalize X4.drewN nn = X5 at BB K0 K2 PR ⊢
  have hq1 : (q != 0) = true := by simpa using hq0
  go_upto_region 6 with fail
  obtain ⟨a0, a1, a2, a3, a4, a5, a6, hk0⟩ : ∃ a0 a1 a2 a3 a4 a5 a6 : Value, X5.heap[i0]? = some (.cells #[a0, a1, a2, a3, a4, a5, a6] 26 (0, 0)) := ⟨_, _, _, _, _, _, _, K0.out⟩
  replace K0 := aside hk0
  clear hk0
  have z0 : X5.cell? ⟨i0, 0, none⟩ = some a0 := by rw [cell_of_row _ _ 0 _ _ _ K0.out]; rfl
  have y0 := frozen_of_row _ _ 0 _ _ K0.out
  have z1 : X5.cell? ⟨i0, 1, none⟩ = some a1 := by rw [cell_of_row _ _ 1 _ _ _ K0.out]; rfl
  have y1 := frozen_of_row _ _ 1 _ _ K0.out
  have z2 : X5.cell? ⟨i0, 2, none⟩ = some a2 := by rw [cell_of_row _ _ 2 _ _ _ K0.out]; rfl
  have y2 := frozen_of_row _ _ 2 _ _ K0.out
  have z3 : X5.cell? ⟨i0, 3, none⟩ = some a3 := by rw [cell_of_row _ _ 3 _ _ _ K0.out]; rfl
  have y3 := frozen_of_row _ _ 3 _ _ K0.out
  have z4 : X5.cell? ⟨i0, 4, none⟩ = some a4 := by rw [cell_of_row _ _ 4 _ _ _ K0.out]; rfl
  have y4 := frozen_of_row _ _ 4 _ _ K0.out
  have z5 : X5.cell? ⟨i0, 5, none⟩ = some a5 := by rw [cell_of_row _ _ 5 _ _ _ K0.out]; rfl
  have y5 := frozen_of_row _ _ 5 _ _ K0.out
  have z6 : X5.cell? ⟨i0, 6, none⟩ = some a6 := by rw [cell_of_row _ _ 6 _ _ _ K0.out]; rfl
  have y6 := frozen_of_row _ _ 6 _ _ K0.out
  have kz := (heap_setCell_same _ i0 6 _ _ (.slice none 0 0) (heap_setCell_same _ i0 5 _ _ (.int .i64 0) (heap_setCell_same _ i0 4 _ _ (.int .i64 0) (heap_setCell_same _ i0 3 _ _ (.int .i64 0) (heap_setCell_same _ i0 2 _ _ (.int .i64 0) (heap_setCell_same _ i0 1 _ _ (.int .i64 0) (heap_setCell_same _ i0 0 _ _ (.int .i64 0) K0.out)))))))
  simp only [List.setIfInBounds_toArray, List.set_cons_zero, List.set_cons_succ] at kz
  have KR := aside kz
  have BF := aside (((((((BB.out.setCell (p := ⟨i0, 0, none⟩) HI0.out (.int .i64 0)).setCell (p := ⟨i0, 1, none⟩) HI0.out (.int .i64 0)).setCell (p := ⟨i0, 2, none⟩) HI0.out (.int .i64 0)).setCell (p := ⟨i0, 3, none⟩) HI0.out (.int .i64 0)).setCell (p := ⟨i0, 4, none⟩) HI0.out (.int .i64 0)).setCell (p := ⟨i0, 5, none⟩) HI0.out (.int .i64 0)).setCell (p := ⟨i0, 6, none⟩) HI0.out (.slice none 0 0))
  have SK := aside ((((((((Keeps.refl (fun x => x = i0) X5).setCell (p := ⟨i0, 0, none⟩) (fun _ => rfl) (.int .i64 0)).setCell (p := ⟨i0, 1, none⟩) (fun _ => rfl) (.int .i64 0)).setCell (p := ⟨i0, 2, none⟩) (fun _ => rfl) (.int .i64 0)).setCell (p := ⟨i0, 3, none⟩) (fun _ => rfl) (.int .i64 0)).setCell (p := ⟨i0, 4, none⟩) (fun _ => rfl) (.int .i64 0)).setCell (p := ⟨i0, 5, none⟩) (fun _ => rfl) (.int .i64 0)).setCell (p := ⟨i0, 6, none⟩) (fun _ => rfl) (.slice none 0 0))
  clear kz
  go_wp2
  exact bodyPost_ret (v := .tuple #[.agg #[.int .i64 0, .int .i64 0, .int .i64 0, .int .i64 0, .int .i64 0, .int .i64 0, .slice none 0 0], .int .i64 120]) (by simp [results, Try.results14, go_sem, cell_of_row _ _ 0 _ _ _ KR.out, cell_of_row _ _ 1 _ _ _ KR.out, cell_of_row _ _ 2 _ _ _ KR.out, cell_of_row _ _ 3 _ _ _ KR.out, cell_of_row _ _ 4 _ _ _ KR.out, cell_of_row _ _ 5 _ _ _ KR.out, cell_of_row _ _ 6 _ _ _ KR.out]) rfl ⟨BF.out, .inl ⟨HD.out, rfl⟩⟩
end Go.Proofs.Ytbnppmkdhnpdfaa
namespace Go.Proofs.Ytbnppmkdhnpdfaa
open Go.RowKit
set_option linter.unusedVariables false
set_option maxRecDepth 100000 in
set_option maxHeartbeats 3200000 in
theorem dec_chk (a : Option Addr) (len cap : Nat) (l : List UInt8) (w : World) (hR : ∀ w', Below w.heap.size w w' → Reads w' (.slice a len cap) l) (hle : ¬ (65536 : Int) < (len : Int)) (hl2 : l.length ≤ 65536) {fr tz o lf n tn : Int} {ps : List PV} {p : Nat} {e q : Int} (hf : frameSt l = (⟨fr, tz, o, lf, n, tn, ps⟩, p, e)) (hq : doneOf ((l.length : Int) - (p : Int)) e = q) (hq0 : q = 0) (hok : FVok ⟨fr, tz, o, lf, n, tn, ps⟩) {ch : Int} (hc : FV.chk ⟨fr, tz, o, lf, n, tn, ps⟩ = ch) (hc0 : ch ≠ 0) (hd : decF l = none) :
    Calls Try.prog 14 #[.slice a len cap] w (DecP w l) := by
  have HD := aside hd
  have HF := aside hf
  have HQ := aside hq
  have HOK := aside hok
  have HC := aside hc
  clear hd hf hq hok hc
  have HR := aside hR
  have B0 := aside (bnew w (.cells #[.int .i64 0, .int .i64 0, .int .i64 0, .int .i64 0, .int .i64 0, .int .i64 0, .slice none 0 0] 26))
  have K0 := aside (heap_alloc_new w (.cells #[.int .i64 0, .int .i64 0, .int .i64 0, .int .i64 0, .int .i64 0, .int .i64 0, .slice none 0 0] 26))
  clear hR
  go_enter Try.func14, Try.ntmps14
  go_wp2_with fail
  have HS0 := aside (show (w.alloc (.cells #[.int .i64 0, .int .i64 0, .int .i64 0, .int .i64 0, .int .i64 0, .int .i64 0, .slice none 0 0] 26)).heap.size = w.heap.size + 1 from by rw [World.size_alloc])
  obtain ⟨i0, hi0⟩ : ∃ i0, w.heap.size = i0 := ⟨_, rfl⟩
  have HI0 := aside (show w.heap.size ≤ i0 by omega)
  rw [hi0] at K0 HS0 ⊢
  clear hi0
  generalize w.alloc (.cells #[.int .i64 0, .int .i64 0, .int .i64 0, .int .i64 0, .int .i64 0, .int .i64 0, .slice none 0 0] 26) = X0 at B0 K0 HS0 ⊢
  refine (newReader_any _ l _ (HR.out _ B0.out)).mono ?_
  rintro r X1 ⟨rfl, rfl⟩
  have R1 := aside (isR_new X0 ⟨l.toArray⟩)
  have B1 := aside (bnew X0 (.cells #[.string ⟨l.toArray⟩, .int .i64 0, .int .i64 0] 95))
  replace K0 := aside (blk_on K0.out B1.out)
  have BB := aside (bthen B0.out B1.out)
  have HS1 := aside (show (X0.alloc (.cells #[.string ⟨l.toArray⟩, .int .i64 0, .int .i64 0] 95)).heap.size = X0.heap.size + 1 from by rw [World.size_alloc])
  obtain ⟨br, hbr⟩ : ∃ br, X0.heap.size = br := ⟨_, rfl⟩
  rw [hbr] at R1 HS0 HS1 ⊢
  clear hbr B0
  generalize X0.alloc (.cells #[.string ⟨l.toArray⟩, .int .i64 0, .int .i64 0] 95) = X1 at R1 BB K0 HS1 ⊢
  clear B1
  have B2 := aside (bnew X1 (.cells #[.pointer (some ⟨br, 0, none⟩)] 72))
  have K1 := aside (heap_alloc_new X1 (.cells #[.pointer (some ⟨br, 0, none⟩)] 72))
  replace K0 := aside (blk_on K0.out B2.out)
  replace BB := aside (bthen BB.out B2.out)
  have RR := aside (show OneR br ⟨l.toArray⟩ l 0 0 (X1.alloc (.cells #[.pointer (some ⟨br, 0, none⟩)] 72)) from ⟨blk_on R1.out B2.out, by simp, Nat.zero_le _, by omega⟩)
  have HS2 := aside (show (X1.alloc (.cells #[.pointer (some ⟨br, 0, none⟩)] 72)).heap.size = X1.heap.size + 1 from by rw [World.size_alloc])
  clear R1 B2
  go_upto_region 4 with fail
  obtain ⟨i1, hi1⟩ : ∃ i1, X1.heap.size = i1 := ⟨_, rfl⟩
  rw [hi1] at K1 HS1 HS2 ⊢
  clear hi1
  generalize X1.alloc (.cells #[.pointer (some ⟨br, 0, none⟩)] 72) = X2 at RR BB K0 K1 HS2 ⊢
  have HN := aside (show w.heap.size ≤ i0 ∧ br = i0 + 1 ∧ i1 = br + 1 ∧ X2.heap.size = i1 + 1 from ⟨HI0.out, HS0.out, HS1.out, HS2.out⟩)
  clear HS0 HS1 HS2
  have c1 : X2.cell? ⟨i1, 0, none⟩ = some (.pointer (some ⟨br, 0, none⟩)) := by rw [cell_of_row _ _ 0 _ _ _ K1.out]; rfl
  go_wp2_with fail
  refine (rframe_at RR.out HF.out).mono ?_
  rintro r X3 ⟨pa, pn, pc, rfl, PR1, R1, k1⟩
  dsimp only
  have PR := aside PR1
  replace K0 := aside ((k1.block i0 (Array.getElem?_eq_some_iff.1 K0.out).1 (fun h => by have := HN.out; omega)).trans K0.out)
  replace K1 := aside ((k1.block i1 (Array.getElem?_eq_some_iff.1 K1.out).1 (fun h => by have := HN.out; omega)).trans K1.out)
  replace BB := aside (BB.out.trans (k1.below BB.out.size (fun k hk e => by have := HN.out; omega)))
  replace RR := aside R1
  have HSZ := aside (show i1 + 1 ≤ X3.heap.size from by have h1 := HN.out; have h2 := k1.size; omega)
  clear PR1 R1 k1 c1
  have B4 := aside (bnew X3 (.cells #[.int .i64 fr, .int .i64 tz, .int .i64 o, .int .i64 lf, .int .i64 n, .int .i64 tn, .slice pa pn pc] 26))
  have K2 := aside (heap_alloc_new X3 (.cells #[.int .i64 fr, .int .i64 tz, .int .i64 o, .int .i64 lf, .int .i64 n, .int .i64 tn, .slice pa pn pc] 26))
  replace K0 := aside (blk_on K0.out B4.out)
  replace K1 := aside (blk_on K1.out B4.out)
  replace PR := aside (PR.out.on B4.out)
  replace BB := aside (bthen BB.out B4.out)
  replace RR := aside (RR.out.keep (Keeps.of_below B4.out (fun _ => False)) (fun h => h))
  clear B4
  go_upto_region 5 with fail
  obtain ⟨i2, hi2⟩ : ∃ i2, X3.heap.size = i2 := ⟨_, rfl⟩
  rw [hi2] at K2 HSZ ⊢
  clear hi2
  generalize X3.alloc (.cells #[.int .i64 fr, .int .i64 tz, .int .i64 o, .int .i64 lf, .int .i64 n, .int .i64 tn, .slice pa pn pc] 26) = X4 at RR BB K0 K1 K2 PR ⊢
  have c1 : X4.cell? ⟨i1, 0, none⟩ = some (.pointer (some ⟨br, 0, none⟩)) := by rw [cell_of_row _ _ 0 _ _ _ K1.out]; rfl
  go_wp2_with fail
  refine (rdone_any br ⟨l.toArray⟩ p e X4 RR.out.code (by omega) (by rw [bsize]; have := RR.out.le; omega) (by rw [bsize]; omega)).mono ?_
  rintro r X5 ⟨rfl, nn, rfl⟩
  rw [bsize, HQ.out]
  have sk := (Keeps.refl (fun _ => False) X4).drewN nn
  replace K0 := aside ((sk.block i0 (Array.getElem?_eq_some_iff.1 K0.out).1 (fun h => h)).trans K0.out)
  replace K2 := aside ((sk.block i2 (Array.getElem?_eq_some_iff.1 K2.out).1 (fun h => h)).trans K2.out)
  replace PR := aside (PR.out.keep sk (fun k h => h.elim))
  replace BB := aside (BB.out.trans (sk.below BB.out.size (fun k _ h => h)))
  clear sk c1 K1 RR
  generalize X4.drewN nn = X5 at BB K0 K2 PR ⊢
  obtain rfl := hq0
  have x0 : X5.cell? ⟨i2, 0, none⟩ = some (.int .i64 fr) := by rw [cell_of_row _ _ 0 _ _ _ K2.out]; rfl
  have x1 : X5.cell? ⟨i2, 1, none⟩ = some (.int .i64 tz) := by rw [cell_of_row _ _ 1 _ _ _ K2.out]; rfl
  have x2 : X5.cell? ⟨i2, 2, none⟩ = some (.int .i64 o) := by rw [cell_of_row _ _ 2 _ _ _ K2.out]; rfl
  have x3 : X5.cell? ⟨i2, 3, none⟩ = some (.int .i64 lf) := by rw [cell_of_row _ _ 3 _ _ _ K2.out]; rfl
  have x4 : X5.cell? ⟨i2, 4, none⟩ = some (.int .i64 n) := by rw [cell_of_row _ _ 4 _ _ _ K2.out]; rfl
  have x5 : X5.cell? ⟨i2, 5, none⟩ = some (.int .i64 tn) := by rw [cell_of_row _ _ 5 _ _ _ K2.out]; rfl
  have x6 : X5.cell? ⟨i2, 6, none⟩ = some (.slice pa pn pc) := by rw [cell_of_row _ _ 6 _ _ _ K2.out]; rfl
  go_wp2_with fail
  obtain ⟨P, hP⟩ := PR.out
  have hlen := hP.len
  have hPI := hP.parts (fun v hv => (HOK.out.ps v hv).keys)
  have hTT := hP.tot (by rw [← hlen]; exact HOK.out.len) HOK.out.ps
  have hext := fChk_ext (fr := fr) (tz := tz) (o := o) (l := lf) (k := n) (tn := tn) hP.same
  rw [← hlen] at hext
  refine (chkf_any fr tz o lf n tn pa pn pc P X5 hPI hTT).mono ?_
  rintro r X6 ⟨rfl, b6⟩
  rw [← hlen, hext]
  have HCH := aside (show fChk fr tz o lf n tn (fvP ps) ps.length = ch from HC.out)
  rw [HCH.out]
  replace K0 := aside (blk_on K0.out b6)
  replace K2 := aside (blk_on K2.out b6)
  replace PR := aside (PR.out.on b6)
  replace BB := aside (bthen BB.out b6)
  clear hP hlen hPI hTT hext b6 x0 x1 x2 x3 x4 x5 x6
  have hq1 : (ch != 0) = true := by simpa using hc0
  go_upto_region 6 with fail
  obtain ⟨a0, a1, a2, a3, a4, a5, a6, hk0⟩ : ∃ a0 a1 a2 a3 a4 a5 a6 : Value, X6.heap[i0]? = some (.cells #[a0, a1, a2, a3, a4, a5, a6] 26 (0, 0)) := ⟨_, _, _, _, _, _, _, K0.out⟩
  replace K0 := aside hk0
  clear hk0
  have z0 : X6.cell? ⟨i0, 0, none⟩ = some a0 := by rw [cell_of_row _ _ 0 _ _ _ K0.out]; rfl
  have y0 := frozen_of_row _ _ 0 _ _ K0.out
  have z1 : X6.cell? ⟨i0, 1, none⟩ = some a1 := by rw [cell_of_row _ _ 1 _ _ _ K0.out]; rfl
  have y1 := frozen_of_row _ _ 1 _ _ K0.out
  have z2 : X6.cell? ⟨i0, 2, none⟩ = some a2 := by rw [cell_of_row _ _ 2 _ _ _ K0.out]; rfl
  have y2 := frozen_of_row _ _ 2 _ _ K0.out
  have z3 : X6.cell? ⟨i0, 3, none⟩ = some a3 := by rw [cell_of_row _ _ 3 _ _ _ K0.out]; rfl
  have y3 := frozen_of_row _ _ 3 _ _ K0.out
  have z4 : X6.cell? ⟨i0, 4, none⟩ = some a4 := by rw [cell_of_row _ _ 4 _ _ _ K0.out]; rfl
  have y4 := frozen_of_row _ _ 4 _ _ K0.out
  have z5 : X6.cell? ⟨i0, 5, none⟩ = some a5 := by rw [cell_of_row _ _ 5 _ _ _ K0.out]; rfl
  have y5 := frozen_of_row _ _ 5 _ _ K0.out
  have z6 : X6.cell? ⟨i0, 6, none⟩ = some a6 := by rw [cell_of_row _ _ 6 _ _ _ K0.out]; rfl
  have y6 := frozen_of_row _ _ 6 _ _ K0.out
  have kz := (heap_setCell_same _ i0 6 _ _ (.slice none 0 0) (heap_setCell_same _ i0 5 _ _ (.int .i64 0) (heap_setCell_same _ i0 4 _ _ (.int .i64 0) (heap_setCell_same _ i0 3 _ _ (.int .i64 0) (heap_setCell_same _ i0 2 _ _ (.int .i64 0) (heap_setCell_same _ i0 1 _ _ (.int .i64 0) (heap_setCell_same _ i0 0 _ _ (.int .i64 0) K0.out)))))))
  simp only [List.setIfInBounds_toArray, List.set_cons_zero, List.set_cons_succ] at kz
  have KR := aside kz
  have BF := aside (((((((BB.out.setCell (p := ⟨i0, 0, none⟩) HI0.out (.int .i64 0)).setCell (p := ⟨i0, 1, none⟩) HI0.out (.int .i64 0)).setCell (p := ⟨i0, 2, none⟩) HI0.out (.int .i64 0)).setCell (p := ⟨i0, 3, none⟩) HI0.out (.int .i64 0)).setCell (p := ⟨i0, 4, none⟩) HI0.out (.int .i64 0)).setCell (p := ⟨i0, 5, none⟩) HI0.out (.int .i64 0)).setCell (p := ⟨i0, 6, none⟩) HI0.out (.slice none 0 0))
  have SK := aside ((((((((Keeps.refl (fun x => x = i0) X6).setCell (p := ⟨i0, 0, none⟩) (fun _ => rfl) (.int .i64 0)).setCell (p := ⟨i0, 1, none⟩) (fun _ => rfl) (.int .i64 0)).setCell (p := ⟨i0, 2, none⟩) (fun _ => rfl) (.int .i64 0)).setCell (p := ⟨i0, 3, none⟩) (fun _ => rfl) (.int .i64 0)).setCell (p := ⟨i0, 4, none⟩) (fun _ => rfl) (.int .i64 0)).setCell (p := ⟨i0, 5, none⟩) (fun _ => rfl) (.int .i64 0)).setCell (p := ⟨i0, 6, none⟩) (fun _ => rfl) (.slice none 0 0))
  clear kz
  go_wp2
  exact bodyPost_ret (v := .tuple #[.agg #[.int .i64 0, .int .i64 0, .int .i64 0, .int .i64 0, .int .i64 0, .int .i64 0, .slice none 0 0], .int .i64 120]) (by simp [results, Try.results14, go_sem, cell_of_row _ _ 0 _ _ _ KR.out, cell_of_row _ _ 1 _ _ _ KR.out, cell_of_row _ _ 2 _ _ _ KR.out, cell_of_row _ _ 3 _ _ _ KR.out, cell_of_row _ _ 4 _ _ _ KR.out, cell_of_row _ _ 5 _ _ _ KR.out, cell_of_row _ _ 6 _ _ _ KR.out]) rfl ⟨BF.out, .inl ⟨HD.out, rfl⟩⟩
end Go.Proofs.Ytbnppmkdhnpdfaa
namespace Go.Proofs.Ytbnppmkdhnpdfaa
open Go.RowKit
set_option linter.unusedVariables false
set_option maxRecDepth 100000 in
set_option maxHeartbeats 3200000 in
theorem dec_ok (a : Option Addr) (len cap : Nat) (l : List UInt8) (w : World) (hR : ∀ w', Below w.heap.size w w' → Reads w' (.slice a len cap) l) (hle : ¬ (65536 : Int) < (len : Int)) (hl2 : l.length ≤ 65536) {fr tz o lf n tn : Int} {ps : List PV} {p : Nat} {e q : Int} (hf : frameSt l = (⟨fr, tz, o, lf, n, tn, ps⟩, p, e)) (hq : doneOf ((l.length : Int) - (p : Int)) e = q) (hq0 : q = 0) (hok : FVok ⟨fr, tz, o, lf, n, tn, ps⟩) {ch : Int} (hc : FV.chk ⟨fr, tz, o, lf, n, tn, ps⟩ = ch) (hc0 : ch = 0) (hd : decF l = some ⟨fr, tz, o, lf, n, tn, ps⟩) :
    Calls Try.prog 14 #[.slice a len cap] w (DecP w l) := by
  have HD := aside hd
  have HF := aside hf
  have HQ := aside hq
  have HOK := aside hok
  have HC := aside hc
  clear hd hf hq hok hc
  have HR := aside hR
  have B0 := aside (bnew w (.cells #[.int .i64 0, .int .i64 0, .int .i64 0, .int .i64 0, .int .i64 0, .int .i64 0, .slice none 0 0] 26))
  have K0 := aside (heap_alloc_new w (.cells #[.int .i64 0, .int .i64 0, .int .i64 0, .int .i64 0, .int .i64 0, .int .i64 0, .slice none 0 0] 26))
  clear hR
  go_enter Try.func14, Try.ntmps14
  go_wp2_with fail
  have HS0 := aside (show (w.alloc (.cells #[.int .i64 0, .int .i64 0, .int .i64 0, .int .i64 0, .int .i64 0, .int .i64 0, .slice none 0 0] 26)).heap.size = w.heap.size + 1 from by rw [World.size_alloc])
  obtain ⟨i0, hi0⟩ : ∃ i0, w.heap.size = i0 := ⟨_, rfl⟩
  have HI0 := aside (show w.heap.size ≤ i0 by omega)
  rw [hi0] at K0 HS0 ⊢
  clear hi0
  generalize w.alloc (.cells #[.int .i64 0, .int .i64 0, .int .i64 0, .int .i64 0, .int .i64 0, .int .i64 0, .slice none 0 0] 26) = X0 at B0 K0 HS0 ⊢
  refine (newReader_any _ l _ (HR.out _ B0.out)).mono ?_
  rintro r X1 ⟨rfl, rfl⟩
  have R1 := aside (isR_new X0 ⟨l.toArray⟩)
  have B1 := aside (bnew X0 (.cells #[.string ⟨l.toArray⟩, .int .i64 0, .int .i64 0] 95))
  replace K0 := aside (blk_on K0.out B1.out)
  have BB := aside (bthen B0.out B1.out)
  have HS1 := aside (show (X0.alloc (.cells #[.string ⟨l.toArray⟩, .int .i64 0, .int .i64 0] 95)).heap.size = X0.heap.size + 1 from by rw [World.size_alloc])
  obtain ⟨br, hbr⟩ : ∃ br, X0.heap.size = br := ⟨_, rfl⟩
  rw [hbr] at R1 HS0 HS1 ⊢
  clear hbr B0
  generalize X0.alloc (.cells #[.string ⟨l.toArray⟩, .int .i64 0, .int .i64 0] 95) = X1 at R1 BB K0 HS1 ⊢
  clear B1
  have B2 := aside (bnew X1 (.cells #[.pointer (some ⟨br, 0, none⟩)] 72))
  have K1 := aside (heap_alloc_new X1 (.cells #[.pointer (some ⟨br, 0, none⟩)] 72))
  replace K0 := aside (blk_on K0.out B2.out)
  replace BB := aside (bthen BB.out B2.out)
  have RR := aside (show OneR br ⟨l.toArray⟩ l 0 0 (X1.alloc (.cells #[.pointer (some ⟨br, 0, none⟩)] 72)) from ⟨blk_on R1.out B2.out, by simp, Nat.zero_le _, by omega⟩)
  have HS2 := aside (show (X1.alloc (.cells #[.pointer (some ⟨br, 0, none⟩)] 72)).heap.size = X1.heap.size + 1 from by rw [World.size_alloc])
  clear R1 B2
  go_upto_region 4 with fail
  obtain ⟨i1, hi1⟩ : ∃ i1, X1.heap.size = i1 := ⟨_, rfl⟩
  rw [hi1] at K1 HS1 HS2 ⊢
  clear hi1
  generalize X1.alloc (.cells #[.pointer (some ⟨br, 0, none⟩)] 72) = X2 at RR BB K0 K1 HS2 ⊢
  have HN := aside (show w.heap.size ≤ i0 ∧ br = i0 + 1 ∧ i1 = br + 1 ∧ X2.heap.size = i1 + 1 from ⟨HI0.out, HS0.out, HS1.out, HS2.out⟩)
  clear HS0 HS1 HS2
  have c1 : X2.cell? ⟨i1, 0, none⟩ = some (.pointer (some ⟨br, 0, none⟩)) := by rw [cell_of_row _ _ 0 _ _ _ K1.out]; rfl
  go_wp2_with fail
  refine (rframe_at RR.out HF.out).mono ?_
  rintro r X3 ⟨pa, pn, pc, rfl, PR1, R1, k1⟩
  dsimp only
  have PR := aside PR1
  replace K0 := aside ((k1.block i0 (Array.getElem?_eq_some_iff.1 K0.out).1 (fun h => by have := HN.out; omega)).trans K0.out)
  replace K1 := aside ((k1.block i1 (Array.getElem?_eq_some_iff.1 K1.out).1 (fun h => by have := HN.out; omega)).trans K1.out)
  replace BB := aside (BB.out.trans (k1.below BB.out.size (fun k hk e => by have := HN.out; omega)))
  replace RR := aside R1
  have HSZ := aside (show i1 + 1 ≤ X3.heap.size from by have h1 := HN.out; have h2 := k1.size; omega)
  clear PR1 R1 k1 c1
  have B4 := aside (bnew X3 (.cells #[.int .i64 fr, .int .i64 tz, .int .i64 o, .int .i64 lf, .int .i64 n, .int .i64 tn, .slice pa pn pc] 26))
  have K2 := aside (heap_alloc_new X3 (.cells #[.int .i64 fr, .int .i64 tz, .int .i64 o, .int .i64 lf, .int .i64 n, .int .i64 tn, .slice pa pn pc] 26))
  replace K0 := aside (blk_on K0.out B4.out)
  replace K1 := aside (blk_on K1.out B4.out)
  replace PR := aside (PR.out.on B4.out)
  replace BB := aside (bthen BB.out B4.out)
  replace RR := aside (RR.out.keep (Keeps.of_below B4.out (fun _ => False)) (fun h => h))
  clear B4
  go_upto_region 5 with fail
  obtain ⟨i2, hi2⟩ : ∃ i2, X3.heap.size = i2 := ⟨_, rfl⟩
  rw [hi2] at K2 HSZ ⊢
  clear hi2
  generalize X3.alloc (.cells #[.int .i64 fr, .int .i64 tz, .int .i64 o, .int .i64 lf, .int .i64 n, .int .i64 tn, .slice pa pn pc] 26) = X4 at RR BB K0 K1 K2 PR ⊢
  have c1 : X4.cell? ⟨i1, 0, none⟩ = some (.pointer (some ⟨br, 0, none⟩)) := by rw [cell_of_row _ _ 0 _ _ _ K1.out]; rfl
  go_wp2_with fail
  refine (rdone_any br ⟨l.toArray⟩ p e X4 RR.out.code (by omega) (by rw [bsize]; have := RR.out.le; omega) (by rw [bsize]; omega)).mono ?_
  rintro r X5 ⟨rfl, nn, rfl⟩
  rw [bsize, HQ.out]
  have sk := (Keeps.refl (fun _ => False) X4).drewN nn
  replace K0 := aside ((sk.block i0 (Array.getElem?_eq_some_iff.1 K0.out).1 (fun h => h)).trans K0.out)
  replace K2 := aside ((sk.block i2 (Array.getElem?_eq_some_iff.1 K2.out).1 (fun h => h)).trans K2.out)
  replace PR := aside (PR.out.keep sk (fun k h => h.elim))
  replace BB := aside (BB.out.trans (sk.below BB.out.size (fun k _ h => h)))
  clear sk c1 K1 RR
  generalize X4.drewN nn = X5 at BB K0 K2 PR ⊢
  obtain rfl := hq0
  have x0 : X5.cell? ⟨i2, 0, none⟩ = some (.int .i64 fr) := by rw [cell_of_row _ _ 0 _ _ _ K2.out]; rfl
  have x1 : X5.cell? ⟨i2, 1, none⟩ = some (.int .i64 tz) := by rw [cell_of_row _ _ 1 _ _ _ K2.out]; rfl
  have x2 : X5.cell? ⟨i2, 2, none⟩ = some (.int .i64 o) := by rw [cell_of_row _ _ 2 _ _ _ K2.out]; rfl
  have x3 : X5.cell? ⟨i2, 3, none⟩ = some (.int .i64 lf) := by rw [cell_of_row _ _ 3 _ _ _ K2.out]; rfl
  have x4 : X5.cell? ⟨i2, 4, none⟩ = some (.int .i64 n) := by rw [cell_of_row _ _ 4 _ _ _ K2.out]; rfl
  have x5 : X5.cell? ⟨i2, 5, none⟩ = some (.int .i64 tn) := by rw [cell_of_row _ _ 5 _ _ _ K2.out]; rfl
  have x6 : X5.cell? ⟨i2, 6, none⟩ = some (.slice pa pn pc) := by rw [cell_of_row _ _ 6 _ _ _ K2.out]; rfl
  go_wp2_with fail
  obtain ⟨P, hP⟩ := PR.out
  have hlen := hP.len
  have hPI := hP.parts (fun v hv => (HOK.out.ps v hv).keys)
  have hTT := hP.tot (by rw [← hlen]; exact HOK.out.len) HOK.out.ps
  have hext := fChk_ext (fr := fr) (tz := tz) (o := o) (l := lf) (k := n) (tn := tn) hP.same
  rw [← hlen] at hext
  refine (chkf_any fr tz o lf n tn pa pn pc P X5 hPI hTT).mono ?_
  rintro r X6 ⟨rfl, b6⟩
  rw [← hlen, hext]
  have HCH := aside (show fChk fr tz o lf n tn (fvP ps) ps.length = ch from HC.out)
  rw [HCH.out]
  replace K0 := aside (blk_on K0.out b6)
  replace K2 := aside (blk_on K2.out b6)
  replace PR := aside (PR.out.on b6)
  replace BB := aside (bthen BB.out b6)
  clear hP hlen hPI hTT hext b6 x0 x1 x2 x3 x4 x5 x6
  subst hc0
  go_upto_region 7 with fail
  have x0 : X6.cell? ⟨i2, 0, none⟩ = some (.int .i64 fr) := by rw [cell_of_row _ _ 0 _ _ _ K2.out]; rfl
  have x1 : X6.cell? ⟨i2, 1, none⟩ = some (.int .i64 tz) := by rw [cell_of_row _ _ 1 _ _ _ K2.out]; rfl
  have x2 : X6.cell? ⟨i2, 2, none⟩ = some (.int .i64 o) := by rw [cell_of_row _ _ 2 _ _ _ K2.out]; rfl
  have x3 : X6.cell? ⟨i2, 3, none⟩ = some (.int .i64 lf) := by rw [cell_of_row _ _ 3 _ _ _ K2.out]; rfl
  have x4 : X6.cell? ⟨i2, 4, none⟩ = some (.int .i64 n) := by rw [cell_of_row _ _ 4 _ _ _ K2.out]; rfl
  have x5 : X6.cell? ⟨i2, 5, none⟩ = some (.int .i64 tn) := by rw [cell_of_row _ _ 5 _ _ _ K2.out]; rfl
  have x6 : X6.cell? ⟨i2, 6, none⟩ = some (.slice pa pn pc) := by rw [cell_of_row _ _ 6 _ _ _ K2.out]; rfl
  obtain ⟨a0, a1, a2, a3, a4, a5, a6, hk0⟩ : ∃ a0 a1 a2 a3 a4 a5 a6 : Value, X6.heap[i0]? = some (.cells #[a0, a1, a2, a3, a4, a5, a6] 26 (0, 0)) := ⟨_, _, _, _, _, _, _, K0.out⟩
  replace K0 := aside hk0
  clear hk0
  have z0 : X6.cell? ⟨i0, 0, none⟩ = some a0 := by rw [cell_of_row _ _ 0 _ _ _ K0.out]; rfl
  have y0 := frozen_of_row _ _ 0 _ _ K0.out
  have z1 : X6.cell? ⟨i0, 1, none⟩ = some a1 := by rw [cell_of_row _ _ 1 _ _ _ K0.out]; rfl
  have y1 := frozen_of_row _ _ 1 _ _ K0.out
  have z2 : X6.cell? ⟨i0, 2, none⟩ = some a2 := by rw [cell_of_row _ _ 2 _ _ _ K0.out]; rfl
  have y2 := frozen_of_row _ _ 2 _ _ K0.out
  have z3 : X6.cell? ⟨i0, 3, none⟩ = some a3 := by rw [cell_of_row _ _ 3 _ _ _ K0.out]; rfl
  have y3 := frozen_of_row _ _ 3 _ _ K0.out
  have z4 : X6.cell? ⟨i0, 4, none⟩ = some a4 := by rw [cell_of_row _ _ 4 _ _ _ K0.out]; rfl
  have y4 := frozen_of_row _ _ 4 _ _ K0.out
  have z5 : X6.cell? ⟨i0, 5, none⟩ = some a5 := by rw [cell_of_row _ _ 5 _ _ _ K0.out]; rfl
  have y5 := frozen_of_row _ _ 5 _ _ K0.out
  have z6 : X6.cell? ⟨i0, 6, none⟩ = some a6 := by rw [cell_of_row _ _ 6 _ _ _ K0.out]; rfl
  have y6 := frozen_of_row _ _ 6 _ _ K0.out
  have kz := (heap_setCell_same _ i0 6 _ _ (.slice pa pn pc) (heap_setCell_same _ i0 5 _ _ (.int .i64 tn) (heap_setCell_same _ i0 4 _ _ (.int .i64 n) (heap_setCell_same _ i0 3 _ _ (.int .i64 lf) (heap_setCell_same _ i0 2 _ _ (.int .i64 o) (heap_setCell_same _ i0 1 _ _ (.int .i64 tz) (heap_setCell_same _ i0 0 _ _ (.int .i64 fr) K0.out)))))))
  simp only [List.setIfInBounds_toArray, List.set_cons_zero, List.set_cons_succ] at kz
  have KR := aside kz
  have BF := aside (((((((BB.out.setCell (p := ⟨i0, 0, none⟩) HI0.out (.int .i64 fr)).setCell (p := ⟨i0, 1, none⟩) HI0.out (.int .i64 tz)).setCell (p := ⟨i0, 2, none⟩) HI0.out (.int .i64 o)).setCell (p := ⟨i0, 3, none⟩) HI0.out (.int .i64 lf)).setCell (p := ⟨i0, 4, none⟩) HI0.out (.int .i64 n)).setCell (p := ⟨i0, 5, none⟩) HI0.out (.int .i64 tn)).setCell (p := ⟨i0, 6, none⟩) HI0.out (.slice pa pn pc))
  have SK := aside ((((((((Keeps.refl (fun x => x = i0) X6).setCell (p := ⟨i0, 0, none⟩) (fun _ => rfl) (.int .i64 fr)).setCell (p := ⟨i0, 1, none⟩) (fun _ => rfl) (.int .i64 tz)).setCell (p := ⟨i0, 2, none⟩) (fun _ => rfl) (.int .i64 o)).setCell (p := ⟨i0, 3, none⟩) (fun _ => rfl) (.int .i64 lf)).setCell (p := ⟨i0, 4, none⟩) (fun _ => rfl) (.int .i64 n)).setCell (p := ⟨i0, 5, none⟩) (fun _ => rfl) (.int .i64 tn)).setCell (p := ⟨i0, 6, none⟩) (fun _ => rfl) (.slice pa pn pc))
  clear kz
  go_wp2
  exact bodyPost_ret (v := .tuple #[.agg #[.int .i64 fr, .int .i64 tz, .int .i64 o, .int .i64 lf, .int .i64 n, .int .i64 tn, .slice pa pn pc], .int .i64 0]) (by simp [results, Try.results14, go_sem, cell_of_row _ _ 0 _ _ _ KR.out, cell_of_row _ _ 1 _ _ _ KR.out, cell_of_row _ _ 2 _ _ _ KR.out, cell_of_row _ _ 3 _ _ _ KR.out, cell_of_row _ _ 4 _ _ _ KR.out, cell_of_row _ _ 5 _ _ _ KR.out, cell_of_row _ _ 6 _ _ _ KR.out]) rfl ⟨BF.out, .inr ⟨⟨fr, tz, o, lf, n, tn, ps⟩, pa, pn, pc, HD.out, rfl, (PR.out.keep SK.out (fun k e h => by have := HN.out; omega)).low (by have h1 := HN.out; omega)⟩⟩
end Go.Proofs.Ytbnppmkdhnpdfaa
namespace Go.Proofs.Ytbnppmkdhnpdfaa
open Go.RowKit
set_option linter.unusedVariables false
set_option maxHeartbeats 400000 in
theorem newWriter_any (w : World) :
    Calls Try.prog 22 #[] w fun e w' => e = .returned (.pointer (some ⟨w.heap.size, 0, none⟩)) ∧ w' = w.alloc (.cells #[.slice none 0 0] 86) := by
  go_enter Try.func22, Try.ntmps22
  go_wp2
  go_ret
  exact ⟨rfl, rfl⟩
theorem isW_new (T B : Nat) (w : World) (hB : B ≤ w.heap.size) : IsW T B w.heap.size none [] (w.alloc (.cells #[.slice none 0 0] T)) :=
  ⟨hB, by simp, .slice none 0 0, heap_alloc_new w _, rfl, World.ownsRow_nil _ _ _ _⟩
set_option maxHeartbeats 1600000 in
set_option maxRecDepth 100000 in
theorem clone_any (B : Nat) (v : Value) (l : List UInt8) (w : World) (hown : w.ownsRow B 5 1 v l.length (Lib.byteCells l)) (hl : l.length ≤ 70368744177664) :
    Calls Try.prog 54 #[v] w fun e w' => ∃ v', e = .returned v' ∧ w'.ownsRow w.heap.size 5 1 v' l.length (Lib.byteCells l) ∧ Keeps (fun _ => False) w w' := by
  obtain ⟨i0, hi, hz0, hz1, hz2⟩ := info_parts info8
  have hkeep := hown
  rcases hown.2 with ⟨rfl, h0⟩ | ⟨g, cap, cur, rfl, hb, hh, hr⟩
  · have hl0 : l = [] := List.length_eq_zero_iff.1 h0
    subst hl0
    have hnil := fun w => Lib.run_eql_slice_nil (P := Try.prog) w 30 5 none 0 0 0 0 Try.underlying30
    go_enter Try.func54, Try.ntmps54
    go_wp2
    go_ret
    exact ⟨_, rfl, World.ownsRow_nil _ _ _ _, Keeps.refl _ _⟩
  · have hnil := fun w => Lib.run_eql_slice_nil (P := Try.prog) w 30 5 (some ⟨g, 0, none⟩) l.length cap 0 0 Try.underlying30
    have hown0 : (w.alloc (.cells #[] 5)).ownsRow w.heap.size 5 1 (.slice (some ⟨w.heap.size, 0, none⟩) 0 0) 0 [] := World.ownsRow_made w #[] 0 (Nat.le_refl _) (Nat.zero_le _) rfl
    have hcells : ∀ j u, (Lib.byteCells l)[j]? = some u → (w.alloc (.cells #[] 5)).cell? ((⟨g, 0, none⟩ : Addr).add j) = some u := (hkeep.alloc _).cells rfl
    go_enter Try.func54, Try.ntmps54
    go_wp2_with (at_builtin; refine wpList_append_own _ rfl _ _ _ rfl w.heap.size 5 i0 (.int .u8 0) 1 1 Try.underlying30 hi hz0 hz1 hz2 rfl (by decide) _ _ _ (by rfl) hown0 ⟨g, 0, none⟩ l.length cap (Lib.byteCells l) (by rfl) (by simp [Lib.byteCells]) hcells (by intro u hu; simp only [Lib.byteCells, List.mem_map] at hu; obtain ⟨x, _, rfl⟩ := hu; rfl) (by unfold maxLen; omega) (by omega) (by simp) ?_; intro v' w1 hown1 hgrow _; refine Hid.out ?_)
    refine aside ?_
    rw [Nat.zero_add, List.nil_append] at hown1
    have HO := aside hown1
    have HK : Keeps (fun _ => False) w w1 := ((Keeps.refl _ w).alloc _).grown hgrow (fun k hk hlt => by simp [Value.ownBlock] at hk; omega)
    clear hown1 hgrow
    go_wp2
    go_ret
    exact ⟨_, rfl, HO.out, HK⟩
set_option maxHeartbeats 400000 in
theorem bytes_any (B b : Nat) (g : Option Nat) (l : List UInt8) (w : World) (hW : IsW 86 B b g l w) (hl : l.length ≤ 70368744177664) :
    Calls Try.prog 25 #[.pointer (some ⟨b, 0, none⟩)] w fun e w' => ∃ v', e = .returned v' ∧ w'.ownsRow w.heap.size 5 1 v' l.length (Lib.byteCells l) ∧ Keeps (fun _ => False) w w' := by
  obtain ⟨hBb, hgb, v, hh, rfl, hown⟩ := hW
  have hc := cell_one hh
  go_enter Try.func25, Try.ntmps25
  go_wp2_with (go_at_call 54; refine (clone_any B v l _ hown hl).mono ?_; rintro e w' ⟨v', rfl, ho, hk⟩)
  go_ret
  exact ⟨_, rfl, ho, hk⟩
end Go.Proofs.Ytbnppmkdhnpdfaa
