/-
  Bytes and Of, the code's and the document's own, by contracts.
-/
import Derived.Test.YtnjbglnkhgholaaIBack
import Derived.Test.YtnjbglnkhgholaaITwo
import Derived.Lib.SmallJoins
namespace Go.Proofs.Ytnjbglnkhgholaa
open Go.RowKit
set_option linter.unusedVariables false

theorem putB_len (e : En) : (putB e).length ≤ 200 := by
  by_cases h : e.chk = 0
  · rw [putB_yes h]
    obtain ⟨k, c, n, v, d⟩ := e
    obtain ⟨h1, _, _, _, _, h2⟩ := En.ok_parts h
    have e1 := Nm.enc_length 8 k.size
    have e2 := Nm.enc_length 8 v.size
    have e3 := Nm.enc_length 8 (up c)
    have e4 := Nm.enc_length 8 (up n)
    have e5 : k.data.toList.length = k.size := by show k.data.toList.length = k.data.size; simp
    have e6 : v.data.toList.length = v.size := by show v.data.toList.length = v.data.size; simp
    have e7 : (flagB d).length = 1 := rfl
    cases d <;> simp only [entB, List.length_append, cond, List.length_nil] <;> omega
  · rw [putB_no h]; simp

set_option maxHeartbeats 1600000 in
set_option maxRecDepth 100000 in
theorem bytesRef_any (B b : Nat) (g : Option Nat) (l : List UInt8) (w : World) (hW : IsW 70 B b g l w) (hl : l.length ≤ 70368744177664) :
    Calls Try.prog 34 #[.pointer (some ⟨b, 0, none⟩)] w fun e w' => ∃ v', e = .returned v' ∧ w'.ownsRow w.heap.size 5 1 v' l.length (Lib.byteCells l) ∧ Keeps (fun _ => False) w w' := by
  obtain ⟨hBb, hgb, v, hh, rfl, hown⟩ := hW
  obtain ⟨i0, hi, hz0, hz1, hz2⟩ := info_parts info8
  have hh2 := blk_on hh (bnew w (.cells #[] 5))
  have hc := cell_one hh2
  have hown0 : (w.alloc (.cells #[] 5)).ownsRow w.heap.size 5 1 (.slice (some ⟨w.heap.size, 0, none⟩) 0 0) 0 [] := World.ownsRow_made w #[] 0 (Nat.le_refl _) (Nat.zero_le _) rfl
  have HO0 := aside hown0
  have hkeep := hown
  rcases hown.2 with ⟨rfl, h0⟩ | ⟨g, cap, cur, rfl, hb, hh', hr⟩
  · have hl0 : l = [] := List.length_eq_zero_iff.1 h0
    subst hl0
    clear hown0 hh hh2 hown hkeep hgb
    go_enter Try.func34, Try.ntmps34
    go_wp2_with (at_builtin; refine wpList_append_own_none rfl _ _ _ rfl w.heap.size 5 i0 1 Try.underlying40 hi _ _ _ (by rfl) HO0.out (by rfl) ?_; refine Hid.out ?_)
    refine aside ?_
    go_wp2
    go_ret
    exact ⟨_, rfl, HO0.out, (Keeps.refl _ _).alloc _⟩
  · have hcells : ∀ j u, (Lib.byteCells l)[j]? = some u → (w.alloc (.cells #[] 5)).cell? ((⟨g, 0, none⟩ : Addr).add j) = some u := (hkeep.alloc _).cells rfl
    have HCE := aside hcells
    clear hown0 hh hh2 hown hkeep hgb hb hh' hr hcells
    go_enter Try.func34, Try.ntmps34
    go_wp2_with (at_builtin; refine wpList_append_own _ rfl _ _ _ rfl w.heap.size 5 i0 (.int .u8 0) 1 1 Try.underlying40 hi hz0 hz1 hz2 rfl (by decide) _ _ _ (by rfl) HO0.out ⟨g, 0, none⟩ l.length cap (Lib.byteCells l) (by rfl) (by simp [Lib.byteCells]) HCE.out (by intro u hu; simp only [Lib.byteCells, List.mem_map] at hu; obtain ⟨x, _, rfl⟩ := hu; rfl) (by unfold maxLen; omega) (by omega) (by simp) ?_; intro v' w1 hown1 hgrow _; refine Hid.out ?_)
    refine aside ?_
    rw [Nat.zero_add, List.nil_append] at hown1
    have HO := aside hown1
    have HK : Keeps (fun _ => False) w w1 := ((Keeps.refl _ w).alloc _).grown hgrow (fun k hk hlt => by simp [Value.ownBlock] at hk; omega)
    clear hown1 hgrow
    go_wp2
    go_ret
    exact ⟨_, rfl, HO.out, HK⟩

set_option maxRecDepth 100000 in
set_option maxHeartbeats 3200000 in
theorem bytesE_no (k : ByteArray) (c n : Int) (v : ByteArray) (d : Bool) (q : Int) (w : World) (hq : En.chk ⟨k, c, n, v, d⟩ = q) (hne : q ≠ 0) :
    Calls Try.prog 22 #[.agg #[.string k, .int .i64 c, .int .i64 n, .string v, .bool d]] w fun e w' => e = .returned (.tuple #[.slice none 0 0, .int .i64 q]) ∧ Below w.heap.size w w' := by
  have C := aside (fun w => check_is hq w)
  have he : (q != 0) = true := by simp [hne]
  clear hq hne
  go_enter Try.func22, Try.ntmps22
  go_wp2_with fail
  refine (C.out _).mono ?_
  rintro e w1 ⟨rfl, b1⟩
  have b0 := bthen (bnew w _) b1
  clear b1
  go_wp2
  go_ret2
  exact ⟨rfl, b0⟩

set_option maxRecDepth 100000 in
set_option maxHeartbeats 3200000 in
theorem bytesE_yes (k : ByteArray) (c n : Int) (v : ByteArray) (d : Bool) (w : World) (hq : En.chk ⟨k, c, n, v, d⟩ = 0) :
    Calls Try.prog 22 #[.agg #[.string k, .int .i64 c, .int .i64 n, .string v, .bool d]] w fun e w' => ∃ va vn vc, e = .returned (.tuple #[.slice va vn vc, .int .i64 0]) ∧ w'.ownsRow w.heap.size 5 1 (.slice va vn vc) (entB ⟨k, c, n, v, d⟩).length (Lib.byteCells (entB ⟨k, c, n, v, d⟩)) ∧ Below w.heap.size w w' := by
  have C := aside (fun w => check_is hq w)
  have HP := aside (putB_yes hq)
  have HLEN := aside (putB_len ⟨k, c, n, v, d⟩)
  clear hq
  go_enter Try.func22, Try.ntmps22
  go_wp2_with fail
  refine (C.out _).mono ?_
  rintro e w1 ⟨rfl, b1⟩
  have kA := aside (blk_on (heap_alloc_new w (.cells #[.string k, .int .i64 c, .int .i64 n, .string v, .bool d] 34)) b1)
  have b01 := bthen (bnew w _) b1
  clear b1
  go_wp2_with fail
  refine (newWriter_any _).mono ?_
  rintro e w2 ⟨rfl, hw2⟩
  have W2 : IsW 64 w1.heap.size w1.heap.size none [] w2 := by rw [hw2]; exact isW_new _ _ _ (Nat.le_refl _)
  have b12 : Below w1.heap.size w1 w2 := by rw [hw2]; exact bnew _ _
  have kA2 := blk_on kA.out b12
  have b02 := bthen b01 b12
  obtain ⟨⟨r0, r1, r2, r3, r4⟩, -⟩ := quint kA2
  have WW := aside W2
  have hB : w1.heap.size ≤ w2.heap.size := b12.size
  have hw1 : w.heap.size ≤ w1.heap.size := b01.size
  clear hw2 W2 kA2 kA b01 b12
  go_wp2_with fail
  refine (put_any w1.heap.size w1.heap.size none [] k c n v d _ WW.out hB (by simp)).mono ?_
  rintro e w3 ⟨rfl, g3, W3, fr3, k3⟩
  rw [List.nil_append] at W3
  have b03 : Below w.heap.size w w3 := b02.trans (k3.below b02.size (fun j hj h => h.elim (fun h => by omega) (fun h => by cases h)))
  have WW3 := aside W3
  clear r0 r1 r2 r3 r4 WW W3 fr3 k3 b02
  go_wp2_with fail
  refine (bytes_any _ _ _ _ _ WW3.out (by have := HLEN.out; omega)).mono ?_
  rintro e w4 ⟨v4, rfl, o4, k4⟩
  have b04 : Below w.heap.size w w4 := b03.trans (k4.below b03.size (fun _ _ h => h))
  obtain ⟨va, vn, vc, rfl⟩ := own_form o4
  have O4 := aside (Joins.ownsRow_le o4 b03.size)
  clear o4 k4 WW3
  go_wp2
  go_ret2
  refine ⟨va, vn, vc, rfl, ?_, b04⟩
  rw [← HP.out]
  exact O4.out

set_option maxRecDepth 100000 in
set_option maxHeartbeats 3200000 in
theorem bytesERef_no (k : ByteArray) (c n : Int) (v : ByteArray) (d : Bool) (q : Int) (w : World) (hq : En.chk ⟨k, c, n, v, d⟩ = q) (hne : q ≠ 0) :
    Calls Try.prog 23 #[.agg #[.string k, .int .i64 c, .int .i64 n, .string v, .bool d]] w fun e w' => e = .returned (.tuple #[.slice none 0 0, .int .i64 q]) ∧ Below w.heap.size w w' := by
  have C := aside (fun w => checkRef_is hq w)
  have he : (q != 0) = true := by simp [hne]
  clear hq hne
  go_enter Try.func23, Try.ntmps23
  go_wp2_with fail
  refine (C.out _).mono ?_
  rintro e w1 ⟨rfl, b1⟩
  have b0 := bthen (bnew w _) b1
  clear b1
  go_wp2
  go_ret2
  exact ⟨rfl, b0⟩

set_option maxRecDepth 100000 in
set_option maxHeartbeats 3200000 in
theorem bytesERef_yes (k : ByteArray) (c n : Int) (v : ByteArray) (d : Bool) (w : World) (hq : En.chk ⟨k, c, n, v, d⟩ = 0) :
    Calls Try.prog 23 #[.agg #[.string k, .int .i64 c, .int .i64 n, .string v, .bool d]] w fun e w' => ∃ va vn vc, e = .returned (.tuple #[.slice va vn vc, .int .i64 0]) ∧ w'.ownsRow w.heap.size 5 1 (.slice va vn vc) (entB ⟨k, c, n, v, d⟩).length (Lib.byteCells (entB ⟨k, c, n, v, d⟩)) ∧ Below w.heap.size w w' := by
  have C := aside (fun w => checkRef_is hq w)
  have HP := aside (putB_yes hq)
  have HLEN := aside (putB_len ⟨k, c, n, v, d⟩)
  clear hq
  go_enter Try.func23, Try.ntmps23
  go_wp2_with fail
  refine (C.out _).mono ?_
  rintro e w1 ⟨rfl, b1⟩
  have kA := aside (blk_on (heap_alloc_new w (.cells #[.string k, .int .i64 c, .int .i64 n, .string v, .bool d] 34)) b1)
  have b01 := bthen (bnew w _) b1
  clear b1
  go_wp2_with fail
  refine (newWriterRef_any _).mono ?_
  rintro e w2 ⟨rfl, hw2⟩
  have W2 : IsW 70 w1.heap.size w1.heap.size none [] w2 := by rw [hw2]; exact isW_new _ _ _ (Nat.le_refl _)
  have b12 : Below w1.heap.size w1 w2 := by rw [hw2]; exact bnew _ _
  have kA2 := blk_on kA.out b12
  have b02 := bthen b01 b12
  obtain ⟨⟨r0, r1, r2, r3, r4⟩, -⟩ := quint kA2
  have WW := aside W2
  have hB : w1.heap.size ≤ w2.heap.size := b12.size
  have hw1 : w.heap.size ≤ w1.heap.size := b01.size
  clear hw2 W2 kA2 kA b01 b12
  go_wp2_with fail
  refine (putRef_any w1.heap.size w1.heap.size none [] k c n v d _ WW.out hB (by simp)).mono ?_
  rintro e w3 ⟨rfl, g3, W3, fr3, k3⟩
  rw [List.nil_append] at W3
  have b03 : Below w.heap.size w w3 := b02.trans (k3.below b02.size (fun j hj h => h.elim (fun h => by omega) (fun h => by cases h)))
  have WW3 := aside W3
  clear r0 r1 r2 r3 r4 WW W3 fr3 k3 b02
  go_wp2_with fail
  refine (bytesRef_any _ _ _ _ _ WW3.out (by have := HLEN.out; omega)).mono ?_
  rintro e w4 ⟨v4, rfl, o4, k4⟩
  have b04 : Below w.heap.size w w4 := b03.trans (k4.below b03.size (fun _ _ h => h))
  obtain ⟨va, vn, vc, rfl⟩ := own_form o4
  have O4 := aside (Joins.ownsRow_le o4 b03.size)
  clear o4 k4 WW3
  go_wp2
  go_ret2
  refine ⟨va, vn, vc, rfl, ?_, b04⟩
  rw [← HP.out]
  exact O4.out

set_option maxRecDepth 100000 in
set_option maxHeartbeats 3200000 in
theorem of_ok (a : Option Addr) (len cap : Nat) (L : List UInt8) (gk : ByteArray) (gc gn : Int) (gv : ByteArray) (gd : Bool) (p : Nat) (e q : Int) (w : World) (hR : Reads (w.alloc (.cells #[.string ⟨#[]⟩, .int .i64 0, .int .i64 0, .string ⟨#[]⟩, .bool false] 34)) (.slice a len cap) L) (hl : L.length ≤ 1073741824) (hG : getSt L 0 0 = (⟨gk, gc, gn, gv, gd⟩, p, e)) (hq : doneOf ((L.length : Int) - (p : Int)) e = q) (he : q = 0) :
    Calls Try.prog 25 #[.slice a len cap] w fun r w' => r = .returned (.tuple #[.agg #[.string gk, .int .i64 gc, .int .i64 gn, .string gv, .bool gd], .int .i64 0]) ∧ Below w.heap.size w w' := by
  subst he
  have HG := aside hG
  have HR := aside hR
  have HL := aside hl
  have HQ := aside hq
  have Z2 := aside (heap_alloc_new w (.cells #[.string ⟨#[]⟩, .int .i64 0, .int .i64 0, .string ⟨#[]⟩, .bool false] 34))
  clear hG hR hl hq
  go_enter Try.func25, Try.ntmps25
  go_wp2_with fail
  refine (newReader_any (.slice a len cap) L _ HR.out).mono ?_
  rintro r w1 ⟨rfl, hw1⟩
  have r1 : IsR (w.heap.size + 1) ⟨L.toArray⟩ ((0 : Nat) : Int) 0 w1 := by
    rw [hw1]
    have := isR_new (w.alloc (.cells #[.string ⟨#[]⟩, .int .i64 0, .int .i64 0, .string ⟨#[]⟩, .bool false] 34)) ⟨L.toArray⟩
    rw [World.size_alloc] at this
    exact this
  have b1 : Below (w.alloc (.cells #[.string ⟨#[]⟩, .int .i64 0, .int .i64 0, .string ⟨#[]⟩, .bool false] 34)).heap.size (w.alloc (.cells #[.string ⟨#[]⟩, .int .i64 0, .int .i64 0, .string ⟨#[]⟩, .bool false] 34)) w1 := by rw [hw1]; exact bnew _ _
  rw [World.size_alloc]
  obtain ⟨s, hs⟩ : ∃ s : ByteArray, s = ⟨L.toArray⟩ := ⟨_, rfl⟩
  rw [← hs] at r1
  have R1 : OneR (w.heap.size + 1) s L 0 0 w1 := ⟨r1, by rw [hs], Nat.zero_le _, by have := HL.out; omega⟩
  obtain ⟨br, hbr⟩ : ∃ br, br = w.heap.size + 1 := ⟨_, rfl⟩
  rw [← hbr] at R1
  rw [← hbr]
  have hs0 := hbr
  clear hw1 r1 hs
  have kR := aside (blk_on Z2.out b1)
  have b01 := bthen (bnew w _) b1
  replace R1 := aside R1
  have HBR := aside hbr
  clear b1 hbr hs0 Z2
  go_wp2_with fail
  refine (get_at R1.out HG.out).mono ?_
  rintro r w2 ⟨rfl, R2, k2⟩
  have kR2 := (k2.block w.heap.size (Array.getElem?_eq_some_iff.1 kR.out).1 (fun h => by have := HBR.out; omega)).trans kR.out
  have b02 : Below w.heap.size w w2 := b01.trans (k2.below b01.size (fun j hj h => by have := HBR.out; omega))
  have kR3 := aside (blk_on kR2 (bnew w2 (.cells #[.string gk, .int .i64 gc, .int .i64 gn, .string gv, .bool gd] 34)))
  have kE3 := aside (heap_alloc_new w2 (.cells #[.string gk, .int .i64 gc, .int .i64 gn, .string gv, .bool gd] 34))
  have b03 := bthen b02 (bnew w2 (.cells #[.string gk, .int .i64 gc, .int .i64 gn, .string gv, .bool gd] 34))
  have kk : Keeps (fun _ => False) w2 (w2.alloc (.cells #[.string gk, .int .i64 gc, .int .i64 gn, .string gv, .bool gd] 34)) := (Keeps.refl _ _).alloc _
  have hne2 : w.heap.size < w2.heap.size := (Array.getElem?_eq_some_iff.1 kR2).1
  have R3 := aside (R2.keep kk (fun h => h))
  clear R1 kR b01 R2 k2 kR2 b02 kk
  have hsz : (s.size : Int) = (L.length : Int) := by rw [R3.out.size]
  have hple : (p : Int) ≤ (L.length : Int) := by have := R3.out.le; omega
  have HSZ := aside hsz
  have HPL := aside hple
  clear hsz hple
  go_wp2_with fail
  refine (rdone_any br s (p : Int) e _ R3.out.code (by omega) (by rw [HSZ.out]; exact HPL.out) (by have := R3.out.small; have := R3.out.size; omega)).mono ?_
  rintro r w4 ⟨rfl, n4, hw4⟩
  rw [HSZ.out, HQ.out]
  have b04 : Below w.heap.size w w4 := by rw [hw4]; exact ⟨b03.os, b03.tape, b03.output, b03.size, b03.block⟩
  have kR4 : w4.heap[w.heap.size]? = some (.cells #[.string ⟨#[]⟩, .int .i64 0, .int .i64 0, .string ⟨#[]⟩, .bool false] 34 (0, 0)) := by rw [hw4]; exact kR3.out
  have kE4 : w4.heap[w2.heap.size]? = some (.cells #[.string gk, .int .i64 gc, .int .i64 gn, .string gv, .bool gd] 34 (0, 0)) := by rw [hw4]; exact kE3.out
  obtain ⟨⟨t0, t1, t2, t3, t4⟩, g0, g1, g2, g3, g4⟩ := quint kR4
  obtain ⟨⟨s0, s1, s2, s3, s4⟩, -⟩ := quint kE4
  clear hw4 b03 kR3 kE3 kR4 kE4 R3
  go_wp2
  refine bodyPost_ret (v := .tuple #[.agg #[.string gk, .int .i64 gc, .int .i64 gn, .string gv, .bool gd], .int .i64 0]) (by simp [results, Try.results25, go_sem, t0, t1, t2, t3, t4]) rfl ⟨rfl, ?_⟩
  exact ((((b04.setCell (p := ⟨w.heap.size, 0, none⟩) (Nat.le_refl _) _).setCell (p := ⟨w.heap.size, 1, none⟩) (Nat.le_refl _) _).setCell (p := ⟨w.heap.size, 2, none⟩) (Nat.le_refl _) _).setCell (p := ⟨w.heap.size, 3, none⟩) (Nat.le_refl _) _).setCell (p := ⟨w.heap.size, 4, none⟩) (Nat.le_refl _) _

set_option maxRecDepth 100000 in
set_option maxHeartbeats 3200000 in
theorem of_bad (a : Option Addr) (len cap : Nat) (L : List UInt8) (gk : ByteArray) (gc gn : Int) (gv : ByteArray) (gd : Bool) (p : Nat) (e q : Int) (w : World) (hR : Reads (w.alloc (.cells #[.string ⟨#[]⟩, .int .i64 0, .int .i64 0, .string ⟨#[]⟩, .bool false] 34)) (.slice a len cap) L) (hl : L.length ≤ 1073741824) (hG : getSt L 0 0 = (⟨gk, gc, gn, gv, gd⟩, p, e)) (hq : doneOf ((L.length : Int) - (p : Int)) e = q) (he : (q != 0) = true) :
    Calls Try.prog 25 #[.slice a len cap] w fun r w' => r = .returned (.tuple #[.agg #[.string ⟨#[]⟩, .int .i64 0, .int .i64 0, .string ⟨#[]⟩, .bool false], .int .i64 q]) ∧ Below w.heap.size w w' := by
  have HG := aside hG
  have HR := aside hR
  have HL := aside hl
  have HQ := aside hq
  have Z2 := aside (heap_alloc_new w (.cells #[.string ⟨#[]⟩, .int .i64 0, .int .i64 0, .string ⟨#[]⟩, .bool false] 34))
  clear hG hR hl hq
  go_enter Try.func25, Try.ntmps25
  go_wp2_with fail
  refine (newReader_any (.slice a len cap) L _ HR.out).mono ?_
  rintro r w1 ⟨rfl, hw1⟩
  have r1 : IsR (w.heap.size + 1) ⟨L.toArray⟩ ((0 : Nat) : Int) 0 w1 := by
    rw [hw1]
    have := isR_new (w.alloc (.cells #[.string ⟨#[]⟩, .int .i64 0, .int .i64 0, .string ⟨#[]⟩, .bool false] 34)) ⟨L.toArray⟩
    rw [World.size_alloc] at this
    exact this
  have b1 : Below (w.alloc (.cells #[.string ⟨#[]⟩, .int .i64 0, .int .i64 0, .string ⟨#[]⟩, .bool false] 34)).heap.size (w.alloc (.cells #[.string ⟨#[]⟩, .int .i64 0, .int .i64 0, .string ⟨#[]⟩, .bool false] 34)) w1 := by rw [hw1]; exact bnew _ _
  rw [World.size_alloc]
  obtain ⟨s, hs⟩ : ∃ s : ByteArray, s = ⟨L.toArray⟩ := ⟨_, rfl⟩
  rw [← hs] at r1
  have R1 : OneR (w.heap.size + 1) s L 0 0 w1 := ⟨r1, by rw [hs], Nat.zero_le _, by have := HL.out; omega⟩
  obtain ⟨br, hbr⟩ : ∃ br, br = w.heap.size + 1 := ⟨_, rfl⟩
  rw [← hbr] at R1
  rw [← hbr]
  have hs0 := hbr
  clear hw1 r1 hs
  have kR := aside (blk_on Z2.out b1)
  have b01 := bthen (bnew w _) b1
  replace R1 := aside R1
  have HBR := aside hbr
  clear b1 hbr hs0 Z2
  go_wp2_with fail
  refine (get_at R1.out HG.out).mono ?_
  rintro r w2 ⟨rfl, R2, k2⟩
  have kR2 := (k2.block w.heap.size (Array.getElem?_eq_some_iff.1 kR.out).1 (fun h => by have := HBR.out; omega)).trans kR.out
  have b02 : Below w.heap.size w w2 := b01.trans (k2.below b01.size (fun j hj h => by have := HBR.out; omega))
  have kR3 := aside (blk_on kR2 (bnew w2 (.cells #[.string gk, .int .i64 gc, .int .i64 gn, .string gv, .bool gd] 34)))
  have kE3 := aside (heap_alloc_new w2 (.cells #[.string gk, .int .i64 gc, .int .i64 gn, .string gv, .bool gd] 34))
  have b03 := bthen b02 (bnew w2 (.cells #[.string gk, .int .i64 gc, .int .i64 gn, .string gv, .bool gd] 34))
  have kk : Keeps (fun _ => False) w2 (w2.alloc (.cells #[.string gk, .int .i64 gc, .int .i64 gn, .string gv, .bool gd] 34)) := (Keeps.refl _ _).alloc _
  have hne2 : w.heap.size < w2.heap.size := (Array.getElem?_eq_some_iff.1 kR2).1
  have R3 := aside (R2.keep kk (fun h => h))
  clear R1 kR b01 R2 k2 kR2 b02 kk
  have hsz : (s.size : Int) = (L.length : Int) := by rw [R3.out.size]
  have hple : (p : Int) ≤ (L.length : Int) := by have := R3.out.le; omega
  have HSZ := aside hsz
  have HPL := aside hple
  clear hsz hple
  go_wp2_with fail
  refine (rdone_any br s (p : Int) e _ R3.out.code (by omega) (by rw [HSZ.out]; exact HPL.out) (by have := R3.out.small; have := R3.out.size; omega)).mono ?_
  rintro r w4 ⟨rfl, n4, hw4⟩
  rw [HSZ.out, HQ.out]
  have b04 : Below w.heap.size w w4 := by rw [hw4]; exact ⟨b03.os, b03.tape, b03.output, b03.size, b03.block⟩
  have kR4 : w4.heap[w.heap.size]? = some (.cells #[.string ⟨#[]⟩, .int .i64 0, .int .i64 0, .string ⟨#[]⟩, .bool false] 34 (0, 0)) := by rw [hw4]; exact kR3.out
  have kE4 : w4.heap[w2.heap.size]? = some (.cells #[.string gk, .int .i64 gc, .int .i64 gn, .string gv, .bool gd] 34 (0, 0)) := by rw [hw4]; exact kE3.out
  obtain ⟨⟨t0, t1, t2, t3, t4⟩, g0, g1, g2, g3, g4⟩ := quint kR4
  obtain ⟨⟨s0, s1, s2, s3, s4⟩, -⟩ := quint kE4
  clear hw4 b03 kR3 kE3 kR4 kE4 R3
  go_wp2
  refine bodyPost_ret (v := .tuple #[.agg #[.string ⟨#[]⟩, .int .i64 0, .int .i64 0, .string ⟨#[]⟩, .bool false], .int .i64 q]) (by simp [results, Try.results25, go_sem, t0, t1, t2, t3, t4]) rfl ⟨rfl, ?_⟩
  exact ((((b04.setCell (p := ⟨w.heap.size, 0, none⟩) (Nat.le_refl _) _).setCell (p := ⟨w.heap.size, 1, none⟩) (Nat.le_refl _) _).setCell (p := ⟨w.heap.size, 2, none⟩) (Nat.le_refl _) _).setCell (p := ⟨w.heap.size, 3, none⟩) (Nat.le_refl _) _).setCell (p := ⟨w.heap.size, 4, none⟩) (Nat.le_refl _) _

/-- Of, by its two answers. -/
theorem of_at {a : Option Addr} {len cap : Nat} {L : List UInt8} {R : En} {q : Int} {w : World} (hR : Reads (w.alloc (.cells #[.string ⟨#[]⟩, .int .i64 0, .int .i64 0, .string ⟨#[]⟩, .bool false] 34)) (.slice a len cap) L) (hl : L.length ≤ 1073741824) (h : ofSt L = (R, q)) :
    Calls Try.prog 25 #[.slice a len cap] w fun r w' => r = .returned (.tuple #[.agg #[.string R.k, .int .i64 R.c, .int .i64 R.n, .string R.v, .bool R.d], .int .i64 q]) ∧ Below w.heap.size w w' := by
  rcases hG : getSt L 0 0 with ⟨⟨gk, gc, gn, gv, gd⟩, p, e⟩
  unfold ofSt at h
  rw [hG] at h
  simp only at h
  split at h
  · rename_i hd
    cases h
    exact of_ok a len cap L gk gc gn gv gd p e 0 w hR hl hG hd rfl
  · rename_i hd
    cases h
    exact of_bad a len cap L gk gc gn gv gd p e _ w hR hl hG rfl (by simp [hd])

set_option maxRecDepth 100000 in
set_option maxHeartbeats 3200000 in
theorem ofRef_ok (a : Option Addr) (len cap : Nat) (L : List UInt8) (gk : ByteArray) (gc gn : Int) (gv : ByteArray) (gd : Bool) (p : Nat) (e q : Int) (w : World) (hR : ArgB w a len cap L) (hl : L.length ≤ 1073741824) (hG : getSt L 0 0 = (⟨gk, gc, gn, gv, gd⟩, p, e)) (hq : doneOf ((L.length : Int) - (p : Int)) e = q) (he : q = 0) :
    Calls Try.prog 26 #[.slice a len cap] w fun r w' => r = .returned (.tuple #[.agg #[.string gk, .int .i64 gc, .int .i64 gn, .string gv, .bool gd], .int .i64 0]) ∧ Below w.heap.size w w' := by
  subst he
  have HG := aside hG
  have HR := aside hR
  have HL := aside hl
  have HQ := aside hq
  have Z2 := aside (heap_alloc_new w (.cells #[.string ⟨#[]⟩, .int .i64 0, .int .i64 0, .string ⟨#[]⟩, .bool false] 34))
  clear hG hR hl hq
  go_enter Try.func26, Try.ntmps26
  go_wp2_with fail
  refine (newReaderRef_any a len cap L _ (HR.out.later (bnew w _)) (by have := HL.out; have := HR.out.1; omega)).mono ?_
  rintro r w1 ⟨rfl, vv, d1, k1⟩
  rw [World.size_alloc] at d1
  have b1 : Below (w.alloc (.cells #[.string ⟨#[]⟩, .int .i64 0, .int .i64 0, .string ⟨#[]⟩, .bool false] 34)).heap.size (w.alloc (.cells #[.string ⟨#[]⟩, .int .i64 0, .int .i64 0, .string ⟨#[]⟩, .bool false] 34)) w1 := k1.below (Nat.le_refl _) (fun _ _ h => h)
  rw [World.size_alloc]
  have R1 : DocR (w.heap.size + 1 + 1) (w.heap.size + 1) vv L 0 0 w1 := ⟨d1, Nat.zero_le _, by have := HL.out; omega⟩
  have FV := aside (show ∀ j, vv.ownBlock = some j → w.heap.size + 1 < j from fun j hj => by have := (d1.2.1.lt j hj).1; omega)
  obtain ⟨br, hbr⟩ : ∃ br, br = w.heap.size + 1 := ⟨_, rfl⟩
  obtain ⟨Bd, hBd⟩ : ∃ Bd, Bd = w.heap.size + 1 + 1 := ⟨_, rfl⟩
  rw [← hBd, ← hbr] at R1
  rw [← hbr]
  have hs0 := hbr
  clear d1 k1 hBd
  have kR := aside (blk_on Z2.out b1)
  have b01 := bthen (bnew w _) b1
  replace R1 := aside R1
  have HBR := aside hbr
  clear b1 hbr hs0 Z2
  go_wp2_with fail
  refine (getRef_at R1.out HG.out).mono ?_
  rintro r w2 ⟨rfl, R2, k2⟩
  have kR2 := (k2.block w.heap.size (Array.getElem?_eq_some_iff.1 kR.out).1 (fun h => by have := HBR.out; omega)).trans kR.out
  have b02 : Below w.heap.size w w2 := b01.trans (k2.below b01.size (fun j hj h => by have := HBR.out; omega))
  have kR3 := aside (blk_on kR2 (bnew w2 (.cells #[.string gk, .int .i64 gc, .int .i64 gn, .string gv, .bool gd] 34)))
  have kE3 := aside (heap_alloc_new w2 (.cells #[.string gk, .int .i64 gc, .int .i64 gn, .string gv, .bool gd] 34))
  have b03 := bthen b02 (bnew w2 (.cells #[.string gk, .int .i64 gc, .int .i64 gn, .string gv, .bool gd] 34))
  have kk : Keeps (fun _ => False) w2 (w2.alloc (.cells #[.string gk, .int .i64 gc, .int .i64 gn, .string gv, .bool gd] 34)) := (Keeps.refl _ _).alloc _
  have hne2 : w.heap.size < w2.heap.size := (Array.getElem?_eq_some_iff.1 kR2).1
  have R3 := aside (R2.keep kk (fun h => h) (fun _ _ h => h))
  clear R1 kR b01 R2 k2 kR2 b02 kk
  have hple : (p : Int) ≤ (L.length : Int) := by have := R3.out.le; omega
  have HPL := aside hple
  clear hple
  go_wp2_with fail
  refine (rrdone_any Bd br vv L (p : Int) e _ R3.out.doc (by omega) HPL.out R3.out.small).mono ?_
  rintro r w4 ⟨rfl, n4, hw4⟩
  rw [HQ.out]
  have b04 : Below w.heap.size w w4 := by rw [hw4]; exact ⟨b03.os, b03.tape, b03.output, b03.size, b03.block⟩
  have kR4 : w4.heap[w.heap.size]? = some (.cells #[.string ⟨#[]⟩, .int .i64 0, .int .i64 0, .string ⟨#[]⟩, .bool false] 34 (0, 0)) := by rw [hw4]; exact kR3.out
  have kE4 : w4.heap[w2.heap.size]? = some (.cells #[.string gk, .int .i64 gc, .int .i64 gn, .string gv, .bool gd] 34 (0, 0)) := by rw [hw4]; exact kE3.out
  obtain ⟨⟨t0, t1, t2, t3, t4⟩, g0, g1, g2, g3, g4⟩ := quint kR4
  obtain ⟨⟨s0, s1, s2, s3, s4⟩, -⟩ := quint kE4
  clear hw4 b03 kR3 kE3 kR4 kE4 R3
  go_wp2
  refine bodyPost_ret (v := .tuple #[.agg #[.string gk, .int .i64 gc, .int .i64 gn, .string gv, .bool gd], .int .i64 0]) (by simp [results, Try.results26, go_sem, t0, t1, t2, t3, t4]) rfl ⟨rfl, ?_⟩
  exact ((((b04.setCell (p := ⟨w.heap.size, 0, none⟩) (Nat.le_refl _) _).setCell (p := ⟨w.heap.size, 1, none⟩) (Nat.le_refl _) _).setCell (p := ⟨w.heap.size, 2, none⟩) (Nat.le_refl _) _).setCell (p := ⟨w.heap.size, 3, none⟩) (Nat.le_refl _) _).setCell (p := ⟨w.heap.size, 4, none⟩) (Nat.le_refl _) _

set_option maxRecDepth 100000 in
set_option maxHeartbeats 3200000 in
theorem ofRef_bad (a : Option Addr) (len cap : Nat) (L : List UInt8) (gk : ByteArray) (gc gn : Int) (gv : ByteArray) (gd : Bool) (p : Nat) (e q : Int) (w : World) (hR : ArgB w a len cap L) (hl : L.length ≤ 1073741824) (hG : getSt L 0 0 = (⟨gk, gc, gn, gv, gd⟩, p, e)) (hq : doneOf ((L.length : Int) - (p : Int)) e = q) (he : (q != 0) = true) :
    Calls Try.prog 26 #[.slice a len cap] w fun r w' => r = .returned (.tuple #[.agg #[.string ⟨#[]⟩, .int .i64 0, .int .i64 0, .string ⟨#[]⟩, .bool false], .int .i64 q]) ∧ Below w.heap.size w w' := by
  have HG := aside hG
  have HR := aside hR
  have HL := aside hl
  have HQ := aside hq
  have Z2 := aside (heap_alloc_new w (.cells #[.string ⟨#[]⟩, .int .i64 0, .int .i64 0, .string ⟨#[]⟩, .bool false] 34))
  clear hG hR hl hq
  go_enter Try.func26, Try.ntmps26
  go_wp2_with fail
  refine (newReaderRef_any a len cap L _ (HR.out.later (bnew w _)) (by have := HL.out; have := HR.out.1; omega)).mono ?_
  rintro r w1 ⟨rfl, vv, d1, k1⟩
  rw [World.size_alloc] at d1
  have b1 : Below (w.alloc (.cells #[.string ⟨#[]⟩, .int .i64 0, .int .i64 0, .string ⟨#[]⟩, .bool false] 34)).heap.size (w.alloc (.cells #[.string ⟨#[]⟩, .int .i64 0, .int .i64 0, .string ⟨#[]⟩, .bool false] 34)) w1 := k1.below (Nat.le_refl _) (fun _ _ h => h)
  rw [World.size_alloc]
  have R1 : DocR (w.heap.size + 1 + 1) (w.heap.size + 1) vv L 0 0 w1 := ⟨d1, Nat.zero_le _, by have := HL.out; omega⟩
  have FV := aside (show ∀ j, vv.ownBlock = some j → w.heap.size + 1 < j from fun j hj => by have := (d1.2.1.lt j hj).1; omega)
  obtain ⟨br, hbr⟩ : ∃ br, br = w.heap.size + 1 := ⟨_, rfl⟩
  obtain ⟨Bd, hBd⟩ : ∃ Bd, Bd = w.heap.size + 1 + 1 := ⟨_, rfl⟩
  rw [← hBd, ← hbr] at R1
  rw [← hbr]
  have hs0 := hbr
  clear d1 k1 hBd
  have kR := aside (blk_on Z2.out b1)
  have b01 := bthen (bnew w _) b1
  replace R1 := aside R1
  have HBR := aside hbr
  clear b1 hbr hs0 Z2
  go_wp2_with fail
  refine (getRef_at R1.out HG.out).mono ?_
  rintro r w2 ⟨rfl, R2, k2⟩
  have kR2 := (k2.block w.heap.size (Array.getElem?_eq_some_iff.1 kR.out).1 (fun h => by have := HBR.out; omega)).trans kR.out
  have b02 : Below w.heap.size w w2 := b01.trans (k2.below b01.size (fun j hj h => by have := HBR.out; omega))
  have kR3 := aside (blk_on kR2 (bnew w2 (.cells #[.string gk, .int .i64 gc, .int .i64 gn, .string gv, .bool gd] 34)))
  have kE3 := aside (heap_alloc_new w2 (.cells #[.string gk, .int .i64 gc, .int .i64 gn, .string gv, .bool gd] 34))
  have b03 := bthen b02 (bnew w2 (.cells #[.string gk, .int .i64 gc, .int .i64 gn, .string gv, .bool gd] 34))
  have kk : Keeps (fun _ => False) w2 (w2.alloc (.cells #[.string gk, .int .i64 gc, .int .i64 gn, .string gv, .bool gd] 34)) := (Keeps.refl _ _).alloc _
  have hne2 : w.heap.size < w2.heap.size := (Array.getElem?_eq_some_iff.1 kR2).1
  have R3 := aside (R2.keep kk (fun h => h) (fun _ _ h => h))
  clear R1 kR b01 R2 k2 kR2 b02 kk
  have hple : (p : Int) ≤ (L.length : Int) := by have := R3.out.le; omega
  have HPL := aside hple
  clear hple
  go_wp2_with fail
  refine (rrdone_any Bd br vv L (p : Int) e _ R3.out.doc (by omega) HPL.out R3.out.small).mono ?_
  rintro r w4 ⟨rfl, n4, hw4⟩
  rw [HQ.out]
  have b04 : Below w.heap.size w w4 := by rw [hw4]; exact ⟨b03.os, b03.tape, b03.output, b03.size, b03.block⟩
  have kR4 : w4.heap[w.heap.size]? = some (.cells #[.string ⟨#[]⟩, .int .i64 0, .int .i64 0, .string ⟨#[]⟩, .bool false] 34 (0, 0)) := by rw [hw4]; exact kR3.out
  have kE4 : w4.heap[w2.heap.size]? = some (.cells #[.string gk, .int .i64 gc, .int .i64 gn, .string gv, .bool gd] 34 (0, 0)) := by rw [hw4]; exact kE3.out
  obtain ⟨⟨t0, t1, t2, t3, t4⟩, g0, g1, g2, g3, g4⟩ := quint kR4
  obtain ⟨⟨s0, s1, s2, s3, s4⟩, -⟩ := quint kE4
  clear hw4 b03 kR3 kE3 kR4 kE4 R3
  go_wp2
  refine bodyPost_ret (v := .tuple #[.agg #[.string ⟨#[]⟩, .int .i64 0, .int .i64 0, .string ⟨#[]⟩, .bool false], .int .i64 q]) (by simp [results, Try.results26, go_sem, t0, t1, t2, t3, t4]) rfl ⟨rfl, ?_⟩
  exact ((((b04.setCell (p := ⟨w.heap.size, 0, none⟩) (Nat.le_refl _) _).setCell (p := ⟨w.heap.size, 1, none⟩) (Nat.le_refl _) _).setCell (p := ⟨w.heap.size, 2, none⟩) (Nat.le_refl _) _).setCell (p := ⟨w.heap.size, 3, none⟩) (Nat.le_refl _) _).setCell (p := ⟨w.heap.size, 4, none⟩) (Nat.le_refl _) _

/-- Of, by its two answers. -/
theorem ofRef_at {a : Option Addr} {len cap : Nat} {L : List UInt8} {R : En} {q : Int} {w : World} (hR : ArgB w a len cap L) (hl : L.length ≤ 1073741824) (h : ofSt L = (R, q)) :
    Calls Try.prog 26 #[.slice a len cap] w fun r w' => r = .returned (.tuple #[.agg #[.string R.k, .int .i64 R.c, .int .i64 R.n, .string R.v, .bool R.d], .int .i64 q]) ∧ Below w.heap.size w w' := by
  rcases hG : getSt L 0 0 with ⟨⟨gk, gc, gn, gv, gd⟩, p, e⟩
  unfold ofSt at h
  rw [hG] at h
  simp only at h
  split at h
  · rename_i hd
    cases h
    exact ofRef_ok a len cap L gk gc gn gv gd p e 0 w hR hl hG hd rfl
  · rename_i hd
    cases h
    exact ofRef_bad a len cap L gk gc gn gv gd p e _ w hR hl hG rfl (by simp [hd])

end Go.Proofs.Ytnjbglnkhgholaa
