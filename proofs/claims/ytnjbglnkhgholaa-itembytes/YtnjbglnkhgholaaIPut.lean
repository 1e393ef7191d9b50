/-
  Put, the code's and the document's own: an entry that may be lays its bytes down, another one nothing; nothing turned but the writer.
-/
import Derived.Test.YtnjbglnkhgholaaIBox
import Derived.Test.YtnjbglnkhgholaaWTextRef
namespace Go.Proofs.Ytnjbglnkhgholaa
open Go.RowKit
set_option linter.unusedVariables false

/-- An entry's bytes. -/
def entB (e : En) : List UInt8 := Nm.enc 8 e.k.size ++ e.k.data.toList ++ Nm.enc 8 (up e.c) ++ Nm.enc 8 (up e.n) ++ flagB e.d ++ (bif e.d then [] else Nm.enc 8 e.v.size ++ e.v.data.toList)
/-- What Put lays down. -/
def putB (e : En) : List UInt8 := if e.chk = 0 then entB e else []
theorem putB_yes {e : En} (h : e.chk = 0) : putB e = entB e := if_pos h
theorem putB_no {e : En} (h : e.chk ≠ 0) : putB e = [] := if_neg h

theorem En.ok_parts {k : ByteArray} {c n : Int} {v : ByteArray} {d : Bool} (h : En.chk ⟨k, c, n, v, d⟩ = 0) : k.size ≤ 16 ∧ 1 ≤ c ∧ c ≤ 1099511627776 ∧ 0 ≤ n ∧ n ≤ 7 ∧ v.size ≤ 32 := by
  unfold En.chk at h
  simp only at h
  split at h
  · omega
  · split at h
    · omega
    · rename_i h1 h2
      split at h
      · omega
      · rename_i h3
        have hc : Vs.chk c n = 0 := Classical.byContradiction h2
        unfold Vs.chk at hc
        split at hc
        · omega
        · rename_i h4
          omega

theorem notrow {w w1 : World} {g g' : Option Nat} (fr : Fresh w1 g g') (hg : ∀ j, g = some j → j < w.heap.size) (hlt : w.heap.size < w1.heap.size) (h : g' = some w.heap.size) : False := by
  rcases fr with rfl | ⟨k, hk, hle⟩
  · have := hg _ h; omega
  · rw [h] at hk; cases hk; omega

theorem Fresh.later {w w1 : World} {g g' : Option Nat} (fr : Fresh w1 g g') (h : w.heap.size ≤ w1.heap.size) : Fresh w g g' := by
  rcases fr with rfl | ⟨k, hk, hle⟩
  · exact .inl rfl
  · exact .inr ⟨k, hk, Nat.le_trans h hle⟩

set_option maxRecDepth 100000 in
set_option maxHeartbeats 3200000 in
theorem put_no (B b : Nat) (g : Option Nat) (l : List UInt8) (k : ByteArray) (c n : Int) (v : ByteArray) (d : Bool) (w : World) (hW : IsW 64 B b g l w) (q : Int) (hq : En.chk ⟨k, c, n, v, d⟩ = q) (hne : q ≠ 0) :
    Calls Try.prog 30 #[.pointer (some ⟨b, 0, none⟩), .agg #[.string k, .int .i64 c, .int .i64 n, .string v, .bool d]] w fun e w' => e = .returned (.tuple #[]) ∧ IsW 64 B b g l w' ∧ Below w.heap.size w w' := by
  have C := aside (fun w => check_is hq w)
  have he : (q != 0) = true := by simp [hne]
  have HW := aside hW
  clear hq hne hW
  go_enter Try.func30, Try.ntmps30
  go_wp2_with fail
  refine (C.out _).mono ?_
  rintro e w1 ⟨rfl, b1⟩
  have b0 := bthen (bnew w _) b1
  clear b1
  go_wp2
  refine bodyPost_ret (results_none rfl _ _ _) rfl ?_
  exact ⟨rfl, HW.out.keep (Keeps.of_below b0 (fun _ => False)) (fun h => h) (fun _ _ h => h), b0⟩

set_option maxRecDepth 100000 in
set_option maxHeartbeats 6400000 in
theorem put_yes (B b : Nat) (g : Option Nat) (l : List UInt8) (k : ByteArray) (c n : Int) (v : ByteArray) (d : Bool) (w : World) (hW : IsW 64 B b g l w) (hB : B ≤ w.heap.size) (hl : l.length ≤ 17592186044416) (hq : En.chk ⟨k, c, n, v, d⟩ = 0) :
    Calls Try.prog 30 #[.pointer (some ⟨b, 0, none⟩), .agg #[.string k, .int .i64 c, .int .i64 n, .string v, .bool d]] w fun e w' => e = .returned (.tuple #[]) ∧
      ∃ g', IsW 64 B b g' (l ++ entB ⟨k, c, n, v, d⟩) w' ∧ Fresh w g g' ∧ Keeps (fun k => k = b ∨ g = some k) w w' := by
  have C := aside (fun w => check_is hq w)
  obtain ⟨hk16, hc1, hc2, hn1, hn2, hv32⟩ := En.ok_parts hq
  have HW := aside hW
  have hbw := hW.lt
  have hgw := fun j (h : g = some j) => (hW.row j h).2
  have HG := aside hgw
  have HK := aside hk16
  have HV := aside hv32
  have HC := aside (And.intro hc1 (And.intro hc2 (And.intro hn1 hn2)))
  have HL := aside hl
  have HBW := aside hbw
  clear hq hW hgw hk16 hv32 hc1 hc2 hn1 hn2 hl hbw
  go_enter Try.func30, Try.ntmps30
  go_wp2_with fail
  refine (C.out _).mono ?_
  rintro e w1 ⟨rfl, b1⟩
  have kA := blk_on (heap_alloc_new w (.cells #[.string k, .int .i64 c, .int .i64 n, .string v, .bool d] 34)) b1
  have b01 := bthen (bnew w _) b1
  have W1 := HW.out.keep (Keeps.of_below b01 (fun _ => False)) (fun h => h) (fun _ _ h => h)
  have k01 : Keeps (fun k => k = b ∨ g = some k) w w1 := Keeps.of_below b01 _
  have K01 := aside k01
  have hlt : w.heap.size < w1.heap.size := (Array.getElem?_eq_some_iff.1 kA).1
  have HLT := aside hlt
  have hB1 : B ≤ w1.heap.size := Nat.le_trans hB b01.size
  obtain ⟨⟨r0, r1, r2, r3, r4⟩, -⟩ := quint kA
  have KA := aside kA
  have WW := aside W1
  have F0 := aside (show Fresh w1 g g from .inl rfl)
  have KK := aside (Keeps.refl (fun k => k = b ∨ g = some k) w1)
  clear b1 kA b01 W1 k01 HW C hlt
  go_wp2_with fail
  refine (wtext_any B b g l k _ WW.out hB1 (by have := HL.out; omega) (by have := HK.out; omega)).mono ?_
  rintro e w2 ⟨rfl, g1, W2, fr2, k2⟩
  have kA := (k2.block w.heap.size (Array.getElem?_eq_some_iff.1 KA.out).1 (fun h => h.elim (fun h => by have := HBW.out; omega) (fun h => notrow F0.out HG.out HLT.out h))).trans KA.out
  have kk := KK.out.step F0.out k2
  have ff := F0.out.trans fr2 KK.out.size
  have hB2 : B ≤ w2.heap.size := Nat.le_trans hB1 k2.size
  obtain ⟨l1, hl1⟩ : ∃ m, l ++ (Nm.enc 8 k.size ++ k.data.toList) = m := ⟨_, rfl⟩
  rw [hl1] at W2
  have LL1 : Hid (l1.length ≤ l.length + 41) := by
    show l1.length ≤ l.length + 41
    rw [← hl1]
    simp only [List.length_append]
    have e1 := Nm.enc_length 8 k.size
    have e2 := HK.out
    have e3 : k.data.toList.length = k.size := by show k.data.toList.length = k.data.size; simp
    omega
  have HL1 := aside hl1
  clear r0 r1 r2 r3 r4 KA WW F0 KK hB1 hl1 fr2 k2
  obtain ⟨⟨r0, r1, r2, r3, r4⟩, -⟩ := quint kA
  have KA := aside kA
  have WW := aside W2
  have F0 := aside ff
  have KK := aside kk
  have hB1 := hB2
  clear kA W2 ff kk hB2
  go_wp2_with fail
  refine (wnum_any B b g1 l1 c _ WW.out hB1 (by have := HC.out; omega) (by have := HC.out; omega) (by have := HL.out; have := LL1.out; omega)).mono ?_
  rintro e w3 ⟨rfl, g2, W3, fr3, k3⟩
  have kA := (k3.block w.heap.size (Array.getElem?_eq_some_iff.1 KA.out).1 (fun h => h.elim (fun h => by have := HBW.out; omega) (fun h => notrow F0.out HG.out HLT.out h))).trans KA.out
  have kk := KK.out.step F0.out k3
  have ff := F0.out.trans fr3 KK.out.size
  have hB2 : B ≤ w3.heap.size := Nat.le_trans hB1 k3.size
  obtain ⟨l2, hl2⟩ : ∃ m, l1 ++ Nm.enc 8 (up c) = m := ⟨_, rfl⟩
  rw [hl2] at W3
  have LL2 : Hid (l2.length ≤ l.length + 51) := by
    show l2.length ≤ l.length + 51
    rw [← hl2]
    simp only [List.length_append]
    have := Nm.enc_length 8 (up c)
    have := LL1.out; omega
  have HL2 := aside hl2
  clear r0 r1 r2 r3 r4 KA WW F0 KK hB1 hl2 fr3 k3
  obtain ⟨⟨r0, r1, r2, r3, r4⟩, -⟩ := quint kA
  have KA := aside kA
  have WW := aside W3
  have F0 := aside ff
  have KK := aside kk
  have hB1 := hB2
  clear kA W3 ff kk hB2
  go_wp2_with fail
  refine (wnum_any B b g2 l2 n _ WW.out hB1 (by have := HC.out; omega) (by have := HC.out; omega) (by have := HL.out; have := LL2.out; omega)).mono ?_
  rintro e w4 ⟨rfl, g3, W4, fr4, k4⟩
  have kA := (k4.block w.heap.size (Array.getElem?_eq_some_iff.1 KA.out).1 (fun h => h.elim (fun h => by have := HBW.out; omega) (fun h => notrow F0.out HG.out HLT.out h))).trans KA.out
  have kk := KK.out.step F0.out k4
  have ff := F0.out.trans fr4 KK.out.size
  have hB2 : B ≤ w4.heap.size := Nat.le_trans hB1 k4.size
  obtain ⟨l3, hl3⟩ : ∃ m, l2 ++ Nm.enc 8 (up n) = m := ⟨_, rfl⟩
  rw [hl3] at W4
  have LL3 : Hid (l3.length ≤ l.length + 61) := by
    show l3.length ≤ l.length + 61
    rw [← hl3]
    simp only [List.length_append]
    have := Nm.enc_length 8 (up n)
    have := LL2.out; omega
  have HL3 := aside hl3
  clear r0 r1 r2 r3 r4 KA WW F0 KK hB1 hl3 fr4 k4
  obtain ⟨⟨r0, r1, r2, r3, r4⟩, -⟩ := quint kA
  have KA := aside kA
  have WW := aside W4
  have F0 := aside ff
  have KK := aside kk
  have hB1 := hB2
  clear kA W4 ff kk hB2
  go_wp2_with fail
  refine (wflag_any B b g3 l3 d _ WW.out hB1 (by have := HL.out; have := LL3.out; omega)).mono ?_
  rintro e w5 ⟨rfl, g4, W5, fr5, k5⟩
  have kA := (k5.block w.heap.size (Array.getElem?_eq_some_iff.1 KA.out).1 (fun h => h.elim (fun h => by have := HBW.out; omega) (fun h => notrow F0.out HG.out HLT.out h))).trans KA.out
  have kk := KK.out.step F0.out k5
  have ff := F0.out.trans fr5 KK.out.size
  have hB2 : B ≤ w5.heap.size := Nat.le_trans hB1 k5.size
  obtain ⟨l4, hl4⟩ : ∃ m, l3 ++ flagB d = m := ⟨_, rfl⟩
  rw [hl4] at W5
  have LL4 : Hid (l4.length ≤ l.length + 62) := by
    show l4.length ≤ l.length + 62
    rw [← hl4]
    simp only [List.length_append]
    have : (flagB d).length = 1 := rfl
    have := LL3.out; omega
  have HL4 := aside hl4
  clear r0 r1 r2 r3 r4 KA WW F0 KK hB1 hl4 fr5 k5
  obtain ⟨⟨r0, r1, r2, r3, r4⟩, -⟩ := quint kA
  have KA := aside kA
  have WW := aside W5
  have F0 := aside ff
  have KK := aside kk
  have hB1 := hB2
  clear kA W5 ff kk hB2
  cases d
  · go_wp2_with fail
    refine (wtext_any B b g4 l4 v _ WW.out hB1 (by have := HL.out; have := LL4.out; omega) (by have := HV.out; omega)).mono ?_
    rintro e w6 ⟨rfl, g5, W6, fr6, k6⟩
    have kk := KK.out.step F0.out k6
    have ff := F0.out.trans fr6 KK.out.size
    clear r0 r1 r2 r3 r4 KA F0 KK k6 fr6
    go_wp2
    go_end0
    refine ⟨rfl, _, W6.of_len ?_, ff.later K01.out.size, K01.out.trans kk⟩
    rw [← HL4.out, ← HL3.out, ← HL2.out, ← HL1.out]
    simp [entB, List.append_assoc]
  · go_wp2
    go_end0
    refine ⟨rfl, _, WW.out.of_len ?_, F0.out.later K01.out.size, K01.out.trans KK.out⟩
    rw [← HL4.out, ← HL3.out, ← HL2.out, ← HL1.out]
    simp [entB, List.append_assoc]

theorem put_any (B b : Nat) (g : Option Nat) (l : List UInt8) (k : ByteArray) (c n : Int) (v : ByteArray) (d : Bool) (w : World) (hW : IsW 64 B b g l w) (hB : B ≤ w.heap.size) (hl : l.length ≤ 17592186044416) :
    Calls Try.prog 30 #[.pointer (some ⟨b, 0, none⟩), .agg #[.string k, .int .i64 c, .int .i64 n, .string v, .bool d]] w fun e w' => e = .returned (.tuple #[]) ∧
      ∃ g', IsW 64 B b g' (l ++ putB ⟨k, c, n, v, d⟩) w' ∧ Fresh w g g' ∧ Keeps (fun k => k = b ∨ g = some k) w w' := by
  by_cases hq : En.chk ⟨k, c, n, v, d⟩ = 0
  · rw [putB_yes hq]
    exact put_yes B b g l k c n v d w hW hB hl hq
  · rw [putB_no hq, List.append_nil]
    exact (put_no B b g l k c n v d w hW _ rfl hq).mono (by rintro e w' ⟨rfl, h1, h2⟩; exact ⟨rfl, g, h1, .inl rfl, Keeps.of_below h2 _⟩)

set_option maxRecDepth 100000 in
set_option maxHeartbeats 3200000 in
theorem putRef_no (B b : Nat) (g : Option Nat) (l : List UInt8) (k : ByteArray) (c n : Int) (v : ByteArray) (d : Bool) (w : World) (hW : IsW 70 B b g l w) (q : Int) (hq : En.chk ⟨k, c, n, v, d⟩ = q) (hne : q ≠ 0) :
    Calls Try.prog 33 #[.pointer (some ⟨b, 0, none⟩), .agg #[.string k, .int .i64 c, .int .i64 n, .string v, .bool d]] w fun e w' => e = .returned (.tuple #[]) ∧ IsW 70 B b g l w' ∧ Below w.heap.size w w' := by
  have C := aside (fun w => checkRef_is hq w)
  have he : (q != 0) = true := by simp [hne]
  have HW := aside hW
  clear hq hne hW
  go_enter Try.func33, Try.ntmps33
  go_wp2_with fail
  refine (C.out _).mono ?_
  rintro e w1 ⟨rfl, b1⟩
  have b0 := bthen (bnew w _) b1
  clear b1
  go_wp2
  refine bodyPost_ret (results_none rfl _ _ _) rfl ?_
  exact ⟨rfl, HW.out.keep (Keeps.of_below b0 (fun _ => False)) (fun h => h) (fun _ _ h => h), b0⟩

set_option maxRecDepth 100000 in
set_option maxHeartbeats 6400000 in
theorem putRef_yes (B b : Nat) (g : Option Nat) (l : List UInt8) (k : ByteArray) (c n : Int) (v : ByteArray) (d : Bool) (w : World) (hW : IsW 70 B b g l w) (hB : B ≤ w.heap.size) (hl : l.length ≤ 17592186044416) (hq : En.chk ⟨k, c, n, v, d⟩ = 0) :
    Calls Try.prog 33 #[.pointer (some ⟨b, 0, none⟩), .agg #[.string k, .int .i64 c, .int .i64 n, .string v, .bool d]] w fun e w' => e = .returned (.tuple #[]) ∧
      ∃ g', IsW 70 B b g' (l ++ entB ⟨k, c, n, v, d⟩) w' ∧ Fresh w g g' ∧ Keeps (fun k => k = b ∨ g = some k) w w' := by
  have C := aside (fun w => checkRef_is hq w)
  obtain ⟨hk16, hc1, hc2, hn1, hn2, hv32⟩ := En.ok_parts hq
  have HW := aside hW
  have hbw := hW.lt
  have hgw := fun j (h : g = some j) => (hW.row j h).2
  have HG := aside hgw
  have HK := aside hk16
  have HV := aside hv32
  have HC := aside (And.intro hc1 (And.intro hc2 (And.intro hn1 hn2)))
  have HL := aside hl
  have HBW := aside hbw
  clear hq hW hgw hk16 hv32 hc1 hc2 hn1 hn2 hl hbw
  go_enter Try.func33, Try.ntmps33
  go_wp2_with fail
  refine (C.out _).mono ?_
  rintro e w1 ⟨rfl, b1⟩
  have kA := blk_on (heap_alloc_new w (.cells #[.string k, .int .i64 c, .int .i64 n, .string v, .bool d] 34)) b1
  have b01 := bthen (bnew w _) b1
  have W1 := HW.out.keep (Keeps.of_below b01 (fun _ => False)) (fun h => h) (fun _ _ h => h)
  have k01 : Keeps (fun k => k = b ∨ g = some k) w w1 := Keeps.of_below b01 _
  have K01 := aside k01
  have hlt : w.heap.size < w1.heap.size := (Array.getElem?_eq_some_iff.1 kA).1
  have HLT := aside hlt
  have hB1 : B ≤ w1.heap.size := Nat.le_trans hB b01.size
  obtain ⟨⟨r0, r1, r2, r3, r4⟩, -⟩ := quint kA
  have KA := aside kA
  have WW := aside W1
  have F0 := aside (show Fresh w1 g g from .inl rfl)
  have KK := aside (Keeps.refl (fun k => k = b ∨ g = some k) w1)
  clear b1 kA b01 W1 k01 HW C hlt
  go_wp2_with fail
  refine (wtextRef_any B b g l k _ WW.out hB1 (by have := HL.out; omega) (by have := HK.out; omega)).mono ?_
  rintro e w2 ⟨rfl, g1, W2, fr2, k2⟩
  have kA := (k2.block w.heap.size (Array.getElem?_eq_some_iff.1 KA.out).1 (fun h => h.elim (fun h => by have := HBW.out; omega) (fun h => notrow F0.out HG.out HLT.out h))).trans KA.out
  have kk := KK.out.step F0.out k2
  have ff := F0.out.trans fr2 KK.out.size
  have hB2 : B ≤ w2.heap.size := Nat.le_trans hB1 k2.size
  obtain ⟨l1, hl1⟩ : ∃ m, l ++ (Nm.enc 8 k.size ++ k.data.toList) = m := ⟨_, rfl⟩
  rw [hl1] at W2
  have LL1 : Hid (l1.length ≤ l.length + 41) := by
    show l1.length ≤ l.length + 41
    rw [← hl1]
    simp only [List.length_append]
    have e1 := Nm.enc_length 8 k.size
    have e2 := HK.out
    have e3 : k.data.toList.length = k.size := by show k.data.toList.length = k.data.size; simp
    omega
  have HL1 := aside hl1
  clear r0 r1 r2 r3 r4 KA WW F0 KK hB1 hl1 fr2 k2
  obtain ⟨⟨r0, r1, r2, r3, r4⟩, -⟩ := quint kA
  have KA := aside kA
  have WW := aside W2
  have F0 := aside ff
  have KK := aside kk
  have hB1 := hB2
  clear kA W2 ff kk hB2
  go_wp2_with fail
  refine (wnumRef_any B b g1 l1 c _ WW.out hB1 (by have := HC.out; omega) (by have := HC.out; omega) (by have := HL.out; have := LL1.out; omega)).mono ?_
  rintro e w3 ⟨rfl, g2, W3, fr3, k3⟩
  have kA := (k3.block w.heap.size (Array.getElem?_eq_some_iff.1 KA.out).1 (fun h => h.elim (fun h => by have := HBW.out; omega) (fun h => notrow F0.out HG.out HLT.out h))).trans KA.out
  have kk := KK.out.step F0.out k3
  have ff := F0.out.trans fr3 KK.out.size
  have hB2 : B ≤ w3.heap.size := Nat.le_trans hB1 k3.size
  obtain ⟨l2, hl2⟩ : ∃ m, l1 ++ Nm.enc 8 (up c) = m := ⟨_, rfl⟩
  rw [hl2] at W3
  have LL2 : Hid (l2.length ≤ l.length + 51) := by
    show l2.length ≤ l.length + 51
    rw [← hl2]
    simp only [List.length_append]
    have := Nm.enc_length 8 (up c)
    have := LL1.out; omega
  have HL2 := aside hl2
  clear r0 r1 r2 r3 r4 KA WW F0 KK hB1 hl2 fr3 k3
  obtain ⟨⟨r0, r1, r2, r3, r4⟩, -⟩ := quint kA
  have KA := aside kA
  have WW := aside W3
  have F0 := aside ff
  have KK := aside kk
  have hB1 := hB2
  clear kA W3 ff kk hB2
  go_wp2_with fail
  refine (wnumRef_any B b g2 l2 n _ WW.out hB1 (by have := HC.out; omega) (by have := HC.out; omega) (by have := HL.out; have := LL2.out; omega)).mono ?_
  rintro e w4 ⟨rfl, g3, W4, fr4, k4⟩
  have kA := (k4.block w.heap.size (Array.getElem?_eq_some_iff.1 KA.out).1 (fun h => h.elim (fun h => by have := HBW.out; omega) (fun h => notrow F0.out HG.out HLT.out h))).trans KA.out
  have kk := KK.out.step F0.out k4
  have ff := F0.out.trans fr4 KK.out.size
  have hB2 : B ≤ w4.heap.size := Nat.le_trans hB1 k4.size
  obtain ⟨l3, hl3⟩ : ∃ m, l2 ++ Nm.enc 8 (up n) = m := ⟨_, rfl⟩
  rw [hl3] at W4
  have LL3 : Hid (l3.length ≤ l.length + 61) := by
    show l3.length ≤ l.length + 61
    rw [← hl3]
    simp only [List.length_append]
    have := Nm.enc_length 8 (up n)
    have := LL2.out; omega
  have HL3 := aside hl3
  clear r0 r1 r2 r3 r4 KA WW F0 KK hB1 hl3 fr4 k4
  obtain ⟨⟨r0, r1, r2, r3, r4⟩, -⟩ := quint kA
  have KA := aside kA
  have WW := aside W4
  have F0 := aside ff
  have KK := aside kk
  have hB1 := hB2
  clear kA W4 ff kk hB2
  go_wp2_with fail
  refine (wflagRef_any B b g3 l3 d _ WW.out hB1 (by have := HL.out; have := LL3.out; omega)).mono ?_
  rintro e w5 ⟨rfl, g4, W5, fr5, k5⟩
  have kA := (k5.block w.heap.size (Array.getElem?_eq_some_iff.1 KA.out).1 (fun h => h.elim (fun h => by have := HBW.out; omega) (fun h => notrow F0.out HG.out HLT.out h))).trans KA.out
  have kk := KK.out.step F0.out k5
  have ff := F0.out.trans fr5 KK.out.size
  have hB2 : B ≤ w5.heap.size := Nat.le_trans hB1 k5.size
  obtain ⟨l4, hl4⟩ : ∃ m, l3 ++ flagB d = m := ⟨_, rfl⟩
  rw [hl4] at W5
  have LL4 : Hid (l4.length ≤ l.length + 62) := by
    show l4.length ≤ l.length + 62
    rw [← hl4]
    simp only [List.length_append]
    have : (flagB d).length = 1 := rfl
    have := LL3.out; omega
  have HL4 := aside hl4
  clear r0 r1 r2 r3 r4 KA WW F0 KK hB1 hl4 fr5 k5
  obtain ⟨⟨r0, r1, r2, r3, r4⟩, -⟩ := quint kA
  have KA := aside kA
  have WW := aside W5
  have F0 := aside ff
  have KK := aside kk
  have hB1 := hB2
  clear kA W5 ff kk hB2
  cases d
  · go_wp2_with fail
    refine (wtextRef_any B b g4 l4 v _ WW.out hB1 (by have := HL.out; have := LL4.out; omega) (by have := HV.out; omega)).mono ?_
    rintro e w6 ⟨rfl, g5, W6, fr6, k6⟩
    have kk := KK.out.step F0.out k6
    have ff := F0.out.trans fr6 KK.out.size
    clear r0 r1 r2 r3 r4 KA F0 KK k6 fr6
    go_wp2
    go_end0
    refine ⟨rfl, _, W6.of_len ?_, ff.later K01.out.size, K01.out.trans kk⟩
    rw [← HL4.out, ← HL3.out, ← HL2.out, ← HL1.out]
    simp [entB, List.append_assoc]
  · go_wp2
    go_end0
    refine ⟨rfl, _, WW.out.of_len ?_, F0.out.later K01.out.size, K01.out.trans KK.out⟩
    rw [← HL4.out, ← HL3.out, ← HL2.out, ← HL1.out]
    simp [entB, List.append_assoc]

theorem putRef_any (B b : Nat) (g : Option Nat) (l : List UInt8) (k : ByteArray) (c n : Int) (v : ByteArray) (d : Bool) (w : World) (hW : IsW 70 B b g l w) (hB : B ≤ w.heap.size) (hl : l.length ≤ 17592186044416) :
    Calls Try.prog 33 #[.pointer (some ⟨b, 0, none⟩), .agg #[.string k, .int .i64 c, .int .i64 n, .string v, .bool d]] w fun e w' => e = .returned (.tuple #[]) ∧
      ∃ g', IsW 70 B b g' (l ++ putB ⟨k, c, n, v, d⟩) w' ∧ Fresh w g g' ∧ Keeps (fun k => k = b ∨ g = some k) w w' := by
  by_cases hq : En.chk ⟨k, c, n, v, d⟩ = 0
  · rw [putB_yes hq]
    exact putRef_yes B b g l k c n v d w hW hB hl hq
  · rw [putB_no hq, List.append_nil]
    exact (putRef_no B b g l k c n v d w hW _ rfl hq).mono (by rintro e w' ⟨rfl, h1, h2⟩; exact ⟨rfl, g, h1, .inl rfl, Keeps.of_below h2 _⟩)

end Go.Proofs.Ytnjbglnkhgholaa
