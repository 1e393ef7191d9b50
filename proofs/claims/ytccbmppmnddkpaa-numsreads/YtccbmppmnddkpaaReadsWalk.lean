/-
  The law NumsReads, walked: whatever bytes and steps came in, it returns true and writes nothing that was there.
-/
import Derived.Test.YtccbmppmnddkpaaReadsNew
namespace Go.Proofs.Ytccbmppmnddkpaa
open Go.RowKit
set_option linter.unusedVariables false

/-- The loop: k steps have been asked of both readers, and they stand alike. -/
def ReadsRel (B br bd : Nat) (s : ByteArray) (v : Value) (L : List UInt8) (len : Nat) (B0 : Nat) (w : World) (i : Value) (wr : World) : Prop :=
  ∃ (k p : Nat) (e : Int), i = .int .i64 (k : Int) ∧ k ≤ len ∧ TwoR B br bd s v L p e wr ∧ Below B0 w wr

set_option maxHeartbeats 6400000 in
set_option maxRecDepth 100000 in
theorem reads_in (a0 : Option Addr) (len0 cap0 : Nat) (L : List UInt8) (a : Option Addr) (len cap : Nat) (T : Nat → Stp) (w : World) (hB : ArgB w a0 len0 cap0 L) (h : StepsAt w a len cap T) (hb : len + tot T len ≤ 2147483647) (hb0 : len0 ≤ 2147483647) :
    Calls Try.prog 4 #[.slice a0 len0 cap0, .slice a len cap] w fun e w' => e = .returned (.bool true) ∧ Below w.heap.size w w' := by
  have HS := aside h
  have hbe : beyondB T len = false := by simp only [beyondB, decide_eq_false_iff_not]; omega
  obtain ⟨hlc, hcm, hst⟩ := h
  unfold maxLen at hcm
  have hlen31 : (len : Int) ≤ 2147483647 := by omega
  have hlen0 : (len0 : Int) ≤ 2147483647 := by omega
  have HB := aside hb
  have HB0 := aside hb0
  have HST := aside hst
  have HA := aside hB
  clear hb hst hB hb0
  have hown0 : (w.alloc (.cells #[] 5)).ownsRow w.heap.size 5 1 (.slice (some ⟨w.heap.size, 0, none⟩) ([] : List UInt8).length 0) ([] : List UInt8).length (Lib.byteCells []) := World.ownsRow_made w #[] 0 (Nat.le_refl _) (Nat.zero_le _) rfl
  have HO0 := aside hown0
  clear hown0
  go_enter Try.func4, Try.ntmps4
  go_wp2_with fail
  refine (beyond_any a len cap T _ HS.out).mono ?_
  rintro e w0 ⟨rfl, rfl⟩
  rw [hbe]
  go_wp2_with (at_builtin; refine append_arg rfl _ _ _ rfl Try.underlying29 w0.heap.size (.slice (some ⟨w0.heap.size, 0, none⟩) 0 0) [] (by rfl) HO0.out a0 len0 cap0 L (by rfl) (HA.out.later ((Below.refl _ _).alloc (Nat.le_refl _) _)) (by have := HB0.out; simp; omega) (by simp) ?_; intro v1 w1 hown1 hgrow; refine Hid.out ?_)
  refine aside ?_
  rw [List.nil_append] at hown1
  have k1 : Keeps (fun _ => False) w0 w1 := ((Keeps.refl _ w0).alloc _).grown hgrow (fun k hk hlt => by simp [Value.ownBlock] at hk; omega)
  have b1 : Below w0.heap.size w0 w1 := k1.below (Nat.le_refl _) (fun _ _ h => h)
  have A1 : ArgB w1 a0 len0 cap0 L := HA.out.later b1
  have fa : ∀ q, v1.ownBlock = some q → w0.heap.size ≤ q ∧ q < w1.heap.size := hown1.lt
  have O1 := aside hown1
  have AA1 := aside A1
  clear hown1 hgrow k1 A1 HO0
  go_wp2_with fail
  refine (newReaderRef_any a0 len0 cap0 L _ AA1.out HB0.out).mono ?_
  rintro e w2 ⟨rfl, v, d2, k2⟩
  have o2 := ownsRow_keep O1.out k2 (fun _ _ h => h)
  have b2 : Below w0.heap.size w0 w2 := b1.trans (k2.below b1.size (fun _ _ h => h))
  have lt2 : w1.heap.size < w2.heap.size := d2.lt
  have fv : ∀ q, v.ownBlock = some q → w1.heap.size < q ∧ q < w2.heap.size := fun q hq => by have := d2.2.1.lt q hq; omega
  have le1 : w0.heap.size ≤ w1.heap.size := b1.size
  obtain ⟨bd, hbd⟩ : ∃ bd, bd = w1.heap.size := ⟨_, rfl⟩
  rw [← hbd] at d2
  rw [← hbd]
  have fa2 : ∀ q, v1.ownBlock = some q → w0.heap.size ≤ q ∧ q < bd := fun q hq => by have := fa q hq; omega
  have fv2 : ∀ q, v.ownBlock = some q → bd < q ∧ q < w2.heap.size := fun q hq => by have := fv q hq; omega
  have le2 : w0.heap.size ≤ bd := by omega
  have lt2' : bd < w2.heap.size := by omega
  clear hbd fa fv le1 lt2
  have O2 := aside o2
  have D2 := aside d2
  clear o2 d2 k2 O1 AA1 b1
  go_wp2_with fail
  refine (newReader_any v1 L _ (reads_own O2.out)).mono ?_
  rintro e w3 ⟨rfl, hw3⟩
  have k3 : Keeps (fun _ => False) w2 w3 := by rw [hw3]; exact (Keeps.refl _ _).alloc _
  have r3 : IsR w2.heap.size ⟨L.toArray⟩ ((0 : Nat) : Int) 0 w3 := by rw [hw3]; exact isR_new w2 _
  have d3 : IsRR (bd + 1) bd v L ((0 : Nat) : Int) 0 w3 := D2.out.keep k3 (fun h => h) (fun _ _ h => h)
  have o3 := ownsRow_keep O2.out k3 (fun _ _ h => h)
  have b3 : Below w0.heap.size w0 w3 := b2.trans (k3.below b2.size (fun _ _ h => h))
  have A3 : ArgB w3 a0 len0 cap0 L := HA.out.later b3
  obtain ⟨br, hbr⟩ : ∃ br, br = w2.heap.size := ⟨_, rfl⟩
  rw [← hbr] at r3
  rw [← hbr]
  obtain ⟨s, hs⟩ : ∃ s : ByteArray, s = ⟨L.toArray⟩ := ⟨_, rfl⟩
  rw [← hs] at r3
  have fv3 : v.ownBlock ≠ some br := fun e => by have := fv2 _ e; omega
  have fv4 : ∀ q, v.ownBlock = some q → bd < q := fun q hq => (fv2 q hq).1
  have lt3 : bd < br := by omega
  clear hbr fv2 lt2'
  have hLs : L.length ≤ 2147483647 := by rw [HA.out.1]; exact HB0.out
  have t3 : TwoR (bd + 1) br bd s v L 0 0 w3 := ⟨r3, d3, by rw [hs], by omega, fv3, Nat.zero_le _, by omega⟩
  have s3 : bd < w3.heap.size := d3.lt
  have T3 := aside t3
  have O3 := aside o3
  have A3' := aside A3
  have HLS := aside hLs
  clear t3 o3 A3 r3 d3 hw3 O2 D2 k3 hs hLs
  go_wp2_with fail
  refine (sameReaders_any _ br bd s v L 0 0 _ T3.out).mono ?_
  rintro e w4 ⟨rfl, q4, hw4⟩
  have O4 : Hid (w4.ownsRow w0.heap.size 5 1 v1 L.length (Lib.byteCells L)) := by rw [hw4]; exact O3
  have A4 : Hid (ArgB w4 a0 len0 cap0 L) := by rw [hw4]; exact A3'
  have b4 : Below w0.heap.size w0 w4 := by rw [hw4]; exact ⟨b3.os, b3.tape, b3.output, b3.size, b3.block⟩
  have T4 : Hid (TwoR (bd + 1) br bd s v L 0 0 w4) := by rw [hw4]; exact ⟨T3.out.code, T3.out.doc, T3.out.text, T3.out.ne, T3.out.vr, T3.out.le, T3.out.small⟩
  have s4 : bd < w4.heap.size := by rw [hw4]; exact s3
  clear O3 A3' T3 b3 s3 hw4
  go_wp2_with fail
  refine (sameBytes_any _ _ L L _ (reads_own O4.out) A4.out.reads).mono ?_
  rintro e w4' ⟨rfl, rfl⟩
  have s5 : w0.heap.size ≤ w4'.heap.size := b4.size
  go_wp2_with fail
  refine (spoil_any w0.heap.size L.length v1 _ _ (by have := O4.out; rw [u8s_bytes] at this; exact this) s5 (by have := HLS.out; omega)).mono ?_
  rintro e w6 ⟨rfl, k6⟩
  have t6 : TwoR (bd + 1) br bd s v L 0 0 w6 := ⟨T4.out.code.keep k6 (fun x => by have := (fa2 _ x).2; omega), T4.out.doc.keep k6 (fun x => by have := (fa2 _ x).2; omega) (fun j hj x => by have := (fa2 _ x).2; have := fv4 j hj; omega), T4.out.text, T4.out.ne, T4.out.vr, T4.out.le, T4.out.small⟩
  have b6 : Below w0.heap.size w0 w6 := b4.trans (k6.below s5 (fun j hj x => by have := (fa2 _ x).1; omega))
  have T6 := aside t6
  clear t6 O4 A4 b4 T4 k6 s4 s5 b2
  go_wp2
  go_loopw [8] (fun i wr => ReadsRel (bd + 1) br bd s v L len w0.heap.size w0 i wr) (fun i _ => len - (intOf i).toNat)
  case atStart => exact ⟨0, 0, 0, rfl, Nat.zero_le _, T6.out, b6⟩
  case round =>
    obtain ⟨k, p, e, rfl, hk, ht, hbel⟩ := hrel
    by_cases hlt : (k : Int) < (len : Int)
    · rcases HST.out with h0 | ⟨blk, off, rfl, hblk, hc⟩
      · omega
      · obtain ⟨⟨c0, c1, c2, c3, c4⟩, n0, n1, ns, nu⟩ := hc k (by omega)
        have d0 := (hbel.cell (p := ⟨blk, off + k * 5, none⟩) hblk).trans c0
        have d1 := (hbel.cell (p := ⟨blk, off + k * 5 + 1, none⟩) hblk).trans c1
        have d2 := (hbel.cell (p := ⟨blk, off + k * 5 + 2, none⟩) hblk).trans c2
        have d3 := (hbel.cell (p := ⟨blk, off + k * 5 + 3, none⟩) hblk).trans c3
        have d4 := (hbel.cell (p := ⟨blk, off + k * 5 + 4, none⟩) hblk).trans c4
        generalize T k = t at *
        obtain ⟨kind, n, tx, u, is⟩ := t
        simp only at d0 d1 d2 d3 d4
        have HT := aside ht
        clear hc c0 c1 c2 c3 c4 n0 n1 ns nu ht b6 T6
        go_wp2_with fail
        refine (read_any (bd + 1) br bd s v L p e kind n tx u is _ HT.out).mono ?_
        rintro r w7 ⟨rfl, ⟨p', e', t7⟩, k7⟩
        have b7 : Below w0.heap.size w0 w7 := hbel.trans (k7.below hbel.size (fun j hj x => by rcases x with x | x <;> omega))
        have T7 := aside t7
        clear d0 d1 d2 d3 d4 k7 t7 HT hbel
        go_wp2_with fail
        refine (sameReaders_any _ br bd s v L p' e' _ T7.out).mono ?_
        rintro r w8 ⟨rfl, q8, hw8⟩
        have b8 : Below w0.heap.size w0 w8 := by rw [hw8]; exact ⟨b7.os, b7.tape, b7.output, b7.size, b7.block⟩
        have t8 : TwoR (bd + 1) br bd s v L p' e' w8 := by rw [hw8]; exact ⟨T7.out.code, T7.out.doc, T7.out.text, T7.out.ne, T7.out.vr, T7.out.le, T7.out.small⟩
        have T8 := aside t8
        clear hw8 t8 T7 b7
        go_wp2
        go_roundw
        case rel => exact ⟨k + 1, p', e', by go_num, by omega, T8.out, b8⟩
        case measure => simp [intOf]; omega
    · go_wp2
      go_ret
      exact ⟨rfl, hbel⟩

set_option maxHeartbeats 400000 in
theorem reads_beyond (a0 : Option Addr) (len0 cap0 : Nat) (a : Option Addr) (len cap : Nat) (T : Nat → Stp) (w : World) (h : StepsAt w a len cap T) (hb : ¬ len + tot T len ≤ 2147483647) :
    Calls Try.prog 4 #[.slice a0 len0 cap0, .slice a len cap] w fun e w' => e = .returned (.bool true) ∧ Below w.heap.size w w' := by
  have hbe : beyondB T len = true := by simp only [beyondB, decide_eq_true_eq]; omega
  have HS := aside h
  clear h hb
  go_enter Try.func4, Try.ntmps4
  go_wp2_with fail
  refine (beyond_any a len cap T _ HS.out).mono ?_
  rintro e w0 ⟨rfl, rfl⟩
  rw [hbe]
  go_wp2
  go_ret
  exact ⟨rfl, Below.refl _ _⟩

set_option maxHeartbeats 400000 in
theorem reads_long (a0 : Option Addr) (len0 cap0 : Nat) (a : Option Addr) (len cap : Nat) (T : Nat → Stp) (w : World) (h : StepsAt w a len cap T) (hb : len + tot T len ≤ 2147483647) (hb0 : ¬ len0 ≤ 2147483647) :
    Calls Try.prog 4 #[.slice a0 len0 cap0, .slice a len cap] w fun e w' => e = .returned (.bool true) ∧ Below w.heap.size w w' := by
  have hbe : beyondB T len = false := by simp only [beyondB, decide_eq_false_iff_not]; omega
  have g31 : (2147483647 : Int) < len0 := by omega
  have HS := aside h
  clear h hb hb0
  go_enter Try.func4, Try.ntmps4
  go_wp2_with fail
  refine (beyond_any a len cap T _ HS.out).mono ?_
  rintro e w0 ⟨rfl, rfl⟩
  rw [hbe]
  go_wp2
  go_ret
  exact ⟨rfl, Below.refl _ _⟩

theorem reads_walk (a0 : Option Addr) (len0 cap0 : Nat) (zs : List Int) (a : Option Addr) (len cap : Nat) (T : Nat → Stp) (w : World) (hrow : IsRow w a0 len0 cap0 zs) (h : StepsAt w a len cap T) :
    Calls Try.prog 4 #[.slice a0 len0 cap0, .slice a len cap] w fun e w' => e = .returned (.bool true) ∧ Below w.heap.size w w' := by
  by_cases hb : len + tot T len ≤ 2147483647
  · by_cases hb0 : len0 ≤ 2147483647
    · exact reads_in a0 len0 cap0 _ a len cap T w (ArgB.of_row hrow) h hb hb0
    · exact reads_long a0 len0 cap0 a len cap T w h hb hb0
  · exact reads_beyond a0 len0 cap0 a len cap T w h hb

end Go.Proofs.Ytccbmppmnddkpaa
