/-
  The law ItemBytes, walked: it returns true at every entry and all bytes.
-/
import Derived.Test.YtnjbglnkhgholaaIOf
import Derived.Test.YtnjbglnkhgholaaIBest
namespace Go.Proofs.Ytnjbglnkhgholaa
open Go.RowKit
set_option linter.unusedVariables false

theorem of_bad_chk {L : List UInt8} {R : En} {q : Int} (h : ofSt L = (R, q)) (hq : q ≠ 0) : R.chk ≠ 0 := by
  rcases hG : getSt L 0 0 with ⟨R', p, e⟩
  unfold ofSt at h
  rw [hG] at h
  simp only at h
  split at h
  · simp only [Prod.mk.injEq] at h; exact absurd h.2.symm hq
  · simp only [Prod.mk.injEq] at h
    rw [← h.1]
    rw [En.chk_ver _ _ (by decide) (chk_bad1 0 (by decide))]
    decide

set_option maxRecDepth 100000 in
set_option maxHeartbeats 6400000 in
theorem lbytes_11 (k : ByteArray) (c n : Int) (v : ByteArray) (d : Bool) (a : Option Addr) (len cap : Nat) (L : List UInt8) (gk : ByteArray) (gc gn : Int) (gv : ByteArray) (gd : Bool) (q q2 : Int) (w : World)
    (h1 : ¬ (1073741824 : Int) < k.size) (h2 : ¬ (1073741824 : Int) < v.size) (hA : ArgB w a len cap L) (hb : (len : Int) ≤ 1073741824) (hq : En.chk ⟨k, c, n, v, d⟩ = q) (hz : q = 0) (hO : ofSt L = (⟨gk, gc, gn, gv, gd⟩, q2)) (hz2 : q2 = 0) :
    Calls Try.prog 8 #[.agg #[.string k, .int .i64 c, .int .i64 n, .string v, .bool d], .slice a len cap] w fun e w' => e = .returned (.bool true) ∧ Below w.heap.size w w' := by
  have hLl : L.length = len := hA.1
  have HLL := aside (show L.length ≤ 1073741824 from by omega)
  have HA := aside hA
  have C0 := aside (fun w => long_no k c n v d w h1 h2)
  subst hz
  have B1 := aside (fun w => bytesE_yes k c n v d w hq)
  have B2 := aside (fun w => bytesERef_yes k c n v d w hq)
  have O1 : Hid (∀ (a : Option Addr) (len cap : Nat) (w : World), Reads (w.alloc (.cells #[.string ⟨#[]⟩, .int .i64 0, .int .i64 0, .string ⟨#[]⟩, .bool false] 34)) (.slice a len cap) (entB ⟨k, c, n, v, d⟩) → Calls Try.prog 25 #[.slice a len cap] w fun r w' => r = .returned (.tuple #[.agg #[.string k, .int .i64 c, .int .i64 n, .string v, .bool d], .int .i64 0]) ∧ Below w.heap.size w w') := fun a len cap w h => of_at h (by have := putB_len ⟨k, c, n, v, d⟩; rw [putB_yes hq] at this; omega) (of_put ⟨k, c, n, v, d⟩ hq)
  have O2 : Hid (∀ (a : Option Addr) (len cap : Nat) (w : World), Reads (w.alloc (.cells #[.string ⟨#[]⟩, .int .i64 0, .int .i64 0, .string ⟨#[]⟩, .bool false] 34)) (.slice a len cap) L → Calls Try.prog 25 #[.slice a len cap] w fun r w' => r = .returned (.tuple #[.agg #[.string gk, .int .i64 gc, .int .i64 gn, .string gv, .bool gd], .int .i64 q2]) ∧ Below w.heap.size w w') := fun a len cap w h => of_at h HLL.out hO
  have O3 : Hid (∀ (w : World), ArgB w a len cap L → Calls Try.prog 26 #[.slice a len cap] w fun r w' => r = .returned (.tuple #[.agg #[.string gk, .int .i64 gc, .int .i64 gn, .string gv, .bool gd], .int .i64 q2]) ∧ Below w.heap.size w w') := fun w h => ofRef_at h HLL.out hO
  subst hz2
  have hI := of_inv L ⟨gk, gc, gn, gv, gd⟩ hO
  have B3 := aside (fun w => bytesE_yes gk gc gn gv gd w hI.1)
  have HI := aside hI.2
  clear hI
  clear hq hO hA hLl h1 h2
  go_enter Try.func8, Try.ntmps8
  go_wp2_with fail
  refine (C0.out _).mono ?_
  rintro e w1 ⟨rfl, b1⟩
  have KA1 := aside (blk_on (heap_alloc_new w (.cells #[.string k, .int .i64 c, .int .i64 n, .string v, .bool d] 34)) b1)
  have BW1 := aside (bthen (bnew w (.cells #[.string k, .int .i64 c, .int .i64 n, .string v, .bool d] 34)) b1)
  have HO0 : Hid ((w1.alloc (.cells #[] 5)).ownsRow w1.heap.size 5 1 (.slice (some ⟨w1.heap.size, 0, none⟩) ([] : List UInt8).length 0) ([] : List UInt8).length (Lib.byteCells [])) := World.ownsRow_made w1 #[] 0 (Nat.le_refl _) (Nat.zero_le _) rfl
  clear b1 C0
  go_wp2_with (at_builtin; refine append_arg rfl _ _ _ rfl Try.underlying40 w1.heap.size (.slice (some ⟨w1.heap.size, 0, none⟩) 0 0) [] (by rfl) HO0.out a len cap L (by rfl) (HA.out.later (bthen BW1.out (bnew w1 _))) (by have := HLL.out; have := HA.out.1; simp; omega) (by simp) ?_; intro v2 w2 hown2 hgrow; refine Hid.out ?_)
  refine aside ?_
  rw [List.nil_append] at hown2
  have k2 : Keeps (fun _ => False) w1 w2 := ((Keeps.refl _ w1).alloc _).grown hgrow (fun k hk hlt => by simp [Value.ownBlock] at hk; omega)
  have b12 : Below w1.heap.size w1 w2 := k2.below (Nat.le_refl _) (fun _ _ h => h)
  obtain ⟨ia, im, ic, rfl⟩ := own_form hown2
  have OI := aside hown2
  have KA := aside (blk_on KA1.out b12)
  have BW := aside (bthen BW1.out b12)
  obtain ⟨⟨r0, r1, r2, r3, r4⟩, -⟩ := quint KA.out
  clear hown2 hgrow k2 b12 KA1 BW1 HO0
  go_wp2_with fail
  refine (B1.out _).mono ?_
  rintro e w3 ⟨xa, xn, xc, rfl, ox, b3⟩
  have OX := aside ox
  clear ox
  have OI3 := aside (ownsRow_keep OI.out (Keeps.of_below b3 (fun _ => False)) (fun _ _ h => h))
  have KA3 := aside (blk_on KA.out b3)
  have BW3 := aside (bthen BW.out b3)
  clear r0 r1 r2 r3 r4 OI KA BW b3 B1
  obtain ⟨⟨r0, r1, r2, r3, r4⟩, -⟩ := quint KA3.out
  go_wp2_with fail
  refine (B2.out _).mono ?_
  rintro e w4 ⟨ya, yn, yc, rfl, oy, b4⟩
  have OY := aside oy
  have OX4 := aside (ownsRow_keep OX.out (Keeps.of_below b4 (fun _ => False)) (fun _ _ h => h))
  clear oy OX
  have OI4 := aside (ownsRow_keep OI3.out (Keeps.of_below b4 (fun _ => False)) (fun _ _ h => h))
  have KA4 := aside (blk_on KA3.out b4)
  have BW4 := aside (bthen BW3.out b4)
  clear r0 r1 r2 r3 r4 OI3 KA3 BW3 b4 B2
  go_wp2_with fail
  refine (sameB_any _ _ (entB ⟨k, c, n, v, d⟩) (entB ⟨k, c, n, v, d⟩) _ (reads_own OX4.out) (reads_own OY.out)).mono ?_
  rintro e w5 ⟨rfl, hw5⟩
  subst hw5
  rw [beq_self_eq_true]
  clear OY
  have OI5 := aside OI4.out
  have KA5 := aside KA4.out
  have BW5 := aside BW4.out
  clear OI4 KA4 BW4
  go_wp2_with fail
  refine (O1.out _ _ _ _ (reads_own (OX4.out.alloc _))).mono ?_
  rintro e w6 ⟨rfl, b6⟩
  have bN := bthen b6 (bnew w6 (.cells #[.string k, .int .i64 c, .int .i64 n, .string v, .bool d] 34))
  have OI6 := aside (ownsRow_keep OI5.out (Keeps.of_below bN (fun _ => False)) (fun _ _ h => h))
  have BW6 := aside (bthen BW5.out bN)
  obtain ⟨⟨r0, r1, r2, r3, r4⟩, -⟩ := quint (blk_on KA5.out bN)
  obtain ⟨⟨s0, s1, s2, s3, s4⟩, -⟩ := quint (heap_alloc_new w6 (.cells #[.string k, .int .i64 c, .int .i64 n, .string v, .bool d] 34))
  clear OI5 KA5 BW5 b6 bN O1 OX4
  go_wp2_with fail
  refine (O2.out _ _ _ _ (reads_own (OI6.out.alloc _))).mono ?_
  rintro e w7 ⟨rfl, b7⟩
  have bN := bthen b7 (bnew w7 (.cells #[.string gk, .int .i64 gc, .int .i64 gn, .string gv, .bool gd] 34))
  have OI7 := aside (ownsRow_keep OI6.out (Keeps.of_below bN (fun _ => False)) (fun _ _ h => h))
  have BW7 := aside (bthen BW6.out bN)
  have KK7 := aside (heap_alloc_new w7 (.cells #[.string gk, .int .i64 gc, .int .i64 gn, .string gv, .bool gd] 34))
  clear r0 r1 r2 r3 r4 s0 s1 s2 s3 s4
  clear OI6 BW6 b7 bN O2
  go_wp2_with fail
  refine (O3.out _ (HA.out.later BW7.out)).mono ?_
  rintro e w8 ⟨rfl, b8⟩
  have bN := bthen b8 (bnew w8 (.cells #[.string gk, .int .i64 gc, .int .i64 gn, .string gv, .bool gd] 34))
  have OI8 := aside (ownsRow_keep OI7.out (Keeps.of_below bN (fun _ => False)) (fun _ _ h => h))
  have BW8 := aside (bthen BW7.out bN)
  have KK8 := aside (blk_on KK7.out bN)
  obtain ⟨⟨r0, r1, r2, r3, r4⟩, -⟩ := quint KK8.out
  obtain ⟨⟨s0, s1, s2, s3, s4⟩, -⟩ := quint (heap_alloc_new w8 (.cells #[.string gk, .int .i64 gc, .int .i64 gn, .string gv, .bool gd] 34))
  clear OI7 BW7 KK7 b8 bN O3
  go_wp2_with fail
  refine (sameB_any _ _ L L _ (reads_own OI8.out) (HA.out.later BW8.out).reads).mono ?_
  rintro e w9 ⟨rfl, hw9⟩
  rw [beq_self_eq_true]
  have BW9 : Hid (Below w.heap.size w w9) := by rw [hw9]; exact BW8
  have KK9 : Hid (w9.heap[w7.heap.size]? = some (.cells #[.string gk, .int .i64 gc, .int .i64 gn, .string gv, .bool gd] 34 (0, 0))) := by rw [hw9]; exact KK8
  clear r0 r1 r2 r3 r4 s0 s1 s2 s3 s4 OI8 BW8 KK8 hw9
  obtain ⟨⟨r0, r1, r2, r3, r4⟩, -⟩ := quint KK9.out
  go_wp2_with fail
  refine (B3.out _).mono ?_
  rintro e w10 ⟨za, zn, zc, rfl, oz, b10⟩
  have OZ := aside oz
  have BW10 := aside (bthen BW9.out b10)
  clear r0 r1 r2 r3 r4 oz b10 BW9 KK9
  rw [HI.out] at OZ
  go_wp2_with fail
  refine (sameB_any _ _ L L _ (reads_own OZ.out) (HA.out.later BW10.out).reads).mono ?_
  rintro e w11 ⟨rfl, hw11⟩
  rw [beq_self_eq_true]
  have BW11 : Hid (Below w.heap.size w w11) := by rw [hw11]; exact BW10
  clear hw11 OZ BW10
  go_wp2
  go_ret
  exact ⟨rfl, BW11.out⟩

set_option maxRecDepth 100000 in
set_option maxHeartbeats 6400000 in
theorem lbytes_10 (k : ByteArray) (c n : Int) (v : ByteArray) (d : Bool) (a : Option Addr) (len cap : Nat) (L : List UInt8) (gk : ByteArray) (gc gn : Int) (gv : ByteArray) (gd : Bool) (q q2 : Int) (w : World)
    (h1 : ¬ (1073741824 : Int) < k.size) (h2 : ¬ (1073741824 : Int) < v.size) (hA : ArgB w a len cap L) (hb : (len : Int) ≤ 1073741824) (hq : En.chk ⟨k, c, n, v, d⟩ = q) (hz : q = 0) (hO : ofSt L = (⟨gk, gc, gn, gv, gd⟩, q2)) (hz2 : q2 ≠ 0) :
    Calls Try.prog 8 #[.agg #[.string k, .int .i64 c, .int .i64 n, .string v, .bool d], .slice a len cap] w fun e w' => e = .returned (.bool true) ∧ Below w.heap.size w w' := by
  have hLl : L.length = len := hA.1
  have HLL := aside (show L.length ≤ 1073741824 from by omega)
  have HA := aside hA
  have C0 := aside (fun w => long_no k c n v d w h1 h2)
  subst hz
  have B1 := aside (fun w => bytesE_yes k c n v d w hq)
  have B2 := aside (fun w => bytesERef_yes k c n v d w hq)
  have O1 : Hid (∀ (a : Option Addr) (len cap : Nat) (w : World), Reads (w.alloc (.cells #[.string ⟨#[]⟩, .int .i64 0, .int .i64 0, .string ⟨#[]⟩, .bool false] 34)) (.slice a len cap) (entB ⟨k, c, n, v, d⟩) → Calls Try.prog 25 #[.slice a len cap] w fun r w' => r = .returned (.tuple #[.agg #[.string k, .int .i64 c, .int .i64 n, .string v, .bool d], .int .i64 0]) ∧ Below w.heap.size w w') := fun a len cap w h => of_at h (by have := putB_len ⟨k, c, n, v, d⟩; rw [putB_yes hq] at this; omega) (of_put ⟨k, c, n, v, d⟩ hq)
  have O2 : Hid (∀ (a : Option Addr) (len cap : Nat) (w : World), Reads (w.alloc (.cells #[.string ⟨#[]⟩, .int .i64 0, .int .i64 0, .string ⟨#[]⟩, .bool false] 34)) (.slice a len cap) L → Calls Try.prog 25 #[.slice a len cap] w fun r w' => r = .returned (.tuple #[.agg #[.string gk, .int .i64 gc, .int .i64 gn, .string gv, .bool gd], .int .i64 q2]) ∧ Below w.heap.size w w') := fun a len cap w h => of_at h HLL.out hO
  have O3 : Hid (∀ (w : World), ArgB w a len cap L → Calls Try.prog 26 #[.slice a len cap] w fun r w' => r = .returned (.tuple #[.agg #[.string gk, .int .i64 gc, .int .i64 gn, .string gv, .bool gd], .int .i64 q2]) ∧ Below w.heap.size w w') := fun w h => ofRef_at h HLL.out hO
  have hne2 : (q2 != 0) = true := by simp [hz2]
  obtain ⟨qz, hqz, hqn⟩ : ∃ qz, En.chk ⟨gk, gc, gn, gv, gd⟩ = qz ∧ qz ≠ 0 := ⟨_, rfl, of_bad_chk hO hz2⟩
  have B3 := aside (fun w => bytesE_no gk gc gn gv gd qz w hqz hqn)
  clear hqz hqn hz2
  clear hq hO hA hLl h1 h2
  go_enter Try.func8, Try.ntmps8
  go_wp2_with fail
  refine (C0.out _).mono ?_
  rintro e w1 ⟨rfl, b1⟩
  have KA1 := aside (blk_on (heap_alloc_new w (.cells #[.string k, .int .i64 c, .int .i64 n, .string v, .bool d] 34)) b1)
  have BW1 := aside (bthen (bnew w (.cells #[.string k, .int .i64 c, .int .i64 n, .string v, .bool d] 34)) b1)
  have HO0 : Hid ((w1.alloc (.cells #[] 5)).ownsRow w1.heap.size 5 1 (.slice (some ⟨w1.heap.size, 0, none⟩) ([] : List UInt8).length 0) ([] : List UInt8).length (Lib.byteCells [])) := World.ownsRow_made w1 #[] 0 (Nat.le_refl _) (Nat.zero_le _) rfl
  clear b1 C0
  go_wp2_with (at_builtin; refine append_arg rfl _ _ _ rfl Try.underlying40 w1.heap.size (.slice (some ⟨w1.heap.size, 0, none⟩) 0 0) [] (by rfl) HO0.out a len cap L (by rfl) (HA.out.later (bthen BW1.out (bnew w1 _))) (by have := HLL.out; have := HA.out.1; simp; omega) (by simp) ?_; intro v2 w2 hown2 hgrow; refine Hid.out ?_)
  refine aside ?_
  rw [List.nil_append] at hown2
  have k2 : Keeps (fun _ => False) w1 w2 := ((Keeps.refl _ w1).alloc _).grown hgrow (fun k hk hlt => by simp [Value.ownBlock] at hk; omega)
  have b12 : Below w1.heap.size w1 w2 := k2.below (Nat.le_refl _) (fun _ _ h => h)
  obtain ⟨ia, im, ic, rfl⟩ := own_form hown2
  have OI := aside hown2
  have KA := aside (blk_on KA1.out b12)
  have BW := aside (bthen BW1.out b12)
  obtain ⟨⟨r0, r1, r2, r3, r4⟩, -⟩ := quint KA.out
  clear hown2 hgrow k2 b12 KA1 BW1 HO0
  go_wp2_with fail
  refine (B1.out _).mono ?_
  rintro e w3 ⟨xa, xn, xc, rfl, ox, b3⟩
  have OX := aside ox
  clear ox
  have OI3 := aside (ownsRow_keep OI.out (Keeps.of_below b3 (fun _ => False)) (fun _ _ h => h))
  have KA3 := aside (blk_on KA.out b3)
  have BW3 := aside (bthen BW.out b3)
  clear r0 r1 r2 r3 r4 OI KA BW b3 B1
  obtain ⟨⟨r0, r1, r2, r3, r4⟩, -⟩ := quint KA3.out
  go_wp2_with fail
  refine (B2.out _).mono ?_
  rintro e w4 ⟨ya, yn, yc, rfl, oy, b4⟩
  have OY := aside oy
  have OX4 := aside (ownsRow_keep OX.out (Keeps.of_below b4 (fun _ => False)) (fun _ _ h => h))
  clear oy OX
  have OI4 := aside (ownsRow_keep OI3.out (Keeps.of_below b4 (fun _ => False)) (fun _ _ h => h))
  have KA4 := aside (blk_on KA3.out b4)
  have BW4 := aside (bthen BW3.out b4)
  clear r0 r1 r2 r3 r4 OI3 KA3 BW3 b4 B2
  go_wp2_with fail
  refine (sameB_any _ _ (entB ⟨k, c, n, v, d⟩) (entB ⟨k, c, n, v, d⟩) _ (reads_own OX4.out) (reads_own OY.out)).mono ?_
  rintro e w5 ⟨rfl, hw5⟩
  subst hw5
  rw [beq_self_eq_true]
  clear OY
  have OI5 := aside OI4.out
  have KA5 := aside KA4.out
  have BW5 := aside BW4.out
  clear OI4 KA4 BW4
  go_wp2_with fail
  refine (O1.out _ _ _ _ (reads_own (OX4.out.alloc _))).mono ?_
  rintro e w6 ⟨rfl, b6⟩
  have bN := bthen b6 (bnew w6 (.cells #[.string k, .int .i64 c, .int .i64 n, .string v, .bool d] 34))
  have OI6 := aside (ownsRow_keep OI5.out (Keeps.of_below bN (fun _ => False)) (fun _ _ h => h))
  have BW6 := aside (bthen BW5.out bN)
  obtain ⟨⟨r0, r1, r2, r3, r4⟩, -⟩ := quint (blk_on KA5.out bN)
  obtain ⟨⟨s0, s1, s2, s3, s4⟩, -⟩ := quint (heap_alloc_new w6 (.cells #[.string k, .int .i64 c, .int .i64 n, .string v, .bool d] 34))
  clear OI5 KA5 BW5 b6 bN O1 OX4
  go_wp2_with fail
  refine (O2.out _ _ _ _ (reads_own (OI6.out.alloc _))).mono ?_
  rintro e w7 ⟨rfl, b7⟩
  have bN := bthen b7 (bnew w7 (.cells #[.string gk, .int .i64 gc, .int .i64 gn, .string gv, .bool gd] 34))
  have OI7 := aside (ownsRow_keep OI6.out (Keeps.of_below bN (fun _ => False)) (fun _ _ h => h))
  have BW7 := aside (bthen BW6.out bN)
  have KK7 := aside (heap_alloc_new w7 (.cells #[.string gk, .int .i64 gc, .int .i64 gn, .string gv, .bool gd] 34))
  clear r0 r1 r2 r3 r4 s0 s1 s2 s3 s4
  clear OI6 BW6 b7 bN O2
  go_wp2_with fail
  refine (O3.out _ (HA.out.later BW7.out)).mono ?_
  rintro e w8 ⟨rfl, b8⟩
  have bN := bthen b8 (bnew w8 (.cells #[.string gk, .int .i64 gc, .int .i64 gn, .string gv, .bool gd] 34))
  have OI8 := aside (ownsRow_keep OI7.out (Keeps.of_below bN (fun _ => False)) (fun _ _ h => h))
  have BW8 := aside (bthen BW7.out bN)
  have KK8 := aside (blk_on KK7.out bN)
  obtain ⟨⟨r0, r1, r2, r3, r4⟩, -⟩ := quint KK8.out
  obtain ⟨⟨s0, s1, s2, s3, s4⟩, -⟩ := quint (heap_alloc_new w8 (.cells #[.string gk, .int .i64 gc, .int .i64 gn, .string gv, .bool gd] 34))
  clear OI7 BW7 KK7 b8 bN O3
  go_wp2_with fail
  refine (sameB_any _ _ L L _ (reads_own OI8.out) (HA.out.later BW8.out).reads).mono ?_
  rintro e w9 ⟨rfl, hw9⟩
  rw [beq_self_eq_true]
  have BW9 : Hid (Below w.heap.size w w9) := by rw [hw9]; exact BW8
  have KK9 : Hid (w9.heap[w7.heap.size]? = some (.cells #[.string gk, .int .i64 gc, .int .i64 gn, .string gv, .bool gd] 34 (0, 0))) := by rw [hw9]; exact KK8
  clear r0 r1 r2 r3 r4 s0 s1 s2 s3 s4 OI8 BW8 KK8 hw9
  obtain ⟨⟨r0, r1, r2, r3, r4⟩, -⟩ := quint KK9.out
  go_wp2_with fail
  refine (B3.out _).mono ?_
  rintro e w10 ⟨rfl, b10⟩
  have BW10 := aside (bthen BW9.out b10)
  clear r0 r1 r2 r3 r4 b10 BW9 KK9
  go_wp2
  go_ret
  exact ⟨rfl, BW10.out⟩

set_option maxRecDepth 100000 in
set_option maxHeartbeats 6400000 in
theorem lbytes_01 (k : ByteArray) (c n : Int) (v : ByteArray) (d : Bool) (a : Option Addr) (len cap : Nat) (L : List UInt8) (gk : ByteArray) (gc gn : Int) (gv : ByteArray) (gd : Bool) (q q2 : Int) (w : World)
    (h1 : ¬ (1073741824 : Int) < k.size) (h2 : ¬ (1073741824 : Int) < v.size) (hA : ArgB w a len cap L) (hb : (len : Int) ≤ 1073741824) (hq : En.chk ⟨k, c, n, v, d⟩ = q) (hz : q ≠ 0) (hO : ofSt L = (⟨gk, gc, gn, gv, gd⟩, q2)) (hz2 : q2 = 0) :
    Calls Try.prog 8 #[.agg #[.string k, .int .i64 c, .int .i64 n, .string v, .bool d], .slice a len cap] w fun e w' => e = .returned (.bool true) ∧ Below w.heap.size w w' := by
  have hLl : L.length = len := hA.1
  have HLL := aside (show L.length ≤ 1073741824 from by omega)
  have HA := aside hA
  have C0 := aside (fun w => long_no k c n v d w h1 h2)
  have B1 := aside (fun w => bytesE_no k c n v d q w hq hz)
  have B2 := aside (fun w => bytesERef_no k c n v d q w hq hz)
  have heq : (q == 0) = false := by simp [hz]
  have O2 : Hid (∀ (a : Option Addr) (len cap : Nat) (w : World), Reads (w.alloc (.cells #[.string ⟨#[]⟩, .int .i64 0, .int .i64 0, .string ⟨#[]⟩, .bool false] 34)) (.slice a len cap) L → Calls Try.prog 25 #[.slice a len cap] w fun r w' => r = .returned (.tuple #[.agg #[.string gk, .int .i64 gc, .int .i64 gn, .string gv, .bool gd], .int .i64 q2]) ∧ Below w.heap.size w w') := fun a len cap w h => of_at h HLL.out hO
  have O3 : Hid (∀ (w : World), ArgB w a len cap L → Calls Try.prog 26 #[.slice a len cap] w fun r w' => r = .returned (.tuple #[.agg #[.string gk, .int .i64 gc, .int .i64 gn, .string gv, .bool gd], .int .i64 q2]) ∧ Below w.heap.size w w') := fun w h => ofRef_at h HLL.out hO
  subst hz2
  have hI := of_inv L ⟨gk, gc, gn, gv, gd⟩ hO
  have B3 := aside (fun w => bytesE_yes gk gc gn gv gd w hI.1)
  have HI := aside hI.2
  clear hI
  clear hq hO hA hLl h1 h2 hz
  go_enter Try.func8, Try.ntmps8
  go_wp2_with fail
  refine (C0.out _).mono ?_
  rintro e w1 ⟨rfl, b1⟩
  have KA1 := aside (blk_on (heap_alloc_new w (.cells #[.string k, .int .i64 c, .int .i64 n, .string v, .bool d] 34)) b1)
  have BW1 := aside (bthen (bnew w (.cells #[.string k, .int .i64 c, .int .i64 n, .string v, .bool d] 34)) b1)
  have HO0 : Hid ((w1.alloc (.cells #[] 5)).ownsRow w1.heap.size 5 1 (.slice (some ⟨w1.heap.size, 0, none⟩) ([] : List UInt8).length 0) ([] : List UInt8).length (Lib.byteCells [])) := World.ownsRow_made w1 #[] 0 (Nat.le_refl _) (Nat.zero_le _) rfl
  clear b1 C0
  go_wp2_with (at_builtin; refine append_arg rfl _ _ _ rfl Try.underlying40 w1.heap.size (.slice (some ⟨w1.heap.size, 0, none⟩) 0 0) [] (by rfl) HO0.out a len cap L (by rfl) (HA.out.later (bthen BW1.out (bnew w1 _))) (by have := HLL.out; have := HA.out.1; simp; omega) (by simp) ?_; intro v2 w2 hown2 hgrow; refine Hid.out ?_)
  refine aside ?_
  rw [List.nil_append] at hown2
  have k2 : Keeps (fun _ => False) w1 w2 := ((Keeps.refl _ w1).alloc _).grown hgrow (fun k hk hlt => by simp [Value.ownBlock] at hk; omega)
  have b12 : Below w1.heap.size w1 w2 := k2.below (Nat.le_refl _) (fun _ _ h => h)
  obtain ⟨ia, im, ic, rfl⟩ := own_form hown2
  have OI := aside hown2
  have KA := aside (blk_on KA1.out b12)
  have BW := aside (bthen BW1.out b12)
  obtain ⟨⟨r0, r1, r2, r3, r4⟩, -⟩ := quint KA.out
  clear hown2 hgrow k2 b12 KA1 BW1 HO0
  go_wp2_with fail
  refine (B1.out _).mono ?_
  rintro e w3 ⟨rfl, b3⟩
  have OI3 := aside (ownsRow_keep OI.out (Keeps.of_below b3 (fun _ => False)) (fun _ _ h => h))
  have KA3 := aside (blk_on KA.out b3)
  have BW3 := aside (bthen BW.out b3)
  clear r0 r1 r2 r3 r4 OI KA BW b3 B1
  obtain ⟨⟨r0, r1, r2, r3, r4⟩, -⟩ := quint KA3.out
  go_wp2_with fail
  refine (B2.out _).mono ?_
  rintro e w4 ⟨rfl, b4⟩
  have OI4 := aside (ownsRow_keep OI3.out (Keeps.of_below b4 (fun _ => False)) (fun _ _ h => h))
  have KA4 := aside (blk_on KA3.out b4)
  have BW4 := aside (bthen BW3.out b4)
  clear r0 r1 r2 r3 r4 OI3 KA3 BW3 b4 B2
  go_wp2_with fail
  refine (sameB_any _ _ [] [] _ (reads_nil _) (reads_nil _)).mono ?_
  rintro e w5 ⟨rfl, hw5⟩
  subst hw5
  rw [beq_self_eq_true]
  have OI5 := aside OI4.out
  have KA5 := aside KA4.out
  have BW5 := aside BW4.out
  clear OI4 KA4 BW4
  go_wp2_with fail
  refine (O2.out _ _ _ _ (reads_own (OI5.out.alloc _))).mono ?_
  rintro e w7 ⟨rfl, b7⟩
  have bN := bthen b7 (bnew w7 (.cells #[.string gk, .int .i64 gc, .int .i64 gn, .string gv, .bool gd] 34))
  have OI7 := aside (ownsRow_keep OI5.out (Keeps.of_below bN (fun _ => False)) (fun _ _ h => h))
  have BW7 := aside (bthen BW5.out bN)
  have KK7 := aside (heap_alloc_new w7 (.cells #[.string gk, .int .i64 gc, .int .i64 gn, .string gv, .bool gd] 34))
  clear KA5
  clear OI5 BW5 b7 bN O2
  go_wp2_with fail
  refine (O3.out _ (HA.out.later BW7.out)).mono ?_
  rintro e w8 ⟨rfl, b8⟩
  have bN := bthen b8 (bnew w8 (.cells #[.string gk, .int .i64 gc, .int .i64 gn, .string gv, .bool gd] 34))
  have OI8 := aside (ownsRow_keep OI7.out (Keeps.of_below bN (fun _ => False)) (fun _ _ h => h))
  have BW8 := aside (bthen BW7.out bN)
  have KK8 := aside (blk_on KK7.out bN)
  obtain ⟨⟨r0, r1, r2, r3, r4⟩, -⟩ := quint KK8.out
  obtain ⟨⟨s0, s1, s2, s3, s4⟩, -⟩ := quint (heap_alloc_new w8 (.cells #[.string gk, .int .i64 gc, .int .i64 gn, .string gv, .bool gd] 34))
  clear OI7 BW7 KK7 b8 bN O3
  go_wp2_with fail
  refine (sameB_any _ _ L L _ (reads_own OI8.out) (HA.out.later BW8.out).reads).mono ?_
  rintro e w9 ⟨rfl, hw9⟩
  rw [beq_self_eq_true]
  have BW9 : Hid (Below w.heap.size w w9) := by rw [hw9]; exact BW8
  have KK9 : Hid (w9.heap[w7.heap.size]? = some (.cells #[.string gk, .int .i64 gc, .int .i64 gn, .string gv, .bool gd] 34 (0, 0))) := by rw [hw9]; exact KK8
  clear r0 r1 r2 r3 r4 s0 s1 s2 s3 s4 OI8 BW8 KK8 hw9
  obtain ⟨⟨r0, r1, r2, r3, r4⟩, -⟩ := quint KK9.out
  go_wp2_with fail
  refine (B3.out _).mono ?_
  rintro e w10 ⟨za, zn, zc, rfl, oz, b10⟩
  have OZ := aside oz
  have BW10 := aside (bthen BW9.out b10)
  clear r0 r1 r2 r3 r4 oz b10 BW9 KK9
  rw [HI.out] at OZ
  go_wp2_with fail
  refine (sameB_any _ _ L L _ (reads_own OZ.out) (HA.out.later BW10.out).reads).mono ?_
  rintro e w11 ⟨rfl, hw11⟩
  rw [beq_self_eq_true]
  have BW11 : Hid (Below w.heap.size w w11) := by rw [hw11]; exact BW10
  clear hw11 OZ BW10
  go_wp2
  go_ret
  exact ⟨rfl, BW11.out⟩

set_option maxRecDepth 100000 in
set_option maxHeartbeats 6400000 in
theorem lbytes_00 (k : ByteArray) (c n : Int) (v : ByteArray) (d : Bool) (a : Option Addr) (len cap : Nat) (L : List UInt8) (gk : ByteArray) (gc gn : Int) (gv : ByteArray) (gd : Bool) (q q2 : Int) (w : World)
    (h1 : ¬ (1073741824 : Int) < k.size) (h2 : ¬ (1073741824 : Int) < v.size) (hA : ArgB w a len cap L) (hb : (len : Int) ≤ 1073741824) (hq : En.chk ⟨k, c, n, v, d⟩ = q) (hz : q ≠ 0) (hO : ofSt L = (⟨gk, gc, gn, gv, gd⟩, q2)) (hz2 : q2 ≠ 0) :
    Calls Try.prog 8 #[.agg #[.string k, .int .i64 c, .int .i64 n, .string v, .bool d], .slice a len cap] w fun e w' => e = .returned (.bool true) ∧ Below w.heap.size w w' := by
  have hLl : L.length = len := hA.1
  have HLL := aside (show L.length ≤ 1073741824 from by omega)
  have HA := aside hA
  have C0 := aside (fun w => long_no k c n v d w h1 h2)
  have B1 := aside (fun w => bytesE_no k c n v d q w hq hz)
  have B2 := aside (fun w => bytesERef_no k c n v d q w hq hz)
  have heq : (q == 0) = false := by simp [hz]
  have O2 : Hid (∀ (a : Option Addr) (len cap : Nat) (w : World), Reads (w.alloc (.cells #[.string ⟨#[]⟩, .int .i64 0, .int .i64 0, .string ⟨#[]⟩, .bool false] 34)) (.slice a len cap) L → Calls Try.prog 25 #[.slice a len cap] w fun r w' => r = .returned (.tuple #[.agg #[.string gk, .int .i64 gc, .int .i64 gn, .string gv, .bool gd], .int .i64 q2]) ∧ Below w.heap.size w w') := fun a len cap w h => of_at h HLL.out hO
  have O3 : Hid (∀ (w : World), ArgB w a len cap L → Calls Try.prog 26 #[.slice a len cap] w fun r w' => r = .returned (.tuple #[.agg #[.string gk, .int .i64 gc, .int .i64 gn, .string gv, .bool gd], .int .i64 q2]) ∧ Below w.heap.size w w') := fun w h => ofRef_at h HLL.out hO
  have hne2 : (q2 != 0) = true := by simp [hz2]
  obtain ⟨qz, hqz, hqn⟩ : ∃ qz, En.chk ⟨gk, gc, gn, gv, gd⟩ = qz ∧ qz ≠ 0 := ⟨_, rfl, of_bad_chk hO hz2⟩
  have B3 := aside (fun w => bytesE_no gk gc gn gv gd qz w hqz hqn)
  clear hqz hqn hz2
  clear hq hO hA hLl h1 h2 hz
  go_enter Try.func8, Try.ntmps8
  go_wp2_with fail
  refine (C0.out _).mono ?_
  rintro e w1 ⟨rfl, b1⟩
  have KA1 := aside (blk_on (heap_alloc_new w (.cells #[.string k, .int .i64 c, .int .i64 n, .string v, .bool d] 34)) b1)
  have BW1 := aside (bthen (bnew w (.cells #[.string k, .int .i64 c, .int .i64 n, .string v, .bool d] 34)) b1)
  have HO0 : Hid ((w1.alloc (.cells #[] 5)).ownsRow w1.heap.size 5 1 (.slice (some ⟨w1.heap.size, 0, none⟩) ([] : List UInt8).length 0) ([] : List UInt8).length (Lib.byteCells [])) := World.ownsRow_made w1 #[] 0 (Nat.le_refl _) (Nat.zero_le _) rfl
  clear b1 C0
  go_wp2_with (at_builtin; refine append_arg rfl _ _ _ rfl Try.underlying40 w1.heap.size (.slice (some ⟨w1.heap.size, 0, none⟩) 0 0) [] (by rfl) HO0.out a len cap L (by rfl) (HA.out.later (bthen BW1.out (bnew w1 _))) (by have := HLL.out; have := HA.out.1; simp; omega) (by simp) ?_; intro v2 w2 hown2 hgrow; refine Hid.out ?_)
  refine aside ?_
  rw [List.nil_append] at hown2
  have k2 : Keeps (fun _ => False) w1 w2 := ((Keeps.refl _ w1).alloc _).grown hgrow (fun k hk hlt => by simp [Value.ownBlock] at hk; omega)
  have b12 : Below w1.heap.size w1 w2 := k2.below (Nat.le_refl _) (fun _ _ h => h)
  obtain ⟨ia, im, ic, rfl⟩ := own_form hown2
  have OI := aside hown2
  have KA := aside (blk_on KA1.out b12)
  have BW := aside (bthen BW1.out b12)
  obtain ⟨⟨r0, r1, r2, r3, r4⟩, -⟩ := quint KA.out
  clear hown2 hgrow k2 b12 KA1 BW1 HO0
  go_wp2_with fail
  refine (B1.out _).mono ?_
  rintro e w3 ⟨rfl, b3⟩
  have OI3 := aside (ownsRow_keep OI.out (Keeps.of_below b3 (fun _ => False)) (fun _ _ h => h))
  have KA3 := aside (blk_on KA.out b3)
  have BW3 := aside (bthen BW.out b3)
  clear r0 r1 r2 r3 r4 OI KA BW b3 B1
  obtain ⟨⟨r0, r1, r2, r3, r4⟩, -⟩ := quint KA3.out
  go_wp2_with fail
  refine (B2.out _).mono ?_
  rintro e w4 ⟨rfl, b4⟩
  have OI4 := aside (ownsRow_keep OI3.out (Keeps.of_below b4 (fun _ => False)) (fun _ _ h => h))
  have KA4 := aside (blk_on KA3.out b4)
  have BW4 := aside (bthen BW3.out b4)
  clear r0 r1 r2 r3 r4 OI3 KA3 BW3 b4 B2
  go_wp2_with fail
  refine (sameB_any _ _ [] [] _ (reads_nil _) (reads_nil _)).mono ?_
  rintro e w5 ⟨rfl, hw5⟩
  subst hw5
  rw [beq_self_eq_true]
  have OI5 := aside OI4.out
  have KA5 := aside KA4.out
  have BW5 := aside BW4.out
  clear OI4 KA4 BW4
  go_wp2_with fail
  refine (O2.out _ _ _ _ (reads_own (OI5.out.alloc _))).mono ?_
  rintro e w7 ⟨rfl, b7⟩
  have bN := bthen b7 (bnew w7 (.cells #[.string gk, .int .i64 gc, .int .i64 gn, .string gv, .bool gd] 34))
  have OI7 := aside (ownsRow_keep OI5.out (Keeps.of_below bN (fun _ => False)) (fun _ _ h => h))
  have BW7 := aside (bthen BW5.out bN)
  have KK7 := aside (heap_alloc_new w7 (.cells #[.string gk, .int .i64 gc, .int .i64 gn, .string gv, .bool gd] 34))
  clear KA5
  clear OI5 BW5 b7 bN O2
  go_wp2_with fail
  refine (O3.out _ (HA.out.later BW7.out)).mono ?_
  rintro e w8 ⟨rfl, b8⟩
  have bN := bthen b8 (bnew w8 (.cells #[.string gk, .int .i64 gc, .int .i64 gn, .string gv, .bool gd] 34))
  have OI8 := aside (ownsRow_keep OI7.out (Keeps.of_below bN (fun _ => False)) (fun _ _ h => h))
  have BW8 := aside (bthen BW7.out bN)
  have KK8 := aside (blk_on KK7.out bN)
  obtain ⟨⟨r0, r1, r2, r3, r4⟩, -⟩ := quint KK8.out
  obtain ⟨⟨s0, s1, s2, s3, s4⟩, -⟩ := quint (heap_alloc_new w8 (.cells #[.string gk, .int .i64 gc, .int .i64 gn, .string gv, .bool gd] 34))
  clear OI7 BW7 KK7 b8 bN O3
  go_wp2_with fail
  refine (sameB_any _ _ L L _ (reads_own OI8.out) (HA.out.later BW8.out).reads).mono ?_
  rintro e w9 ⟨rfl, hw9⟩
  rw [beq_self_eq_true]
  have BW9 : Hid (Below w.heap.size w w9) := by rw [hw9]; exact BW8
  have KK9 : Hid (w9.heap[w7.heap.size]? = some (.cells #[.string gk, .int .i64 gc, .int .i64 gn, .string gv, .bool gd] 34 (0, 0))) := by rw [hw9]; exact KK8
  clear r0 r1 r2 r3 r4 s0 s1 s2 s3 s4 OI8 BW8 KK8 hw9
  obtain ⟨⟨r0, r1, r2, r3, r4⟩, -⟩ := quint KK9.out
  go_wp2_with fail
  refine (B3.out _).mono ?_
  rintro e w10 ⟨rfl, b10⟩
  have BW10 := aside (bthen BW9.out b10)
  clear r0 r1 r2 r3 r4 b10 BW9 KK9
  go_wp2
  go_ret
  exact ⟨rfl, BW10.out⟩

set_option maxHeartbeats 1600000 in
set_option maxRecDepth 100000 in
theorem lbytes_long (k : ByteArray) (c n : Int) (v : ByteArray) (d : Bool) (a : Option Addr) (len cap : Nat) (w : World) (h : (1073741824 : Int) < k.size ∨ (1073741824 : Int) < v.size) : Calls Try.prog 8 #[.agg #[.string k, .int .i64 c, .int .i64 n, .string v, .bool d], .slice a len cap] w fun e w' => e = .returned (.bool true) ∧ Below w.heap.size w w' := by
  have C0 := aside (fun w => long_yes k c n v d w h)
  clear h
  go_enter Try.func8, Try.ntmps8
  go_wp2_with fail
  refine (C0.out _).mono ?_
  rintro e w1 ⟨rfl, b1⟩
  have b0 := bthen (bnew w _) b1
  clear b1
  go_wp2
  go_ret
  exact ⟨rfl, b0⟩

set_option maxHeartbeats 1600000 in
set_option maxRecDepth 100000 in
theorem lbytes_wide (k : ByteArray) (c n : Int) (v : ByteArray) (d : Bool) (a : Option Addr) (len cap : Nat) (w : World) (h1 : ¬ (1073741824 : Int) < k.size) (h2 : ¬ (1073741824 : Int) < v.size) (h3 : (1073741824 : Int) < (len : Int)) : Calls Try.prog 8 #[.agg #[.string k, .int .i64 c, .int .i64 n, .string v, .bool d], .slice a len cap] w fun e w' => e = .returned (.bool true) ∧ Below w.heap.size w w' := by
  have C0 := aside (fun w => long_no k c n v d w h1 h2)
  clear h1 h2
  go_enter Try.func8, Try.ntmps8
  go_wp2_with fail
  refine (C0.out _).mono ?_
  rintro e w1 ⟨rfl, b1⟩
  have b0 := bthen (bnew w _) b1
  clear b1
  go_wp2
  go_ret
  exact ⟨rfl, b0⟩

theorem lbytes_walk (k : ByteArray) (c n : Int) (v : ByteArray) (d : Bool) (a : Option Addr) (len cap : Nat) (zs : List Int) (w : World) (hrow : IsRow w a len cap zs) : Calls Try.prog 8 #[.agg #[.string k, .int .i64 c, .int .i64 n, .string v, .bool d], .slice a len cap] w fun e w' => e = .returned (.bool true) ∧ Below w.heap.size w w' := by
  by_cases h : (1073741824 : Int) < k.size ∨ (1073741824 : Int) < v.size
  · exact lbytes_long k c n v d a len cap w h
  have h1 : ¬ (1073741824 : Int) < k.size := fun e => h (.inl e)
  have h2 : ¬ (1073741824 : Int) < v.size := fun e => h (.inr e)
  by_cases h3 : (1073741824 : Int) < (len : Int)
  · exact lbytes_wide k c n v d a len cap w h1 h2 h3
  have hA := ArgB.of_row hrow
  have hb : (len : Int) ≤ 1073741824 := by omega
  rcases hO : ofSt (bytesOf (zs.take len)) with ⟨⟨gk, gc, gn, gv, gd⟩, q2⟩
  by_cases hq : En.chk ⟨k, c, n, v, d⟩ = 0 <;> by_cases hq2 : q2 = 0
  · exact lbytes_11 k c n v d a len cap _ gk gc gn gv gd _ q2 w h1 h2 hA hb rfl hq hO hq2
  · exact lbytes_10 k c n v d a len cap _ gk gc gn gv gd _ q2 w h1 h2 hA hb rfl hq hO hq2
  · exact lbytes_01 k c n v d a len cap _ gk gc gn gv gd _ q2 w h1 h2 hA hb rfl hq hO hq2
  · exact lbytes_00 k c n v d a len cap _ gk gc gn gv gd _ q2 w h1 h2 hA hb rfl hq hO hq2

end Go.Proofs.Ytnjbglnkhgholaa
