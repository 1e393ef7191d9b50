/-
  among, and the examples of bags, walked.
-/
import Derived.Test.YteaaamhojiognaaBgH
import Derived.Lib.SlBytesConst
namespace Go.Proofs.Yteaaamhojiognaa
open Go.RowKit
set_option linter.unusedVariables false

def amg (p n : Int) : Int := if p.tmod n < 0 then p.tmod n + n else p.tmod n
theorem amg_lt (p : Int) {m : Nat} (hm : 0 < m) : ∃ k : Nat, amg p (m : Int) = (k : Int) ∧ k < m := by
  have hlo : -(m : Int) < p.tmod m := by
    have := Int.lt_tmod_of_pos p (show (0 : Int) < m by omega)
    omega
  have hhi : p.tmod m < (m : Int) := Int.tmod_lt_of_pos p (by omega)
  unfold amg
  split
  · exact ⟨(p.tmod m + m).toNat, by omega, by omega⟩
  · exact ⟨(p.tmod m).toNat, by omega, by omega⟩
set_option maxHeartbeats 1600000 in
theorem among18 (p : Int) (m : Nat) (w : World) (hm : 0 < m) (hx : (m : Int) ≤ 9223372036854775807) :
    Calls Try.prog 10 #[.int .i64 p, .int .i64 (m : Int)] w fun e w' => e = .returned (.int .i64 (amg p (m : Int))) ∧ w' = w := by
  have h1 : ¬ (m : Int) < 1 := by omega
  have hne : (m : Int) ≠ 0 := by omega
  have hlo : -(m : Int) < p.tmod m := by
    have := Int.lt_tmod_of_pos p (show (0 : Int) < m by omega)
    omega
  have hhi : p.tmod m < (m : Int) := Int.tmod_lt_of_pos p (by omega)
  have hnm : ¬ (m : Int) = -1 := by omega
  unfold amg
  generalize hr : p.tmod m = r at *
  by_cases hneg : r < 0
  · have hw : IntKind.i64.wrap (r + (m : Int)) = r + (m : Int) := by rw [IntKind.wrap_i64]; omega
    rw [if_pos hneg]
    go_enter Try.func10, Try.ntmps10
    go_wp2
    go_ret
    exact ⟨rfl, rfl⟩
  · rw [if_neg hneg]
    go_enter Try.func10, Try.ntmps10
    go_wp2
    go_ret
    exact ⟨rfl, rfl⟩

theorem amg_one (p : Int) {m : Nat} (hm : m < 1) : (m : Int) < 1 := by omega
/-- A slice of one byte, just made. -/
theorem byIn_lit (w : World) (k : UInt8) : ByIn (w.alloc (.cells #[.int .u8 (k.toNat : Int)] 5 (1, 2))) (some ⟨w.heap.size, 0, none⟩) 1 1 [k] := by
  refine ⟨rfl, Nat.le_refl _, by decide, .inr ⟨_, rfl, fun j u hj => ?_⟩⟩
  rw [Addr.add_lit, Nat.zero_add, cell_of_row _ _ j _ _ _ (heap_alloc_new w _)]
  match j, hj with
  | 0, hj => simpa [Lib.byteCells] using hj
theorem dat_conv {w : World} {C : Nat} {p : Pk} (h : Dat C w p) : (convert 32 9 (.slice p.da p.dl p.dc)).run Try.prog w = .ok (.string ⟨p.L.toArray⟩) w := conv_own w C _ p.L (by rw [h.len]; exact h.1)
theorem far_new {w : World} {B b : Nat} {v : Value} {room last lost : Nat} {l : List Pk} (h : BagAt w B b v room last lost l) {q : Nat} (hq : w.heap.size ≤ q) : ¬ BgS b v q := fun hs => by
  rcases hs with rfl | hs
  · have := lt_of_blk h.bx; omega
  · have := h.row.lt _ hs; omega
/-- The bag's state behind a call, from where it began. -/
structure BSt (w0 W : World) (b : Nat) (v : Value) (room last lost : Nat) (l : List Pk) : Prop where
  bag : BagAt W w0.heap.size b v room last lost l
  bel : Below w0.heap.size w0 W
theorem BSt.on {w0 W W' : World} {b : Nat} {v : Value} {room last lost : Nat} {l : List Pk} (h : BSt w0 W b v room last lost l) (k : Below W.heap.size W W') : BSt w0 W' b v room last lost l := ⟨h.bag.on k, bthen h.bel k⟩
theorem BSt.turn {w0 W W' : World} {b : Nat} {v v' : Value} {room last lost last' lost' : Nat} {l l' : List Pk} (h : BSt w0 W b v room last lost l) (k : Keeps (BgS b v) W W') (h' : BagAt W' w0.heap.size b v' room last' lost' l') : BSt w0 W' b v' room last' lost' l' := ⟨h', h.bel.trans (h.bag.below k h.bel.size)⟩
theorem pk_ext {p : Pk} {n f t : Int} {L : List UInt8} (h : Pk.pl p = ⟨n, f, t, L⟩) : p.num = n ∧ p.frm = f ∧ p.dst = t ∧ p.L = L := by
  unfold Pk.pl at h
  injection h with h1 h2 h3 h4
  exact ⟨h1, h2, h3, h4⟩

set_option maxHeartbeats 12800000 in
set_option maxRecDepth 100000 in
theorem shown18 (w : World) : Calls Try.prog 7 #[] w fun e w' => e = .returned (.bool true) ∧ Below w.heap.size w w' := by
  go_enter Try.func7, Try.ntmps7
  go_wp2_with fail
  refine (bnew_ok 2 (by omega) (by omega) w).mono ?_
  rintro e X1 ⟨b, rfl, hb, b1⟩
  have S1 := aside (BSt.mk hb b1)
  clear hb b1
  have bn2 := bnew X1 (.cells #[.int .u8 97] 5 (1, 2))
  have hcv2 : (convert 32 32 (.slice (some ⟨X1.heap.size, 0, none⟩) 1 1)).run Try.prog (X1.alloc (.cells #[.int .u8 97] 5)) = .ok (.slice (some ⟨X1.heap.size, 0, none⟩) 1 1) (X1.alloc (.cells #[.int .u8 97] 5 (1, 2))) := Lib.run_convert_bytes_const X1 32 5 #[.int .u8 97] 1 1 Try.underlying32 Try.underlying5
  have BI2 := aside (byIn_lit X1 97)
  have SN2 := aside (S1.out.on bn2)
  have FR2 := aside (far_new S1.out.bag (Nat.le_refl X1.heap.size))
  clear bn2
  go_wp2_with fail
  refine (bsend_ok SN2.out.bag 0 1 (some ⟨X1.heap.size, 0, none⟩) 1 1 [97] ⟨by omega, by omega, by omega⟩ (by omega) BI2.out (fun _ x hx => by injection hx with hx; subst hx; exact FR2.out) (by decide) (by decide) SN2.out.bel.size).mono ?_
  rintro e X2 ⟨n2, rfl, kk, hs⟩
  rcases hs with ⟨h, -⟩ | ⟨-, e2, v2, p2, hp2, -, hb, -⟩
  · simp at h
  injection e2 with e2
  injection e2 with _ e2
  subst e2
  have S2 := aside (SN2.out.turn kk hb)
  have P2 := aside hp2
  clear kk hb hp2 SN2 S1 BI2 FR2
  have bn3 := bnew X2 (.cells #[.int .u8 98] 5 (1, 2))
  have hcv3 : (convert 32 32 (.slice (some ⟨X2.heap.size, 0, none⟩) 1 1)).run Try.prog (X2.alloc (.cells #[.int .u8 98] 5)) = .ok (.slice (some ⟨X2.heap.size, 0, none⟩) 1 1) (X2.alloc (.cells #[.int .u8 98] 5 (1, 2))) := Lib.run_convert_bytes_const X2 32 5 #[.int .u8 98] 1 1 Try.underlying32 Try.underlying5
  have BI3 := aside (byIn_lit X2 98)
  have SN3 := aside (S2.out.on bn3)
  have FR3 := aside (far_new S2.out.bag (Nat.le_refl X2.heap.size))
  clear bn3
  go_wp2_with fail
  refine (bsend_ok SN3.out.bag 1 0 (some ⟨X2.heap.size, 0, none⟩) 1 1 [98] ⟨by omega, by omega, by omega⟩ (by omega) BI3.out (fun _ x hx => by injection hx with hx; subst hx; exact FR3.out) (by decide) (by decide) SN3.out.bel.size).mono ?_
  rintro e X3 ⟨n3, rfl, kk, hs⟩
  rcases hs with ⟨h, -⟩ | ⟨-, e3, v3, p3, hp3, -, hb, -⟩
  · simp at h
  injection e3 with e3
  injection e3 with _ e3
  subst e3
  have S3 := aside (SN3.out.turn kk hb)
  have P3 := aside hp3
  clear kk hb hp3 SN3 S2 BI3 FR3
  have bn4 := bnew X3 (.cells #[.int .u8 99] 5 (1, 2))
  have hcv4 : (convert 32 32 (.slice (some ⟨X3.heap.size, 0, none⟩) 1 1)).run Try.prog (X3.alloc (.cells #[.int .u8 99] 5)) = .ok (.slice (some ⟨X3.heap.size, 0, none⟩) 1 1) (X3.alloc (.cells #[.int .u8 99] 5 (1, 2))) := Lib.run_convert_bytes_const X3 32 5 #[.int .u8 99] 1 1 Try.underlying32 Try.underlying5
  have BI4 := aside (byIn_lit X3 99)
  have SN4 := aside (S3.out.on bn4)
  have FR4 := aside (far_new S3.out.bag (Nat.le_refl X3.heap.size))
  clear bn4
  go_wp2_with fail
  refine (bsend_ok SN4.out.bag 0 1 (some ⟨X3.heap.size, 0, none⟩) 1 1 [99] ⟨by omega, by omega, by omega⟩ (by omega) BI4.out (fun _ x hx => by injection hx with hx; subst hx; exact FR4.out) (by decide) (by decide) SN4.out.bel.size).mono ?_
  rintro e X4 ⟨n4, rfl, kk, hs⟩
  rcases hs with ⟨-, e4, hb⟩ | ⟨h, -⟩
  rotate_left
  · simp at h
  injection e4 with e4
  injection e4 with _ e4
  subst e4
  have S4 := aside (SN4.out.turn kk hb)
  clear kk hb SN4 S3 BI4 FR4
  go_wp2_with fail
  refine (btake_yes S4.out.bag 0 p2 rfl S4.out.bel.size).mono ?_
  rintro e X5 ⟨p5, rfl, hp5, d5, v5, hb, kk, -⟩
  have S5 := aside (S4.out.turn kk hb)
  have D5 := aside d5
  have P5 := aside (hp5.trans P2.out)
  have HQR := aside (show ∀ j, v5.ownBlock = some j → j < X5.heap.size from fun j hj => (hb.row.lt j hj).2)
  clear kk hb hp5 d5 S4
  unfold Pk.v
  have bn5 := bnew X5 (.cells #[.int .i64 p5.num, .int .i64 p5.frm, .int .i64 p5.dst, .slice p5.da p5.dl p5.dc] 39)
  have K5 := aside (heap_alloc_new X5 (.cells #[.int .i64 p5.num, .int .i64 p5.frm, .int .i64 p5.dst, .slice p5.da p5.dl p5.dc] 39))
  have SN6 := aside (S5.out.on bn5)
  have D6 := aside (D5.out.on bn5)
  obtain ⟨q5, hq5⟩ : ∃ q, X5.heap.size = q := ⟨_, rfl⟩
  have HQ5 := aside hq5
  rw [hq5] at K5 HQR
  clear bn5 D5 S5
  go_upto_region 8 with fail
  obtain ⟨X6, hX6⟩ : ∃ X, X5.alloc (.cells #[.int .i64 p5.num, .int .i64 p5.frm, .int .i64 p5.dst, .slice p5.da p5.dl p5.dc] 39) = X := ⟨_, rfl⟩
  rw [hX6] at K5 SN6 D6
  try rw [hX6]
  try rw [hq5]
  clear hX6 hq5
  go_wp2_with fail
  refine (bdouble_yes SN6.out.bag 0 p3 rfl (by decide) (by decide) SN6.out.bel.size).mono ?_
  rintro e X7 ⟨n7, rfl, kk, hs⟩
  rcases hs with ⟨h, -⟩ | ⟨-, e7, v7, p7, hp7, -, hb, hwh⟩
  · simp at h
  have HQ7 := aside (show ∀ j, v7.ownBlock = some j → j ≠ q5 from fun j hj e => by
    subst e
    rcases hwh with h | ⟨g, h1, h2⟩
    · rw [h] at hj; exact absurd (HQR.out _ hj) (Nat.lt_irrefl _)
    · rw [hj] at h1; injection h1 with h1; have h3 := lt_of_blk K5.out; omega)
  clear hwh
  injection e7 with e7
  injection e7 with _ e7
  subst e7
  have S7 := aside (SN6.out.turn kk hb)
  have P7 := aside hp7
  have NS7 := aside (show ¬ BgS b v5 q5 from fun hs => by
    have h1 := HQ5.out
    rcases hs with h | h
    · have h2 := SN6.out.bag.bx
      rw [← h, K5.out] at h2
      simp at h2
    · have h2 := HQR.out _ h; omega)
  have K7 := aside (blk_keep K5.out kk NS7.out)
  have D7 := aside (D6.out.keep kk (SN6.out.bag.dat_not D6.out))
  clear kk hb hp7 SN6 D6 K5
  go_wp2_with fail
  refine (btake_yes S7.out.bag 1 p7 rfl S7.out.bel.size).mono ?_
  rintro e X8 ⟨p8, rfl, hp8, d8, v8, hb, kk, -⟩
  have S8 := aside (S7.out.turn kk hb)
  have D8 := aside d8
  have P8 := aside (hp8.trans P7.out)
  have NS8 := aside (show ¬ BgS b v7 q5 from fun hs => by
    have h1 := HQ5.out
    rcases hs with h | h
    · have h2 := S7.out.bag.bx
      rw [← h, K7.out] at h2
      simp at h2
    · exact HQ7.out _ h rfl)
  have K8 := aside (blk_keep K7.out kk NS8.out)
  have D9 := aside (D7.out.keep kk (S7.out.bag.dat_not D7.out))
  clear kk hb hp8 d8 S7 K7 D7
  obtain ⟨num8, frm8, dst8, da8, dl8, dc8, L8⟩ := p8
  obtain ⟨a1, a2, a3, a4⟩ := pk_ext P8.out
  obtain ⟨c1, c2, c3, c4⟩ := pk_ext P3.out
  obtain ⟨num5, frm5, dst5, da5, dl5, dc5, L5⟩ := p5
  obtain ⟨d1, d2, d3, d4⟩ := pk_ext P5.out
  dsimp only at a1 a2 a3 a4 d1 d2 d3 d4
  rw [c2] at a2
  rw [c3] at a3
  rw [c4] at a4
  replace a1 : num8 = 3 := by simpa using a1
  replace d1 : num5 = 1 := by simpa using d1
  subst a1 a2 a3 a4 d1 d2 d3 d4
  clear c1 c2 c3 c4 P8 P7 P3 P2 P5
  unfold Pk.v
  dsimp only at K8 D9 D8 ⊢
  have bn8 := bnew X8 (.cells #[.int .i64 3, .int .i64 1, .int .i64 0, .slice da8 dl8 dc8] 39)
  have K9 := aside (heap_alloc_new X8 (.cells #[.int .i64 3, .int .i64 1, .int .i64 0, .slice da8 dl8 dc8] 39))
  have S9 := aside (S8.out.on bn8)
  have D10 := aside (D9.out.on bn8)
  have D11 := aside (D8.out.on bn8)
  replace K8 := aside (blk_on K8.out bn8)
  obtain ⟨q8, hq8⟩ : ∃ q, X8.heap.size = q := ⟨_, rfl⟩
  rw [hq8] at K9
  clear bn8 D9 S8 D8
  go_upto_region 10 with fail
  obtain ⟨X9, hX9⟩ : ∃ X, X8.alloc (.cells #[.int .i64 3, .int .i64 1, .int .i64 0, .slice da8 dl8 dc8] 39) = X := ⟨_, rfl⟩
  rw [hX9] at K8 K9 S9 D10 D11
  try rw [hX9]
  try rw [hq8]
  clear hX9 hq8
  go_wp2_with fail
  refine (bdrop_no S9.out.bag 1 (.inr (by simp))).mono ?_
  rintro e X ⟨rfl, rfl⟩
  have HL := aside (blen_any S9.out.bag)
  have HO := aside (blost_any S9.out.bag)
  have BF := aside S9.out.bel
  obtain ⟨x0, x1, x2, x3⟩ := fourB K8.out
  obtain ⟨y0, y1, y2, y3⟩ := fourB K9.out
  have cv1 := dat_conv D10.out
  have cv2 := dat_conv D11.out
  dsimp only at cv1 cv2
  clear S9 K8 K9 D10 D11
  go_wp2_with fail
  refine HL.out.mono ?_
  rintro e X9 ⟨rfl, rfl⟩
  go_wp2_with fail
  refine HO.out.mono ?_
  rintro e X9 ⟨rfl, rfl⟩
  go_wp2
  go_ret
  exact ⟨rfl, BF.out⟩
end Go.Proofs.Yteaaamhojiognaa
