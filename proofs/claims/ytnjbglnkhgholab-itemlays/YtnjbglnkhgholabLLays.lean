/-
  The law ItemLays, walked: whatever entries came in, both writers hold the same bytes.
-/
import Derived.Test.YtnjbglnkhgholabITwo
import Derived.Deep.RegionHeld3
namespace Go.Proofs.Ytnjbglnkhgholab
open Go.RowKit
set_option linter.unusedVariables false

/-- What an entry counts, and k of them. -/
def wgt (e : En) : Int := min (e.k.size : Int) 2147483648 + min (e.v.size : Int) 2147483648 + 40
def tot (T : Nat → En) : Nat → Int
  | 0 => 0
  | k + 1 => tot T k + wgt (T k)

theorem wgt_lo (e : En) : 40 ≤ wgt e ∧ wgt e ≤ 4294967336 := by unfold wgt; omega
theorem tot_lo (T : Nat → En) (k : Nat) : 40 * (k : Int) ≤ tot T k := by
  induction k with
  | zero => simp [tot]
  | succ k ih => have := wgt_lo (T k); simp only [tot]; omega

/-- What k entries lay down, a number behind each. -/
def layB (T : Nat → En) (m : Int) : Nat → List UInt8
  | 0 => []
  | k + 1 => layB T m k ++ putB (T k) ++ Nm.enc 8 (up m)

theorem putB_len (e : En) : (putB e).length ≤ 200 := by
  by_cases h : e.chk = 0
  · rw [putB_yes h]
    obtain ⟨k, c, n, v, d⟩ := e
    obtain ⟨h1, _, _, _, _, h2⟩ := En.ok_parts h
    have e1 := Nm.enc_length 8 k.size
    have e2 := Nm.enc_length 8 v.size
    have e3 := Nm.enc_length 8 (up c)
    have e4 := Nm.enc_length 8 (up n)
    have e5 : k.data.toList.length = k.size := by show k.data.toList.length = k.data.size; simp
    have e6 : v.data.toList.length = v.size := by show v.data.toList.length = v.data.size; simp
    have e7 : (flagB d).length = 1 := rfl
    cases d <;> simp only [entB, List.length_append, cond, List.length_nil] <;> omega
  · rw [putB_no h]; simp

theorem layB_len (T : Nat → En) (m : Int) (k : Nat) : (layB T m k).length ≤ 300 * k := by
  induction k with
  | zero => simp [layB]
  | succ k ih =>
    have e1 := Nm.enc_length 8 (up m)
    have e2 := putB_len (T k)
    simp only [layB, List.length_append]
    omega

/-- The first loop. -/
def SumRel (T : Nat → En) (len : Nat) (w : World) (n i : Value) (wr : World) : Prop :=
  ∃ k : Nat, i = .int .i64 (k : Int) ∧ k ≤ len ∧ n = .int .i64 (tot T k) ∧ tot T k ≤ 5368709200 ∧ Below w.heap.size w wr

/-- The second loop. -/
def LaysRel (B bw bd : Nat) (T : Nat → En) (m : Int) (len : Nat) (w : World) (i : Value) (wr : World) : Prop :=
  ∃ (k : Nat) (gw gd : Option Nat), i = .int .i64 (k : Int) ∧ k ≤ len ∧ TwoL B bw bd gw gd (layB T m k) (layB T m k) wr ∧ Below B w wr

set_option maxHeartbeats 6400000 in
set_option maxRecDepth 100000 in
theorem lays_walk (a : Option Addr) (len cap : Nat) (T : Nat → En) (m : Int) (w : World) (h : EntsIn w a len cap T) (hm0 : -9223372036854775808 ≤ m) (hm1 : m ≤ 9223372036854775807) :
    Calls Try.prog 4 #[.slice a len cap, .int .i64 m] w fun e w' => e = .returned (.bool true) ∧ Below w.heap.size w w' := by
  obtain ⟨hlc, hcm, hh⟩ := h
  unfold maxLen at hcm
  have hlen : (len : Int) ≤ 9223372036854775807 := by omega
  have HH := aside hh
  have HM := aside (And.intro hm0 hm1)
  clear hh hm0 hm1 hlc hcm
  go_enter Try.func4, Try.ntmps4
  go_wp2
  go_loopw [5, 6] (fun n i wr => SumRel T len w n i wr) (fun _ i _ => len - (intOf i).toNat)
  case atStart => exact ⟨0, rfl, Nat.zero_le _, rfl, by simp [tot], Below.refl _ _⟩
  case round =>
    obtain ⟨k, rfl, hk, rfl, ht, hbel⟩ := hrel
    have htl := tot_lo T k
    generalize hN : tot T k = n at *
    by_cases hlt : (k : Int) < (len : Int)
    · by_cases hn : n ≤ 1073741824
      · rcases HH.out with h | ⟨b, off, rfl, hb, hc⟩
        · omega
        · obtain ⟨c0, -, -, c3, -⟩ := hc k (by omega)
          replace c0 := (hbel.cell (p := ⟨b, off + k * 5, none⟩) hb).trans c0
          replace c3 := (hbel.cell (p := ⟨b, off + k * 5 + 3, none⟩) hb).trans c3
          have hk0 : (0 : Int) ≤ (k : Int) := by omega
          have HNN := aside hN
          clear hc hN
          obtain ⟨sk, hsk⟩ : ∃ s, (T k).k = s := ⟨_, rfl⟩
          obtain ⟨sv, hsv⟩ : ∃ s, (T k).v = s := ⟨_, rfl⟩
          rw [hsk] at c0
          rw [hsv] at c3
          have hW : wgt (T k) = min (sk.size : Int) 2147483648 + min (sv.size : Int) 2147483648 + 40 := by rw [← hsk, ← hsv]; rfl
          have HWW := aside hW
          clear hsk hsv hW
          go_wp2_with fail
          go_region
          have hE : n + (((if 2147483648 < (sk.size : Int) then 2147483648 else (sk.size : Int)) + if 2147483648 < (sv.size : Int) then 2147483648 else (sv.size : Int)) + 40) = tot T (k + 1) := by
            simp only [tot]
            rw [HNN.out, HWW.out]
            split <;> split <;> omega
          have hE2 : tot T (k + 1) ≤ 5368709200 := by
            have e1 := (wgt_lo (T k)).2
            have e2 := HNN.out
            simp only [tot]
            omega
          obtain ⟨N, hN3⟩ : ∃ N, tot T (k + 1) = N := ⟨_, rfl⟩
          rw [hE, hN3]
          rw [hN3] at hE2
          have hE3 := aside hN3
          clear hE hN3
          go_wp2
          go_roundw
          case rel => exact ⟨k + 1, by go_num, by omega, by rw [hE3.out], by rw [hE3.out]; exact hE2, hbel.drew⟩
          case measure => simp [intOf]; omega
      · go_wp2
        go_ret
        exact ⟨rfl, hbel⟩
    · by_cases hn : n ≤ 1073741824
      · have hl30 : (len : Int) ≤ 26843546 := by omega
        have HL30 := aside hl30
        clear hN ht htl
        generalize hww : wr = w0 at *
        clear hww
        go_wp2_with fail
        refine (newWriter_any _).mono ?_
        rintro e w1 ⟨rfl, hw1⟩
        clear hlt hk hn
        have W1 : IsW 59 w0.heap.size w0.heap.size none [] w1 := by rw [hw1]; exact isW_new _ _ _ (Nat.le_refl _)
        have b1 : Below w0.heap.size w0 w1 := by rw [hw1]; exact (Below.refl _ _).alloc (Nat.le_refl _) _
        clear hw1
        go_wp2_with fail
        refine (newWriterRef_any _).mono ?_
        rintro e w2 ⟨rfl, hw2⟩
        have s1 := W1.lt
        have D2 : IsW 48 w0.heap.size w1.heap.size none [] w2 := by rw [hw2]; exact isW_new _ _ _ b1.size
        have k2 : Keeps (fun _ => False) w1 w2 := by rw [hw2]; exact (Keeps.refl _ _).alloc _
        have b2 : Below w0.heap.size w0 w2 := b1.trans (k2.below b1.size (fun _ _ h => h))
        have T2 : TwoL w0.heap.size w0.heap.size w1.heap.size none none [] [] w2 := ⟨W1.keep k2 (fun h => h) (fun _ _ h => h), D2, by omega, by simp, by simp, by simp⟩
        obtain ⟨bd, hbd⟩ : ∃ bd, bd = w1.heap.size := ⟨_, rfl⟩
        rw [← hbd] at T2
        rw [← hbd]
        obtain ⟨bw, hbw⟩ : ∃ bw, bw = w0.heap.size := ⟨_, rfl⟩
        rw [← hbw] at T2 b2
        rw [← hbw]
        have TT := aside T2
        have HBW := aside hbw
        clear hw2 hbd D2 k2 s1 W1 b1 T2 hbw
        go_wp2
        go_loopw [9] (fun i wq => LaysRel bw bw bd T m len w0 i wq) (fun i _ => len - (intOf i).toNat)
        case atStart => exact ⟨0, none, none, rfl, Nat.zero_le _, TT.out, b2⟩
        case round =>
          obtain ⟨j, gw, gd, rfl, hj, hT, hbel2⟩ := hrel
          have hfull : Below w.heap.size w wr := hbel.trans (hbel2.mono (by rw [HBW.out]; exact hbel.size))
          have hBw : bw ≤ wr.heap.size := by rw [HBW.out]; exact hbel2.size
          have HF := aside hfull
          clear hfull
          by_cases hlt : (j : Int) < (len : Int)
          · rcases HH.out with h | ⟨b, off, rfl, hb, hc⟩
            · omega
            · obtain ⟨c0, c1, c2, c3, c4⟩ := hc j (by omega)
              have CC := aside (And.intro c0 (And.intro c1 (And.intro c2 (And.intro c3 c4))))
              replace c0 := (HF.out.cell (p := ⟨b, off + j * 5, none⟩) hb).trans c0
              replace c1 := (HF.out.cell (p := ⟨b, off + j * 5 + 1, none⟩) hb).trans c1
              replace c2 := (HF.out.cell (p := ⟨b, off + j * 5 + 2, none⟩) hb).trans c2
              replace c3 := (HF.out.cell (p := ⟨b, off + j * 5 + 3, none⟩) hb).trans c3
              replace c4 := (HF.out.cell (p := ⟨b, off + j * 5 + 4, none⟩) hb).trans c4
              have hll : (layB T m j).length ≤ 17592186044416 - 1000 := by have := layB_len T m j; have := HL30.out; omega
              have hj0 : (0 : Int) ≤ (j : Int) := by omega
              have HLL := aside hll
              have HT := aside hT
              have HBL := aside hbel2
              clear hc hll hT hbel2
              go_wp2_with fail
              refine (put_any bw bw gw (layB T m j) (T j).k (T j).c (T j).n (T j).v (T j).d _ HT.out.code hBw (by have := HLL.out; omega)).mono ?_
              rintro e w4 ⟨rfl, gw4, W4, fr4, k4⟩
              have T4 := aside (HT.out.code_step W4 fr4 k4)
              have q4 := HT.out.code_below k4 hBw
              have hB4 : bw ≤ w4.heap.size := Nat.le_trans hBw k4.size
              have BL4 := aside (HBL.out.trans q4)
              have hF4 := aside (HF.out.trans (q4.mono (by rw [HBW.out]; exact hbel.size)))
              clear c0 c1 c2 c3 c4 W4 fr4 k4 HT HBL q4 hBw
              obtain ⟨c0, c1, c2, c3, c4⟩ := CC.out
              replace c0 := (hF4.out.cell (p := ⟨b, off + j * 5, none⟩) hb).trans c0
              replace c1 := (hF4.out.cell (p := ⟨b, off + j * 5 + 1, none⟩) hb).trans c1
              replace c2 := (hF4.out.cell (p := ⟨b, off + j * 5 + 2, none⟩) hb).trans c2
              replace c3 := (hF4.out.cell (p := ⟨b, off + j * 5 + 3, none⟩) hb).trans c3
              replace c4 := (hF4.out.cell (p := ⟨b, off + j * 5 + 4, none⟩) hb).trans c4
              go_wp2_with fail
              refine (putRef_any bw bd gd (layB T m j) (T j).k (T j).c (T j).n (T j).v (T j).d _ T4.out.doc hB4 (by have := HLL.out; omega)).mono ?_
              rintro e w5 ⟨rfl, gd5, D5, fr5, k5⟩
              have T5 := aside (T4.out.doc_step D5 fr5 k5)
              have hB5 : bw ≤ w5.heap.size := Nat.le_trans hB4 k5.size
              have BL5 := aside (BL4.out.trans (T4.out.doc_below k5 hB4))
              clear c0 c1 c2 c3 c4 D5 fr5 k5 T4 BL4 hB4 hF4 CC HF
              have hp5 := putB_len (T j)
              have HL5 : Hid ((layB T m j ++ putB (T j)).length ≤ 17592186044416) := by
                show (layB T m j ++ putB (T j)).length ≤ 17592186044416
                rw [List.length_append]
                have := HLL.out
                omega
              clear hp5
              go_wp2_with fail
              refine (wnum_any bw bw gw4 (layB T m j ++ putB (T j)) m _ T5.out.code hB5 HM.out.2 HM.out.1 (by have := HL5.out; omega)).mono ?_
              rintro e w6 ⟨rfl, gw6, W6, fr6, k6⟩
              have T6 := aside (T5.out.code_step W6 fr6 k6)
              have hB6 : bw ≤ w6.heap.size := Nat.le_trans hB5 k6.size
              have BL6 := aside (BL5.out.trans (T5.out.code_below k6 hB5))
              clear W6 fr6 k6 T5 BL5 hB5
              go_wp2_with fail
              refine (wnumRef_any bw bd gd5 (layB T m j ++ putB (T j)) m _ T6.out.doc hB6 HM.out.2 HM.out.1 (by have := HL5.out; omega)).mono ?_
              rintro e w7 ⟨rfl, gd7, D7, fr7, k7⟩
              have T7 := aside (T6.out.doc_step D7 fr7 k7)
              have BL7 := aside (BL6.out.trans (T6.out.doc_below k7 hB6))
              clear D7 fr7 k7 T6 BL6 hB6
              go_wp2
              go_roundw
              case rel => exact ⟨j + 1, gw6, gd7, by go_num, by omega, T7.out, BL7.out⟩
              case measure => simp [intOf]; omega
          · have hjl : j = len := by omega
            have hll : (layB T m j).length ≤ 70368744177664 := by have := layB_len T m j; have := HL30.out; omega
            generalize layB T m j = L at *
            clear HL30
            obtain ⟨_, _, vd, hhd, rfl, hownd⟩ := hT.doc
            have cd6 := cell_one hhd
            obtain ⟨da, dn, dc, rfl⟩ := own_form hownd
            have s6 : bd < wr.heap.size := (Array.getElem?_eq_some_iff.1 hhd).1
            have OD6 := aside hownd
            have T6 := aside hT
            have b6 := aside HF.out
            clear hownd hT hhd hbel2 HF hjl
            go_wp2_with fail
            go_region_held3 (fun w' => w'.cell? ⟨bd, 0, none⟩ = some (.slice da dn dc)) (first | go_keep | (rw [k7.cell s6 (fun h => h)]; assumption))
              (first | (go_at_call 22; refine (bytes_any bw bw gw L _ (by exact T6.out.code) hll).mono ?_; rintro e w7 ⟨v7, rfl, o7, k7⟩) | (go_at_call 21; refine (sameB_any _ _ L L _ (by exact reads_own o7) (by first | exact reads_own OD6.out | exact reads_own (ownsRow_keep OD6.out.drew k7 (fun _ _ h => h)))).mono ?_; rintro e w8 ⟨rfl, rfl⟩))
            all_goals
              go_wp2
              go_ret
              exact ⟨by simp, b6.out.drew.trans (k7.below b6.out.size (fun _ _ h => h))⟩
      · go_wp2
        go_ret
        exact ⟨rfl, hbel⟩

end Go.Proofs.Ytnjbglnkhgholab
