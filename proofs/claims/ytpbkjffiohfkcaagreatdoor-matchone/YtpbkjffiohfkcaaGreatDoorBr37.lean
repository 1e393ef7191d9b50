/-
  The weight of parts: what a weight within the bound says of the sizes.
-/
import Derived.Test.YtpbkjffiohfkcaaGreatDoorBr1
import Derived.Test.YtpbkjffiohfkcaaGreatDoorBr26
import Derived.Deep.RegionHeld
import Derived.Deep.CutBlock
import Derived.Deep.DeepCutAuto
import Derived.Test.YtpbkjffiohfkcaaGreatDoorBr36
import Derived.Test.YtpbkjffiohfkcaaGreatDoorBr23
import Derived.Test.YtpbkjffiohfkcaaGreatDoorBr33
import Derived.Test.YtpbkjffiohfkcaaGreatDoorBr34
import Derived.Test.YtpbkjffiohfkcaaGreatDoorBr28
import Derived.Deep.Cut
namespace Go.Proofs.YtpbkjffiohfkcaaGreatDoor
open Go.RowKit
set_option linter.unusedVariables false
theorem int_eqF {a b : Int} (h : a = b) : Value.int .i64 a = .int .i64 b := by rw [h]
theorem wt_step (m x y : Nat) (hm : m ≤ 2147483648) : Value.int .i64 (IntKind.i64.wrap (IntKind.i64.wrap (IntKind.i64.wrap ((m : Int) + 1) + (if (2147483648 : Int) < (x : Int) then 2147483648 else (x : Int))) + (if (2147483648 : Int) < (y : Int) then 2147483648 else (y : Int)))) = .int .i64 ((m + 1 + min x 2147483648 + min y 2147483648 : Nat) : Int) := by
 refine int_eqF ?_
 rw [IntKind.wrap_i64, IntKind.wrap_i64, IntKind.wrap_i64]
 split <;> split <;> omega
set_option maxHeartbeats 6400000 in
set_option maxRecDepth 100000 in
theorem weight_any (a : Option Addr) (len cap : Nat) (P : Nat → Pm) (w : World) (h : PartsIn w a len cap P) :
    Calls Tryz.prog 28 #[.slice a len cap] w fun e w' => ∃ m : Nat, e = .returned (.int .i64 (m : Int)) ∧ (m ≤ 536870912 → len + totE P len ≤ m) ∧ Below w.heap.size w w' := by
 have HE := aside h
 have hmx : (len : Int) ≤ 9223372036854775807 := by have h1 := h.1; have h2 := h.2.1; unfold maxLen at h2; omega
 clear h
 go_enter Tryz.func28, Tryz.ntmps28
 go_wp2
 go_loopw [3, 4] (fun c i wr => ∃ (j m : Nat), c = .int .i64 (m : Int) ∧ i = .int .i64 (j : Int) ∧ j ≤ len ∧ (Hid (j + totE P j ≤ m ∨ 2147483648 ≤ m)) ∧ m ≤ 6442450944 ∧ Hid (Below w.heap.size w wr)) (fun c i _ => len - (intOf i).toNat)
 case atStart => exact ⟨0, 0, rfl, rfl, Nat.zero_le _, Or.inl (Nat.le_refl _), by omega, Below.refl _ _⟩
 case round =>
  obtain ⟨j, m, rfl, rfl, hj, HJ, hm, HB⟩ := hrel
  by_cases hlt : (j : Int) < (len : Int)
  ·by_cases hm31 : (m : Int) < 2147483648
   ·skip
    rcases HE.out.2.2 with h0 | ⟨b, off, rfl, hb, hc⟩
    ·omega
    obtain ⟨hat, hin⟩ := hc j (by omega)
    obtain ⟨p, hp⟩ : ∃ p, P j = p := ⟨_, rfl⟩
    have HP := aside hp
    rw [hp] at hat hin
    clear hp hc
    obtain ⟨kind, lo, hi, op, cnt, s0, s1, ea, el, ec, T⟩ := p
    obtain ⟨-, c1, c2, -, -, -, -, c7⟩ := hat
    dsimp only at c1 c2 c7
    have hj0 : (0 : Int) ≤ (j : Int) := by omega
    have HIN := aside (show EntsIn w ea el ec T from hin)
    have hel : (el : Int) ≤ 9223372036854775807 := by have h1 := HIN.out.1; have h2 := HIN.out.2.1; unfold maxLen at h2; omega
    clear hin
    have C7 := aside (fun W (bb : Below w.heap.size w W) => cell_in c7 bb)
    replace c1 := cell_in c1 HB.out
    replace c2 := cell_in c2 HB.out
    clear c7
    go_upto_region 5 with fail
    go_cut [3] (fun s9 wx => ∃ m1 : Nat, s9 = .int .i64 (m1 : Int) ∧ Hid (j + 1 + totE P j + 0 ≤ m1 ∨ 2147483648 ≤ m1) ∧ Hid (m1 ≤ 6442450944) ∧ Hid (Below w.heap.size w wx))
    case first =>
     have HJ1 := aside (show j + 1 + totE P j + 0 ≤ m + 1 + min lo.size 2147483648 + min hi.size 2147483648 ∨ 2147483648 ≤ m + 1 + min lo.size 2147483648 + min hi.size 2147483648 from by have := HJ.out; omega)
     have HM1 := aside (show m + 1 + min lo.size 2147483648 + min hi.size 2147483648 ≤ 6442450944 from by omega)
     have HM9 := aside (show m ≤ 2147483647 from by omega)
     clear hm hm31
     have SX := aside (fun W (bb : Below wr.heap.size wr W) => (show Below wr.heap.size wr W ∧ W.cell? ⟨b, off + j * 8 + 1, none⟩ = some (.string lo) ∧ W.cell? ⟨b, off + j * 8 + 2, none⟩ = some (.string hi) from ⟨bb, cell_in c1 bb, cell_in c2 bb⟩))
     clear c1 c2
     refine wp_region_held_drew (S := fun W => Below wr.heap.size wr W ∧ W.cell? ⟨b, off + j * 8 + 1, none⟩ = some (.string lo) ∧ W.cell? ⟨b, off + j * 8 + 2, none⟩ = some (.string hi)) (by kernel_rfl) (SX.out _ (Below.refl _ wr).drew) (fun hHeld => ?_)
     refine tk 0 rfl _ ?_
     refine tk 1 rfl _ ?_
     refine tk 2 rfl _ ?_
     refine tk 3 rfl _ ?_
     refine tk 4 rfl _ ?_
     refine tk 5 rfl _ ?_
     refine tk 6 rfl _ ?_
     refine tk 7 rfl _ ?_
     refine tk 8 rfl _ ?_
     refine tk 9 rfl _ ?_
     refine tk 10 rfl _ ?_
     refine tk 11 rfl _ ?_
     refine tk 12 rfl _ ?_
     refine tk 13 rfl _ ?_
     refine tk 14 rfl _ ?_
     refine tk 15 rfl _ ?_
     refine tk 16 rfl _ ?_
     refine tk 17 rfl _ ?_
     refine tk 18 rfl _ ?_
     refine tk 19 rfl _ ?_
     refine tk 20 rfl _ ?_
     refine wpAnyH_done (by kernel_rfl) ?_ _
     have B9 := aside (HB.out.trans (hHeld.1.mono HB.out.size))
     clear hHeld
     generalize hX : (if (2147483648 : Int) < (lo.size : Int) then (2147483648 : Int) else (lo.size : Int)) = X
     generalize hY : (if (2147483648 : Int) < (hi.size : Int) then (2147483648 : Int) else (hi.size : Int)) = Y
     have HX := aside hX
     have HY := aside hY
     clear hX hY
     go_wp2
     go_meet
     exact ⟨m + 1 + min lo.size 2147483648 + min hi.size 2147483648, by rw [← HX.out, ← HY.out]; exact wt_step m lo.size hi.size (by have := HM9.out; omega), HJ1, HM1, B9⟩
    case rest =>
     obtain ⟨m1, rfl, HJ1, HM1, HB1⟩ := hcut
     clear c1 c2 HJ hm hm31 HB
     go_wp2
     go_loopw [3, 5] (fun c i wr => ∃ (k m : Nat), c = .int .i64 (m : Int) ∧ i = .int .i64 (k : Int) ∧ k ≤ el ∧ (Hid (j + 1 + totE P j + k ≤ m ∨ 2147483648 ≤ m)) ∧ m ≤ 6442450944 ∧ Hid (Below w.heap.size w wr)) (fun c i _ => el - (intOf i).toNat)
     case atStart => exact ⟨0, m1, rfl, rfl, Nat.zero_le _, HJ1, HM1.out, HB1⟩
     case round =>
      obtain ⟨k, m, rfl, rfl, hk, HJ, hm, HB⟩ := hrel
      have c7 := C7.out _ HB.out
      by_cases hlk : (k : Int) < (el : Int)
      ·by_cases hm31 : (m : Int) < 2147483648
       ·have hk0 : (0 : Int) ≤ (k : Int) := by omega
        rcases (HIN.out.keep HB.out).2.2 with h0 | ⟨b2, o2, rfl, hb2, hc2⟩
        ·omega
        obtain ⟨⟨d0, -, -, d3, -⟩, -⟩ := hc2 k (by omega)
        obtain ⟨t, ht⟩ : ∃ t, T k = t := ⟨_, rfl⟩
        rw [ht] at d0 d3
        clear hc2 ht hb2
        obtain ⟨tkz, htk⟩ : ∃ tkz, t.k = tkz := ⟨_, rfl⟩
        obtain ⟨tv, htv⟩ : ∃ tv, t.v = tv := ⟨_, rfl⟩
        rw [htk] at d0
        rw [htv] at d3
        clear htk htv
        go_upto_region 9 with fail
        have HM9 := aside (show m ≤ 2147483647 from by omega)
        clear hm hm31
        have SX := aside (fun W (bb : Below wr.heap.size wr W) => (show Below wr.heap.size wr W ∧ W.cell? ⟨b, off + j * 8 + 7, none⟩ = some (.slice (some ⟨b2, o2, none⟩) el ec) ∧ W.cell? ⟨b2, o2 + k * 5, none⟩ = some (.string tkz) ∧ W.cell? ⟨b2, o2 + k * 5 + 3, none⟩ = some (.string tv) from ⟨bb, cell_in c7 bb, cell_in d0 bb, cell_in d3 bb⟩))
        clear c7 d0 d3
        refine wp_region_held_drew (S := fun W => Below wr.heap.size wr W ∧ W.cell? ⟨b, off + j * 8 + 7, none⟩ = some (.slice (some ⟨b2, o2, none⟩) el ec) ∧ W.cell? ⟨b2, o2 + k * 5, none⟩ = some (.string tkz) ∧ W.cell? ⟨b2, o2 + k * 5 + 3, none⟩ = some (.string tv)) (by kernel_rfl) (SX.out _ (Below.refl _ wr).drew) (fun hHeld => ?_)
        refine tk 0 rfl _ ?_
        refine tk 1 rfl _ ?_
        refine tk 2 rfl _ ?_
        refine tk 3 rfl _ ?_
        refine tk 4 rfl _ ?_
        refine tk 5 rfl _ ?_
        refine tk 6 rfl _ ?_
        refine tk 7 rfl _ ?_
        refine tk 8 rfl _ ?_
        refine tk 9 rfl _ ?_
        refine tk 10 rfl _ ?_
        refine tk 11 rfl _ ?_
        refine tk 12 rfl _ ?_
        refine tk 13 rfl _ ?_
        refine tk 14 rfl _ ?_
        refine tk 15 rfl _ ?_
        refine tk 16 rfl _ ?_
        refine tk 17 rfl _ ?_
        refine tk 18 rfl _ ?_
        refine tk 19 rfl _ ?_
        refine tk 20 rfl _ ?_
        refine tk 21 rfl _ ?_
        refine tk 22 rfl _ ?_
        refine tk 23 rfl _ ?_
        refine tk 24 rfl _ ?_
        refine tk 25 rfl _ ?_
        refine tk 26 rfl _ ?_
        refine wpAnyH_done (by kernel_rfl) ?_ _
        have B9 := aside (HB.out.trans (hHeld.1.mono HB.out.size))
        clear hHeld
        go_wp2
        go_roundw
        case rel => exact ⟨k + 1, m + 1 + min tkz.size 2147483648 + min tv.size 2147483648, wt_step m tkz.size tv.size (by have := HM9.out; omega), by go_num, by omega, show _ ∨ _ from by have := HJ.out; omega, by have := HM9.out; omega, B9⟩
        case measure => simp [intOf]; omega
       ·go_wp2
        go_roundw
        case rel => exact ⟨j + 1, m, rfl, by go_num, by omega, Or.inr (by omega), hm, HB⟩
        case measure => simp [intOf]; omega
      ·have HL := aside (show totE P (j + 1) = totE P j + el from by simp only [totE, HP.out])
       go_wp2
       go_roundw
       case rel => exact ⟨j + 1, m, rfl, by go_num, by omega, show _ ∨ _ from by have h1 := HJ.out; have h2 := HL.out; omega, hm, HB⟩
       case measure => simp [intOf]; omega
   ·go_wp2
    go_ret
    exact ⟨m, rfl, fun g => by omega, HB.out⟩
  ·have hjl : j = len := by omega
   subst hjl
   go_wp2
   go_ret
   exact ⟨m, rfl, fun g => by have := HJ.out; omega, HB.out⟩
end Go.Proofs.YtpbkjffiohfkcaaGreatDoor
namespace Go.Proofs.YtpbkjffiohfkcaaGreatDoor
open Go.RowKit
set_option linter.unusedVariables false
def By13 (w : World) (n : Nat) (e : Ending) (w' : World) : Prop := ∃ q, e = .returned (.bool q) ∧ (q = false → n ≤ 536870912) ∧ Below w.heap.size w w'
set_option maxHeartbeats 6400000 in
set_option maxRecDepth 100000 in
theorem beyond13_any (pa : Option Addr) (pl pc : Nat) (P : Nat → Pm) (gb m cq : Nat) (ad : Nat → Option Addr) (ln cp : Nat → Nat) (T : Nat → Nat → En) (w : World) (hm : m ≤ 1000) (h : ListsIn w gb m ad ln cp T) (hP : PartsIn w pa pl pc P) :
    Calls Tryz.prog 8 #[.slice pa pl pc, .slice (some ⟨gb, 0, none⟩) m cq] w fun e w' => By13 w (pl + totE P pl + smL ln m) e w' := by
 have HL := aside h
 have CW := aside (weight_any pa pl pc P w hP)
 obtain ⟨W0, hW0⟩ : ∃ W0, pl + totE P pl = W0 := ⟨_, rfl⟩
 rw [hW0] at CW ⊢
 clear h hP hW0
 go_enter Tryz.func8, Tryz.ntmps8
 go_wp2_with fail
 refine CW.out.mono ?_
 rintro e w1 ⟨c1, rfl, hc1, b1⟩
 have HC1 := aside hc1
 have B1 := aside b1
 clear b1 hc1 CW
 go_wp2
 go_loopw [5, 6] (fun n i wr => ∃ (k c : Nat), n = .int .i64 (c : Int) ∧ i = .int .i64 (k : Int) ∧ k ≤ m ∧ 0 ≤ c ∧ Hid (c ≤ 536870912 → W0 + smL ln k ≤ c) ∧ Below w.heap.size w wr) (fun _ i _ => m - (intOf i).toNat)
 case atStart => exact ⟨0, c1, rfl, rfl, Nat.zero_le _, Nat.zero_le _, fun h => by have := HC1.out h; simp only [smL]; omega, B1.out⟩
 case round =>
  obtain ⟨k, c, rfl, rfl, hk, hc, HS, hB⟩ := hrel
  have HB := aside hB
  clear hB
  by_cases hlt : (k : Int) < (m : Int)
  ·have hk0 : (0 : Int) ≤ (k : Int) := by omega
   obtain ⟨hcell, hE⟩ := HL.out k (by omega)
   have HE := aside hE
   have HCL := aside hcell
   have HLK := aside (show smL ln (k + 1) = smL ln k + ln k from rfl)
   obtain ⟨s0, hs0⟩ : ∃ s0, smL ln k = s0 := ⟨_, rfl⟩
   rw [hs0] at HS HLK
   clear hs0
   generalize ad k = a at *
   obtain ⟨n, hn⟩ : ∃ n, ln k = n := ⟨_, rfl⟩
   rw [hn] at HE HCL HLK
   generalize cp k = cpk at *
   generalize T k = Tk at *
   have hmx : (n : Int) ≤ 9223372036854775807 := by have h1 := HE.out.1; have h2 := HE.out.2.1; unfold maxLen at h2; omega
   clear hcell hE hn
   go_wp2
   go_loopw [5, 7] (fun u i wr => ∃ (j c : Nat), u = .int .i64 (c : Int) ∧ i = .int .i64 (j : Int) ∧ j ≤ n ∧ 0 ≤ c ∧ Hid (c ≤ 536870912 → W0 + (s0 + j) ≤ c) ∧ Below w.heap.size w wr) (fun _ i _ => n - (intOf i).toNat)
   case atStart => exact ⟨0, c, rfl, rfl, Nat.zero_le _, hc, HS.out, HB.out⟩
   case round =>
    obtain ⟨j, c, rfl, rfl, hj, hc, HS2, hB⟩ := hrel
    have HB2 := aside hB
    clear hB
    have gcell := cell_in HCL.out HB2.out
    by_cases hjl : (j : Int) < (n : Int)
    ·have hj0 : (0 : Int) ≤ (j : Int) := by omega
     by_cases hle : (c : Int) ≤ 536870912
     ·rcases HE.out.2.2 with h0 | ⟨b, off, rfl, -, -⟩
      ·omega
      obtain ⟨t, ht⟩ : ∃ t, Tk j = t := ⟨_, rfl⟩
      have FV := aside (ents_five (HE.out.keep HB2.out) (by omega) ht)
      obtain ⟨c0, -, -, c3, -⟩ := FV.out
      clear ht
      go_wp2_with fail
      refine wp_region_held_drew (S := fun W => Below w.heap.size w W ∧ W.cell? ⟨gb, k, none⟩ = some (.slice (some ⟨b, off, none⟩) n cpk) ∧ W.cell? ⟨b, off + j * 5, none⟩ = some (.string t.k) ∧ W.cell? ⟨b, off + j * 5 + 3, none⟩ = some (.string t.v)) (by kernel_rfl) ⟨HB2.out.drew, gcell, c0, c3⟩ (fun hHeld => ?_)
      refine tk 0 rfl _ ?_
      refine tk 1 rfl _ ?_
      refine tk 2 rfl _ ?_
      refine tk 3 rfl _ ?_
      refine tk 4 rfl _ ?_
      refine tk 5 rfl _ ?_
      refine tk 6 rfl _ ?_
      refine tk 7 rfl _ ?_
      refine tk 8 rfl _ ?_
      refine tk 9 rfl _ ?_
      refine tk 10 rfl _ ?_
      refine tk 11 rfl _ ?_
      refine tk 12 rfl _ ?_
      refine tk 13 rfl _ ?_
      refine tk 14 rfl _ ?_
      refine tk 15 rfl _ ?_
      refine tk 16 rfl _ ?_
      refine tk 17 rfl _ ?_
      refine tk 18 rfl _ ?_
      refine tk 19 rfl _ ?_
      refine tk 20 rfl _ ?_
      refine tk 21 rfl _ ?_
      refine tk 22 rfl _ ?_
      refine tk 23 rfl _ ?_
      refine tk 24 rfl _ ?_
      refine wpAnyH_done (by kernel_rfl) ?_ _
      have HB3 := aside hHeld.1
      clear hHeld c0 c3 gcell
      go_wp2
      go_roundw
      case rel => exact ⟨j + 1, c + (1 + (min t.k.size 1073741824 + min t.v.size 1073741824)), by_step c _ _ (by omega), by push_cast; rfl, by omega, by omega, fun h => by have := HS2.out (by omega); omega, HB3.out⟩
      case measure => simp [intOf]; omega
     ·go_wp2
      go_roundw
      case rel => exact ⟨k + 1, c, rfl, by push_cast; rfl, by omega, hc, fun h => by omega, HB2.out⟩
      case measure => simp [intOf]; omega
    ·have hjn : j = n := by omega
     go_wp2
     go_roundw
     case rel => exact ⟨k + 1, c, rfl, by push_cast; rfl, by omega, hc, fun h => by have := HS2.out h; rw [HLK.out]; omega, HB2.out⟩
     case measure => simp [intOf]; omega
  ·have hkl : k = m := by omega
   subst hkl
   go_wp2
   go_ret
   exact ⟨decide ((536870912 : Int) < (c : Int)), rfl, fun hq => by simp at hq; have := HS.out (by omega); omega, HB.out⟩
set_option maxHeartbeats 3200000 in
set_option maxRecDepth 100000 in
theorem same13_yes (a : Option Addr) (la ca : Nat) (A : Nat → En) (b : Option Addr) (lb cb : Nat) (B : Nat → En) (w : World) (hA : EntsIn w a la ca A) (hB : EntsIn w b lb cb B) (h : firstE A la = firstE B lb) :
    Calls Tryz.prog 17 #[.slice a la ca, .slice b lb cb] w fun e w' => e = .returned (.bool true) ∧ Below w.heap.size w w' := by
 have hll : la = lb := by have := congrArg List.length h; rwa [firstE_len, firstE_len] at this
 subst hll
 have HEQ := aside (show ∀ i, i < la → A i = B i from fun i hi => by have h1 := firstE_get A hi; rw [h, firstE_get B hi] at h1; injection h1 with h1; exact h1.symm)
 have HA := aside hA
 have HBB := aside hB
 have hmx : (la : Int) ≤ 9223372036854775807 := by have h1 := hA.1; have h2 := hA.2.1; unfold maxLen at h2; omega
 clear hA hB h
 go_enter Tryz.func17, Tryz.ntmps17
 go_wp2
 go_loopw [5] (fun i wr => ∃ j : Nat, i = .int .i64 (j : Int) ∧ j ≤ la ∧ Below w.heap.size w wr) (fun i _ => la - (intOf i).toNat)
 case atStart => exact ⟨0, rfl, Nat.zero_le _, Below.refl _ _⟩
 case round =>
  obtain ⟨j, rfl, hj, hB⟩ := hrel
  have HB := aside hB
  clear hB
  by_cases hlt : (j : Int) < (la : Int)
  ·have hj0 : (0 : Int) ≤ (j : Int) := by omega
   have eA := HA.out.keep HB.out
   have eB := HBB.out.keep HB.out
   rcases eA.2.2 with h0 | ⟨ba, oa, rfl, -, -⟩
   ·omega
   rcases eB.2.2 with h0 | ⟨bb, ob, rfl, -, -⟩
   ·omega
   obtain ⟨x, hx⟩ : ∃ x, A j = x := ⟨_, rfl⟩
   have hy : B j = x := (HEQ.out j (by omega)).symm.trans hx
   have F1 := aside (ents_five (eA.keep (Below.refl _ wr).drew) (by omega) hx)
   have F2 := aside (ents_five (eB.keep (Below.refl _ wr).drew) (by omega) hy)
   have hNE : ∀ w, (binOp .neq 77 (.agg #[.string x.k, .int .i64 x.c, .int .i64 x.n, .string x.v, .bool x.d]) (.agg #[.string x.k, .int .i64 x.c, .int .i64 x.n, .string x.v, .bool x.d])).run Tryz.prog w = .ok (.bool false) w := fun w => by rw [ent_ne, enEqB_same]; rfl
   clear eA eB hx hy
   go_wp2_with fail
   refine wp_region_held_drew (S := fun W => Below w.heap.size w W ∧ (W.cell? ⟨ba, oa + j * 5, none⟩ = some (.string x.k) ∧ W.cell? ⟨ba, oa + j * 5 + 1, none⟩ = some (.int .i64 x.c) ∧ W.cell? ⟨ba, oa + j * 5 + 2, none⟩ = some (.int .i64 x.n) ∧ W.cell? ⟨ba, oa + j * 5 + 3, none⟩ = some (.string x.v) ∧ W.cell? ⟨ba, oa + j * 5 + 4, none⟩ = some (.bool x.d)) ∧ W.cell? ⟨bb, ob + j * 5, none⟩ = some (.string x.k) ∧ W.cell? ⟨bb, ob + j * 5 + 1, none⟩ = some (.int .i64 x.c) ∧ W.cell? ⟨bb, ob + j * 5 + 2, none⟩ = some (.int .i64 x.n) ∧ W.cell? ⟨bb, ob + j * 5 + 3, none⟩ = some (.string x.v) ∧ W.cell? ⟨bb, ob + j * 5 + 4, none⟩ = some (.bool x.d)) (by kernel_rfl) ⟨HB.out.drew, F1.out, F2.out⟩ (fun hHeld => ?_)
   refine tk 0 rfl _ ?_
   refine tk 1 rfl _ ?_
   refine tk 2 rfl _ ?_
   refine tk 3 rfl _ ?_
   refine tk 4 rfl _ ?_
   refine tk 5 rfl _ ?_
   refine tk 6 rfl _ ?_
   refine tk 7 rfl _ ?_
   refine wpAnyH_take (i := 8) (v := .bool false) rfl (by kernel_rfl) (by kernel_rfl) (by kernel_rfl) (fun _ _ _ h => h) (Or.inl ⟨by rfl, ?_⟩) (by assumption) ?_
   ·intro w hSw
    go_simp
   simp only [Act.put, List.getElem_toArray, List.getElem_cons_zero, List.getElem_cons_succ, List.setIfInBounds_toArray, List.set_cons_zero, List.set_cons_succ]
   refine wpAnyH_done (by kernel_rfl) ?_ _
   have HB2 := aside hHeld.1
   clear hHeld hNE F1 F2
   go_wp2
   go_roundw
   case rel => exact ⟨j + 1, by go_num, by omega, HB2.out⟩
   case measure => simp [intOf]; omega
  ·have hjl : j = la := by omega
   subst hjl
   go_wp2
   go_ret
   exact ⟨rfl, HB.out⟩
end Go.Proofs.YtpbkjffiohfkcaaGreatDoor
namespace Go.Proofs.YtpbkjffiohfkcaaGreatDoor
open Go.RowKit
set_option linter.unusedVariables false
set_option maxHeartbeats 3200000 in
set_option maxRecDepth 100000 in
theorem one_any (p : Pm) (w : World) (h : p.In w) :
    Calls Tryz.prog 19 #[.agg #[.int .i64 p.kind, .string p.lo, .string p.hi, .bool p.op, .int .i64 p.cnt, .int .u64 p.s0, .int .u64 p.s1, .slice p.ea p.el p.ec]] w fun e w' => ∃ g c, e = .returned (.slice (some ⟨g, 0, none⟩) 1 c) ∧ PartsIn w' (some ⟨g, 0, none⟩) 1 c (fun _ => p) ∧ w.heap.size ≤ g ∧ Below w.heap.size w w' := by
 have B0 := aside (bnew w (.cells #[.int .i64 p.kind, .string p.lo, .string p.hi, .bool p.op, .int .i64 p.cnt, .int .u64 p.s0, .int .u64 p.s1, .slice p.ea p.el p.ec] 47))
 have K0 := aside (heap_alloc_new w (.cells #[.int .i64 p.kind, .string p.lo, .string p.hi, .bool p.op, .int .i64 p.cnt, .int .u64 p.s0, .int .u64 p.s1, .slice p.ea p.el p.ec] 47))
 have HP := aside h
 clear h
 obtain ⟨w0, hw0⟩ : ∃ w0, w.alloc (.cells #[.int .i64 p.kind, .string p.lo, .string p.hi, .bool p.op, .int .i64 p.cnt, .int .u64 p.s0, .int .u64 p.s1, .slice p.ea p.el p.ec] 47) = w0 := ⟨_, rfl⟩
 rw [hw0] at B0 K0
 have OE := aside (ownP_empty w0 w.heap.size B0.out.size)
 have KE := aside (blk_on K0.out (bnew w0 (.cells #[] 47)))
 have BE := aside (bthen B0.out (bnew w0 (.cells #[] 47)))
 clear K0
 obtain ⟨w1, hw1⟩ : ∃ w1, w0.alloc (.cells #[] 47) = w1 := ⟨_, rfl⟩
 rw [hw1] at OE KE BE
 obtain ⟨p0, p1, p2, p3, p4, p5, p6, p7⟩ := oct KE.out
 have PI := aside (show PartsIn (w1.alloc (.cells #[.int .i64 p.kind, .string p.lo, .string p.hi, .bool p.op, .int .i64 p.cnt, .int .u64 p.s0, .int .u64 p.s1, .slice p.ea p.el p.ec] 47)) (some ⟨w1.heap.size, 0, none⟩) 1 1 (fun _ => p) from ⟨Nat.le_refl _, by unfold maxLen; omega, .inr ⟨w1.heap.size, 0, rfl, by simp, fun i hi => ⟨by
  obtain rfl : i = 0 := by omega
  exact oct (heap_alloc_new w1 (.cells #[.int .i64 p.kind, .string p.lo, .string p.hi, .bool p.op, .int .i64 p.cnt, .int .u64 p.s0, .int .u64 p.s1, .slice p.ea p.el p.ec] 47)), HP.out.keep (bthen BE.out (bnew w1 _))⟩⟩⟩)
 go_enter Tryz.func19, Tryz.ntmps19
 go_wp2_with (at_builtin; go_loud (refine wpList_plain rfl fun K hK => op_append_parts (V := w) _ _ rfl 0 _ [] (by rfl) (OE.out.alloc _) ⟨w1.heap.size, 0, none⟩ 1 1 (fun _ => p) (by rfl) PI.out (by omega) (bthen BE.out (bnew w1 _)) ?_); intro v4 w4 own4 b4 gr4; refine hK _ _ ?_; refine Hid.out ?_)
 refine aside ?_
 rw [show ([] : List Pm) ++ firstP (fun _ => p) 1 = firstP (fun _ => p) 1 from rfl] at own4
 rcases own4.2 with ⟨_, h9⟩ | ⟨g, cap, cur, rfl, h2, h3⟩
 ·omega
 have O4 := aside own4
 have B4 := aside b4
 have HG := aside h2
 clear own4 b4 gr4 h2 h3 p0 p1 p2 p3 p4 p5 p6 p7
 go_wp2
 go_ret
 exact ⟨g, cap, rfl, parts_of_row O4.out (fun i hi => HP.out.keep B4.out), HG.out, B4.out⟩
end Go.Proofs.YtpbkjffiohfkcaaGreatDoor
namespace Go.Proofs.YtpbkjffiohfkcaaGreatDoor
open Go.RowKit
set_option linter.unusedVariables false
set_option maxHeartbeats 3200000 in
set_option maxRecDepth 100000 in
theorem oneR_any (p : Pm) (w : World) (h : p.In w) :
    Calls Tryz.prog 38 #[.agg #[.int .i64 p.kind, .string p.lo, .string p.hi, .bool p.op, .int .i64 p.cnt, .int .u64 p.s0, .int .u64 p.s1, .slice p.ea p.el p.ec]] w fun e w' => ∃ g c, e = .returned (.slice (some ⟨g, 0, none⟩) 1 c) ∧ PartsIn w' (some ⟨g, 0, none⟩) 1 c (fun _ => p) ∧ w.heap.size ≤ g ∧ Below w.heap.size w w' := by
 have B0 := aside (bnew w (.cells #[.int .i64 p.kind, .string p.lo, .string p.hi, .bool p.op, .int .i64 p.cnt, .int .u64 p.s0, .int .u64 p.s1, .slice p.ea p.el p.ec] 47))
 have K0 := aside (heap_alloc_new w (.cells #[.int .i64 p.kind, .string p.lo, .string p.hi, .bool p.op, .int .i64 p.cnt, .int .u64 p.s0, .int .u64 p.s1, .slice p.ea p.el p.ec] 47))
 have HP := aside h
 clear h
 obtain ⟨w0, hw0⟩ : ∃ w0, w.alloc (.cells #[.int .i64 p.kind, .string p.lo, .string p.hi, .bool p.op, .int .i64 p.cnt, .int .u64 p.s0, .int .u64 p.s1, .slice p.ea p.el p.ec] 47) = w0 := ⟨_, rfl⟩
 rw [hw0] at B0 K0
 have OE := aside (ownP_empty w0 w.heap.size B0.out.size)
 have KE := aside (blk_on K0.out (bnew w0 (.cells #[] 47)))
 have BE := aside (bthen B0.out (bnew w0 (.cells #[] 47)))
 clear K0
 obtain ⟨w1, hw1⟩ : ∃ w1, w0.alloc (.cells #[] 47) = w1 := ⟨_, rfl⟩
 rw [hw1] at OE KE BE
 obtain ⟨p0, p1, p2, p3, p4, p5, p6, p7⟩ := oct KE.out
 have PI := aside (show PartsIn (w1.alloc (.cells #[.int .i64 p.kind, .string p.lo, .string p.hi, .bool p.op, .int .i64 p.cnt, .int .u64 p.s0, .int .u64 p.s1, .slice p.ea p.el p.ec] 47)) (some ⟨w1.heap.size, 0, none⟩) 1 1 (fun _ => p) from ⟨Nat.le_refl _, by unfold maxLen; omega, .inr ⟨w1.heap.size, 0, rfl, by simp, fun i hi => ⟨by
  obtain rfl : i = 0 := by omega
  exact oct (heap_alloc_new w1 (.cells #[.int .i64 p.kind, .string p.lo, .string p.hi, .bool p.op, .int .i64 p.cnt, .int .u64 p.s0, .int .u64 p.s1, .slice p.ea p.el p.ec] 47)), HP.out.keep (bthen BE.out (bnew w1 _))⟩⟩⟩)
 go_enter Tryz.func38, Tryz.ntmps38
 go_wp2_with (at_builtin; go_loud (refine wpList_plain rfl fun K hK => op_append_parts (V := w) _ _ rfl 0 _ [] (by rfl) (OE.out.alloc _) ⟨w1.heap.size, 0, none⟩ 1 1 (fun _ => p) (by rfl) PI.out (by omega) (bthen BE.out (bnew w1 _)) ?_); intro v4 w4 own4 b4 gr4; refine hK _ _ ?_; refine Hid.out ?_)
 refine aside ?_
 rw [show ([] : List Pm) ++ firstP (fun _ => p) 1 = firstP (fun _ => p) 1 from rfl] at own4
 rcases own4.2 with ⟨_, h9⟩ | ⟨g, cap, cur, rfl, h2, h3⟩
 ·omega
 have O4 := aside own4
 have B4 := aside b4
 have HG := aside h2
 clear own4 b4 gr4 h2 h3 p0 p1 p2 p3 p4 p5 p6 p7
 go_wp2
 go_ret
 exact ⟨g, cap, rfl, parts_of_row O4.out (fun i hi => HP.out.keep B4.out), HG.out, B4.out⟩
end Go.Proofs.YtpbkjffiohfkcaaGreatDoor
namespace Go.Proofs.YtpbkjffiohfkcaaGreatDoor
open Go.RowKit
set_option linter.unusedVariables false
theorem tk_ok {s : TkS} (h : MapL s.l ∧ s.l.length ≤ 256) (e : En) : MapL (tkStep s e).l ∧ (tkStep s e).l.length ≤ 256 := by
 unfold tkStep
 split
 ·rename_i hy
  obtain ⟨-, h2, h3⟩ := tk_yes hy
  exact ⟨take_map h.1 h2, take_len h.1.rises h.2 h3⟩
 ·split
  ·exact h
  ·exact h
theorem tkAll_ok {s : TkS} (h : MapL s.l ∧ s.l.length ≤ 256) (T : Nat → En) : ∀ j, MapL (tkAll s (firstE T j)).l ∧ (tkAll s (firstE T j)).l.length ≤ 256
 | 0 => h
 | j + 1 => by rw [tkAll_succ]; exact tk_ok (tkAll_ok h T j) (T j)
theorem DSt.str {w : World} {B db : Nat} {nd ck : Int} {l : List En} (h : DSt w B db nd ck l) {b k : Nat} {s : ByteArray} (hc : w.cell? ⟨b, k, none⟩ = some (.string s)) : ¬ b = db := by
 obtain ⟨v, h1, h2⟩ := h
 obtain ⟨a, c, rfl, -, -, -⟩ := own_slice h2
 rintro rfl
 simp only [World.cell?, h1] at hc
 rcases k with _ | _ | _ | k <;> simp at hc
theorem EntsIn.keepD {w w' : World} {a : Option Addr} {len cap : Nat} {T : Nat → En} {B db : Nat} {nd ck : Int} {l : List En} (h : EntsIn w a len cap T) (hs : DSt w B db nd ck l) (k : Keeps (fun x => x = db) w w') : EntsIn w' a len cap T := by
 refine ⟨h.1, h.2.1, ?_⟩
 rcases h.2.2 with h0 | ⟨b, off, rfl, hb, hc⟩
 ·exact .inl h0
 ·refine .inr ⟨b, off, rfl, Nat.lt_of_lt_of_le hb k.size, fun i hi => ?_⟩
  obtain ⟨⟨c0, c1, c2, c3, c4⟩, hk⟩ := hc i hi
  have hn := hs.str c0
  exact ⟨⟨(k.cell hb hn).trans c0, (k.cell hb hn).trans c1, (k.cell hb hn).trans c2, (k.cell hb hn).trans c3, (k.cell hb hn).trans c4⟩, hk⟩
theorem DSt.other {w : World} {B db : Nat} {nd ck : Int} {l : List En} (h : DSt w B db nd ck l) {i : Nat} {cs : Array Value} {U : TypeId} (hi : w.heap[i]? = some (.cells cs U (0, 0))) (hU : U ≠ 87) : ¬ i = db := by
 obtain ⟨v, h1, -⟩ := h
 rintro rfl
 rw [h1] at hi
 simp only [Option.some.injEq, Obj.cells.injEq] at hi
 exact hU hi.2.1.symm
theorem DSt.set2 {w w' : World} {B db : Nat} {nd ck : Int} {l : List En} (h : DSt w B db nd ck l) {i : Nat} {cs : Array Value} {U : TypeId} (hi : w.heap[i]? = some (.cells cs U (0, 0))) (h1 : U ≠ 87) (h2 : U ≠ 77) (k : Keeps (fun x => x = i) w w') : DSt w' B db nd ck l := by
 have hn := h.other hi h1
 obtain ⟨v, d1, d2⟩ := h
 refine ⟨v, blk_keep d1 k (fun e => hn e.symm), d2.1, ?_⟩
 rcases d2.2 with h0 | ⟨g, cap, cur, e1, e2, e3, e4⟩
 ·exact .inl h0
 ·refine .inr ⟨g, cap, cur, e1, e2, blk_keep e3 k (fun e => ?_), e4⟩
  subst e
  rw [e3] at hi
  simp only [Option.some.injEq, Obj.cells.injEq] at hi
  exact h2 hi.2.1.symm
end Go.Proofs.YtpbkjffiohfkcaaGreatDoor
namespace Go.Proofs.YtpbkjffiohfkcaaGreatDoor
open Go.RowKit
set_option linter.unusedVariables false
theorem rev_indE {P : List En → Prop} (h0 : P []) (hs : ∀ l e, P l → P (l ++ [e])) (l : List En) : P l := by
 have h : ∀ r : List En, P r.reverse := by
  intro r
  induction r with
  | nil => exact h0
  | cons e r ih => rw [List.reverse_cons]; exact hs _ _ ih
 have := h l.reverse
 rwa [List.reverse_reverse] at this
theorem step_okE {s : TkS} (h : MapL s.l ∧ s.l.length ≤ 256) (e : En) : MapL (tkStep s e).l ∧ (tkStep s e).l.length ≤ 256 := by
 unfold tkStep
 split
 ·rename_i hy
  obtain ⟨-, h2, h3⟩ := tk_yes hy
  exact ⟨take_map h.1 h2, take_len h.1.rises h.2 h3⟩
 ·split
  ·exact h
  ·exact h
theorem tkAll_okE {s : TkS} (h : MapL s.l ∧ s.l.length ≤ 256) (E : List En) : MapL (tkAll s E).l ∧ (tkAll s E).l.length ≤ 256 := by
 refine rev_indE (P := fun E => MapL (tkAll s E).l ∧ (tkAll s E).l.length ≤ 256) h (fun E e ih => ?_) E
 rw [tkAll_snoc]
 exact step_okE ih e
end Go.Proofs.YtpbkjffiohfkcaaGreatDoor
namespace Go.Proofs.YtpbkjffiohfkcaaGreatDoor
open Go.RowKit
set_option linter.unusedVariables false
def prV (lo hi : ByteArray) (op : Bool) (t : Tl) (q : Int) : Value := if q = 0 then .agg #[.int .i64 1, .string lo, .string hi, .bool op, .int .i64 t.n, .int .u64 t.a, .int .u64 t.b, .slice none 0 0] else .agg #[.int .i64 0, .string ⟨#[]⟩, .string ⟨#[]⟩, .bool false, .int .i64 0, .int .u64 0, .int .u64 0, .slice none 0 0]
set_option maxHeartbeats 3200000 in
set_option maxRecDepth 100000 in
theorem printOf_any (lo hi : ByteArray) (op : Bool) {w : World} {sb g tb : Nat} {nd ck : Int} {Ls : List En} (h : Sto w sb g tb nd ck Ls) (L : Lanes w) (hl : Ls.length ≤ 1000000) :
    Calls Tryz.prog 58 #[.pointer (some ⟨sb, 0, none⟩), .agg #[.string lo, .string hi, .bool op]] w fun e w' => e = .returned (.agg #[.int .i64 1, .string lo, .string hi, .bool op, .int .i64 (foldV lo hi op Ls).n, .int .u64 (foldV lo hi op Ls).a, .int .u64 (foldV lo hi op Ls).b, .slice none 0 0]) ∧ Sto w' sb g tb nd ck Ls ∧ Keeps (Of sb g tb) w w' ∧ Lanes w' := by
 have BX := aside (bthen (bnew w (.cells #[.string lo, .string hi, .bool op] 40)) (bnew _ (.cells #[.int .i64 0, .string ⟨#[]⟩, .string ⟨#[]⟩, .bool false, .int .i64 0, .int .u64 0, .int .u64 0, .slice none 0 0] 47)))
 have KR0 := aside (blk_on (heap_alloc_new w (.cells #[.string lo, .string hi, .bool op] 40)) (bnew _ (.cells #[.int .i64 0, .string ⟨#[]⟩, .string ⟨#[]⟩, .bool false, .int .i64 0, .int .u64 0, .int .u64 0, .slice none 0 0] 47)))
 have KZ := aside (heap_alloc_new (w.alloc (.cells #[.string lo, .string hi, .bool op] 40)) (.cells #[.int .i64 0, .string ⟨#[]⟩, .string ⟨#[]⟩, .bool false, .int .i64 0, .int .u64 0, .int .u64 0, .slice none 0 0] 47))
 rw [World.size_alloc] at KZ
 have CF := aside (qfold lo hi op (h.below BX.out) (L.keep BX.out) hl)
 have HX := aside (h.below BX.out)
 have HLT := aside h.lt
 generalize foldV lo hi op Ls = t at *
 clear h L hl
 go_enter Tryz.func58, Tryz.ntmps58
 go_wp2_with fail
 refine CF.out.mono ?_
 rintro e w1 ⟨rfl, s1, k1, l1⟩
 have HN1 := HX.out.not KR0.out (by decide) (by decide) (by decide)
 have HN2 := HX.out.not KZ.out (by decide) (by decide) (by decide)
 have KR1 := aside (blk_keep KR0.out k1 HN1)
 have KZ1 := aside (blk_keep KZ.out k1 HN2)
 have S1 := aside s1
 have L1 := aside l1
 have K1 := aside ((Keeps.of_below BX.out _).trans k1)
 clear s1 l1 k1 HN1 HN2 KR0 KZ CF HX BX
 obtain ⟨fb, hfb⟩ : ∃ fb, w.heap.size = fb := ⟨_, rfl⟩
 rw [hfb] at KR1 KZ1 ⊢
 obtain ⟨r0, r1, r2⟩ := box3r KR1.out
 go_upto_region 2 with fail
 clear r0 r1 r2
 have HNL : ¬ fb + 1 < w.heap.size := by omega
 have KZ2 := aside (blk_on KZ1.out (bnew w1 (.cells #[.int .i64 t.n, .int .u64 t.a, .int .u64 t.b] 45)))
 have KR2 := aside (blk_on KR1.out (bnew w1 (.cells #[.int .i64 t.n, .int .u64 t.a, .int .u64 t.b] 45)))
 have KT2 := aside (heap_alloc_new w1 (.cells #[.int .i64 t.n, .int .u64 t.a, .int .u64 t.b] 45))
 have KA := aside (K1.out.alloc (.cells #[.int .i64 t.n, .int .u64 t.a, .int .u64 t.b] 45))
 have SA := aside (S1.out.below (bnew w1 (.cells #[.int .i64 t.n, .int .u64 t.a, .int .u64 t.b] 45)))
 have LA := aside (L1.out.keep (bnew w1 (.cells #[.int .i64 t.n, .int .u64 t.a, .int .u64 t.b] 45)))
 have HL0 : ¬ 0 = fb + 1 := by omega
 clear KZ1 K1 S1 L1 KR1
 generalize w1.alloc (.cells #[.int .i64 t.n, .int .u64 t.a, .int .u64 t.b] 45) = W2 at *
 generalize w1.heap.size = tb2 at *
 obtain ⟨r0, r1, r2⟩ := box3r KR2.out
 obtain ⟨p0, p1, p2⟩ := box3r KT2.out
 obtain ⟨a0, a1, a2, a3, a4, a5, a6, a7, hkz⟩ : ∃ a0 a1 a2 a3 a4 a5 a6 a7 : Value, W2.heap[fb + 1]? = some (Obj.cells #[a0, a1, a2, a3, a4, a5, a6, a7] 47 (0, 0)) := ⟨_, _, _, _, _, _, _, _, KZ2.out⟩
 clear KZ2
 have KZ2 := aside hkz
 clear hkz
 obtain ⟨z0, z1, z2, z3, z4, z5, z6, z7⟩ := oct8 KZ2.out
 have y0 := frozen_of_row _ _ 0 _ _ KZ2.out
 have y1 := frozen_of_row _ _ 1 _ _ KZ2.out
 have y2 := frozen_of_row _ _ 2 _ _ KZ2.out
 have y3 := frozen_of_row _ _ 3 _ _ KZ2.out
 have y4 := frozen_of_row _ _ 4 _ _ KZ2.out
 have y5 := frozen_of_row _ _ 5 _ _ KZ2.out
 have y6 := frozen_of_row _ _ 6 _ _ KZ2.out
 have y7 := frozen_of_row _ _ 7 _ _ KZ2.out
 have KR := (set_in 7 (.slice none 0 0) (set_in 6 (.int .u64 t.b) (set_in 5 (.int .u64 t.a) (set_in 4 (.int .i64 t.n) (set_in 3 (.bool op) (set_in 2 (.string hi) (set_in 1 (.string lo) (set_in 0 (.int .i64 1) KZ2.out))))))))
 simp only [List.setIfInBounds_toArray, List.set_cons_zero, List.set_cons_succ] at KR
 have HKR := aside KR
 clear KR
 have KF := aside (((((((((Keeps.refl (fun x => x = fb + 1) W2).setCell (p := ⟨fb + 1, 0, none⟩) (fun _ => rfl) (.int .i64 1)).setCell (p := ⟨fb + 1, 1, none⟩) (fun _ => rfl) (.string lo)).setCell (p := ⟨fb + 1, 2, none⟩) (fun _ => rfl) (.string hi)).setCell (p := ⟨fb + 1, 3, none⟩) (fun _ => rfl) (.bool op)).setCell (p := ⟨fb + 1, 4, none⟩) (fun _ => rfl) (.int .i64 t.n)).setCell (p := ⟨fb + 1, 5, none⟩) (fun _ => rfl) (.int .u64 t.a)).setCell (p := ⟨fb + 1, 6, none⟩) (fun _ => rfl) (.int .u64 t.b)).setCell (p := ⟨fb + 1, 7, none⟩) (fun _ => rfl) (.slice none 0 0))
 have KW := aside ((((((((KA.out.setCell (p := ⟨fb + 1, 0, none⟩) (fun hh => absurd hh HNL) (.int .i64 1)).setCell (p := ⟨fb + 1, 1, none⟩) (fun hh => absurd hh HNL) (.string lo)).setCell (p := ⟨fb + 1, 2, none⟩) (fun hh => absurd hh HNL) (.string hi)).setCell (p := ⟨fb + 1, 3, none⟩) (fun hh => absurd hh HNL) (.bool op)).setCell (p := ⟨fb + 1, 4, none⟩) (fun hh => absurd hh HNL) (.int .i64 t.n)).setCell (p := ⟨fb + 1, 5, none⟩) (fun hh => absurd hh HNL) (.int .u64 t.a)).setCell (p := ⟨fb + 1, 6, none⟩) (fun hh => absurd hh HNL) (.int .u64 t.b)).setCell (p := ⟨fb + 1, 7, none⟩) (fun hh => absurd hh HNL) (.slice none 0 0))
 have SF := aside (SA.out.set KZ2.out (by decide) (by decide) (by decide) (by decide) KF.out)
 have LF := aside (LA.out.keeps KF.out (fun e => HL0 e))
 go_wp2
 clear r0 r1 r2 p0 p1 p2
 obtain ⟨r0, r1, r2, r3, r4, r5, r6, r7⟩ := oct8 HKR.out
 exact bodyPost_ret (v := .agg #[.int .i64 1, .string lo, .string hi, .bool op, .int .i64 t.n, .int .u64 t.a, .int .u64 t.b, .slice none 0 0]) (by simp [results, Tryz.results58, go_sem, r0, r1, r2, r3, r4, r5, r6, r7]) rfl ⟨rfl, SF.out, KW.out, LF.out⟩
end Go.Proofs.YtpbkjffiohfkcaaGreatDoor
