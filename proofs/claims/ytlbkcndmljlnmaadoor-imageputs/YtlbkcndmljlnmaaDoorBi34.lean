/-
  The document's Put of an image.
-/
import Derived.Test.YtlbkcndmljlnmaaDoorBi23
import Derived.Test.YtlbkcndmljlnmaaDoorBi29
namespace Go.Proofs.YtlbkcndmljlnmaaDoor
open Go.RowKit
set_option linter.unusedVariables false
set_option maxHeartbeats 6400000 in
set_option maxRecDepth 100000 in
theorem rimput {w : World} {B db : Nat} {nd ck : Int} {l : List En} (h : DSt w B db nd ck l) (hO : LdOk nd ck l) :
    Calls Tryd.prog 11 #[.pointer (some ⟨db, 0, none⟩)] w fun e w' => ∃ v, e = .returned v ∧ w'.ownsRow w.heap.size 5 1 v (imgB nd ck l).length (Lib.byteCells (imgB nd ck l)) ∧ Below w.heap.size w w' := by
  obtain ⟨a, ca, hd, hA, hmx0⟩ := h.ents hO.map
  have HDB := aside hd
  have HE := aside hA
  have HO := aside hO
  have HMX := aside hmx0
  have HL := aside hO.len
  clear hd hA hO h hmx0
  obtain ⟨c0, c1, c2⟩ := box3r HDB.out
  go_enter Tryd.func11, Tryd.ntmps11
  go_wp2_with fail
  refine (newWriterRef_any w).mono ?_
  rintro e w0 ⟨rfl, rfl⟩
  have K1 := isW_new 115 w.heap.size w (Nat.le_refl _)
  have NB := bnew w (.cells #[.slice none 0 0] 115)
  obtain ⟨wb, hwb⟩ : ∃ wb, w.heap.size = wb := ⟨_, rfl⟩
  have HWB := aside hwb
  obtain ⟨w0, hw0⟩ : ∃ w0, w.alloc (.cells #[.slice none 0 0] 115) = w0 := ⟨_, rfl⟩
  have w0W := aside (show IsW 115 w.heap.size wb none [] w0 from by rw [← hw0, ← hwb]; exact K1)
  have w0B := aside (show Below w.heap.size w w0 from by rw [← hw0]; exact NB)
  rw [hw0, hwb]
  clear K1 NB hwb hw0 c0 c1 c2
  obtain ⟨c0, c1, c2⟩ := box3r (blk_on HDB.out w0B.out)
  have HLN := aside (show ([] ++ (Nm.enc 8 tideS.size ++ tideS.data.toList)).length ≤ 1000 from by
    have h1 := (Nm.enc_length 8 tideS.size).2
    have h2 : tideS.data.toList.length = 4 := rfl
    simp only [List.length_append, List.length_nil]
    omega)
  go_wp2_with fail
  refine (wtextRef_any _ _ _ _ tideS w0 w0W.out w0B.out.size (by simp) (by decide)).mono ?_
  rintro e w1 ⟨rfl, g1, W9, fr9, k9⟩
  have B9 := aside (w0B.out.trans (k9.below w0B.out.size (fun i hi e => by
    rcases e with e | e
    · have := w0W.out.1; omega
    · have := (w0W.out.row i e).1; omega)))
  have w1W := aside W9
  have w1B := aside B9.out
  clear W9 fr9 k9 B9 w0W w0B c0 c1 c2
  obtain ⟨c0, c1, c2⟩ := box3r (blk_on HDB.out w1B.out)
  go_wp2_with fail
  refine (wnumRef_any _ _ _ _ nd w1 w1W.out w1B.out.size (by have := HO.out.nd7; omega) (by have := HO.out.nd7; omega) (by have := HLN.out; omega)).mono ?_
  rintro e w2 ⟨rfl, g2, W9, fr9, k9⟩
  have B9 := aside (w1B.out.trans (k9.below w1B.out.size (fun i hi e => by
    rcases e with e | e
    · have := w1W.out.1; omega
    · have := (w1W.out.row i e).1; omega)))
  have w2W := aside W9
  have w2B := aside B9.out
  clear W9 fr9 k9 B9 w1W w1B c0 c1 c2
  obtain ⟨c0, c1, c2⟩ := box3r (blk_on HDB.out w2B.out)
  replace HLN := aside (show (([] ++ (Nm.enc 8 tideS.size ++ tideS.data.toList)) ++ Nm.enc 8 (up nd)).length ≤ 2000 from by
    have h1 := (Nm.enc_length 8 (up nd)).2
    have h2 := HLN.out
    rw [List.length_append]
    omega)
  go_wp2_with fail
  refine (wnumRef_any _ _ _ _ ck w2 w2W.out w2B.out.size (by have := HO.out.c1; omega) (by have := HO.out.c0; omega) (by have := HLN.out; omega)).mono ?_
  rintro e w3 ⟨rfl, g3, W9, fr9, k9⟩
  have B9 := aside (w2B.out.trans (k9.below w2B.out.size (fun i hi e => by
    rcases e with e | e
    · have := w2W.out.1; omega
    · have := (w2W.out.row i e).1; omega)))
  have w3W := aside W9
  have w3B := aside B9.out
  clear W9 fr9 k9 B9 w2W w2B c0 c1 c2
  obtain ⟨c0, c1, c2⟩ := box3r (blk_on HDB.out w3B.out)
  replace HLN := aside (show ((([] ++ (Nm.enc 8 tideS.size ++ tideS.data.toList)) ++ Nm.enc 8 (up nd)) ++ Nm.enc 8 (up ck)).length ≤ 3000 from by
    have h1 := (Nm.enc_length 8 (up ck)).2
    have h2 := HLN.out
    rw [List.length_append]
    omega)
  go_wp2_with fail
  refine (wnumRef_any _ _ _ _ (l.length : Int) w3 w3W.out w3B.out.size (by have := HL.out; omega) (by omega) (by have := HLN.out; omega)).mono ?_
  rintro e w4 ⟨rfl, g4, W9, fr9, k9⟩
  have B9 := aside (w3B.out.trans (k9.below w3B.out.size (fun i hi e => by
    rcases e with e | e
    · have := w3W.out.1; omega
    · have := (w3W.out.row i e).1; omega)))
  have w4W := aside W9
  have w4B := aside B9.out
  clear W9 fr9 k9 B9 w3W w3B c0 c1 c2
  obtain ⟨c0, c1, c2⟩ := box3r (blk_on HDB.out w4B.out)
  have EH : ((([] ++ (Nm.enc 8 tideS.size ++ tideS.data.toList)) ++ Nm.enc 8 (up nd)) ++ Nm.enc 8 (up ck)) ++ Nm.enc 8 (up ((l.length : Nat) : Int)) = imgH nd ck l.length := by
    rw [upN]
    simp [imgH, strB, List.append_assoc]
  rw [EH] at w4W
  clear EH HLN
  have HHL := aside (imgH_len nd ck l.length)
  obtain ⟨hd, hhd⟩ : ∃ hd, imgH nd ck l.length = hd := ⟨_, rfl⟩
  have HHD := aside hhd
  rw [hhd] at w4W HHL
  clear hhd
  go_wp2
  go_loopw [33] (fun i wr => ∃ j : Nat, i = .int .i64 (j : Int) ∧ j ≤ l.length ∧ Hid (Below w.heap.size w wr ∧ ∃ gg, IsW 115 w.heap.size wb gg (hd ++ putsB (l.take j)) wr)) (fun i _ => l.length - (intOf i).toNat)
  case atStart => exact ⟨0, rfl, Nat.zero_le _, aside ⟨w4B.out, _, by rw [List.take_zero, show putsB [] = [] from rfl, List.append_nil]; exact w4W.out⟩⟩
  case round =>
    obtain ⟨j, rfl, hj, HI⟩ := hrel
    have HB := aside HI.out.1
    obtain ⟨gg, hgg⟩ := HI.out.2
    have HW := aside hgg
    clear HI hgg w4W w4B c0 c1 c2
    by_cases hlt : (j : Int) < (l.length : Int)
    · have hj0 : (0 : Int) ≤ (j : Int) := by omega
      have hjl : j < l.length := by omega
      have HJL := aside hjl
      have hwr : IntKind.i64.wrap ((j : Int) + 1) = (((j + 1 : Nat)) : Int) := by rw [IntKind.wrap_i64]; have := HL.out; omega
      have eA := HE.out.keep HB.out
      rcases eA.2.2 with h0 | ⟨ba, oa, rfl, -, -⟩
      · omega
      obtain ⟨x, hx⟩ : ∃ x, nthE l j = x := ⟨_, rfl⟩
      have HX := aside (show l[j]? = some x from by rw [← hx]; exact nthE_get hjl)
      obtain ⟨d0, d1, d2, d3, d4⟩ := ents_five eA hjl hx
      have E5 := aside (heap_alloc_new wr (.cells #[.string x.k, .int .i64 x.c, .int .i64 x.n, .string x.v, .bool x.d] 44))
      obtain ⟨⟨e0, e1, e2, e3, e4⟩, -⟩ := box5 E5.out
      have NB := bnew wr (.cells #[.string x.k, .int .i64 x.c, .int .i64 x.n, .string x.v, .bool x.d] 44)
      have HB2 := aside (HB.out.trans (NB.mono HB.out.size))
      have HW2 := aside (HW.out.keep (Keeps.of_below NB (fun _ => False)) (fun e => e) (fun _ _ e => e))
      have HLP := aside (show (hd ++ putsB (l.take j)).length ≤ 17592186044416 from by
        have h1 := putsB_58 (l.take j)
        have h2 := HHL.out
        have h3 := HL.out
        rw [List.length_take] at h1
        rw [List.length_append]
        omega)
      clear eA hx NB hjl HW HB
      go_wp2_with fail
      refine (putRef_any _ _ _ _ x.k x.c x.n x.v x.d _ HW2.out HB2.out.size HLP.out).mono ?_
      rintro e w9 ⟨rfl, g9, W9, fr9, k9⟩
      have HB9 := aside (HB2.out.trans (k9.below HB2.out.size (fun i hi e => by
        rcases e with e | e
        · have := HW2.out.1; omega
        · have := (HW2.out.row i e).1; omega)))
      have HW9 := aside W9
      clear W9 fr9 k9 HW2 HB2 HLP e0 e1 e2 e3 e4 E5 d0 d1 d2 d3 d4
      go_wp2
      go_roundw
      case rel => exact ⟨j + 1, by go_num, by have := HJL.out; omega, aside ⟨HB9.out, _, by rw [List.take_add_one, HX.out, Option.toList_some, putsB_snoc, ← List.append_assoc]; exact HW9.out⟩⟩
      case measure => simp [intOf]; omega
    · have hjl : j = l.length := by omega
      subst hjl
      have HWF := aside (show IsW 115 w.heap.size wb gg (imgB nd ck l) wr from by
        rw [imgB_head, HHD.out, ← putsB_es l HO.out.map.chk]
        have h9 := HW.out
        rwa [List.take_length] at h9)
      clear HW
      have CB := aside (bytesRef_any _ _ _ _ wr HWF.out (by have := img_len HO.out; omega))
      go_wp2_with fail
      refine CB.out.mono ?_
      rintro e w9 ⟨v9, rfl, ho, kf⟩
      have HO9 := aside (own_low ho HB.out.size)
      have HB9 := aside (HB.out.trans (kf.below HB.out.size (fun i hi e => e)))
      clear ho kf CB
      go_wp2
      go_ret
      exact ⟨v9, rfl, HO9.out, HB9.out⟩
end Go.Proofs.YtlbkcndmljlnmaaDoor
