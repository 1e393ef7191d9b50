/-
  ImageLoads, walked.
-/
import Derived.Test.YtlbkcndmljlnmaaDoorBq38
namespace Go.Proofs.YtlbkcndmljlnmaaDoor
open Go.RowKit
set_option linter.unusedVariables false
theorem pre_byte (l : List UInt8) : (Lib.byteCells (l ++ [115])).take l.length = Lib.byteCells l := by
  unfold Lib.byteCells
  rw [List.map_append, List.take_left' (by simp)]
theorem cat_byte (l : List UInt8) : (⟨l.toArray⟩ : ByteArray) ++ ⟨#[115]⟩ = ⟨(l ++ [115]).toArray⟩ := Go.WideShapes.bytes_inj (by simp [ByteArray.data_append])
set_option maxHeartbeats 12800000 in
set_option maxRecDepth 100000 in
theorem limloads_walk (a : Option Addr) (len cap : Nat) (Lb : List UInt8) (w : World) (hA : ArgB w a len cap Lb) (hl : len ≤ 140737488351232) (L : Lanes w) :
    Calls Tryd.prog 4 #[.slice a len cap] w fun e w' => e = .returned (.bool true) ∧ Below w.heap.size w w' := by
  obtain rfl : len = Lb.length := hA.1.symm
  have HA := aside hA
  have HLN := aside hl
  have HL := aside L
  have hmx : (Lb.length : Int) ≤ 140737488351232 := by omega
  clear hA hl L
  go_enter Tryd.func4, Tryd.ntmps4
  go_wp2_with fail
  refine (shown10 w HL.out).mono ?_
  rintro e w1 ⟨rfl, b1⟩
  have BB := aside b1
  clear b1
  go_wp2_with (at_builtin; refine wpList_plain rfl fun K hK => ?_; refine op_append_arg _ _ rfl w1.heap.size (.slice none 0 0) [] (by rfl) (World.ownsRow_nil _ _ _ _) a Lb.length cap Lb (by rfl) (HA.out.later BB.out) ?_ (Nat.le_refl _) ?_; exact (by have := HLN.out; simp; omega); intro v2 w2 own2 gr2; refine hK _ _ ?_; refine Hid.out ?_)
  refine aside ?_
  rw [List.nil_append] at own2
  have O2 := aside own2
  have B2 := aside ((Below.refl w1.heap.size w1).grown gr2 (Nat.le_refl _) (fun j e => by cases e))
  clear own2 gr2
  have KZ := aside (heap_alloc_new w2 (.cells #[.int .u8 115] 5))
  have NB := bnew w2 (.cells #[.int .u8 115] 5)
  have O2' := aside (own_on O2.out NB)
  have B3 := aside (bthen B2.out NB)
  have ZA := aside (show ArgB (w2.alloc (.cells #[.int .u8 115] 5)) (some ⟨w2.heap.size, 0, none⟩) 1 1 [115] from ⟨rfl, Nat.le_refl _, by unfold maxLen; omega, .inr ⟨_, rfl, World.news_of_block (cs := #[.int .u8 115]) (t := 5) (fr := (0, 0)) KZ.out⟩⟩)
  clear NB KZ B2 O2
  go_wp2_with (at_builtin; refine wpList_plain rfl fun K hK => ?_; refine op_append_arg _ _ rfl w1.heap.size v2 Lb (by rfl) O2'.out (some ⟨w2.heap.size, 0, none⟩) 1 1 [115] (by rfl) ZA.out ?_ B3.out.size ?_; exact (by have := HLN.out; omega); intro v3 w3 own3 gr3; refine hK _ _ ?_; refine Hid.out ?_)
  refine aside ?_
  have B4 := aside (B3.out.grown gr3 B3.out.size (fun j e => (O2'.out.lt j e).1))
  have h3 : (Lb ++ [115]).length = Lb.length + 1 := by rw [List.length_append]; rfl
  rw [h3] at own3
  obtain ⟨g, c, rfl⟩ := own_some own3 (by omega)
  obtain ⟨hc1, hc2⟩ := row_max own3
  have hcc1 : (Lb.length : Int) + 1 ≤ (c : Int) := by omega
  have hcc2 : (c : Int) ≤ 9223372036854775807 := by unfold maxLen at hc2; omega
  have O3 := aside own3
  have BW := aside (bthen BB.out B4.out)
  clear own3 gr3 B3 B4 ZA O2' h3 hc1 hc2
  have CL := aside (imload (w := w3) (a := some ⟨g, 0, none⟩) (len := Lb.length) (cap := c) (l := Lb) (fun w' bb => reads_own (by have h9 := own_pre (own_on O3.out bb) (Nat.le_succ Lb.length); rw [pre_byte] at h9; exact h9)) rfl (HL.out.keep BW.out))
  go_wp2_with fail
  have h3 : (Lb ++ [115]).length = Lb.length + 1 := by rw [List.length_append]; rfl
  refine CL.out.mono ?_
  rintro e w4 ⟨b4, ⟨nd, ck, es, sb, gs, tb, hI, rfl, s4, -, -, -, -⟩ | ⟨hno, rfl⟩⟩
  case inr =>
    have HNO := aside hno
    have O4 := aside (own_on O3.out b4)
    have B4 := aside (bthen BW.out b4)
    clear hno b4 O3 BW CL
    go_wp2_with fail
    refine (rimload (HA.out.later B4.out) HLN.out).mono ?_
    rintro e w5 ⟨b5, ⟨nd, ck, es, db, hI, -⟩ | ⟨-, rfl⟩⟩
    · exact absurd hI (HNO.out _ _ _)
    have q1 := conv_own w5 w1.heap.size (.slice (some ⟨g, 0, none⟩) (Lb.length + 1) c) (Lb ++ [115]) (by rw [h3]; exact own_on O4.out b5)
    have B5 := aside (bthen B4.out b5)
    have q2 := (HA.out.later B5.out).reads.now
    clear b5 O4 B4
    have hcat := cat_byte Lb
    go_wp2
    go_ret
    exact ⟨rfl, B5.out⟩
  have HI := aside hI
  have SX := aside s4
  have O4 := aside (own_on O3.out b4)
  have B4 := aside (bthen BW.out b4)
  clear hI s4 b4 O3 BW CL
  go_wp2_with fail
  refine (rimload (HA.out.later B4.out) HLN.out).mono ?_
  rintro e w5 ⟨b5, ⟨nd', ck', es', db, hI', rfl, -, d5⟩ | ⟨hno, -⟩⟩
  case inr => exact absurd HI.out (hno _ _ _)
  obtain ⟨e1, e2, e3⟩ := imgIs_same HI.out hI'
  subst e1 e2 e3
  obtain ⟨D, hD⟩ : ∃ D, w4.heap.size = D := ⟨_, rfl⟩
  rw [hD] at d5
  have DX := aside d5
  replace SX := aside (SX.out.below b5)
  replace O4 := aside (own_on O4.out b5)
  have q1 := conv_own w5 w1.heap.size (.slice (some ⟨g, 0, none⟩) (Lb.length + 1) c) (Lb ++ [115]) (by rw [h3]; exact O4.out)
  have B5 := aside (bthen B4.out b5)
  have q2 := (HA.out.later B5.out).reads.now
  clear b5 B4 d5 hI' hD
  have hcat := cat_byte Lb
  go_wp2
  clear q1 q2 hcat
  have HGW := aside (show w.heap.size ≤ g from by have := (O4.out.lt g rfl).1; have := BB.out.size; omega)
  go_loopw [52] (fun i wr => ∃ j : Nat, i = .int .i64 (j : Int) ∧ j ≤ Lb.length + 1 ∧ (∃ xs, wr.ownsRow w1.heap.size 5 1 (.slice (some ⟨g, 0, none⟩) (Lb.length + 1) c) (Lb.length + 1) xs) ∧ Keeps (fun x => x = g) w5 wr) (fun i _ => Lb.length + 1 - (intOf i).toNat)
  case atStart => exact ⟨0, rfl, Nat.zero_le _, ⟨_, O4.out⟩, Keeps.refl _ _⟩
  case round =>
    obtain ⟨j, rfl, hj, ⟨xs, hx⟩, hk⟩ := hrel
    have HX := aside hx
    have HK := aside hk
    clear hx hk
    by_cases hlt : (j : Int) < (Lb.length : Int) + 1
    · have hj0 : (0 : Int) ≤ (j : Int) := by omega
      have hxl : j < xs.length := by have := HX.out.1; omega
      obtain ⟨u, c0⟩ : ∃ u, wr.cell? ⟨g, j, none⟩ = some u := ⟨xs[j], by rw [HX.out.cellAt j (by omega)]; exact List.getElem?_eq_getElem hxl⟩
      have f0 := row_frozenI HX.out j
      have ST := aside (HX.out.stored j (.int .u8 120)).1
      have SK := aside (HK.out.setCell (p := ⟨g, j, none⟩) (fun _ => rfl) (.int .u8 120))
      go_wp2
      go_roundw
      case rel => exact ⟨j + 1, by go_num, by omega, ⟨_, ST.out⟩, SK.out⟩
      case measure => simp [intOf]; omega
    · have BX := aside (SX.out.byte O4.out HK.out)
      have BD := aside (DX.out.byte O4.out HK.out)
      have B7 := aside (B5.out.trans (HK.out.below B5.out.size (fun k hk e => by have := HGW.out; omega)))
      have HE := aside (img_inv HI.out)
      clear HK HX hj
      go_wp2_with fail
      refine (imput BX.out HI.out.2).mono ?_
      rintro e w8 ⟨vc, rfl, oc, b8⟩
      rw [← HE.out] at oc
      have CX := aside (BX.out.below b8)
      have CD := aside (BD.out.below b8)
      have OC := aside oc
      have B9 := aside (bthen B7.out b8)
      have CS := aside (same10_any CX.out CD.out HI.out.2.map HI.out.2.len (fun e he => key_small (HI.out.2.map.chk e he)))
      clear oc b8 B7 BX BD
      go_wp2_with fail
      refine CS.out.mono ?_
      rintro e w9 ⟨rfl, b9⟩
      have q1 := conv_own w9 wr.heap.size vc Lb (own_on OC.out b9)
      replace B9 := aside (bthen B9.out b9)
      have q2 := (HA.out.later B9.out).reads.now
      clear b9 CS
      go_wp2
      go_ret
      exact ⟨rfl, B9.out⟩
end Go.Proofs.YtlbkcndmljlnmaaDoor
