/-
  ImagePuts, walked.
-/
import Derived.Test.YtlbkcndmljlnmaaDoorBi35
namespace Go.Proofs.YtlbkcndmljlnmaaDoor
open Go.RowKit
set_option linter.unusedVariables false
set_option maxHeartbeats 6400000 in
set_option maxRecDepth 100000 in
theorem limputs_walk (nd ck : Int) (a : Option Addr) (len cap : Nat) (T : Nat → En) (w : World) (h : EntsIn w a len cap T) (hform : (a = none ∧ len = 0 ∧ cap = 0) ∨ ∃ y, a = some y) (L : Lanes w) :
    Calls Tryd.prog 3 #[.int .i64 nd, .int .i64 ck, .slice a len cap] w fun e w' => e = .returned (.bool true) ∧ Below w.heap.size w w' := by
  have HE := aside h
  have HF := aside hform
  have HL := aside L
  clear h hform L
  go_enter Tryd.func3, Tryd.ntmps3
  go_wp2_with fail
  refine (shown10 w HL.out).mono ?_
  rintro e w1 ⟨rfl, b1⟩
  have BB := aside b1
  clear b1
  go_wp2_with fail
  refine (sloadE_any nd ck a len cap T w1 (HE.out.keep BB.out) (HL.out.keep BB.out)).mono ?_
  rintro e w2 ⟨b2, ⟨hO, L2, sb, gs, tb, rfl, s2, -, -, -⟩ | ⟨hno, c, hc, rfl, hbad⟩⟩
  case inr =>
    have HNO := aside hno
    have HBAD := aside hbad
    have HC := aside hc
    replace BB := aside (bthen BB.out b2)
    clear hno hbad b2 hc
    go_wp2_with fail
    refine (rloadE nd ck a len cap T w2 (HE.out.keep BB.out) HF.out).mono ?_
    rintro e w3 ⟨b3, ⟨hO, -⟩ | ⟨-, c', hc', rfl, hbad'⟩⟩
    · exact absurd hO HNO.out
    obtain rfl := LdBad.det HBAD.out hbad'
    replace BB := aside (bthen BB.out b3)
    clear b3 hc' hbad'
    go_wp2
    go_ret
    exact ⟨rfl, BB.out⟩
  have HO := aside hO
  have SX := aside s2
  replace BB := aside (bthen BB.out b2)
  clear hO s2 b2 L2
  go_wp2_with fail
  refine (rloadE nd ck a len cap T w2 (HE.out.keep BB.out) HF.out).mono ?_
  rintro e w3 ⟨b3, ⟨-, db, rfl, -, d3⟩ | ⟨hno, -⟩⟩
  case inr => exact absurd HO.out hno
  obtain ⟨D, hD⟩ : ∃ D, w2.heap.size = D := ⟨_, rfl⟩
  rw [hD] at d3
  have DX := aside d3
  replace SX := aside (SX.out.below b3)
  replace BB := aside (bthen BB.out b3)
  clear d3 b3 hD
  obtain ⟨l, hl⟩ : ∃ l, imgB nd ck (firstE T len) = l := ⟨_, rfl⟩
  have HLN := aside (show l.length ≤ 32768 from by rw [← hl]; exact img_len HO.out)
  have HLP := aside (show 0 < l.length from by rw [← hl]; exact img_pos _ _ _)
  go_wp2_with fail
  refine (rimput DX.out HO.out).mono ?_
  rintro e w4 ⟨vw, rfl, ow, b4⟩
  rw [hl] at ow
  have qw := conv_own w4 w3.heap.size vw l ow
  replace SX := aside (SX.out.below b4)
  replace DX := aside (DX.out.below b4)
  replace BB := aside (bthen BB.out b4)
  have HW4 := aside (show w.heap.size ≤ w4.heap.size from BB.out.size)
  clear ow b4
  go_wp2_with fail
  refine (imput SX.out HO.out).mono ?_
  rintro e w5 ⟨va, rfl, oa, b5⟩
  rw [hl] at oa
  have OA := aside oa
  replace SX := aside (SX.out.below b5)
  replace DX := aside (DX.out.below b5)
  replace BB := aside (bthen BB.out b5)
  clear oa b5 qw
  go_wp2_with fail
  refine (imput SX.out HO.out).mono ?_
  rintro e w6 ⟨vb, rfl, ob, b6⟩
  rw [hl] at ob
  have HAB := aside (show ∀ k, va.ownBlock = some k → ¬ vb.ownBlock = some k from fun k e1 e2 => by have := (OA.out.lt k e1).2; have := (ob.lt k e2).1; omega)
  have OB := aside ob
  replace OA := aside (own_on OA.out b6)
  replace SX := aside (SX.out.below b6)
  replace DX := aside (DX.out.below b6)
  replace BB := aside (bthen BB.out b6)
  clear ob b6
  obtain ⟨ga, ca, rfl⟩ := own_some OA.out HLP.out
  obtain ⟨gb, cb, rfl⟩ := own_some OB.out HLP.out
  replace HAB := aside (show ¬ (Value.slice (some ⟨gb, 0, none⟩) l.length cb).ownBlock = some ga from HAB.out ga rfl)
  have qa := conv_own w6 w4.heap.size (.slice (some ⟨ga, 0, none⟩) l.length ca) l OA.out
  have qb := conv_own w6 w5.heap.size (.slice (some ⟨gb, 0, none⟩) l.length cb) l OB.out
  have hmx : (l.length : Int) ≤ 32768 := by have := HLN.out; omega
  go_wp2
  clear qa qb
  go_loopw [85] (fun i wr => ∃ j : Nat, i = .int .i64 (j : Int) ∧ j ≤ l.length ∧ (∃ xs, wr.ownsRow w4.heap.size 5 1 (.slice (some ⟨ga, 0, none⟩) l.length ca) l.length xs) ∧ Keeps (fun x => x = ga) w6 wr) (fun i _ => l.length - (intOf i).toNat)
  case atStart => exact ⟨0, rfl, Nat.zero_le _, ⟨_, OA.out⟩, Keeps.refl _ _⟩
  case round =>
    obtain ⟨j, rfl, hj, ⟨xs, hx⟩, hk⟩ := hrel
    have HX := aside hx
    have HK := aside hk
    clear hx hk
    by_cases hlt : (j : Int) < (l.length : Int)
    · have hj0 : (0 : Int) ≤ (j : Int) := by omega
      have hxl : j < xs.length := by have := HX.out.1; omega
      obtain ⟨u, c0⟩ : ∃ u, wr.cell? ⟨ga, j, none⟩ = some u := ⟨xs[j], by rw [HX.out.cellAt j (by omega)]; exact List.getElem?_eq_getElem hxl⟩
      have f0 := row_frozenI HX.out j
      have ST := aside (HX.out.stored j (.int .u8 120)).1
      have SK := aside (HK.out.setCell (p := ⟨ga, j, none⟩) (fun _ => rfl) (.int .u8 120))
      go_wp2
      go_roundw
      case rel => exact ⟨j + 1, by go_num, by omega, ⟨_, ST.out⟩, SK.out⟩
      case measure => simp [intOf]; omega
    · have BX := aside (SX.out.byte OA.out HK.out)
      have BD := aside (DX.out.byte OA.out HK.out)
      have BO := aside (own_byte OB.out HK.out HAB.out OA.out)
      have B7 := aside (BB.out.trans (HK.out.below BB.out.size (fun k hk e => by have := (OA.out.lt ga rfl).1; have := HW4.out; omega)))
      have HW7 := aside (show w4.heap.size ≤ wr.heap.size from by have := (HX.out.lt ga rfl); omega)
      clear HK
      obtain ⟨xb, hxb⟩ : ∃ xb, wr.heap.size = xb := ⟨_, rfl⟩
      have KZ := aside (heap_alloc_new wr (.cells #[.int .u8 121, .int .u8 121, .int .u8 121] 5))
      have NB := bnew wr (.cells #[.int .u8 121, .int .u8 121, .int .u8 121] 5)
      have HX8 := aside (own_on HX.out NB)
      replace BO := aside (own_on BO.out NB)
      replace BX := aside (BX.out.below NB)
      replace BD := aside (BD.out.below NB)
      replace B7 := aside (bthen B7.out NB)
      replace HW7 := aside (Nat.le_trans HW7.out NB.size)
      clear NB HX hxb
      go_wp2_with (at_builtin; refine wpList_plain rfl fun K hK => ?_; refine op_append_bytes _ _ rfl w4.heap.size l.length ga ca xs ?_ ?_ wr.heap.size 3 3 [.int .u8 121, .int .u8 121, .int .u8 121] ?_ ?_ ?_ ?_ ?_ ?_ ?_ ?_; exact (by rfl); exact HX8.out; exact (by rfl); exact (World.news_of_block (cs := #[.int .u8 121, .int .u8 121, .int .u8 121]) (t := 5) (fr := (0, 0)) KZ.out); exact rfl; exact (fun u hu => by simp at hu; subst hu; rfl); exact (by have := HLN.out; omega); exact HW7.out; exact (by omega); intro g3 cap3 w7 own7 gr7; refine hK _ _ ?_; refine Hid.out ?_)
      refine aside ?_
      have kg : Keeps (fun x => x = ga) (wr.alloc (.cells #[.int .u8 121, .int .u8 121, .int .u8 121] 5)) w7 := by
        rcases gr7 with ⟨-, -, gr7⟩ | ⟨-, gr7⟩
        · exact (Keeps.refl _ _).grown gr7 (fun k hk _ => (Option.some.inj hk).symm)
        · exact (Keeps.refl _ _).grown gr7 (fun k hk _ => by cases hk)
      replace BO := aside (own_byte BO.out kg HAB.out HX8.out)
      replace BX := aside (BX.out.byte HX8.out kg)
      replace BD := aside (BD.out.byte HX8.out kg)
      have B8 := aside (B7.out.trans (kg.below B7.out.size (fun k hk e => by have := (HX8.out.lt ga rfl).1; have := HW4.out; omega)))
      clear kg gr7 own7 KZ HX8 B7 HW7
      go_wp2_with fail
      refine (imput BX.out HO.out).mono ?_
      rintro e w8 ⟨vc, rfl, oc, b8⟩
      rw [hl] at oc
      have CX := aside (BX.out.below b8)
      have CD := aside (BD.out.below b8)
      have B9 := aside (bthen B8.out b8)
      have q1 := conv_own w8 w5.heap.size (.slice (some ⟨gb, 0, none⟩) l.length cb) l (own_on BO.out b8)
      have q2 := conv_own w8 w7.heap.size vc l oc
      have CS := aside (same10_any CX.out CD.out HO.out.map HO.out.len (fun e he => key_small (HO.out.map.chk e he)))
      clear oc b8 B8 BX BD BO
      go_wp2_with fail
      refine CS.out.mono ?_
      rintro e w9 ⟨rfl, b9⟩
      replace B9 := aside (bthen B9.out b9)
      clear b9 CS
      go_wp2
      go_ret
      exact ⟨rfl, B9.out⟩
end Go.Proofs.YtlbkcndmljlnmaaDoor
