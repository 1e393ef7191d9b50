/-
  ImageGoesOn, walked.
-/
import Derived.Test.YtlbkcndmljlnmaaDoorBj35
import Derived.Test.YtlbkcndmljlnmaaDoorBj36
namespace Go.Proofs.YtlbkcndmljlnmaaDoor
open Go.RowKit
set_option linter.unusedVariables false
set_option maxHeartbeats 12800000 in
set_option maxRecDepth 100000 in
theorem limgoes_walk (nn : Int) (a : Option Addr) (len cap : Nat) (T : Nat → OpG) (ba : Option Addr) (lb cb : Nat) (z : Nat → Bool) (w : World) (L : Lanes w) (hO : OpGs w a len cap T) (hz : BoolsIn w ba lb cb z) :
    Calls Tryd.prog 6 #[.int .i64 nn, .slice a len cap, .slice ba lb cb] w fun e w' => e = .returned (.bool true) ∧ Below w.heap.size w w' := by
  have HL := aside L
  have HOP := aside hO
  have HZ := aside hz
  have hmx : (len : Int) ≤ 9223372036854775807 := by have := hO.1; have := hO.2.1; unfold maxLen at *; omega
  have hmz : (lb : Int) ≤ 9223372036854775807 := by have := hz.1; have := hz.2.1; unfold maxLen at *; omega
  obtain ⟨nd, hnd⟩ : ∃ nd : Int, amg nn 8 = nd := ⟨_, rfl⟩
  have HNB := aside (show nodeB nd = true from by obtain ⟨k, h1, h2⟩ := amg_lt nn (show 0 < 8 from by decide); rw [← hnd]; exact node_yes (by have : ((8 : Nat) : Int) = 8 := rfl; rw [this] at h1; omega) (by have : ((8 : Nat) : Int) = 8 := rfl; rw [this] at h1; omega))
  have C1 := fun W => among11 nn 8 W (by decide) (by decide)
  rw [show ((8 : Nat) : Int) = 8 from rfl, hnd] at C1
  replace C1 := aside C1
  clear L hO hz hnd
  go_enter Tryd.func6, Tryd.ntmps6
  go_wp2_with fail
  refine (shown10 w HL.out).mono ?_
  rintro e w1 ⟨rfl, b1⟩
  have BB := aside b1
  clear b1
  go_wp2_with fail
  refine (C1.out _).mono ?_
  rintro e w2 ⟨rfl, e2⟩
  subst e2
  go_wp2_with fail
  refine (qnew nd _).mono ?_
  rintro e w3 ⟨b3, ⟨hn, -⟩ | ⟨-, sa, ga, ta, rfl, s3, l1, l2, l3⟩⟩
  · rw [HNB.out] at hn; cases hn
  have SA := aside s3
  have LA := aside (show w.heap.size ≤ sa ∧ w.heap.size ≤ ga ∧ w.heap.size ≤ ta from by have := BB.out.size; omega)
  replace BB := aside (bthen BB.out b3)
  clear s3 l1 l2 l3 b3
  go_wp2_with fail
  refine (C1.out _).mono ?_
  rintro e w4 ⟨rfl, e4⟩
  subst e4
  go_wp2_with fail
  refine (qnew nd _).mono ?_
  rintro e w5 ⟨b5, ⟨hn, -⟩ | ⟨-, sb, gb, tb, rfl, s5, l1, l2, l3⟩⟩
  · rw [HNB.out] at hn; cases hn
  have T0 := aside (show Twi sa ga ta sb gb tb nd 0 [] w5 from ⟨SA.out.below b5, s5, by have := SA.out.lt; omega, by have := SA.out.lt; omega, by have := SA.out.lt; omega, HL.out.keep (bthen BB.out b5)⟩)
  have S0 := aside (show SixB w.heap.size sa ga ta sb gb tb from ⟨LA.out, by have := BB.out.size; omega⟩)
  have O0 := aside (show LdOk nd 0 [] from ⟨HNB.out, by decide, by decide, by decide, MapL.nil, by simp⟩)
  replace BB := aside (bthen BB.out b5)
  clear b5 s5 l1 l2 l3 SA
  go_wp2
  go_loopw [9, 51] (fun v i wr => ∃ (j sb gb tb : Nat) (ck : Int) (Ls : List En), v = .pointer (some ⟨sb, 0, none⟩) ∧ i = .int .i64 (j : Int) ∧ j ≤ len ∧ LdOk nd ck Ls ∧ Twi sa ga ta sb gb tb nd ck Ls wr ∧ SixB w.heap.size sa ga ta sb gb tb ∧ Below w.heap.size w wr) (fun _ i _ => len - (intOf i).toNat)
  case atStart => exact ⟨0, sb, gb, tb, 0, [], rfl, rfl, Nat.zero_le _, O0.out, T0.out, S0.out, BB.out⟩
  case round =>
    clear T0 S0 O0 BB
    obtain ⟨j, sb, gb, tb, ck, Ls, rfl, rfl, hj, hOK, hT, hS, hB⟩ := hrel
    have HOK := aside hOK
    have TW := aside hT
    have SX := aside hS
    have B5 := aside hB
    clear hOK hT hS hB
    by_cases hlt : (j : Int) < (len : Int)
    · have hj0 : (0 : Int) ≤ (j : Int) := by omega
      have hOX := HOP.out.keep B5.out
      rcases hOX.2.2.2 with h0 | ⟨pb, po, rfl, hpb, hpc⟩
      · omega
      obtain ⟨o, ho⟩ : ∃ o, T j = o := ⟨_, rfl⟩
      have hoc := hpc j (by omega)
      rw [ho] at hoc
      obtain ⟨oc0, oc1, oc2, oc3, oc4, oc5, oc6, oc7, oc8, oc9, oc10⟩ := hoc
      have BO := aside (bnew wr (.cells #[.int .i64 o.kind, .string o.key, .string o.val, .string o.ek, .int .i64 o.ec, .int .i64 o.en, .string o.ev, .bool o.ed, .string o.lo, .string o.hi, .bool o.op] 53))
      have KO := aside (heap_alloc_new wr (.cells #[.int .i64 o.kind, .string o.key, .string o.val, .string o.ek, .int .i64 o.ec, .int .i64 o.en, .string o.ev, .bool o.ed, .string o.lo, .string o.hi, .bool o.op] 53))
      have ZX := aside (HZ.out.keepI (bthen B5.out BO.out))
      clear hOX hpc ho hpb
      go_upto_region 10 with fail
      replace TW := aside (TW.out.on BO.out)
      replace B5 := aside (bthen B5.out BO.out)
      obtain ⟨ob, hob⟩ : ∃ ob, wr.heap.size = ob := ⟨_, rfl⟩
      rw [hob] at KO ⊢
      clear BO hob oc0 oc1 oc2 oc3 oc4 oc5 oc6 oc7 oc8 oc9 oc10
      generalize wr.alloc (.cells #[.int .i64 o.kind, .string o.key, .string o.val, .string o.ek, .int .i64 o.ec, .int .i64 o.en, .string o.ev, .bool o.ed, .string o.lo, .string o.hi, .bool o.op] 53) = X at *
      by_cases hjb : (j : Int) < (lb : Int)
      · have hzx := ZX.out
        rcases hzx.2.2 with h0 | ⟨zb, zo, rfl, -, hzc⟩
        · omega
        have c0 := hzc j (by omega)
        clear hzx hzc
        cases hzj : z j
        · rw [hzj] at c0
          clear ZX hzj
          have x0 : X.cell? ⟨ob, 0, none⟩ = some (.int .i64 o.kind) := by rw [cell_of_row _ _ 0 _ _ _ KO.out]; rfl
          have x1 : X.cell? ⟨ob, 1, none⟩ = some (.string o.key) := by rw [cell_of_row _ _ 1 _ _ _ KO.out]; rfl
          have x2 : X.cell? ⟨ob, 2, none⟩ = some (.string o.val) := by rw [cell_of_row _ _ 2 _ _ _ KO.out]; rfl
          have x3 : X.cell? ⟨ob, 3, none⟩ = some (.string o.ek) := by rw [cell_of_row _ _ 3 _ _ _ KO.out]; rfl
          have x4 : X.cell? ⟨ob, 4, none⟩ = some (.int .i64 o.ec) := by rw [cell_of_row _ _ 4 _ _ _ KO.out]; rfl
          have x5 : X.cell? ⟨ob, 5, none⟩ = some (.int .i64 o.en) := by rw [cell_of_row _ _ 5 _ _ _ KO.out]; rfl
          have x6 : X.cell? ⟨ob, 6, none⟩ = some (.string o.ev) := by rw [cell_of_row _ _ 6 _ _ _ KO.out]; rfl
          have x7 : X.cell? ⟨ob, 7, none⟩ = some (.bool o.ed) := by rw [cell_of_row _ _ 7 _ _ _ KO.out]; rfl
          have x8 : X.cell? ⟨ob, 8, none⟩ = some (.string o.lo) := by rw [cell_of_row _ _ 8 _ _ _ KO.out]; rfl
          have x9 : X.cell? ⟨ob, 9, none⟩ = some (.string o.hi) := by rw [cell_of_row _ _ 9 _ _ _ KO.out]; rfl
          have x10 : X.cell? ⟨ob, 10, none⟩ = some (.bool o.op) := by rw [cell_of_row _ _ 10 _ _ _ KO.out]; rfl
          have DC := aside (does10_any o.kind o.key o.val ⟨o.ek, o.ec, o.en, o.ev, o.ed⟩ o.lo o.hi o.op TW.out HOK.out SX.out B5.out.size)
          go_wp2_with fail
          refine DC.out.mono ?_
          rintro e w9 ⟨rfl, b9, ck9, Ls9, hO9, tw9⟩
          have T9 := aside tw9
          have O9 := aside hO9
          have B9 := aside (B5.out.trans b9)
          have S9 := aside SX.out
          clear b9 tw9 hO9 DC TW HOK B5 SX KO x0 x1 x2 x3 x4 x5 x6 x7 x8 x9 x10
          go_wp2
          go_roundw
          case rel => exact ⟨j + 1, sb, gb, tb, ck9, Ls9, rfl, by go_num, by omega, O9.out, T9.out, S9.out, B9.out⟩
          case measure => simp [intOf]; omega
        · rw [hzj] at c0
          clear ZX hzj
          go_wp2_with fail
          refine (imput TW.out.b HOK.out).mono ?_
          rintro e X1 ⟨vx, rfl, ox, b1⟩
          obtain ⟨gx, cx, rfl⟩ := own_some ox (img_pos _ _ _)
          have OX := aside ox
          replace TW := aside (TW.out.on b1)
          replace KO := aside (blk_on KO.out b1)
          replace B5 := aside (bthen B5.out b1)
          clear ox b1 c0
          have CL := aside (imload (l := imgB nd ck Ls) (fun w' bb => reads_own (own_on OX.out bb)) rfl TW.out.L)
          go_wp2_with fail
          refine CL.out.mono ?_
          rintro e X2 ⟨b6, ⟨nd', ck', es, sc, gc, tc, hI, rfl, s6, l1, l2, l3, -⟩ | ⟨hno, -⟩⟩
          case inr => exact absurd (img_put HOK.out) (hno _ _ _)
          obtain ⟨e1, e2, e3⟩ := imgIs_same (img_put HOK.out) hI
          subst e1 e2 e3
          have LT := aside (show (sa < X1.heap.size ∧ ga < X1.heap.size ∧ ta < X1.heap.size) ∧ sb < X1.heap.size ∧ gb < X1.heap.size ∧ tb < X1.heap.size from ⟨TW.out.a.lt, TW.out.b.lt⟩)
          have LC := aside (show X1.heap.size ≤ sc ∧ X1.heap.size ≤ gc ∧ X1.heap.size ≤ tc from ⟨l1, l2, l3⟩)
          have SC := aside s6
          have WX := aside B5.out.size
          replace TW := aside (TW.out.on b6)
          replace KO := aside (blk_on KO.out b6)
          replace B5 := aside (bthen B5.out b6)
          clear hI s6 l1 l2 l3 b6 CL OX
          go_wp2_with fail
          refine (qput ⟨#[108, 101, 102, 116, 32, 98, 101, 104, 105, 110, 100]⟩ ⟨#[118]⟩ TW.out.b TW.out.L (by have := HOK.out.len; omega)).mono ?_
          rintro e X3 ⟨c, m, er, rfl, -, k7, L7, -⟩
          have TW3 := aside (show Twi sa ga ta sc gc tc nd ck Ls X3 from ⟨TW.out.a.keep TW.out.b k7 TW.out.n1 TW.out.n2 TW.out.n3, SC.out.keep TW.out.b k7 (by have := LT.out; have := LC.out; omega) (by have := LT.out; have := LC.out; omega) (by have := LT.out; have := LC.out; omega), by have := LT.out; have := LC.out; omega, by have := LT.out; have := LC.out; omega, by have := LT.out; have := LC.out; omega, L7⟩)
          replace KO := aside (blk_keep KO.out k7 (TW.out.b.not KO.out (by decide) (by decide) (by decide)))
          replace B5 := aside (B5.out.trans (belOf B5.out.size SX.out.2 k7))
          replace SX := aside (show SixB w.heap.size sa ga ta sc gc tc from ⟨SX.out.1, by have := WX.out; have := LC.out; omega⟩)
          replace TW := TW3
          clear TW3 k7 L7 SC LT LC WX
          have x0 : X3.cell? ⟨ob, 0, none⟩ = some (.int .i64 o.kind) := by rw [cell_of_row _ _ 0 _ _ _ KO.out]; rfl
          have x1 : X3.cell? ⟨ob, 1, none⟩ = some (.string o.key) := by rw [cell_of_row _ _ 1 _ _ _ KO.out]; rfl
          have x2 : X3.cell? ⟨ob, 2, none⟩ = some (.string o.val) := by rw [cell_of_row _ _ 2 _ _ _ KO.out]; rfl
          have x3 : X3.cell? ⟨ob, 3, none⟩ = some (.string o.ek) := by rw [cell_of_row _ _ 3 _ _ _ KO.out]; rfl
          have x4 : X3.cell? ⟨ob, 4, none⟩ = some (.int .i64 o.ec) := by rw [cell_of_row _ _ 4 _ _ _ KO.out]; rfl
          have x5 : X3.cell? ⟨ob, 5, none⟩ = some (.int .i64 o.en) := by rw [cell_of_row _ _ 5 _ _ _ KO.out]; rfl
          have x6 : X3.cell? ⟨ob, 6, none⟩ = some (.string o.ev) := by rw [cell_of_row _ _ 6 _ _ _ KO.out]; rfl
          have x7 : X3.cell? ⟨ob, 7, none⟩ = some (.bool o.ed) := by rw [cell_of_row _ _ 7 _ _ _ KO.out]; rfl
          have x8 : X3.cell? ⟨ob, 8, none⟩ = some (.string o.lo) := by rw [cell_of_row _ _ 8 _ _ _ KO.out]; rfl
          have x9 : X3.cell? ⟨ob, 9, none⟩ = some (.string o.hi) := by rw [cell_of_row _ _ 9 _ _ _ KO.out]; rfl
          have x10 : X3.cell? ⟨ob, 10, none⟩ = some (.bool o.op) := by rw [cell_of_row _ _ 10 _ _ _ KO.out]; rfl
          have DC := aside (does10_any o.kind o.key o.val ⟨o.ek, o.ec, o.en, o.ev, o.ed⟩ o.lo o.hi o.op TW.out HOK.out SX.out B5.out.size)
          go_wp2_with fail
          refine DC.out.mono ?_
          rintro e w9 ⟨rfl, b9, ck9, Ls9, hO9, tw9⟩
          have T9 := aside tw9
          have O9 := aside hO9
          have B9 := aside (B5.out.trans b9)
          have S9 := aside SX.out
          clear b9 tw9 hO9 DC TW HOK B5 SX KO x0 x1 x2 x3 x4 x5 x6 x7 x8 x9 x10
          go_wp2
          go_roundw
          case rel => exact ⟨j + 1, sc, gc, tc, ck9, Ls9, rfl, by go_num, by omega, O9.out, T9.out, S9.out, B9.out⟩
          case measure => simp [intOf]; omega
      · clear ZX
        have x0 : X.cell? ⟨ob, 0, none⟩ = some (.int .i64 o.kind) := by rw [cell_of_row _ _ 0 _ _ _ KO.out]; rfl
        have x1 : X.cell? ⟨ob, 1, none⟩ = some (.string o.key) := by rw [cell_of_row _ _ 1 _ _ _ KO.out]; rfl
        have x2 : X.cell? ⟨ob, 2, none⟩ = some (.string o.val) := by rw [cell_of_row _ _ 2 _ _ _ KO.out]; rfl
        have x3 : X.cell? ⟨ob, 3, none⟩ = some (.string o.ek) := by rw [cell_of_row _ _ 3 _ _ _ KO.out]; rfl
        have x4 : X.cell? ⟨ob, 4, none⟩ = some (.int .i64 o.ec) := by rw [cell_of_row _ _ 4 _ _ _ KO.out]; rfl
        have x5 : X.cell? ⟨ob, 5, none⟩ = some (.int .i64 o.en) := by rw [cell_of_row _ _ 5 _ _ _ KO.out]; rfl
        have x6 : X.cell? ⟨ob, 6, none⟩ = some (.string o.ev) := by rw [cell_of_row _ _ 6 _ _ _ KO.out]; rfl
        have x7 : X.cell? ⟨ob, 7, none⟩ = some (.bool o.ed) := by rw [cell_of_row _ _ 7 _ _ _ KO.out]; rfl
        have x8 : X.cell? ⟨ob, 8, none⟩ = some (.string o.lo) := by rw [cell_of_row _ _ 8 _ _ _ KO.out]; rfl
        have x9 : X.cell? ⟨ob, 9, none⟩ = some (.string o.hi) := by rw [cell_of_row _ _ 9 _ _ _ KO.out]; rfl
        have x10 : X.cell? ⟨ob, 10, none⟩ = some (.bool o.op) := by rw [cell_of_row _ _ 10 _ _ _ KO.out]; rfl
        have DC := aside (does10_any o.kind o.key o.val ⟨o.ek, o.ec, o.en, o.ev, o.ed⟩ o.lo o.hi o.op TW.out HOK.out SX.out B5.out.size)
        go_wp2_with fail
        refine DC.out.mono ?_
        rintro e w9 ⟨rfl, b9, ck9, Ls9, hO9, tw9⟩
        have T9 := aside tw9
        have O9 := aside hO9
        have B9 := aside (B5.out.trans b9)
        have S9 := aside SX.out
        clear b9 tw9 hO9 DC TW HOK B5 SX KO x0 x1 x2 x3 x4 x5 x6 x7 x8 x9 x10
        go_wp2
        go_roundw
        case rel => exact ⟨j + 1, sb, gb, tb, ck9, Ls9, rfl, by go_num, by omega, O9.out, T9.out, S9.out, B9.out⟩
        case measure => simp [intOf]; omega
    · clear hj
      go_wp2_with fail
      refine (imput TW.out.a HOK.out).mono ?_
      rintro e X1 ⟨va, rfl, oa, b1⟩
      have OA := aside oa
      replace TW := aside (TW.out.on b1)
      replace B5 := aside (bthen B5.out b1)
      clear oa b1
      go_wp2_with fail
      refine (imput TW.out.b HOK.out).mono ?_
      rintro e X2 ⟨vb, rfl, ob, b2⟩
      have q1 := conv_own X2 _ va _ (own_on OA.out b2)
      have q2 := conv_own X2 _ vb _ ob
      replace B5 := aside (bthen B5.out b2)
      clear ob b2
      go_wp2
      go_ret
      exact ⟨rfl, B5.out⟩
end Go.Proofs.YtlbkcndmljlnmaaDoor
