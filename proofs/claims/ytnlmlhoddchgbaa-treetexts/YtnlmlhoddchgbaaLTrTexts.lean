/-
  The law TreeTexts, walked.
-/
import Derived.Test.YtnlmlhoddchgbaaTgDX
import Derived.Test.YtnlmlhoddchgbaaTrShown
import Derived.Test.YtnlmlhoddchgbaaTrRowsIn
import Derived.Test.YtnlmlhoddchgbaaTrTxt
namespace Go.Proofs.Ytnlmlhoddchgbaa
open Go.RowKit
set_option linter.unusedVariables false

/-- How long the first n texts are. -/
def txt (T : Nat → PairR) : Nat → Nat
  | 0 => 0
  | n + 1 => txt T n + (T n).text.size

theorem txt_mono (T : Nat → PairR) {m n : Nat} (h : m ≤ n) : txt T m ≤ txt T n := by
  induction n with
  | zero =>
    rw [show m = 0 from by omega]
    exact Nat.le_refl _
  | succ n ih =>
    by_cases e : m = n + 1
    · subst e; exact Nat.le_refl _
    · have := ih (by omega); simp only [txt]; omega

/-- The tree of the first n pairs. -/
def treeP (T : Nat → PairR) : Nat → Tr ByteArray ByteArray
  | 0 => .nil
  | n + 1 => Tr.put (T n).key (T n).text (T n).text (treeP T n)

theorem treeP_gd (T : Nat → PairR) : ∀ n, Gd sSz (treeP T n) (n + txt T n)
  | 0 => Gd.nil _
  | n + 1 => ((treeP_gd T n).put _ _ _).mono (by simp only [txt, sSz]; omega)

theorem treeP_same (T : Nat → PairR) : ∀ n, Same (treeP T n).rows
  | 0 => fun y hy => by cases hy
  | n + 1 => same_put (treeP_gd T n).rises (treeP_same T n) _ _

/-- A tree of texts, in memory that was made since w. -/
structure XI (w W : World) (tb : Nat) (T : Tr ByteArray ByteArray) : Prop where
  tree : TreeX W tb (.func (.func 29) #[] #[]) T
  below : Below w.heap.size w W
  lt : w.heap.size ≤ tb

theorem XI.on {w W W' : World} {tb : Nat} {T : Tr ByteArray ByteArray} (h : XI w W tb T) (b : Below W.heap.size W W') : XI w W' tb T := ⟨h.tree.below b, bthen h.below b, h.lt⟩
theorem XI.put {w W W' : World} {tb : Nat} {T T' : Tr ByteArray ByteArray} (h : XI w W tb T) (h1 : TreeX W' tb (.func (.func 29) #[] #[]) T') (k : Keeps (fun x => x = tb ∨ OnC none x) W W') : XI w W' tb T' :=
  ⟨h1, h.below.trans (k.below h.below.size (fun i hi e => by rcases e with e | e; have := h.lt; omega; cases e)), h.lt⟩

theorem duo2 {w : World} {i : Nat} {a b : Value} {T : TypeId} (h : w.heap[i]? = some (.cells #[a, b] T (0, 0))) : w.cell? ⟨i, 0, none⟩ = some a ∧ w.cell? ⟨i, 1, none⟩ = some b := by
  simp [World.cell?, h]

theorem val_nil {F : Tr ByteArray ByteArray} (h : (!F.isNil) = false) : F.val ⟨#[]⟩ = ⟨#[]⟩ := by
  cases F with
  | nil => rfl
  | node => cases h

set_option maxHeartbeats 8000000 in
set_option maxRecDepth 100000 in
theorem texts_walk (a : Option Addr) (len cap : Nat) (T : Nat → PairR) (i j : Int) (w : World) (h : PairsIn w a len cap T) (hi : -9223372036854775808 ≤ i ∧ i ≤ 9223372036854775807) (hjj : -9223372036854775808 ≤ j ∧ j ≤ 9223372036854775807) :
    Calls Try.prog 7 #[.slice a len cap, .int .i64 i, .int .i64 j] w fun e w' => e = .returned (.bool true) ∧ Below w.heap.size w w' := by
  have HO := aside h
  obtain ⟨hlc, hcm, hsz, -⟩ := h
  have HSZ := aside hsz
  have hmx : (len : Int) ≤ 9223372036854775807 := by unfold maxLen at hcm; omega
  clear hlc hcm hsz hi hjj
  go_enter Try.func7, Try.ntmps7
  go_wp2
  go_loopw [7, 25] (fun s k wr => ∃ q : Nat, s = .int .i64 (txt T q : Int) ∧ k = .int .i64 (q : Int) ∧ q ≤ len ∧ txt T q ≤ 2147483647 ∧ Below w.heap.size w wr) (fun _ k _ => len - (intOf k).toNat)
  case atStart => exact ⟨0, rfl, rfl, Nat.zero_le _, by simp [txt], Below.refl _ _⟩
  case round =>
    obtain ⟨q, rfl, rfl, hq, hs, hb⟩ := hrel
    have HB := aside hb
    have HS := aside hs
    clear hb hs
    by_cases hlt : (q : Int) < (len : Int)
    · rcases (HO.out.keep HB.out).2.2.2 with h0 | ⟨b, off, rfl, hbl, hc⟩
      · omega
      · obtain ⟨c0, c1⟩ := hc q (by omega)
        have hq0 : (0 : Int) ≤ (q : Int) := by omega
        have hqw : IntKind.i64.wrap ((q : Int) + 1) = (q : Int) + 1 := by rw [IntKind.wrap_i64]; omega
        have QL := aside (show q + 1 ≤ len from by omega)
        have hE : txt T (q + 1) = txt T q + (T q).text.size := rfl
        have HE := aside hE
        clear hc hE hq
        generalize T q = x at *
        obtain ⟨sz, hsz⟩ : ∃ y : Int, ((txt T q : Nat) : Int) = y := ⟨_, rfl⟩
        obtain ⟨ln, hln⟩ : ∃ y : Int, ((x.text.size : Nat) : Int) = y := ⟨_, rfl⟩
        have hs0 : 0 ≤ sz ∧ sz ≤ 2147483647 := by have := HS.out; omega
        have hl0 : 0 ≤ ln := by omega
        have HZ := aside hsz
        have HLN := aside hln
        rw [hsz]
        have w1 : IntKind.i64.wrap (2147483647 - sz) = 2147483647 - sz := by rw [IntKind.wrap_i64]; omega
        have w2 : (2147483647 - sz).tdiv 2 = (2147483647 - sz) / 2 := Int.tdiv_eq_ediv_of_nonneg (by omega)
        obtain ⟨hf, hhf⟩ : ∃ y : Int, (2147483647 - sz) / 2 = y := ⟨_, rfl⟩
        have hf0 : 0 ≤ hf ∧ hf * 2 ≤ 2147483647 - sz := by omega
        have w5 : IntKind.i64.wrap hf = hf := by rw [IntKind.wrap_i64]; omega
        have w6 : wrap64 hf = hf := by unfold wrap64; omega
        by_cases hbig : hf < ln
        · clear hs0 hl0 hf0 hsz
          go_wp2
          go_ret
          exact ⟨rfl, HB.out.alloc HB.out.size _⟩
        · have w3 : IntKind.i64.wrap (sz + ln) = sz + ln := by rw [IntKind.wrap_i64]; omega
          have HS2 := aside (show sz + ln ≤ 2147483647 from by omega)
          clear hs0 hl0 hf0 hsz
          go_wp2
          go_roundw
          case rel => exact ⟨q + 1, by rw [HE.out]; have := HZ.out; have := HLN.out; go_num, by go_num, QL.out, by rw [HE.out]; have := HS2.out; have := HZ.out; have := HLN.out; omega, HB.out.alloc HB.out.size _⟩
          case measure => simp [intOf]; have := QL.out; omega
    · obtain rfl : q = len := by omega
      have HTX := aside (show q + txt T q ≤ 281474976700000 from by have := HS.out; have := HSZ.out; omega)
      clear hq HS
      go_wp2_with fail
      refine (shown_any wr).mono ?_
      rintro e w1 ⟨rfl, b1⟩
      have B1 := aside (bthen HB.out b1)
      clear b1 HB
      go_wp2_with fail
      refine (ynewX (.func 29) #[] w1).mono ?_
      rintro e w2 ⟨tb, rfl, h1, h2, h3⟩
      have S0 := aside (⟨h1, bthen B1.out h2, by have := B1.out.size; omega⟩ : XI w w2 tb .nil)
      clear h1 h2 h3 B1
      go_wp2
      go_loopw [47] (fun k wr => ∃ r : Nat, k = .int .i64 (r : Int) ∧ r ≤ q ∧ XI w wr tb (treeP T r)) (fun k _ => q - (intOf k).toNat)
      case atStart => exact ⟨0, rfl, Nat.zero_le _, S0.out⟩
      case round =>
        obtain ⟨r, rfl, hr, hg⟩ := hrel
        have G0 := aside hg
        clear hg S0 hlt
        by_cases hlt : (r : Int) < (q : Int)
        · rcases (HO.out.keep G0.out.below).2.2.2 with h0 | ⟨b, off, rfl, hbl, hc⟩
          · omega
          · obtain ⟨c0, c1⟩ := hc r (by omega)
            have hr0 : (0 : Int) ≤ (r : Int) := by omega
            have hrw : IntKind.i64.wrap ((r : Int) + 1) = (r : Int) + 1 := by rw [IntKind.wrap_i64]; omega
            have QL := aside (show r + 1 ≤ q from by omega)
            have HE := aside (show treeP T (r + 1) = Tr.put (T r).key (T r).text (T r).text (treeP T r) from rfl)
            have HGD := aside (treeP_gd T r)
            have QM := aside (show r + txt T r + 1 + sSz (T r).text ≤ 281474976710655 from by have h8 := txt_mono T (show r + 1 ≤ q from by omega); simp only [txt] at h8; have := HTX.out; unfold sSz; omega)
            clear hc hr
            generalize T r = x at *
            have G := aside (G0.out.on (bnew wr (.cells #[.string x.key, .string x.text] 68)))
            go_wp2_with fail
            clear c0 c1
            refine (yputX x.key x.text x.text G.out.tree bothStrX (cnt_none 0 _) HGD.out QM.out).mono ?_
            rintro e w5 ⟨rfl, h1, -, h3⟩
            have G1 := aside (G.out.put h1 h3)
            clear h1 h3 G
            have hv := @val_nil (Tr.found x.key (treeP T r))
            generalize Tr.found x.key (treeP T r) = F at *
            obtain ⟨u, hu⟩ : ∃ y, F.val ⟨#[]⟩ = y := ⟨_, rfl⟩
            obtain ⟨is, his⟩ : ∃ y, (!F.isNil) = y := ⟨_, rfl⟩
            rw [hu, his] at hv ⊢
            clear hu his
            cases is
            · have e0 := hv rfl
              subst e0
              clear hv
              go_wp2
              go_roundw
              case rel => exact ⟨r + 1, by go_num, QL.out, by rw [HE.out]; exact G1.out⟩
              case measure => simp [intOf]; have := QL.out; omega
            · clear hv
              go_wp2
              go_roundw
              case rel => exact ⟨r + 1, by go_num, QL.out, by rw [HE.out]; exact G1.out⟩
              case measure => simp [intOf]; have := QL.out; omega
        · obtain rfl : r = q := by omega
          have GD := aside (treeP_gd T r)
          have SM := aside (treeP_same T r)
          have LN := aside (show lenL (treeP T r).rows ≤ 281474976700000 from by have h8 := lenL_wt (treeP T r); have h9 := (treeP_gd T r).wt; have := HTX.out; omega)
          generalize treeP T r = R at *
          obtain ⟨N, hN⟩ : ∃ n : Int, (R.cnt : Int) = n := ⟨_, rfl⟩
          have CL := aside (fun W (h : XI w W tb R) => hN ▸ ylenX h.tree)
          have hN0 : 0 ≤ N := by omega
          have hN1 : N ≤ 281474976710655 := by have := GD.out.cnt; have := HTX.out; omega
          have HNN := aside hN
          have HN1 := aside hN1
          clear hN hr
          go_wp2_with fail
          refine (CL.out _ G0.out).mono ?_
          rintro e w6 ⟨rfl, rfl⟩
          go_wp2
          go_loopw [15, 16, 71] (fun al so k wv => ∃ p : Nat, al = .string (foldL sJoin sZero (R.rows.take p)) ∧ so = .string (foldL sJoin sZero (pickL R.rows i j p)) ∧ k = .int .i64 (p : Int) ∧ p ≤ R.cnt ∧ XI w wv tb R) (fun _ _ k _ => R.cnt - (intOf k).toNat)
          case atStart => exact ⟨0, rfl, by rw [pick_zero]; rfl, rfl, Nat.zero_le _, G0.out⟩
          case round =>
            obtain ⟨p, rfl, rfl, rfl, hp, hg⟩ := hrel
            have G1 := aside hg
            have HP := aside hp
            clear hg G0 hp hlt
            by_cases hlt : (p : Int) < N
            · obtain ⟨l1, kk, vv, ss, r1, hn1, hrow⟩ := nth_node (t := R) (q := p) (by have := HNN.out; omega)
              obtain ⟨l2, r2, hf2⟩ := found_nth (z := vv) GD.out.rises hn1
              have e0 : vv = ss := SM.out _ (List.mem_of_getElem? hrow)
              subst e0
              have CA := aside (fun W (h : XI w W tb R) => yatX (p : Int) h.tree GD.out (by have := HTX.out; omega) (by omega) (by have := HN1.out; omega))
              have CG := aside (fun W (h : XI w W tb R) => ygetX kk h.tree GD.out (by have := HTX.out; omega))
              rw [hn1] at CA
              rw [hf2] at CG
              dsimp only [Tr.key, Tr.val, Tr.isNil, Bool.not_false] at CA CG
              have hal := fold_take mon_str R.rows hrow
              have hsz1 : (foldL sJoin sZero (R.rows.take p)).size + vv.size ≤ 9223372036854775807 := by
                have h8 := size_fold (R.rows.take p)
                have h9 := lenL_take R.rows p
                have h10 := lenL_mem hrow
                have := LN.out
                dsimp only at h10
                omega
              have hsz2 : (foldL sJoin sZero (pickL R.rows i j p)).size + vv.size ≤ 9223372036854775807 := by
                have h8 := size_fold (pickL R.rows i j p)
                have h9 := lenL_pick R.rows i j p
                have h10 := lenL_mem hrow
                have := LN.out
                dsimp only at h10
                omega
              have hso1 := fun h1 h2 => fold_pick mon_str (i := i) (j := j) hrow h1 h2
              have hso2 := fun h => congrArg (foldL sJoin sZero) (pick_out (l := R.rows) (i := i) (j := j) (q := p) h)
              have QL := aside (show p + 1 ≤ R.cnt from by have := HNN.out; omega)
              have hp0 : (0 : Int) ≤ (p : Int) := by omega
              have hpw : IntKind.i64.wrap ((p : Int) + 1) = (p : Int) + 1 := by have := HN1.out; rw [IntKind.wrap_i64]; omega
              obtain ⟨al, e1⟩ : ∃ y, foldL sJoin sZero (R.rows.take p) = y := ⟨_, rfl⟩
              obtain ⟨al2, e2⟩ : ∃ y, foldL sJoin sZero (R.rows.take (p + 1)) = y := ⟨_, rfl⟩
              obtain ⟨so, e3⟩ : ∃ y, foldL sJoin sZero (pickL R.rows i j p) = y := ⟨_, rfl⟩
              obtain ⟨so2, e4⟩ : ∃ y, foldL sJoin sZero (pickL R.rows i j (p + 1)) = y := ⟨_, rfl⟩
              rw [e1] at hsz1
              rw [e3] at hsz2
              rw [e1, e2] at hal
              rw [e3, e4] at hso1 hso2
              rw [e1, e3]
              have hadd1 : ∀ w : World, (Op.stringOp .add al vv).run Try.prog w = .ok (.string al2) w := fun w => by
                rw [run_string_add_sum w al vv hsz1, hal]; rfl
              have E2 := aside e2
              have E4 := aside e4
              clear e1 e2 e3 e4 hal hsz1 hrow hn1 hf2
              go_wp2_with fail
              refine (CA.out _ G1.out).mono ?_
              rintro e w7 ⟨rfl, h1⟩
              have G2 := aside (G1.out.on h1)
              clear h1
              go_wp2_with fail
              refine (CG.out _ G2.out).mono ?_
              rintro e w8 ⟨rfl, h1⟩
              have G3 := aside (G2.out.on h1)
              clear h1 G2 CA CG CL
              by_cases q1 : i ≤ (p : Int)
              · by_cases q2 : (p : Int) < j
                · have hadd2 : ∀ w : World, (Op.stringOp .add so vv).run Try.prog w = .ok (.string so2) w := fun w => by
                    rw [run_string_add_sum w so vv hsz2, hso1 q1 q2]; rfl
                  clear hso1 hso2 hsz2
                  go_wp2
                  go_roundw
                  case rel => exact ⟨p + 1, by rw [E2.out], by rw [E4.out], by go_num, QL.out, G3.out⟩
                  case measure => simp [intOf]; have := QL.out; omega
                · have e5 := hso2 (by omega)
                  subst e5
                  clear hso1 hso2 hsz2
                  go_wp2
                  go_roundw
                  case rel => exact ⟨p + 1, by rw [E2.out], by rw [E4.out], by go_num, QL.out, G3.out⟩
                  case measure => simp [intOf]; have := QL.out; omega
              · have e5 := hso2 (by omega)
                subst e5
                clear hso1 hso2 hsz2
                go_wp2
                go_roundw
                case rel => exact ⟨p + 1, by rw [E2.out], by rw [E4.out], by go_num, QL.out, G3.out⟩
                case measure => simp [intOf]; have := QL.out; omega
            · have hpe : p = R.cnt := by have := HNN.out; have := HP.out; omega
              have hpN : (p : Int) = N := by have := HNN.out; omega
              have e1 : Tr.fol sJoin sZero R 0 N = foldL sJoin sZero (R.rows.take p) := by
                have h8 := fol_nat mon_str R 0 p (by omega)
                rw [hpN] at h8
                rw [show (0 : Int) = ((0 : Nat) : Int) from rfl, h8]
                simp [seg]
              have e2 : Tr.fol sJoin sZero R i j = foldL sJoin sZero (pickL R.rows i j p) := by
                rw [fol_rows mon_str, hpe]; rfl
              have CF := aside (fun W (h : XI w W tb R) => yfoldX 0 N h.tree bothStrX (cnt_none 0 W) GD.out (by have := HTX.out; omega))
              have CF2 := aside (fun W (h : XI w W tb R) => yfoldX i j h.tree bothStrX (cnt_none 0 W) GD.out (by have := HTX.out; omega))
              rw [e1] at CF
              rw [e2] at CF2
              generalize foldL sJoin sZero (R.rows.take p) = al at *
              generalize foldL sJoin sZero (pickL R.rows i j p) = so at *
              clear e1 e2 hpe
              go_wp2_with fail
              refine (CL.out _ G1.out).mono ?_
              rintro e w7 ⟨rfl, rfl⟩
              go_wp2_with fail
              refine (CF.out _ G1.out).mono ?_
              rintro e w8 ⟨rfl, -, h1⟩
              have G2 := aside (G1.out.on (keeps_none h1))
              clear h1
              go_wp2_with fail
              refine (CF2.out _ G2.out).mono ?_
              rintro e w9 ⟨rfl, -, h1⟩
              have G3 := aside (G2.out.on (keeps_none h1))
              clear h1
              go_wp2
              go_ret
              exact ⟨rfl, G3.out.below⟩

end Go.Proofs.Ytnlmlhoddchgbaa
