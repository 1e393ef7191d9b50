/-
  The law StoreUp, walked.
-/
import Derived.Test.YtlgcdcjhflihiaaDoorBstoreup20
import Derived.Deep.CutBlock
import Derived.Deep.DeepCutAuto
namespace Go.Proofs.YtlgcdcjhflihiaaDoor
open Go.RowKit
set_option linter.unusedVariables false

set_option maxHeartbeats 25600000 in
set_option maxRecDepth 100000 in
theorem lstup_walk (nn : Int) (a : Option Addr) (len cap : Nat) (T : Nat → OpU) (w : World) (L : Lanes w) (hO : OpUs w a len cap T) :
    Calls Tryd.prog 4 #[.int .i64 nn, .slice a len cap] w fun e w' => e = .returned (.bool true) ∧ Below w.heap.size w w' := by
  have HL := aside L
  have HO := aside hO
  have C0 := aside (shown_any w L)
  have CA := aside (fun (W : World) => (among8 nn 8 W (by omega) (by omega) : Calls Tryd.prog 13 #[.int .i64 nn, .int .i64 8] W _))
  have hmx : (len : Int) ≤ 9223372036854775807 := by have := hO.1; have := hO.2.1; unfold maxLen at *; omega
  clear L hO
  go_enter Tryd.func4, Tryd.ntmps4
  go_wp2_with fail
  refine C0.out.mono ?_
  rintro e w0 ⟨rfl, b0⟩
  have B0 := aside b0
  clear b0 C0
  go_wp2_with fail
  refine (CA.out _).mono ?_
  rintro e w1 ⟨k1, rfl, hk1, rfl⟩
  obtain ⟨nd, hnd⟩ : ∃ nd : Int, (k1 : Int) = nd := ⟨_, rfl⟩
  rw [hnd]
  have HND := aside (show nodeB nd = true from by unfold nodeB; simp; omega)
  clear CA hk1 hnd
  go_wp2_with fail
  refine (qnew nd _).mono ?_
  rintro e w2 ⟨b2, ⟨hn, -⟩ | ⟨hn, sb, g, tb, rfl, hs, l1, l2, l3⟩⟩
  · rw [HND.out] at hn; cases hn
  have SA := aside hs
  have LA := aside (show w.heap.size ≤ sb ∧ w.heap.size ≤ g ∧ w.heap.size ≤ tb from by have := B0.out.size; omega)
  replace B0 := aside (bthen B0.out b2)
  clear hn hs l1 l2 l3 b2 HND
  go_wp2_with fail
  refine (held_any SA.out (by simp)).mono ?_
  rintro e w3 ⟨v3, rfl, r3, b3⟩
  obtain ⟨wa0, wc0, rfl, -⟩ := own_slice r3
  have G0 := aside (show SuM w sb g tb nd 0 [] wa0 0 wc0 [] w3 from ⟨SA.out.below b3, HL.out.keep (bthen B0.out b3), ⟨_, r3⟩, bthen B0.out b3, LA.out, HL.out.pos⟩)
  clear r3 b3 SA LA B0
  go_wp2
  go_loopw [7, 45] (fun v t wr => ∃ (j na : Nat) (wa : Option Addr) (wq : Nat) (L : List En) (ck : Int), t = .int .i64 (j : Int) ∧ v = .slice wa na wq ∧ j ≤ len ∧ Hid (SuM w sb g tb nd ck L wa na wq L wr) ∧ Hid (GoodE L ck)) (fun _ t _ => len - (intOf t).toNat)
  case atStart => exact ⟨0, 0, wa0, wc0, [], 0, rfl, rfl, Nat.zero_le _, G0.out, GoodE.nil⟩
  case round =>
    obtain ⟨j, na, wa, wq, L, ck, rfl, rfl, hj, HM, HG⟩ := hrel
    clear G0
    by_cases hlt : (j : Int) < (len : Int)
    · have hj0 : (0 : Int) ≤ (j : Int) := by omega
      have hOX := HO.out.keep HM.out.bel
      rcases hOX.2.2.2 with h0 | ⟨pb, po, rfl, hpb, hpc⟩
      · omega
      obtain ⟨o, ho⟩ : ∃ o, T j = o := ⟨_, rfl⟩
      have hoc := hpc j (by omega)
      rw [ho] at hoc
      obtain ⟨oc0, oc1, oc2, oc3, oc4, oc5, oc6, oc7, oc8, oc9, oc10, oc11, oc12⟩ := hoc
      have BO := aside (bnew wr (.cells #[.int .i64 o.kind, .int .i64 o.store, .int .i64 o.num, .string o.key, .string o.val, .string o.lo, .string o.hi, .bool o.op, .string o.ek, .int .i64 o.ec, .int .i64 o.en, .string o.ev, .bool o.ed] 41))
      have KO := aside (heap_alloc_new wr (.cells #[.int .i64 o.kind, .int .i64 o.store, .int .i64 o.num, .string o.key, .string o.val, .string o.lo, .string o.hi, .bool o.op, .string o.ek, .int .i64 o.ec, .int .i64 o.en, .string o.ev, .bool o.ed] 41))
      clear hOX hpc ho hpb
      have HOBW := aside (show w.heap.size ≤ wr.heap.size from HM.out.bel.size)
      go_wp2_with fail
      replace HM := aside (HM.out.on BO.out)
      refine (qclock HM.out.sto).mono ?_
      rintro e W1 ⟨rfl, rfl⟩
      obtain ⟨ob, hob⟩ : ∃ ob, wr.heap.size = ob := ⟨_, rfl⟩
      rw [hob] at KO HOBW ⊢
      clear BO hob oc0 oc1 oc2 oc3 oc4 oc5 oc6 oc7 oc8 oc9 oc10 oc11 oc12
      generalize hW1 : wr.alloc (.cells #[.int .i64 o.kind, .int .i64 o.store, .int .i64 o.num, .string o.key, .string o.val, .string o.lo, .string o.hi, .bool o.op, .string o.ek, .int .i64 o.ec, .int .i64 o.en, .string o.ev, .bool o.ed] 41) = W1 at *
      clear hW1
      have BV := aside (bnew W1 (.cells #[.int .i64 0, .int .i64 0] 37))
      have KV := aside (heap_alloc_new W1 (.cells #[.int .i64 0, .int .i64 0] 37))
      have HOBL := aside (show ob < W1.heap.size from (Array.getElem?_eq_some_iff.1 KO.out).1)
      have HW1 := aside (show w.heap.size ≤ W1.heap.size from HM.out.bel.size)
      replace HM := aside (HM.out.on BV.out)
      have HOB := aside (blk_on KO.out BV.out)
      have CK := aside (fun (W : World) => (among8 o.kind 10 W (by omega) (by omega) : Calls Tryd.prog 13 #[.int .i64 o.kind, .int .i64 10] W _))
      have oc0 : (W1.alloc (.cells #[.int .i64 0, .int .i64 0] 37)).cell? ⟨ob, 0, none⟩ = some (.int .i64 o.kind) := by rw [cell_of_row _ _ 0 _ _ _ HOB.out]; rfl
      go_wp2_with fail
      refine (CK.out _).mono ?_
      rintro e W2 ⟨kk, rfl, hkk0, rfl⟩
      obtain ⟨vb, hvb⟩ : ∃ vb, W1.heap.size = vb := ⟨_, rfl⟩
      have HVB := aside KV.out
      rw [hvb] at HVB HOBL HW1 ⊢
      have HVW := aside HW1.out
      have HNE := aside (show ob ≠ vb from by have := HOBL.out; omega)
      clear BV KV KO CK oc0 hvb HOBL HW1
      generalize hW2 : W1.alloc (.cells #[.int .i64 0, .int .i64 0] 37) = W2 at *
      clear hW2
      have hkk : kk = 0 ∨ kk = 1 ∨ kk = 2 ∨ 3 ≤ kk := by omega
      clear hkk0
      go_upto_block 2 with fail
      go_cut [12, 14] (fun f9 q9 wx => ∃ (er : Int) (q : Bool) (L' : List En) (ck' c m : Int), f9 = .int .i64 er ∧ q9 = .bool q ∧ Hid (SuM w sb g tb nd ck' L' wa na wq L wx) ∧ Hid (wx.heap[ob]? = some (.cells #[.int .i64 o.kind, .int .i64 o.store, .int .i64 o.num, .string o.key, .string o.val, .string o.lo, .string o.hi, .bool o.op, .string o.ek, .int .i64 o.ec, .int .i64 o.en, .string o.ev, .bool o.ed] 41 (0, 0))) ∧ Hid (wx.heap[vb]? = some (.cells #[.int .i64 c, .int .i64 m] 37 (0, 0))) ∧ Hid (StepE L ck L' ck' er) ∧ Hid (q = true → er = 0 ∧ c = ck + 1 ∧ m = nd ∧ ck' = ck + 1 ∧ ¬ (16 : Int) < o.key.size ∧ ∃ v d, L' = insE (wrEn o.key v d nd ck) L))
      case first =>
        as_aux_lemma =>
          rcases hkk with h | h | h | h
          · subst h
            have oc0 : W2.cell? ⟨ob, 0, none⟩ = some (.int .i64 o.kind) := by rw [cell_of_row _ _ 0 _ _ _ HOB.out]; rfl
            have oc1 : W2.cell? ⟨ob, 1, none⟩ = some (.int .i64 o.store) := by rw [cell_of_row _ _ 1 _ _ _ HOB.out]; rfl
            have oc2 : W2.cell? ⟨ob, 2, none⟩ = some (.int .i64 o.num) := by rw [cell_of_row _ _ 2 _ _ _ HOB.out]; rfl
            have oc3 : W2.cell? ⟨ob, 3, none⟩ = some (.string o.key) := by rw [cell_of_row _ _ 3 _ _ _ HOB.out]; rfl
            have oc4 : W2.cell? ⟨ob, 4, none⟩ = some (.string o.val) := by rw [cell_of_row _ _ 4 _ _ _ HOB.out]; rfl
            have oc5 : W2.cell? ⟨ob, 5, none⟩ = some (.string o.lo) := by rw [cell_of_row _ _ 5 _ _ _ HOB.out]; rfl
            have oc6 : W2.cell? ⟨ob, 6, none⟩ = some (.string o.hi) := by rw [cell_of_row _ _ 6 _ _ _ HOB.out]; rfl
            have oc7 : W2.cell? ⟨ob, 7, none⟩ = some (.bool o.op) := by rw [cell_of_row _ _ 7 _ _ _ HOB.out]; rfl
            have oc8 : W2.cell? ⟨ob, 8, none⟩ = some (.string o.ek) := by rw [cell_of_row _ _ 8 _ _ _ HOB.out]; rfl
            have oc9 : W2.cell? ⟨ob, 9, none⟩ = some (.int .i64 o.ec) := by rw [cell_of_row _ _ 9 _ _ _ HOB.out]; rfl
            have oc10 : W2.cell? ⟨ob, 10, none⟩ = some (.int .i64 o.en) := by rw [cell_of_row _ _ 10 _ _ _ HOB.out]; rfl
            have oc11 : W2.cell? ⟨ob, 11, none⟩ = some (.string o.ev) := by rw [cell_of_row _ _ 11 _ _ _ HOB.out]; rfl
            have oc12 : W2.cell? ⟨ob, 12, none⟩ = some (.bool o.ed) := by rw [cell_of_row _ _ 12 _ _ _ HOB.out]; rfl
            go_wp2_with fail
            refine (qput o.key o.val HM.out.sto HM.out.lan (by have := HG.out.len; omega)).mono ?_
            rintro e w5 ⟨c, m, er, rfl, her, k5, l5, hcase⟩
            have HER := aside her
            have HO5 := aside (HM.out.box k5 HOB.out (by decide) (by decide) (by decide))
            have HV5 := aside (HM.out.box k5 HVB.out (by decide) (by decide) (by decide))
            rcases hcase with ⟨h0, hc, hm, hs⟩ | ⟨h0, hc, hm, hs⟩
            · have M5 := aside (HM.out.turn hs k5 l5)
              obtain ⟨m6, v6, o6⟩ := M5.out.ver HV5.out HVW.out c m
              have M6 := aside m6
              have V6 := aside v6
              have O6 := aside (o6 HNE.out HO5.out)
              obtain ⟨v0, v1, z0, z1⟩ := duoV HV5.out
              have er0 : (er == 0) = false := by simpa using h0
              clear m6 v6 o6 k5 l5 hs her h0 hc hm oc0 oc1 oc2 oc3 oc4 oc5 oc6 oc7 oc8 oc9 oc10 oc11 oc12
              go_wp2
              go_meet
              exact ⟨er, false, L, ck, c, m, rfl, rfl, M6.out, O6.out, V6.out, StepE.stay HG.out er, fun h => by cases h⟩
            · have M5 := aside (HM.out.turn hs k5 l5)
              obtain ⟨m6, v6, o6⟩ := M5.out.ver HV5.out HVW.out c m
              have M6 := aside m6
              have V6 := aside v6
              have O6 := aside (o6 HNE.out HO5.out)
              have HCM := aside (show c = ck + 1 ∧ m = nd from ⟨hc, hm⟩)
              obtain ⟨v0, v1, z0, z1⟩ := duoV HV5.out
              subst h0
              clear m6 v6 o6 k5 l5 hs her hc hm oc0 oc1 oc2 oc3 oc4 oc5 oc6 oc7 oc8 oc9 oc10 oc11 oc12
              go_wp2
              go_meet
              exact ⟨0, true, _, ck + 1, c, m, rfl, rfl, M6.out, O6.out, V6.out, StepE.write HG.out (v := o.val) (d := false) HER.out.symm, fun _ => ⟨rfl, HCM.out.1, HCM.out.2, rfl, by have := (wr_ok HER.out.symm).1; omega, _, _, rfl⟩⟩
          · subst h
            have oc0 : W2.cell? ⟨ob, 0, none⟩ = some (.int .i64 o.kind) := by rw [cell_of_row _ _ 0 _ _ _ HOB.out]; rfl
            have oc1 : W2.cell? ⟨ob, 1, none⟩ = some (.int .i64 o.store) := by rw [cell_of_row _ _ 1 _ _ _ HOB.out]; rfl
            have oc2 : W2.cell? ⟨ob, 2, none⟩ = some (.int .i64 o.num) := by rw [cell_of_row _ _ 2 _ _ _ HOB.out]; rfl
            have oc3 : W2.cell? ⟨ob, 3, none⟩ = some (.string o.key) := by rw [cell_of_row _ _ 3 _ _ _ HOB.out]; rfl
            have oc4 : W2.cell? ⟨ob, 4, none⟩ = some (.string o.val) := by rw [cell_of_row _ _ 4 _ _ _ HOB.out]; rfl
            have oc5 : W2.cell? ⟨ob, 5, none⟩ = some (.string o.lo) := by rw [cell_of_row _ _ 5 _ _ _ HOB.out]; rfl
            have oc6 : W2.cell? ⟨ob, 6, none⟩ = some (.string o.hi) := by rw [cell_of_row _ _ 6 _ _ _ HOB.out]; rfl
            have oc7 : W2.cell? ⟨ob, 7, none⟩ = some (.bool o.op) := by rw [cell_of_row _ _ 7 _ _ _ HOB.out]; rfl
            have oc8 : W2.cell? ⟨ob, 8, none⟩ = some (.string o.ek) := by rw [cell_of_row _ _ 8 _ _ _ HOB.out]; rfl
            have oc9 : W2.cell? ⟨ob, 9, none⟩ = some (.int .i64 o.ec) := by rw [cell_of_row _ _ 9 _ _ _ HOB.out]; rfl
            have oc10 : W2.cell? ⟨ob, 10, none⟩ = some (.int .i64 o.en) := by rw [cell_of_row _ _ 10 _ _ _ HOB.out]; rfl
            have oc11 : W2.cell? ⟨ob, 11, none⟩ = some (.string o.ev) := by rw [cell_of_row _ _ 11 _ _ _ HOB.out]; rfl
            have oc12 : W2.cell? ⟨ob, 12, none⟩ = some (.bool o.ed) := by rw [cell_of_row _ _ 12 _ _ _ HOB.out]; rfl
            go_wp2_with fail
            refine (qdel o.key HM.out.sto HM.out.lan (by have := HG.out.len; omega)).mono ?_
            rintro e w5 ⟨c, m, er, rfl, her, k5, l5, hcase⟩
            have HER := aside her
            have HO5 := aside (HM.out.box k5 HOB.out (by decide) (by decide) (by decide))
            have HV5 := aside (HM.out.box k5 HVB.out (by decide) (by decide) (by decide))
            rcases hcase with ⟨h0, hc, hm, hs⟩ | ⟨h0, hc, hm, hs⟩
            · have M5 := aside (HM.out.turn hs k5 l5)
              obtain ⟨m6, v6, o6⟩ := M5.out.ver HV5.out HVW.out c m
              have M6 := aside m6
              have V6 := aside v6
              have O6 := aside (o6 HNE.out HO5.out)
              obtain ⟨v0, v1, z0, z1⟩ := duoV HV5.out
              have er0 : (er == 0) = false := by simpa using h0
              clear m6 v6 o6 k5 l5 hs her h0 hc hm oc0 oc1 oc2 oc3 oc4 oc5 oc6 oc7 oc8 oc9 oc10 oc11 oc12
              go_wp2
              go_meet
              exact ⟨er, false, L, ck, c, m, rfl, rfl, M6.out, O6.out, V6.out, StepE.stay HG.out er, fun h => by cases h⟩
            · have M5 := aside (HM.out.turn hs k5 l5)
              obtain ⟨m6, v6, o6⟩ := M5.out.ver HV5.out HVW.out c m
              have M6 := aside m6
              have V6 := aside v6
              have O6 := aside (o6 HNE.out HO5.out)
              have HCM := aside (show c = ck + 1 ∧ m = nd from ⟨hc, hm⟩)
              obtain ⟨v0, v1, z0, z1⟩ := duoV HV5.out
              subst h0
              clear m6 v6 o6 k5 l5 hs her hc hm oc0 oc1 oc2 oc3 oc4 oc5 oc6 oc7 oc8 oc9 oc10 oc11 oc12
              go_wp2
              go_meet
              exact ⟨0, true, _, ck + 1, c, m, rfl, rfl, M6.out, O6.out, V6.out, StepE.write HG.out (v := ⟨#[]⟩) (d := true) HER.out.symm, fun _ => ⟨rfl, HCM.out.1, HCM.out.2, rfl, by have := (wr_ok HER.out.symm).1; omega, _, _, rfl⟩⟩
          · subst h
            have oc0 : W2.cell? ⟨ob, 0, none⟩ = some (.int .i64 o.kind) := by rw [cell_of_row _ _ 0 _ _ _ HOB.out]; rfl
            have oc1 : W2.cell? ⟨ob, 1, none⟩ = some (.int .i64 o.store) := by rw [cell_of_row _ _ 1 _ _ _ HOB.out]; rfl
            have oc2 : W2.cell? ⟨ob, 2, none⟩ = some (.int .i64 o.num) := by rw [cell_of_row _ _ 2 _ _ _ HOB.out]; rfl
            have oc3 : W2.cell? ⟨ob, 3, none⟩ = some (.string o.key) := by rw [cell_of_row _ _ 3 _ _ _ HOB.out]; rfl
            have oc4 : W2.cell? ⟨ob, 4, none⟩ = some (.string o.val) := by rw [cell_of_row _ _ 4 _ _ _ HOB.out]; rfl
            have oc5 : W2.cell? ⟨ob, 5, none⟩ = some (.string o.lo) := by rw [cell_of_row _ _ 5 _ _ _ HOB.out]; rfl
            have oc6 : W2.cell? ⟨ob, 6, none⟩ = some (.string o.hi) := by rw [cell_of_row _ _ 6 _ _ _ HOB.out]; rfl
            have oc7 : W2.cell? ⟨ob, 7, none⟩ = some (.bool o.op) := by rw [cell_of_row _ _ 7 _ _ _ HOB.out]; rfl
            have oc8 : W2.cell? ⟨ob, 8, none⟩ = some (.string o.ek) := by rw [cell_of_row _ _ 8 _ _ _ HOB.out]; rfl
            have oc9 : W2.cell? ⟨ob, 9, none⟩ = some (.int .i64 o.ec) := by rw [cell_of_row _ _ 9 _ _ _ HOB.out]; rfl
            have oc10 : W2.cell? ⟨ob, 10, none⟩ = some (.int .i64 o.en) := by rw [cell_of_row _ _ 10 _ _ _ HOB.out]; rfl
            have oc11 : W2.cell? ⟨ob, 11, none⟩ = some (.string o.ev) := by rw [cell_of_row _ _ 11 _ _ _ HOB.out]; rfl
            have oc12 : W2.cell? ⟨ob, 12, none⟩ = some (.bool o.ed) := by rw [cell_of_row _ _ 12 _ _ _ HOB.out]; rfl
            go_wp2_with fail
            refine (qtake ⟨o.ek, o.ec, o.en, o.ev, o.ed⟩ HM.out.sto HM.out.lan (by have := HG.out.len; omega)).mono ?_
            rintro e w5 ⟨rfl, k5, l5, hcase⟩
            have HO5 := aside (HM.out.box k5 HOB.out (by decide) (by decide) (by decide))
            have HV5 := aside (HM.out.box k5 HVB.out (by decide) (by decide) (by decide))
            obtain ⟨er, her⟩ : ∃ er, (tkSay ⟨o.ek, o.ec, o.en, o.ev, o.ed⟩ L).1 = er := ⟨_, rfl⟩
            obtain ⟨tk, htk⟩ : ∃ tk, (tkSay ⟨o.ek, o.ec, o.en, o.ev, o.ed⟩ L).2 = tk := ⟨_, rfl⟩
            have HER := aside her
            have HTK := aside htk
            rw [her, htk]
            rw [htk] at hcase
            rcases hcase with ⟨h0, hs⟩ | ⟨h0, hs⟩
            · have M5 := aside (HM.out.turn hs k5 l5)
              clear hs k5 l5 her htk h0 oc0 oc1 oc2 oc3 oc4 oc5 oc6 oc7 oc8 oc9 oc10 oc11 oc12
              go_wp2
              go_meet
              exact ⟨er, false, L, ck, 0, 0, rfl, rfl, M5.out, HO5.out, HV5.out, StepE.stay HG.out er, fun h => by cases h⟩
            · have M5 := aside (HM.out.turn hs k5 l5)
              have ST := aside (StepE.take HG.out (HTK.out.trans h0))
              rw [HER.out] at ST
              clear hs k5 l5 her htk h0 oc0 oc1 oc2 oc3 oc4 oc5 oc6 oc7 oc8 oc9 oc10 oc11 oc12
              go_wp2
              go_meet
              exact ⟨er, false, _, _, 0, 0, rfl, rfl, M5.out, HO5.out, HV5.out, ST.out, fun h => by cases h⟩
          · have hk0 : ((kk : Int) == 0) = false := by simp; omega
            have hk1 : ((kk : Int) == 1) = false := by simp; omega
            have hk2 : ((kk : Int) == 2) = false := by simp; omega
            clear h
            have oc0 : W2.cell? ⟨ob, 0, none⟩ = some (.int .i64 o.kind) := by rw [cell_of_row _ _ 0 _ _ _ HOB.out]; rfl
            have oc1 : W2.cell? ⟨ob, 1, none⟩ = some (.int .i64 o.store) := by rw [cell_of_row _ _ 1 _ _ _ HOB.out]; rfl
            have oc2 : W2.cell? ⟨ob, 2, none⟩ = some (.int .i64 o.num) := by rw [cell_of_row _ _ 2 _ _ _ HOB.out]; rfl
            have oc3 : W2.cell? ⟨ob, 3, none⟩ = some (.string o.key) := by rw [cell_of_row _ _ 3 _ _ _ HOB.out]; rfl
            have oc4 : W2.cell? ⟨ob, 4, none⟩ = some (.string o.val) := by rw [cell_of_row _ _ 4 _ _ _ HOB.out]; rfl
            have oc5 : W2.cell? ⟨ob, 5, none⟩ = some (.string o.lo) := by rw [cell_of_row _ _ 5 _ _ _ HOB.out]; rfl
            have oc6 : W2.cell? ⟨ob, 6, none⟩ = some (.string o.hi) := by rw [cell_of_row _ _ 6 _ _ _ HOB.out]; rfl
            have oc7 : W2.cell? ⟨ob, 7, none⟩ = some (.bool o.op) := by rw [cell_of_row _ _ 7 _ _ _ HOB.out]; rfl
            have oc8 : W2.cell? ⟨ob, 8, none⟩ = some (.string o.ek) := by rw [cell_of_row _ _ 8 _ _ _ HOB.out]; rfl
            have oc9 : W2.cell? ⟨ob, 9, none⟩ = some (.int .i64 o.ec) := by rw [cell_of_row _ _ 9 _ _ _ HOB.out]; rfl
            have oc10 : W2.cell? ⟨ob, 10, none⟩ = some (.int .i64 o.en) := by rw [cell_of_row _ _ 10 _ _ _ HOB.out]; rfl
            have oc11 : W2.cell? ⟨ob, 11, none⟩ = some (.string o.ev) := by rw [cell_of_row _ _ 11 _ _ _ HOB.out]; rfl
            have oc12 : W2.cell? ⟨ob, 12, none⟩ = some (.bool o.ed) := by rw [cell_of_row _ _ 12 _ _ _ HOB.out]; rfl
            go_wp2_with fail
            refine (qsplit o.lo o.hi o.op o.num HM.out.sto (by have := HG.out.len; omega)).mono ?_
            rintro e w5 ⟨v5, er, rfl, b5⟩
            have M5 := aside (HM.out.on b5)
            have HO5 := aside (blk_on HOB.out b5)
            have HV5 := aside (blk_on HVB.out b5)
            clear b5 hk0 hk1 hk2 oc0 oc1 oc2 oc3 oc4 oc5 oc6 oc7 oc8 oc9 oc10 oc11 oc12
            go_wp2
            go_meet
            exact ⟨er, false, L, ck, 0, 0, rfl, rfl, M5.out, HO5.out, HV5.out, StepE.stay HG.out er, fun h => by cases h⟩
      case rest =>
        obtain ⟨er, q, L', ck', c, m, rfl, rfl, HM, HOB, HVB, HST, HQ⟩ := hcut
        clear hkk
        go_wp2_with fail
        refine (held_any HM.out.sto (by have := HST.out.good.len; omega)).mono ?_
        rintro e X1 ⟨v1, rfl, r1, b1⟩
        replace HM := aside (HM.out.on b1)
        replace HOB := aside (blk_on HOB.out b1)
        replace HVB := aside (blk_on HVB.out b1)
        obtain ⟨ni, hni⟩ : ∃ ni, L'.length = ni := ⟨_, rfl⟩
        have LI := aside hni
        rw [hni] at r1
        obtain ⟨ia, ic, rfl, -⟩ := own_slice r1
        have RI := aside r1
        have LWL := aside HM.out.lenw
        obtain ⟨Bw, hrw⟩ := HM.out.row
        have RW := aside hrw
        have hni2 : (ni : Int) ≤ 256 := by have := HST.out.good.len; omega
        have hna2 : na ≤ 256 := by rw [← LWL.out]; exact HG.out.len
        have hck : ¬ ck' < ck := by have := HST.out.clock; omega
        have hn256 : ¬ (256 : Int) < (ni : Int) := by omega
        have hck2 : decide (ck' < ck) = false := decide_eq_false hck
        have hn2562 : decide ((256 : Int) < (ni : Int)) = false := decide_eq_false hn256
        have CLEN := aside (fun Y (bb : Below X1.heap.size X1 Y) => qlen (HM.out.on bb).sto)
        rw [LI.out] at CLEN
        clear r1 b1 hni hrw
        go_upto_region 25 with fail
        go_cut [141] (fun s9 wx => s9 = .bool false ∧ Below X1.heap.size X1 wx)
        case first =>
          by_cases her : er = 0
          · subst her
            go_wp2_with fail
            refine (rose_yes RW.out RI.out HG.out.rises HST.out.good.rises HST.out.up (by omega) (by omega)).mono ?_
            rintro e X2 ⟨rfl, b2⟩
            have B2 := aside b2
            clear b2
            go_wp2_with fail
            refine (qclock (HM.out.on B2.out).sto).mono ?_
            rintro e X3 ⟨rfl, rfl⟩
            go_wp2_with fail
            refine (CLEN.out _ B2.out).mono ?_
            rintro e X3 ⟨rfl, rfl⟩
            go_wp2
            go_meet
            exact ⟨rfl, B2.out⟩
          · have er0 : (er == 0) = false := by simpa using her
            have hnn : ni = na := by rw [← LI.out, ← LWL.out, HST.out.same her]
            have hnn2 : ((ni : Int) == (na : Int)) = true := by simp [hnn]
            have hnn3 : (ni == na) = true := by simp [hnn]
            have hnn4 : (ni != na) = false := by simp [hnn]
            have hnn5 : ((ni : Int) != (na : Int)) = false := by simp [hnn]
            clear hnn
            go_wp2_with fail
            refine (rose_yes RW.out RI.out HG.out.rises HST.out.good.rises HST.out.up (by omega) (by omega)).mono ?_
            rintro e X2 ⟨rfl, b2⟩
            have B2 := aside b2
            clear b2
            go_wp2_with fail
            refine (qclock (HM.out.on B2.out).sto).mono ?_
            rintro e X3 ⟨rfl, rfl⟩
            go_wp2_with fail
            refine (CLEN.out _ B2.out).mono ?_
            rintro e X3 ⟨rfl, rfl⟩
            go_wp2
            go_meet
            exact ⟨rfl, B2.out⟩
        case rest =>
          obtain ⟨rfl, b2⟩ := hcut
          replace HM := aside (HM.out.on b2)
          replace HOB := aside (blk_on HOB.out b2)
          replace HVB := aside (blk_on HVB.out b2)
          replace RI := aside (own_on RI.out b2)
          replace RW := aside (own_on RW.out b2)
          clear b2 CLEN
          go_wp2
          clear hck hn256 hck2 hn2562
          refine up_loop (by rfl) (fun _ _ _ _ e h => ⟨e.trans h.1, h.2⟩) _ _ _ _ _ _ _ _ _ _ _ _ _ _ _ _ _ _ _ _ _ _ _ _ _ _ _ _ _ _ _ _ _ _ _ _ _ _ _ _ _ _ _ _ _ _ _ _ _ _ _ _ _ _ _ _ _ _ _ _ _ _ _ _ _ _ _ _ _ _ _ _ _ _ _ _ _ _ _ _ _ _ _ _ _ _ _ _ _ _ _ _ _ _ _ _ _ _ _ _ _ _ _ _ _ _ _ _ _ _ _ _ _ _ _ _ _ _ _ _ _ _ _ _ _ _ _ _ _ _ _ _ _ _ _ _ _ _ _ _ _ _ _ _ _ _ _ _ _ _ _ _ _ _ _ _ _ _ _ _ _ _ _ _ _ _ _ _ _ _ _ _ _ _ _ _ _ _ _ _ _ _ _ _ _ _ _ _ _ _ _ _ _ _ _ _ _ _ _ _ _ _ _ _ _ _ _ _ _ _ _ _ _ _ _ _ _ _ _ _ _ _ _ _ _ (X := wc) (L := L) (L' := L') (ck := ck) (ck' := ck') (er := er) ⟨HM.out, ⟨_, RI.out⟩, HST.out, by omega⟩ ?_
          intro d17 d18 d145 d146 d147 d148 d149 d150 d151 d152 d153 d154 d155 d156 d157 d158 d159 d160 d161 d162 d163 d164 d165 d166 d167 d168 d169 d170 d171 d172 d173 d174 d175 d176 d177 d178 d179 d180 d181 d182 X6 hB
          have HB8 := aside hB
          clear hB
          as_aux_lemma =>
            cases q
            · have NXM := aside ((HM.out.on HB8.out).next (own_on RI.out HB8.out))
              go_wp2
              go_roundw
              case rel => exact ⟨j + 1, ni, ia, ic, L', ck', by go_num, rfl, by omega, NXM.out, HST.out.good⟩
              case measure => simp [intOf]; omega
            · obtain ⟨he0, hc, hm, hck, hks, vv, dd, hLL⟩ := HQ.out rfl
              have HKS := aside hks
              have HLL := aside hLL
              have HCE := aside (show c = ck + 1 ∧ m = nd ∧ ck' = ck + 1 from ⟨hc, hm, hck⟩)
              replace HVB := aside (blk_on HVB.out HB8.out)
              replace HOB := aside (blk_on HOB.out HB8.out)
              replace HM := aside (HM.out.on HB8.out)
              replace RI := aside (own_on RI.out HB8.out)
              replace RW := aside (own_on RW.out HB8.out)
              clear he0 hc hm hck hks hLL HB8
              go_wp2
              go_loopw [186] (fun t wr => ∃ i : Nat, t = .int .i64 (i : Int) ∧ i ≤ na ∧ Below X6.heap.size X6 wr) (fun t _ => na - (intOf t).toNat)
              case atStart => exact ⟨0, rfl, Nat.zero_le _, Below.refl _ _⟩
              case round =>
                obtain ⟨i, rfl, hi, hB⟩ := hrel
                have HB8 := aside hB
                clear hB
                by_cases hin : (i : Int) < (na : Int)
                · have hii : (0 : Int) ≤ (i : Int) := by omega
                  obtain ⟨gw, rfl⟩ := row_form RW.out (by omega)
                  obtain ⟨x, hx⟩ : ∃ x, nthE L i = x := ⟨_, rfl⟩
                  obtain ⟨c0, c1, c2, c3, c4⟩ := row_cells (own_on RW.out HB8.out) (i := i) (by rw [LWL.out]; omega)
                  rw [hx] at c0 c1 c2 c3 c4
                  have hxc : x.c ≤ ck := HG.out.clock x (by rw [← hx]; exact List.mem_of_getElem? (nthE_get (l := L) (i := i) (by rw [LWL.out]; omega)))
                  have CN := aside (fun W => newer8 c m x.c x.n W (.inl (by have := HCE.out.1; omega)))
                  obtain ⟨v0, v1, -⟩ := duoV (blk_on HVB.out HB8.out)
                  have hvl : vb < wr.heap.size := (Array.getElem?_eq_some_iff.1 (blk_on HVB.out HB8.out)).1
                  have BX2 := aside (bnew wr (.cells #[.string x.k, .int .i64 x.c, .int .i64 x.n, .string x.v, .bool x.d] 39))
                  clear hx hxc
                  go_wp2_with fail
                  refine (CN.out _).mono ?_
                  rintro e w9 ⟨rfl, b9⟩
                  have B9 := aside (bthen HB8.out (bthen BX2.out b9))
                  clear b9 CN c0 c1 c2 c3 c4 v0 v1
                  go_wp2
                  go_roundw
                  case rel => exact ⟨i + 1, by go_num, by omega, B9.out⟩
                  case measure => simp [intOf]; omega
                · replace HVB := aside (blk_on HVB.out HB8.out)
                  replace HOB := aside (blk_on HOB.out HB8.out)
                  replace HM := aside (HM.out.on HB8.out)
                  replace RI := aside (own_on RI.out HB8.out)
                  obtain ⟨x, hx⟩ : ∃ x, wrEn o.key vv dd nd ck = x := ⟨_, rfl⟩
                  have HLK := aside (show lookE o.key L' = some x from by rw [HLL.out, ← hx]; exact look_of (rises_insE _ HG.out.rises) ((mem_insE _ _ L HG.out.rises).2 (.inl rfl)) rfl)
                  have HXV := aside (show x.c = c ∧ x.n = m from by rw [← hx]; have := HCE.out; exact ⟨this.1.symm, this.2.1.symm⟩)
                  have CG := aside (qget o.key HM.out.sto (by have := HST.out.good.len; omega))
                  rw [if_neg (show ¬ (16 : Int) < o.key.size from by have := HKS.out; omega), HLK.out] at CG
                  simp only [Option.getD_some, Option.isSome_some] at CG
                  have oc3 : wr.cell? ⟨ob, 3, none⟩ = some (.string o.key) := by rw [cell_of_row _ _ 3 _ _ _ HOB.out]; rfl
                  clear hx HB8
                  go_wp2_with fail
                  refine CG.out.mono ?_
                  rintro e w9 ⟨rfl, b9⟩
                  replace HVB := aside (blk_on HVB.out b9)
                  replace HM := aside (HM.out.on b9)
                  replace RI := aside (own_on RI.out b9)
                  have BX8 := aside (bnew w9 (.cells #[.string x.k, .int .i64 x.c, .int .i64 x.n, .string x.v, .bool x.d] 39))
                  have KX := aside (heap_alloc_new w9 (.cells #[.string x.k, .int .i64 x.c, .int .i64 x.n, .string x.v, .bool x.d] 39))
                  clear b9 CG oc3
                  go_wp2_with fail
                  obtain ⟨xb, hxb⟩ : ∃ xb, w9.heap.size = xb := ⟨_, rfl⟩
                  rw [hxb] at KX ⊢
                  clear hxb
                  replace HVB := aside (blk_on HVB.out BX8.out)
                  replace HM := aside (HM.out.on BX8.out)
                  replace RI := aside (own_on RI.out BX8.out)
                  rw [← HXV.out.1, ← HXV.out.2] at HVB
                  clear BX8
                  generalize w9.alloc (.cells #[.string x.k, .int .i64 x.c, .int .i64 x.n, .string x.v, .bool x.d] 39) = X8 at *
                  have CXW := aside (fun Y (bb : Below X8.heap.size X8 Y) => box5s (blk_on KX.out bb))
                  have CVW := aside (fun Y (bb : Below X8.heap.size X8 Y) => duoV (blk_on HVB.out bb))
                  have CC := aside (fun Y (bb : Below X8.heap.size X8 Y) => (qclock (HM.out.on bb).sto).mono (fun e w' (h : e = .returned (.int .i64 ck') ∧ w' = Y) => (⟨by rw [h.1, HXV.out.1, HCE.out.1, HCE.out.2.2], by rw [h.2]; exact Below.refl _ _⟩ : e = .returned (.int .i64 x.c) ∧ Below Y.heap.size Y w')))
                  have CD := aside (fun Y (bb : Below X8.heap.size X8 Y) => (qnode (HM.out.on bb).sto).mono (fun e w' (h : e = .returned (.int .i64 nd) ∧ w' = Y) => (⟨by rw [h.1, HXV.out.2, HCE.out.2.1], by rw [h.2]; exact Below.refl _ _⟩ : e = .returned (.int .i64 x.n) ∧ Below Y.heap.size Y w')))
                  have hVN : ∀ w, (binOp .neq 37 (.agg #[.int .i64 x.c, .int .i64 x.n]) (.agg #[.int .i64 x.c, .int .i64 x.n])).run Tryd.prog w = .ok (.bool false) w := fun w => by rw [verne_run]; simp
                  refine wp_region_held_drew (S := fun Y => Below X8.heap.size X8 Y ∧ (Y.cell? ⟨xb, 0, none⟩ = some (.string x.k) ∧ Y.cell? ⟨xb, 1, none⟩ = some (.int .i64 x.c) ∧ Y.cell? ⟨xb, 2, none⟩ = some (.int .i64 x.n) ∧ Y.cell? ⟨xb, 3, none⟩ = some (.string x.v) ∧ Y.cell? ⟨xb, 4, none⟩ = some (.bool x.d)) ∧ Y.cell? ⟨vb, 0, none⟩ = some (.int .i64 x.c) ∧ Y.cell? ⟨vb, 1, none⟩ = some (.int .i64 x.n)) (by kernel_rfl) ⟨(Below.refl _ X8).drew, CXW.out _ (Below.refl _ X8).drew, (CVW.out _ (Below.refl _ X8).drew).1, (CVW.out _ (Below.refl _ X8).drew).2.1⟩ (fun hHeld => ?_)
                  refine wpAnyH_take (i := 0) (v := ?_) rfl (by kernel_rfl) (by kernel_rfl) (by kernel_rfl) (fun _ _ _ h => h) (Or.inl ⟨by rfl, ?_⟩) (by assumption) ?_
                  rotate_left
                  · intro w hSw
                    go_simp
                    try with_reducible rfl
                  simp only [Act.put, List.getElem_toArray, List.getElem_cons_zero, List.setIfInBounds_toArray, List.set_cons_zero, List.set_cons_succ]
                  refine wpAnyH_take (i := 1) (v := ?_) rfl (by kernel_rfl) (by kernel_rfl) (by kernel_rfl) (fun _ _ _ h => h) (Or.inl ⟨by rfl, ?_⟩) (by assumption) ?_
                  rotate_left
                  · intro w hSw
                    go_simp
                    try with_reducible rfl
                  simp only [Act.put, List.getElem_toArray, List.getElem_cons_zero, List.getElem_cons_succ, List.setIfInBounds_toArray, List.set_cons_zero, List.set_cons_succ]
                  refine wpAnyH_take (i := 2) (v := ?_) rfl (by kernel_rfl) (by kernel_rfl) (by kernel_rfl) (fun _ _ _ h => h) (Or.inl ⟨by rfl, ?_⟩) (by assumption) ?_
                  rotate_left
                  · intro w hSw
                    go_simp
                    try with_reducible rfl
                  simp only [Act.put, List.getElem_toArray, List.getElem_cons_zero, List.getElem_cons_succ, List.setIfInBounds_toArray, List.set_cons_zero, List.set_cons_succ]
                  refine wpAnyH_take (i := 3) (v := ?_) rfl (by kernel_rfl) (by kernel_rfl) (by kernel_rfl) (fun _ _ _ h => h) (Or.inl ⟨by rfl, ?_⟩) (by assumption) ?_
                  rotate_left
                  · intro w hSw
                    go_simp
                    try with_reducible rfl
                  simp only [Act.put, List.getElem_toArray, List.getElem_cons_zero, List.getElem_cons_succ, List.setIfInBounds_toArray, List.set_cons_zero, List.set_cons_succ]
                  refine wpAnyH_take (i := 4) (v := ?_) rfl (by kernel_rfl) (by kernel_rfl) (by kernel_rfl) (fun _ _ _ h => h) (Or.inl ⟨by rfl, ?_⟩) (by assumption) ?_
                  rotate_left
                  · intro w hSw
                    go_simp
                    try with_reducible rfl
                  simp only [Act.put, List.getElem_toArray, List.getElem_cons_zero, List.getElem_cons_succ, List.setIfInBounds_toArray, List.set_cons_zero, List.set_cons_succ]
                  refine wpAnyH_take (i := 5) (v := ?_) rfl (by kernel_rfl) (by kernel_rfl) (by kernel_rfl) (fun _ _ _ h => h) (Or.inl ⟨by rfl, ?_⟩) (by assumption) ?_
                  rotate_left
                  · intro w hSw
                    go_simp
                    try with_reducible rfl
                  simp only [Act.put, List.getElem_toArray, List.getElem_cons_zero, List.getElem_cons_succ, List.setIfInBounds_toArray, List.set_cons_zero, List.set_cons_succ]
                  refine wpAnyH_take (i := 6) (v := ?_) rfl (by kernel_rfl) (by kernel_rfl) (by kernel_rfl) (fun _ _ _ h => h) (Or.inl ⟨by rfl, ?_⟩) (by assumption) ?_
                  rotate_left
                  · intro w hSw
                    go_simp
                    try with_reducible rfl
                  simp only [Act.put, List.getElem_toArray, List.getElem_cons_zero, List.getElem_cons_succ, List.setIfInBounds_toArray, List.set_cons_zero, List.set_cons_succ]
                  refine wpAnyH_take (i := 7) (v := ?_) rfl (by kernel_rfl) (by kernel_rfl) (by kernel_rfl) (fun _ _ _ h => h) (Or.inl ⟨by rfl, ?_⟩) (by assumption) ?_
                  rotate_left
                  · intro w hSw
                    go_simp
                    try with_reducible rfl
                  simp only [Act.put, List.getElem_toArray, List.getElem_cons_zero, List.getElem_cons_succ, List.setIfInBounds_toArray, List.set_cons_zero, List.set_cons_succ]
                  refine wpAnyH_take (i := 8) (v := ?_) rfl (by kernel_rfl) (by kernel_rfl) (by kernel_rfl) (fun _ _ _ h => h) (Or.inl ⟨by rfl, ?_⟩) (by assumption) ?_
                  rotate_left
                  · intro w hSw
                    go_simp
                    try with_reducible rfl
                  simp only [Act.put, List.getElem_toArray, List.getElem_cons_zero, List.getElem_cons_succ, List.setIfInBounds_toArray, List.set_cons_zero, List.set_cons_succ]
                  refine wpAnyH_take (i := 9) (v := ?_) rfl (by kernel_rfl) (by kernel_rfl) (by kernel_rfl) (fun _ _ _ h => h) (Or.inl ⟨by rfl, ?_⟩) (by assumption) ?_
                  rotate_left
                  · intro w hSw
                    go_simp
                    try with_reducible rfl
                  simp only [Act.put, List.getElem_toArray, List.getElem_cons_zero, List.getElem_cons_succ, List.setIfInBounds_toArray, List.set_cons_zero, List.set_cons_succ]
                  refine wpAnyH_take (i := 10) (v := .bool false) rfl (by kernel_rfl) (by kernel_rfl) (by kernel_rfl) (fun _ _ _ h => h) (Or.inl ⟨by rfl, ?_⟩) (by assumption) ?_
                  · intro w hSw
                    go_simp
                  simp only [Act.put, List.getElem_toArray, List.getElem_cons_zero, List.getElem_cons_succ, List.setIfInBounds_toArray, List.set_cons_zero, List.set_cons_succ]
                  refine wpAnyH_take (i := 11) (v := ?_) rfl (by kernel_rfl) (by kernel_rfl) (by kernel_rfl) (fun _ _ _ h => h) (Or.inl ⟨by rfl, ?_⟩) (by assumption) ?_
                  rotate_left
                  · intro w hSw
                    go_simp
                    try with_reducible rfl
                  simp only [Act.put, List.getElem_toArray, List.getElem_cons_zero, List.getElem_cons_succ, List.setIfInBounds_toArray, List.set_cons_zero, List.set_cons_succ]
                  refine wpAnyH_take (i := 12) (v := ?_) rfl (by kernel_rfl) (by kernel_rfl) (by kernel_rfl) (fun _ _ _ h => h) (Or.inl ⟨by rfl, ?_⟩) (by assumption) ?_
                  rotate_left
                  · intro w hSw
                    go_simp
                    try with_reducible rfl
                  simp only [Act.put, List.getElem_toArray, List.getElem_cons_zero, List.getElem_cons_succ, List.setIfInBounds_toArray, List.set_cons_zero, List.set_cons_succ]
                  refine wpAnyH_take (i := 13) (v := ?_) rfl (by kernel_rfl) (by kernel_rfl) (by kernel_rfl) (fun _ _ _ h => h) (Or.inl ⟨by rfl, ?_⟩) (by assumption) ?_
                  rotate_left
                  · intro w hSw
                    go_simp
                    try with_reducible rfl
                  simp only [Act.put, List.getElem_toArray, List.getElem_cons_zero, List.getElem_cons_succ, List.setIfInBounds_toArray, List.set_cons_zero, List.set_cons_succ]
                  refine wpAnyH_take (i := 14) (v := ?_) rfl (by kernel_rfl) (by kernel_rfl) (by kernel_rfl) (fun _ _ _ h => h) (Or.inl ⟨by rfl, ?_⟩) (by assumption) ?_
                  rotate_left
                  · intro w hSw
                    go_simp
                    try with_reducible rfl
                  simp only [Act.put, List.getElem_toArray, List.getElem_cons_zero, List.getElem_cons_succ, List.setIfInBounds_toArray, List.set_cons_zero, List.set_cons_succ]
                  refine wpAnyH_take (i := 15) (v := ?_) rfl (by kernel_rfl) (by kernel_rfl) (by kernel_rfl) (fun _ _ _ h => h) (Or.inl ⟨by rfl, ?_⟩) (by assumption) ?_
                  rotate_left
                  · intro w hSw
                    go_simp
                    try with_reducible rfl
                  simp only [Act.put, List.getElem_toArray, List.getElem_cons_zero, List.getElem_cons_succ, List.setIfInBounds_toArray, List.set_cons_zero, List.set_cons_succ]
                  refine wpAnyH_ready (rs := [16]) (by kernel_rfl) (by simp) ?_
                  refine AllReadyH.cons rfl (fun K hK => ?_) AllReadyH.nil
                  go_simp
                  refine (CC.out _ hHeld.1).mono ?_
                  rintro e w9 ⟨rfl, bb⟩
                  refine hK.out _ _ (⟨hHeld.1.trans (bb.mono hHeld.1.size), CXW.out _ (hHeld.1.trans (bb.mono hHeld.1.size)), (CVW.out _ (hHeld.1.trans (bb.mono hHeld.1.size))).1, (CVW.out _ (hHeld.1.trans (bb.mono hHeld.1.size))).2.1⟩) (fun hHeld => ?_)
                  clear hK K bb
                  refine wpAnyH_take (i := 17) (v := .bool false) rfl (by kernel_rfl) (by kernel_rfl) (by kernel_rfl) (fun _ _ _ h => h) (Or.inl ⟨by rfl, ?_⟩) (by assumption) ?_
                  · intro w hSw
                    go_simp
                  simp only [Act.put, List.getElem_toArray, List.getElem_cons_zero, List.getElem_cons_succ, List.setIfInBounds_toArray, List.set_cons_zero, List.set_cons_succ]
                  refine wpAnyH_take (i := 18) (v := ?_) rfl (by kernel_rfl) (by kernel_rfl) (by kernel_rfl) (fun _ _ _ h => h) (Or.inl ⟨by rfl, ?_⟩) (by assumption) ?_
                  rotate_left
                  · intro w hSw
                    go_simp
                    try with_reducible rfl
                  simp only [Act.put, List.getElem_toArray, List.getElem_cons_zero, List.getElem_cons_succ, List.setIfInBounds_toArray, List.set_cons_zero, List.set_cons_succ]
                  refine wpAnyH_take (i := 19) (v := ?_) rfl (by kernel_rfl) (by kernel_rfl) (by kernel_rfl) (fun _ _ _ h => h) (Or.inl ⟨by rfl, ?_⟩) (by assumption) ?_
                  rotate_left
                  · intro w hSw
                    go_simp
                    try with_reducible rfl
                  simp only [Act.put, List.getElem_toArray, List.getElem_cons_zero, List.getElem_cons_succ, List.setIfInBounds_toArray, List.set_cons_zero, List.set_cons_succ]
                  refine wpAnyH_take (i := 20) (v := ?_) rfl (by kernel_rfl) (by kernel_rfl) (by kernel_rfl) (fun _ _ _ h => h) (Or.inl ⟨by rfl, ?_⟩) (by assumption) ?_
                  rotate_left
                  · intro w hSw
                    go_simp
                    try with_reducible rfl
                  simp only [Act.put, List.getElem_toArray, List.getElem_cons_zero, List.getElem_cons_succ, List.setIfInBounds_toArray, List.set_cons_zero, List.set_cons_succ]
                  refine wpAnyH_take (i := 21) (v := ?_) rfl (by kernel_rfl) (by kernel_rfl) (by kernel_rfl) (fun _ _ _ h => h) (Or.inl ⟨by rfl, ?_⟩) (by assumption) ?_
                  rotate_left
                  · intro w hSw
                    go_simp
                    try with_reducible rfl
                  simp only [Act.put, List.getElem_toArray, List.getElem_cons_zero, List.getElem_cons_succ, List.setIfInBounds_toArray, List.set_cons_zero, List.set_cons_succ]
                  refine wpAnyH_take (i := 22) (v := ?_) rfl (by kernel_rfl) (by kernel_rfl) (by kernel_rfl) (fun _ _ _ h => h) (Or.inl ⟨by rfl, ?_⟩) (by assumption) ?_
                  rotate_left
                  · intro w hSw
                    go_simp
                    try with_reducible rfl
                  simp only [Act.put, List.getElem_toArray, List.getElem_cons_zero, List.getElem_cons_succ, List.setIfInBounds_toArray, List.set_cons_zero, List.set_cons_succ]
                  refine wpAnyH_ready (rs := [23]) (by kernel_rfl) (by simp) ?_
                  refine AllReadyH.cons rfl (fun K hK => ?_) AllReadyH.nil
                  go_simp
                  refine (CD.out _ hHeld.1).mono ?_
                  rintro e w9 ⟨rfl, bb⟩
                  refine hK.out _ _ (⟨hHeld.1.trans (bb.mono hHeld.1.size), CXW.out _ (hHeld.1.trans (bb.mono hHeld.1.size)), (CVW.out _ (hHeld.1.trans (bb.mono hHeld.1.size))).1, (CVW.out _ (hHeld.1.trans (bb.mono hHeld.1.size))).2.1⟩) (fun hHeld => ?_)
                  clear hK K bb
                  refine wpAnyH_take (i := 24) (v := .bool false) rfl (by kernel_rfl) (by kernel_rfl) (by kernel_rfl) (fun _ _ _ h => h) (Or.inl ⟨by rfl, ?_⟩) (by assumption) ?_
                  · intro w hSw
                    go_simp
                  simp only [Act.put, List.getElem_toArray, List.getElem_cons_zero, List.getElem_cons_succ, List.setIfInBounds_toArray, List.set_cons_zero, List.set_cons_succ]
                  refine wpAnyH_take (i := 25) (v := ?_) rfl (by kernel_rfl) (by kernel_rfl) (by kernel_rfl) (fun _ _ _ h => h) (Or.inl ⟨by rfl, ?_⟩) (by assumption) ?_
                  rotate_left
                  · intro w hSw
                    go_simp
                    try with_reducible rfl
                  simp only [Act.put, List.getElem_toArray, List.getElem_cons_zero, List.getElem_cons_succ, List.setIfInBounds_toArray, List.set_cons_zero, List.set_cons_succ]
                  refine wpAnyH_done (by kernel_rfl) ?_ _
                  have HB10 := aside hHeld.1
                  clear hHeld hVN
                  have NXM := aside ((HM.out.on HB10.out).next (own_on RI.out HB10.out))
                  go_wp2
                  go_roundw
                  case rel => exact ⟨j + 1, ni, ia, ic, L', ck', by go_num, rfl, by omega, NXM.out, HST.out.good⟩
                  case measure => simp [intOf]; omega
    · go_wp2
      go_ret
      exact ⟨rfl, HM.out.bel⟩

end Go.Proofs.YtlgcdcjhflihiaaDoor
