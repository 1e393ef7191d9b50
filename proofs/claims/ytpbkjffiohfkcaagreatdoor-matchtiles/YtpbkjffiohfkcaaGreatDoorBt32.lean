/-
  Splits of the code: splitPrints; compare.
-/
import Derived.Test.YtpbkjffiohfkcaaGreatDoorBt1
import Derived.Test.YtpbkjffiohfkcaaGreatDoorBt31
import Derived.Test.YtpbkjffiohfkcaaGreatDoorBt22
import Derived.Laws.MakeOwn
namespace Go.Proofs.YtpbkjffiohfkcaaGreatDoor
open Go.RowKit
set_option linter.unusedVariables false
theorem op_append_partsG {B : Nat} {w : World} {o : Oper} {act : Act} {K : Act → World → Prop} {Q : Exit → Act → World → Prop} (s x : Operand)
    (ho : o.op = .call { callee := .builtin .append, args := #[s, x], argTypes := #[23, 23] })
    (n : Nat) (v : Value) (A : List Pm) (hs : act.eval s = v) (hA : w.ownsRow B 47 8 v n (ptCells A)) (y : Addr) (len cap : Nat) (P : Nat → Pm) (hx : act.eval x = .slice (some y) len cap) (hL : PartsIn w (some y) len cap P)
    (hlen : (n + len) * 96 ≤ 140737488351232) (hB : B ≤ w.heap.size)
    (h : ∀ v' w', w'.ownsRow B 47 8 v' (n + len) (ptCells (A ++ firstP P len)) → w.grownBy w' v.ownBlock → K (act.put o.dst v') w') : o.wp Tryz.prog act w K Q := by
 obtain ⟨i0, hi, hz0, hz1, hz2⟩ := info_parts infoPart
 refine wp_append_own w s x _ ho B 47 i0 _ 8 96 Tryz.underlying23 hi hz0 hz1 hz2 rfl (by decide) _ _ _ hs hA y len cap (ptCells (firstP P len)) hx (by rw [ptCells_length, firstP_len]) (parts_cells hL) (ptCells_one _) (by unfold maxLen; omega) (by omega) hB ?_
 intro v' w' ho' hg' _
 rw [← ptCells_append] at ho'
 exact h v' w' ho' hg'
theorem grown_row {w w' : World} {B n : Nat} {v : Value} {xs : List Value} (o : w.ownsRow B 47 8 v n xs) (hg : w.grownBy w' v.ownBlock) : Below w.heap.size w w' ∨ ∃ g cs, B ≤ g ∧ w.heap[g]? = some (.cells cs 47 (0, 0)) ∧ Keeps (fun x => x = g) w w' := by
 rcases o.2 with ⟨rfl, -⟩ | ⟨g, cap, cur, rfl, hb, hgk, -⟩
 ·exact .inl ((Below.refl _ w).grown hg (Nat.le_refl _) (fun k e => by cases e))
 ·exact .inr ⟨g, _, hb, hgk, (Keeps.refl (fun x => x = g) w).grown hg (fun k e _ => by cases e; rfl)⟩
theorem Sto.grownP {w w' : World} {sb g tb : Nat} {nd ck : Int} {Ls : List En} (h : Sto w sb g tb nd ck Ls) {B n : Nat} {v : Value} {xs : List Value} (o : w.ownsRow B 47 8 v n xs) (hg : w.grownBy w' v.ownBlock) : Sto w' sb g tb nd ck Ls := by
 rcases grown_row o hg with b | ⟨g2, cs, -, h2, k⟩
 ·exact h.below b
 ·exact h.set h2 (by decide) (by decide) (by decide) (by decide) k
theorem Lanes.grownP {w w' : World} (h : Lanes w) {B n : Nat} (hB : 0 < B) {v : Value} {xs : List Value} (o : w.ownsRow B 47 8 v n xs) (hg : w.grownBy w' v.ownBlock) : Lanes w' := by
 rcases grown_row o hg with b | ⟨g2, cs, h1, h2, k⟩
 ·exact h.keep b
 ·exact h.keeps k (fun (e : 0 = g2) => by omega)
theorem own_grownP {w w' : World} {B n : Nat} {v : Value} {xs : List Value} (o : w.ownsRow B 47 8 v n xs) (hg : w.grownBy w' v.ownBlock) {C : Nat} {e : TypeId} {s : Nat} {u : Value} {m : Nat} {ys : List Value} (h : w.ownsRow C e s u m ys) (he : e ≠ 47) : w'.ownsRow C e s u m ys := by
 rcases grown_row o hg with b | ⟨g2, cs, h1, h2, k⟩
 ·exact own_on h b
 ·refine own_keep h k (fun i cs' hi e' => ?_)
  subst e'
  rw [h2] at hi
  simp only [Option.some.injEq, Obj.cells.injEq] at hi
  exact he hi.2.1.symm
theorem keeps_grownP {S : Nat → Prop} {a w w' : World} {B n : Nat} {v : Value} {xs : List Value} (h : Keeps S a w) (o : w.ownsRow B 47 8 v n xs) (hB : a.heap.size ≤ B) (hg : w.grownBy w' v.ownBlock) : Keeps S a w' :=
 h.grown hg (fun k e hk => by have := (o.lt k e).1; omega)
def cutP (r : Rg) (Ls : List En) (q i : Nat) : Pm := (prQ Ls (cutR r Ls q i)).pm none 0
theorem cut_told {r : Rg} {Ls : List En} {q B : Nat} {v : Value} {w : World} (h : w.ownsRow B 47 8 v (q + 1) (ptCells (firstP (cutP r Ls q) (q + 1)))) : Told B v (spQ r Ls q) w := by
 refine ⟨firstP (cutP r Ls q) (q + 1), by rw [firstP_len]; exact h, by unfold spQ; rw [firstP_len, List.length_map, List.length_range], fun i m p e1 e2 => ?_⟩
 have hi : i < q + 1 := by have := (List.getElem?_eq_some_iff.1 e1).1; rwa [firstP_len] at this
 unfold firstP at e1
 unfold spQ at e2
 rw [List.getElem?_map, List.getElem?_range hi] at e1 e2
 simp only [Option.map_some, Option.some.injEq] at e1 e2
 subst e1 e2
 exact ⟨rfl, rfl, .inl ⟨rfl, rfl⟩⟩
theorem firstP_snoc (P : Nat → Pm) (n : Nat) : firstP P n ++ [P n] = firstP P (n + 1) := by simp [firstP, List.range_succ]
set_option maxHeartbeats 8000000 in
set_option maxRecDepth 100000 in
theorem splitP_any (r : Rg) (q : Nat) {w : World} {sb g tb : Nat} {nd ck : Int} {Ls : List En} (h : Sto w sb g tb nd ck Ls) (L : Lanes w) (hm : MapL Ls) (hl : Ls.length ≤ 256) (hc : r.chk = 0) (hq : q + 1 ≤ (keysIn r Ls).length) :
    Calls Tryz.prog 60 #[.pointer (some ⟨sb, 0, none⟩), .agg #[.string r.lo, .string r.hi, .bool r.op], .int .i64 ((q : Int) + 1)] w fun e w' => ∃ v, e = .returned v ∧ Told w.heap.size v (spQ r Ls q) w' ∧ Sto w' sb g tb nd ck Ls ∧ Keeps (Of sb g tb) w w' ∧ Lanes w' := by
 obtain ⟨i0, hi0, hz0, hz1, hz2⟩ := info_parts infoPart
 have HI := aside hi0
 have B0 := aside (bnew w (.cells #[.string r.lo, .string r.hi, .bool r.op] 40))
 have K0 := aside (heap_alloc_new w (.cells #[.string r.lo, .string r.hi, .bool r.op] 40))
 have CS := aside (qsplit_ok r q (h.below B0.out) hm hl hc hq)
 have H := aside h
 have LL := aside L
 have HQ := aside (show q + 1 ≤ 256 from Nat.le_trans hq (Nat.le_trans (keysIn_le _ _) hl))
 have HL := aside hl
 have CPR := aside (fun (W : World) (r3 : Rg) (hs : Sto W sb g tb nd ck Ls) (hL : Lanes W) => printOf_any r3.lo r3.hi r3.op hs hL (by omega))
 have HW0 := aside (show 0 < w.heap.size from by have := h.lt; omega)
 clear h L hm hl hc hq hi0
 obtain ⟨r0, r1, r2⟩ := box3r K0.out
 go_enter Tryz.func60, Tryz.ntmps60
 go_wp2_with fail
 refine CS.out.mono ?_
 rintro e w1 ⟨gr, cr, rfl, or1, b1⟩
 have B1 := aside (bthen B0.out b1)
 have OR1 := aside (own_low or1 B0.out.size)
 have hqn : (0 : Int) ≤ (q : Int) + 1 := by omega
 clear b1 or1 CS B0 K0 r0 r1 r2
 have hc2 := (row_max OR1.out).1
 go_wp2_with (at_make; go_loud (refine wpList_make_own _ rfl _ _ 23 rfl w.heap.size 47 i0 (.agg #[.int .i64 0, .string ⟨#[]⟩, .string ⟨#[]⟩, .bool false, .int .i64 0, .int .u64 0, .int .u64 0, .slice none 0 0]) 8 Tryz.underlying23 HI.out hz0 hz1 _ _ _ (q + 1) rfl rfl (by simp) (by rw [hz2]; have := HQ.out; omega) (by unfold maxLen; have := HQ.out; omega) B1.out.size ?_); intro w2 own2 gr2; refine Hid.out ?_)
 refine aside ?_
 have B2 := aside (B1.out.grown gr2 B1.out.size (fun k e => by cases e))
 have BG := aside ((Below.refl w1.heap.size w1).grown gr2 (Nat.le_refl _) (fun k e => by cases e))
 have OR2 := aside (own_on OR1.out BG.out)
 have OP2 := aside (show w2.ownsRow w.heap.size 47 8 (.slice (some ⟨w1.heap.size, 0, none⟩) 0 (q + 1)) 0 (ptCells (firstP (cutP r Ls q) 0)) from own2)
 have S2 := aside (H.out.below B2.out)
 have L2 := aside (LL.out.keep B2.out)
 have K2 := aside (Keeps.of_below B2.out (Of sb g tb))
 clear own2 gr2 BG OR1 B1 B2 hz0 hz1 hz2 HI
 go_wp2_with fail
 go_loopw [9, 24] (fun v i wr => ∃ j : Nat, i = .int .i64 (j : Int) ∧ j ≤ q + 1 ∧ Hid (wr.ownsRow w.heap.size 47 8 v j (ptCells (firstP (cutP r Ls q) j))) ∧ Hid (wr.ownsRow w.heap.size 40 3 (.slice (some ⟨gr, 0, none⟩) (q + 1) cr) (q + 1) (rgCells (cutR r Ls q) (q + 1))) ∧ Hid (Sto wr sb g tb nd ck Ls) ∧ Hid (Keeps (Of sb g tb) w wr) ∧ Hid (Lanes wr)) (fun v i _ => q + 1 - (intOf i).toNat)
 case atStart => exact ⟨0, rfl, Nat.zero_le _, OP2, OR2, S2, K2, L2⟩
 case round =>
  obtain ⟨j, rfl, hj, HP, HR, HS, HK, HLn⟩ := hrel
  clear OP2 OR2 S2 K2 L2
  by_cases hlt : (j : Int) < (q : Int) + 1
  ·have hj0 : (0 : Int) ≤ (j : Int) := by omega
   have hjq : j < q + 1 := by omega
   obtain ⟨c0, c1, c2⟩ := rgCells_at (cutR r Ls q) (q + 1) j hjq
   have d0 := HR.out.cellAt (j * 3) (by have := rgCells_length (cutR r Ls q) (q + 1); omega)
   have d1 := HR.out.cellAt (j * 3 + 1) (by have := rgCells_length (cutR r Ls q) (q + 1); omega)
   have d2 := HR.out.cellAt (j * 3 + 2) (by have := rgCells_length (cutR r Ls q) (q + 1); omega)
   rw [c0] at d0
   rw [c1] at d1
   rw [c2] at d2
   obtain ⟨r3, hr3⟩ : ∃ r3, cutR r Ls q j = r3 := ⟨_, rfl⟩
   have HR3 := aside hr3
   rw [hr3] at d0 d1 d2
   obtain ⟨a9, c9, rfl, -, -, -⟩ := own_slice HP.out
   have NB := bnew wr (.cells #[.string r3.lo, .string r3.hi, .bool r3.op] 40)
   have KB := aside (heap_alloc_new wr (.cells #[.string r3.lo, .string r3.hi, .bool r3.op] 40))
   have S3 := aside (HS.out.below NB)
   have L3 := aside (HLn.out.keep NB)
   have P3 := aside (own_on HP.out NB)
   have R3 := aside (own_on HR.out NB)
   have K3 := aside (HK.out.alloc (.cells #[.string r3.lo, .string r3.hi, .bool r3.op] 40))
   have C3 := aside (CPR.out _ r3 S3.out L3.out)
   clear c0 c1 c2 hr3 HP HR HS HK HLn NB
   go_wp2_with fail
   refine C3.out.mono ?_
   rintro e w4 ⟨rfl, s4, k4, l4⟩
   have BN := bnew w4 (.cells #[.int .i64 1, .string r3.lo, .string r3.hi, .bool r3.op, .int .i64 (foldV r3.lo r3.hi r3.op Ls).n, .int .u64 (foldV r3.lo r3.hi r3.op Ls).a, .int .u64 (foldV r3.lo r3.hi r3.op Ls).b, .slice none 0 0] 47)
   have P4 := aside (own_on (own_keep P3.out k4 (fun i cs e => S3.out.not e (by decide) (by decide) (by decide))) BN)
   have R4 := aside (own_on (own_keep R3.out k4 (fun i cs e => S3.out.not e (by decide) (by decide) (by decide))) BN)
   have S4 := aside (s4.below BN)
   have L4 := aside (l4.keep BN)
   have K4 := aside ((K3.out.trans k4).alloc (.cells #[.int .i64 1, .string r3.lo, .string r3.hi, .bool r3.op, .int .i64 (foldV r3.lo r3.hi r3.op Ls).n, .int .u64 (foldV r3.lo r3.hi r3.op Ls).a, .int .u64 (foldV r3.lo r3.hi r3.op Ls).b, .slice none 0 0] 47))
   have PI := aside (show PartsIn (w4.alloc (.cells #[.int .i64 1, .string r3.lo, .string r3.hi, .bool r3.op, .int .i64 (foldV r3.lo r3.hi r3.op Ls).n, .int .u64 (foldV r3.lo r3.hi r3.op Ls).a, .int .u64 (foldV r3.lo r3.hi r3.op Ls).b, .slice none 0 0] 47)) (some ⟨w4.heap.size, 0, none⟩) 1 1 (fun _ => (prQ Ls r3).pm none 0) from ⟨Nat.le_refl _, by unfold maxLen; omega, .inr ⟨w4.heap.size, 0, rfl, by simp, fun i hi => ⟨by
    obtain rfl : i = 0 := by omega
    exact oct (p := (prQ Ls r3).pm none 0) (heap_alloc_new w4 (.cells #[.int .i64 1, .string r3.lo, .string r3.hi, .bool r3.op, .int .i64 (foldV r3.lo r3.hi r3.op Ls).n, .int .u64 (foldV r3.lo r3.hi r3.op Ls).a, .int .u64 (foldV r3.lo r3.hi r3.op Ls).b, .slice none 0 0] 47)), ⟨Nat.le_refl _, Nat.zero_le _, .inl rfl⟩⟩⟩⟩)
   have HSZ := aside (show w.heap.size ≤ (w4.alloc (.cells #[.int .i64 1, .string r3.lo, .string r3.hi, .bool r3.op, .int .i64 (foldV r3.lo r3.hi r3.op Ls).n, .int .u64 (foldV r3.lo r3.hi r3.op Ls).a, .int .u64 (foldV r3.lo r3.hi r3.op Ls).b, .slice none 0 0] 47)).heap.size from K4.out.size)
   have HCP := aside (show firstP (cutP r Ls q) j ++ firstP (fun _ => (prQ Ls r3).pm none 0) 1 = firstP (cutP r Ls q) (j + 1) from by rw [← firstP_snoc (cutP r Ls q) j, show cutP r Ls q j = (prQ Ls r3).pm none 0 from by unfold cutP; rw [HR3.out]]; rfl)
   have hwr : IntKind.i64.wrap ((j : Int) + 1) = (((j + 1 : Nat)) : Int) := by rw [IntKind.wrap_i64]; have := HQ.out; omega
   clear s4 l4 k4 BN C3 S3 L3 P3 R3 K3 KB d0 d1 d2
   go_wp2_with (at_builtin; go_loud (refine wpList_plain rfl fun K hK => op_append_partsG (B := w.heap.size) _ _ rfl j _ (firstP (cutP r Ls q) j) (by rfl) P4.out ⟨w4.heap.size, 0, none⟩ 1 1 (fun _ => (prQ Ls r3).pm none 0) (by rfl) PI.out (by have := HQ.out; omega) HSZ.out ?_); intro v6 w6 own6 gr6; refine hK _ _ ?_; refine Hid.out ?_)
   refine aside ?_
   rw [HCP.out] at own6
   have P6 := aside own6
   have R6 := aside (own_grownP P4.out gr6 R4.out (by decide))
   have S6 := aside (S4.out.grownP P4.out gr6)
   have L6 := aside (L4.out.grownP HW0.out P4.out gr6)
   have K6 := aside (keeps_grownP K4.out P4.out (Nat.le_refl _) gr6)
   clear own6 gr6 P4 R4 S4 L4 K4 PI HSZ HCP
   go_wp2
   go_roundw
   case rel => exact ⟨j + 1, by go_num, by omega, P6, R6, S6, K6, L6⟩
   case measure => simp [intOf]; omega
  ·have hjq : j = q + 1 := by omega
   subst hjq
   go_wp2
   go_ret
   exact ⟨_, rfl, cut_told HP.out, HS.out, HK.out, HLn.out⟩
set_option maxHeartbeats 8000000 in
set_option maxRecDepth 100000 in
theorem cmpC_any (b lf : Int) (p : Pm) {w : World} {sb g tb : Nat} {nd ck : Int} {Ls : List En} (h : Sto w sb g tb nd ck Ls) (L : Lanes w) (hm : MapL Ls) (hl : Ls.length ≤ 256) (hI : inB b lf = true) (hc : p.rg.chk = 0) :
    Calls Tryz.prog 32 #[.pointer (some ⟨sb, 0, none⟩), .int .i64 b, .int .i64 lf, .agg #[.int .i64 p.kind, .string p.lo, .string p.hi, .bool p.op, .int .i64 p.cnt, .int .u64 p.s0, .int .u64 p.s1, .slice p.ea p.el p.ec]] w fun e w' => ∃ v, e = .returned v ∧ Told w.heap.size v (cmpQ b lf p.rg p.cnt p.s0 p.s1 Ls) w' ∧ Sto w' sb g tb nd ck Ls ∧ Keeps (Of sb g tb) w w' ∧ Lanes w' := by
 by_cases hs : (foldV p.lo p.hi p.op Ls).n = p.cnt ∧ (foldV p.lo p.hi p.op Ls).a = p.s0 ∧ (foldV p.lo p.hi p.op Ls).b = p.s1
 ·rw [cmpQ_same (r := p.rg) hs]
  refine (compare_same b lf p h L (by omega) hs.1 hs.2.1 hs.2.2).mono ?_
  rintro e w' ⟨rfl, s1, k1, l1⟩
  exact ⟨_, rfl, Told.zero _ _, s1, k1, l1⟩
 have BX := aside (bnew w (.cells #[.int .i64 p.kind, .string p.lo, .string p.hi, .bool p.op, .int .i64 p.cnt, .int .u64 p.s0, .int .u64 p.s1, .slice p.ea p.el p.ec] 47))
 have KX := aside (heap_alloc_new w (.cells #[.int .i64 p.kind, .string p.lo, .string p.hi, .bool p.op, .int .i64 p.cnt, .int .u64 p.s0, .int .u64 p.s1, .slice p.ea p.el p.ec] 47))
 have HX := aside (h.below BX.out)
 have CF := aside (printOf_any p.lo p.hi p.op HX.out (L.keep BX.out) (by omega))
 have HFN := aside (show (foldV p.lo p.hi p.op Ls).n = ((keysIn p.rg Ls).length : Int) from fold_n (r := p.rg) hc (by omega))
 have HT2 := aside (fun h2 => cmpQ_items (b := b) (lf := lf) (r := p.rg) (cnt := p.cnt) (s0 := p.s0) (s1 := p.s1) (Ls := Ls) hs h2)
 have HT3 := aside (fun h2 => cmpQ_split (b := b) (lf := lf) (r := p.rg) (cnt := p.cnt) (s0 := p.s0) (s1 := p.s1) (Ls := Ls) hs h2)
 rw [show foldV p.rg.lo p.rg.hi p.rg.op Ls = foldV p.lo p.hi p.op Ls from rfl] at HT2 HT3
 generalize foldV p.lo p.hi p.op Ls = t at *
 have HM := aside hm
 have HL := aside hl
 have HI := aside hI
 have HRC := aside hc
 clear h L hl hm hI hc
 obtain ⟨pb, hpb⟩ : ∃ pb, w.heap.size = pb := ⟨_, rfl⟩
 have HPB := aside hpb
 rw [hpb] at KX
 obtain ⟨X, hX⟩ : ∃ X, w.alloc (.cells #[.int .i64 p.kind, .string p.lo, .string p.hi, .bool p.op, .int .i64 p.cnt, .int .u64 p.s0, .int .u64 p.s1, .slice p.ea p.el p.ec] 47) = X := ⟨_, rfl⟩
 rw [hX] at BX KX HX CF
 obtain ⟨p0, p1, p2, p3, p4, p5, p6, p7⟩ := oct KX.out
 go_enter Tryz.func32, Tryz.ntmps32
 go_wp2_with fail
 refine CF.out.mono ?_
 rintro e w1 ⟨rfl, s1, k1, l1⟩
 have BN := bnew w1 (.cells #[.int .i64 t.n, .int .u64 t.a, .int .u64 t.b] 45)
 have K1 := aside (blk_on (blk_keep KX.out k1 (HX.out.not KX.out (by decide) (by decide) (by decide))) BN)
 have KT := aside (heap_alloc_new w1 (.cells #[.int .i64 t.n, .int .u64 t.a, .int .u64 t.b] 45))
 have S1 := aside (s1.below BN)
 have L1 := aside (l1.keep BN)
 have KK := aside (((Keeps.of_below BX.out _).trans k1).alloc (.cells #[.int .i64 t.n, .int .u64 t.a, .int .u64 t.b] 45))
 clear s1 l1 k1 CF HX BX KX p0 p1 p2 p3 p4 p5 p6 p7 hX BN
 obtain ⟨tb2, htb⟩ : ∃ tb2, w1.heap.size = tb2 := ⟨_, rfl⟩
 rw [htb] at KT
 obtain ⟨X2, hX2⟩ : ∃ X2, w1.alloc (.cells #[.int .i64 t.n, .int .u64 t.a, .int .u64 t.b] 45) = X2 := ⟨_, rfl⟩
 rw [hX2] at K1 KT S1 L1 KK
 obtain ⟨p0, p1, p2, p3, p4, p5, p6, p7⟩ := oct K1.out
 obtain ⟨t0, t1, t2⟩ := box3r KT.out
 have SQ : ∀ W, (binOp .eql 45 (.agg #[.int .i64 t.n, .int .u64 t.a, .int .u64 t.b]) (.agg #[.int .i64 p.cnt, .int .u64 p.s0, .int .u64 p.s1])).run Tryz.prog W = .ok (.bool (decide (t.n = p.cnt ∧ t.a = p.s0 ∧ t.b = p.s1))) W := fun W => by rw [tal_run, tal_eqB]
 rw [decide_eq_false hs] at SQ
 have FD : ∀ W, (Instr.field 47 (.agg #[.int .i64 1, .string p.lo, .string p.hi, .bool p.op, .int .i64 t.n, .int .u64 t.a, .int .u64 t.b, .slice none 0 0]) 2).run Tryz.prog W = .ok (.agg #[.int .i64 t.n, .int .u64 t.a, .int .u64 t.b]) W := fun W => by first | rfl | kernel_rfl
 by_cases hle : t.n ≤ lf
 ·have HTT := aside (HT2.out hle)
  have CH := aside (fun W (b : Below X2.heap.size X2 W) => heldIn_any p.lo p.hi p.op (S1.out.below b) (by have := HL.out; omega) HRC.out)
  rw [show thruL p.rg.lo p.rg.hi p.rg.op true Ls = thruL p.lo p.hi p.op true Ls from rfl] at HTT
  generalize thruL p.lo p.hi p.op true Ls = m at *
  go_wp2_with fail
  clear p0 p4 p5 p6 p7 t0 t1 t2 SQ FD
  refine wp_region_held_drew (S := fun W => Below X2.heap.size X2 W ∧ W.cell? ⟨pb, 1, none⟩ = some (.string p.lo) ∧ W.cell? ⟨pb, 2, none⟩ = some (.string p.hi) ∧ W.cell? ⟨pb, 3, none⟩ = some (.bool p.op)) (by kernel_rfl) ⟨(Below.refl _ X2).drew, p1, p2, p3⟩ (fun hHeld => ?_)
  refine tk 0 rfl _ ?_; refine tk 1 rfl _ ?_; refine tk 2 rfl _ ?_; refine tk 3 rfl _ ?_; refine tk 4 rfl _ ?_
  have HW9 := aside hHeld.1.size
  refine rd 5 rfl fun K hK => ?_
  go_simp
  refine (CH.out _ hHeld.1).mono ?_
  rintro e w9 ⟨v1, rfl, o1, b9⟩
  refine hK.out _ _ (⟨hHeld.1.trans (b9.mono hHeld.1.size), cell_in hHeld.2.1 b9, cell_in hHeld.2.2.1 b9, cell_in hHeld.2.2.2 b9⟩) (fun hHeld => ?_)
  clear hK K 
  obtain ⟨a1, c1, rfl, -, -, -⟩ := own_slice o1
  have HS10 := aside (show w.heap.size ≤ w9.heap.size from Nat.le_trans KK.out.size hHeld.1.size)
  have O1 := aside (own_low o1 (Nat.le_trans KK.out.size HW9.out))
  clear o1 CH HW9
  refine tk 6 rfl _ ?_
  refine rd 7 rfl fun K hK => ?_
  go_simp
  refine hK.out _ _ (⟨hHeld.1.alloc hHeld.1.size _, cell_in hHeld.2.1 (bnew _ _), cell_in hHeld.2.2.1 (bnew _ _), cell_in hHeld.2.2.2 (bnew _ _)⟩) (fun hHeld => ?_)
  clear hK K 
  refine tk 8 rfl _ ?_
  refine wpAnyH_done (by kernel_rfl) ?_ _
  go_wp2
  go_ret
  refine ⟨_, rfl, by rw [HTT.out]; exact Told.single (q := ⟨2, p.lo, p.hi, p.op, tZero, m⟩) (heap_alloc_new w9 _) HS10.out (own_on O1.out (bnew w9 _)), S1.out.below hHeld.1, KK.out.trans (Keeps.of_below hHeld.1 _), L1.out.keep hHeld.1⟩
 ·have HTT := aside (HT3.out (by first | exact hle | omega))
  obtain ⟨q, hq1, hq2, hq3⟩ := min_cut HI.out hle
  rw [hq2] at HTT
  have HQK := aside (show q + 1 ≤ (keysIn p.rg Ls).length from by have := HFN.out; omega)
  have CS := aside (splitP_any p.rg q S1.out L1.out HM.out HL.out HRC.out HQK.out)
  have CS2 := aside (show Calls Tryz.prog 60 #[.pointer (some ⟨sb, 0, none⟩), .agg #[.string p.lo, .string p.hi, .bool p.op], .int .i64 ((q : Int) + 1)] X2 _ from CS.out)
  clear CS
  go_wp2_with fail
  all_goals (first | rw [show t.n = (q : Int) + 1 from by omega] | rw [show b = (q : Int) + 1 from by omega])
  all_goals refine CS2.out.mono ?_
  all_goals
   rintro e w9 ⟨v9, rfl, t9, s9, k9, l9⟩
   have T9 := aside (t9.low KK.out.size)
   have S9 := aside s9
   have L9 := aside l9
   have K9 := aside (KK.out.trans k9)
   clear t9 s9 k9 l9 CS2
   go_wp2
   go_ret
   exact ⟨_, rfl, by rw [HTT.out]; exact T9.out, S9.out, K9.out, L9.out⟩
theorem filter_seg {α : Type} (p : α → Bool) : ∀ (F : List α) (a b : Nat), (∀ i e, F[i]? = some e → p e = (decide (a ≤ i) && decide (i < b))) → F.filter p = (F.drop a).take (b - a)
 | [], a, b, _ => by simp
 | x :: F, 0, 0, h => by
  have h0 := h 0 x rfl
  have ih := filter_seg p F 0 0 (fun i e he => by have := h (i + 1) e (by simpa using he); rw [this]; simp)
  rw [List.filter_cons, if_neg (by rw [h0]; simp), ih]
  simp
 | x :: F, 0, b + 1, h => by
  have h0 := h 0 x rfl
  have ih := filter_seg p F 0 b (fun i e he => by have := h (i + 1) e (by simpa using he); rw [this]; simp)
  rw [List.filter_cons, if_pos (by rw [h0]; simp), ih]
  simp
 | x :: F, a + 1, 0, h => by
  have h0 := h 0 x rfl
  have ih := filter_seg p F a 0 (fun i e he => by have := h (i + 1) e (by simpa using he); rw [this]; simp)
  rw [List.filter_cons, if_neg (by rw [h0]; simp), ih]
  simp
 | x :: F, a + 1, b + 1, h => by
  have h0 := h 0 x rfl
  have ih := filter_seg p F a b (fun i e he => by have := h (i + 1) e (by simpa using he); rw [this]; simp)
  rw [List.filter_cons, if_neg (by rw [h0]; simp), ih]
  simp
theorem cnt_ge {T : Nat → Rg} {k : ByteArray} {j : Nat} (hj : (T j).has k = true) : ∀ n, j < n → 1 ≤ cnt T k n
 | 0, h => by omega
 | n + 1, h => by
  show 1 ≤ cnt T k n + ((T n).has k).toNat
  by_cases e : j = n
  ·subst e; rw [hj]; simp
  ·have := cnt_ge hj n (by omega); omega
theorem cut_tiles {r : Rg} {Ls : List En} (hm : MapL Ls) (hc : r.chk = 0) {q : Nat} (hq : q + 1 ≤ (keysIn r Ls).length) : tiles (cutR r Ls q) (q + 1) r = true :=
 piece_tiles (pieces_up (keysIn_up (r := r) hm) (keysIn_has hm hc) hq)
theorem cut_has {r : Rg} {Ls : List En} (hm : MapL Ls) (hc : r.chk = 0) {q : Nat} (hq : q + 1 ≤ (keysIn r Ls).length) {j : Nat} (hj : j < q + 1) {k : ByteArray} (h : (cutR r Ls q j).has k = true) : r.has k = true := by
 have h1 := cnt_chain (chain_of (cut_tiles hm hc hq)) (may_of_chk hc) k
 have h2 := cnt_ge (T := cutR r Ls q) h (q + 1) hj
 cases hr : r.has k
 ·rw [hr] at h1; simp at h1; omega
 ·rfl
theorem keysIn_map {r : Rg} {Ls : List En} (hm : MapL Ls) (hc : r.chk = 0) : keysIn r Ls = (inL r Ls).map (fun e => e.k) := by
 unfold keysIn
 rw [thru_inL (lo := r.lo) (hi := r.hi) (op := r.op) hc hm]
def atS (r : Rg) (Ls : List En) (q j : Nat) : Nat := stt (keysIn r Ls).length (q + 1) j
theorem cut_in {r : Rg} {Ls : List En} (hm : MapL Ls) (hc : r.chk = 0) {q : Nat} (hq : q + 1 ≤ (keysIn r Ls).length) {j : Nat} (hj : j < q + 1) : inL (cutR r Ls q j) Ls = ((inL r Ls).drop (atS r Ls q j)).take (atS r Ls q (j + 1) - atS r Ls q j) := by
 have h1 : inL (cutR r Ls q j) Ls = (inL r Ls).filter (fun e => (cutR r Ls q j).has e.k) := by
  unfold inL
  rw [List.filter_filter]
  apply List.filter_congr
  intro e _
  cases hx : (cutR r Ls q j).has e.k
  ·simp
  ·rw [cut_has hm hc hq hj hx]; simp
 rw [h1]
 apply filter_seg
 intro i e he
 have hkm := keysIn_map hm hc
 have hi : i < (keysIn r Ls).length := by rw [hkm, List.length_map]; exact (List.getElem?_eq_some_iff.1 he).1
 have hk : nthS (keysIn r Ls) i = e.k := by
  have := nthS_get hi
  rw [hkm, List.getElem?_map, he] at this
  rw [hkm]
  simpa using this.symm
 rw [← hk]
 exact piece_has (keysIn_up (r := r) hm) (keysIn_has hm hc) hq hi hj
theorem cut_fold {r : Rg} {Ls : List En} (hm : MapL Ls) (hc : r.chk = 0) {q : Nat} (hq : q + 1 ≤ (keysIn r Ls).length) {j : Nat} (hj : j < q + 1) : foldV (cutR r Ls q j).lo (cutR r Ls q j).hi (cutR r Ls q j).op Ls = talL (((inL r Ls).drop (atS r Ls q j)).take (atS r Ls q (j + 1) - atS r Ls q j)) := by
 have h1 := cut_ok hm hc hq hj
 have h2 : (cutR r Ls q j).chk = 0 := by
  unfold prErr at h1
  by_cases h : (cutR r Ls q j).chk = 0
  ·exact h
  ·rw [if_pos h] at h1; exact h1
 rw [fold_out hm, show Rg.chk ⟨(cutR r Ls q j).lo, (cutR r Ls q j).hi, (cutR r Ls q j).op⟩ = 0 from h2, outL_ok _ rfl]
 exact congrArg talL (cut_in hm hc hq hj)
theorem atS_zero (r : Rg) (Ls : List En) (q : Nat) : atS r Ls q 0 = 0 := stt_zero _ _
theorem atS_end (r : Rg) (Ls : List En) (q : Nat) : atS r Ls q (q + 1) = (keysIn r Ls).length := stt_end _ (by omega)
theorem atS_up {r : Rg} {Ls : List En} {q : Nat} (hq : q + 1 ≤ (keysIn r Ls).length) (j : Nat) : atS r Ls q j < atS r Ls q (j + 1) := stt_up (by omega) hq (by omega)
theorem atS_le {r : Rg} {Ls : List En} {q j : Nat} (hj : j ≤ q + 1) : atS r Ls q j ≤ (keysIn r Ls).length := stt_le (by omega) hj
def sumQ (r : Rg) (Ls : List En) (q j : Nat) : Tl := talL ((inL r Ls).take (atS r Ls q j))
theorem sumQ_zero (r : Rg) (Ls : List En) (q : Nat) : sumQ r Ls q 0 = tZero := by unfold sumQ; rw [atS_zero]; simp [talL]
theorem sumQ_step {r : Rg} {Ls : List En} (hm : MapL Ls) (hc : r.chk = 0) {q : Nat} (hq : q + 1 ≤ (keysIn r Ls).length) {j : Nat} (hj : j < q + 1) : tJoin (sumQ r Ls q j) (foldV (cutR r Ls q j).lo (cutR r Ls q j).hi (cutR r Ls q j).op Ls) = sumQ r Ls q (j + 1) := by
 rw [cut_fold hm hc hq hj]
 unfold sumQ
 rw [← talL_append]
 congr 1
 have h := atS_up (r := r) (Ls := Ls) hq j
 generalize atS r Ls q j = a at *
 generalize atS r Ls q (j + 1) = b at *
 obtain ⟨d, rfl⟩ : ∃ d, b = a + d := ⟨b - a, by omega⟩
 rw [List.take_add, show a + d - a = d from by omega]
theorem sumQ_end {r : Rg} {Ls : List En} (hm : MapL Ls) (hc : r.chk = 0) (q : Nat) : sumQ r Ls q (q + 1) = foldV r.lo r.hi r.op Ls := by
 rw [fold_out hm, show Rg.chk ⟨r.lo, r.hi, r.op⟩ = 0 from hc, outL_ok _ rfl]
 unfold sumQ
 rw [atS_end, keysIn_map hm hc, List.length_map, List.take_length]
theorem cut_count {r : Rg} {Ls : List En} (hm : MapL Ls) (hl : Ls.length ≤ 256) (hc : r.chk = 0) {q : Nat} (hq : q + 1 ≤ (keysIn r Ls).length) {j : Nat} (hj : j < q + 1) : 1 ≤ (foldV (cutR r Ls q j).lo (cutR r Ls q j).hi (cutR r Ls q j).op Ls).n := by
 rw [cut_fold hm hc hq hj]
 have hlen : (inL r Ls).length = (keysIn r Ls).length := by rw [keysIn_map hm hc, List.length_map]
 have h1 := atS_up (r := r) (Ls := Ls) hq j
 have h2 := atS_le (r := r) (Ls := Ls) (q := q) (j := j + 1) (by omega)
 have h3 := keysIn_le r Ls
 have h4 : (((inL r Ls).drop (atS r Ls q j)).take (atS r Ls q (j + 1) - atS r Ls q j)).length = atS r Ls q (j + 1) - atS r Ls q j := by
  rw [List.length_take, List.length_drop, hlen]
  omega
 rw [tal_n _ (by omega), h4]
 omega
end Go.Proofs.YtpbkjffiohfkcaaGreatDoor
