/-
  Print, and what it stands on.
-/
import Derived.Test.YtpbkjffiohfkcaaGreatDoorBs26
import Derived.Deep.Cut
import Derived.Test.YtpbkjffiohfkcaaGreatDoorBs27
import Derived.Test.YtpbkjffiohfkcaaGreatDoorBs24
import Derived.Test.YtpbkjffiohfkcaaGreatDoorBs38
import Derived.Test.YtpbkjffiohfkcaaGreatDoorBs1
import Derived.Laws.MakeOwn
import Derived.Test.YtpbkjffiohfkcaaGreatDoorBs34
namespace Go.Proofs.YtpbkjffiohfkcaaGreatDoor
open Go.RowKit
set_option linter.unusedVariables false
def prV (lo hi : ByteArray) (op : Bool) (t : Tl) (q : Int) : Value := if q = 0 then .agg #[.int .i64 1, .string lo, .string hi, .bool op, .int .i64 t.n, .int .u64 t.a, .int .u64 t.b, .slice none 0 0] else .agg #[.int .i64 0, .string ⟨#[]⟩, .string ⟨#[]⟩, .bool false, .int .i64 0, .int .u64 0, .int .u64 0, .slice none 0 0]
set_option maxHeartbeats 3200000 in
set_option maxRecDepth 100000 in
theorem printOf_any (lo hi : ByteArray) (op : Bool) {w : World} {sb g tb : Nat} {nd ck : Int} {Ls : List En} (h : Sto w sb g tb nd ck Ls) (L : Lanes w) (hl : Ls.length ≤ 1000000) :
    Calls Tryz.prog 58 #[.pointer (some ⟨sb, 0, none⟩), .agg #[.string lo, .string hi, .bool op]] w fun e w' => e = .returned (.agg #[.int .i64 1, .string lo, .string hi, .bool op, .int .i64 (foldV lo hi op Ls).n, .int .u64 (foldV lo hi op Ls).a, .int .u64 (foldV lo hi op Ls).b, .slice none 0 0]) ∧ Sto w' sb g tb nd ck Ls ∧ Keeps (Of sb g tb) w w' ∧ Lanes w' := by
 have BX := aside (bthen (bnew w (.cells #[.string lo, .string hi, .bool op] 40)) (bnew _ (.cells #[.int .i64 0, .string ⟨#[]⟩, .string ⟨#[]⟩, .bool false, .int .i64 0, .int .u64 0, .int .u64 0, .slice none 0 0] 47)))
 have KR0 := aside (blk_on (heap_alloc_new w (.cells #[.string lo, .string hi, .bool op] 40)) (bnew _ (.cells #[.int .i64 0, .string ⟨#[]⟩, .string ⟨#[]⟩, .bool false, .int .i64 0, .int .u64 0, .int .u64 0, .slice none 0 0] 47)))
 have KZ := aside (heap_alloc_new (w.alloc (.cells #[.string lo, .string hi, .bool op] 40)) (.cells #[.int .i64 0, .string ⟨#[]⟩, .string ⟨#[]⟩, .bool false, .int .i64 0, .int .u64 0, .int .u64 0, .slice none 0 0] 47))
 rw [World.size_alloc] at KZ
 have CF := aside (qfold lo hi op (h.below BX.out) (L.keep BX.out) hl)
 have HX := aside (h.below BX.out)
 have HLT := aside h.lt
 generalize foldV lo hi op Ls = t at *
 clear h L hl
 go_enter Tryz.func58, Tryz.ntmps58
 go_wp2_with fail
 refine CF.out.mono ?_
 rintro e w1 ⟨rfl, s1, k1, l1⟩
 have HN1 := HX.out.not KR0.out (by decide) (by decide) (by decide)
 have HN2 := HX.out.not KZ.out (by decide) (by decide) (by decide)
 have KR1 := aside (blk_keep KR0.out k1 HN1)
 have KZ1 := aside (blk_keep KZ.out k1 HN2)
 have S1 := aside s1
 have L1 := aside l1
 have K1 := aside ((Keeps.of_below BX.out _).trans k1)
 clear s1 l1 k1 HN1 HN2 KR0 KZ CF HX BX
 obtain ⟨fb, hfb⟩ : ∃ fb, w.heap.size = fb := ⟨_, rfl⟩
 rw [hfb] at KR1 KZ1 ⊢
 obtain ⟨r0, r1, r2⟩ := box3r KR1.out
 go_upto_region 2 with fail
 clear r0 r1 r2
 have HNL : ¬ fb + 1 < w.heap.size := by omega
 have KZ2 := aside (blk_on KZ1.out (bnew w1 (.cells #[.int .i64 t.n, .int .u64 t.a, .int .u64 t.b] 45)))
 have KR2 := aside (blk_on KR1.out (bnew w1 (.cells #[.int .i64 t.n, .int .u64 t.a, .int .u64 t.b] 45)))
 have KT2 := aside (heap_alloc_new w1 (.cells #[.int .i64 t.n, .int .u64 t.a, .int .u64 t.b] 45))
 have KA := aside (K1.out.alloc (.cells #[.int .i64 t.n, .int .u64 t.a, .int .u64 t.b] 45))
 have SA := aside (S1.out.below (bnew w1 (.cells #[.int .i64 t.n, .int .u64 t.a, .int .u64 t.b] 45)))
 have LA := aside (L1.out.keep (bnew w1 (.cells #[.int .i64 t.n, .int .u64 t.a, .int .u64 t.b] 45)))
 have HL0 : ¬ 0 = fb + 1 := by omega
 clear KZ1 K1 S1 L1 KR1
 generalize w1.alloc (.cells #[.int .i64 t.n, .int .u64 t.a, .int .u64 t.b] 45) = W2 at *
 generalize w1.heap.size = tb2 at *
 obtain ⟨r0, r1, r2⟩ := box3r KR2.out
 obtain ⟨p0, p1, p2⟩ := box3r KT2.out
 obtain ⟨a0, a1, a2, a3, a4, a5, a6, a7, hkz⟩ : ∃ a0 a1 a2 a3 a4 a5 a6 a7 : Value, W2.heap[fb + 1]? = some (Obj.cells #[a0, a1, a2, a3, a4, a5, a6, a7] 47 (0, 0)) := ⟨_, _, _, _, _, _, _, _, KZ2.out⟩
 clear KZ2
 have KZ2 := aside hkz
 clear hkz
 obtain ⟨z0, z1, z2, z3, z4, z5, z6, z7⟩ := oct8 KZ2.out
 have y0 := frozen_of_row _ _ 0 _ _ KZ2.out
 have y1 := frozen_of_row _ _ 1 _ _ KZ2.out
 have y2 := frozen_of_row _ _ 2 _ _ KZ2.out
 have y3 := frozen_of_row _ _ 3 _ _ KZ2.out
 have y4 := frozen_of_row _ _ 4 _ _ KZ2.out
 have y5 := frozen_of_row _ _ 5 _ _ KZ2.out
 have y6 := frozen_of_row _ _ 6 _ _ KZ2.out
 have y7 := frozen_of_row _ _ 7 _ _ KZ2.out
 have KR := (set_in 7 (.slice none 0 0) (set_in 6 (.int .u64 t.b) (set_in 5 (.int .u64 t.a) (set_in 4 (.int .i64 t.n) (set_in 3 (.bool op) (set_in 2 (.string hi) (set_in 1 (.string lo) (set_in 0 (.int .i64 1) KZ2.out))))))))
 simp only [List.setIfInBounds_toArray, List.set_cons_zero, List.set_cons_succ] at KR
 have HKR := aside KR
 clear KR
 have KF := aside (((((((((Keeps.refl (fun x => x = fb + 1) W2).setCell (p := ⟨fb + 1, 0, none⟩) (fun _ => rfl) (.int .i64 1)).setCell (p := ⟨fb + 1, 1, none⟩) (fun _ => rfl) (.string lo)).setCell (p := ⟨fb + 1, 2, none⟩) (fun _ => rfl) (.string hi)).setCell (p := ⟨fb + 1, 3, none⟩) (fun _ => rfl) (.bool op)).setCell (p := ⟨fb + 1, 4, none⟩) (fun _ => rfl) (.int .i64 t.n)).setCell (p := ⟨fb + 1, 5, none⟩) (fun _ => rfl) (.int .u64 t.a)).setCell (p := ⟨fb + 1, 6, none⟩) (fun _ => rfl) (.int .u64 t.b)).setCell (p := ⟨fb + 1, 7, none⟩) (fun _ => rfl) (.slice none 0 0))
 have KW := aside ((((((((KA.out.setCell (p := ⟨fb + 1, 0, none⟩) (fun hh => absurd hh HNL) (.int .i64 1)).setCell (p := ⟨fb + 1, 1, none⟩) (fun hh => absurd hh HNL) (.string lo)).setCell (p := ⟨fb + 1, 2, none⟩) (fun hh => absurd hh HNL) (.string hi)).setCell (p := ⟨fb + 1, 3, none⟩) (fun hh => absurd hh HNL) (.bool op)).setCell (p := ⟨fb + 1, 4, none⟩) (fun hh => absurd hh HNL) (.int .i64 t.n)).setCell (p := ⟨fb + 1, 5, none⟩) (fun hh => absurd hh HNL) (.int .u64 t.a)).setCell (p := ⟨fb + 1, 6, none⟩) (fun hh => absurd hh HNL) (.int .u64 t.b)).setCell (p := ⟨fb + 1, 7, none⟩) (fun hh => absurd hh HNL) (.slice none 0 0))
 have SF := aside (SA.out.set KZ2.out (by decide) (by decide) (by decide) (by decide) KF.out)
 have LF := aside (LA.out.keeps KF.out (fun e => HL0 e))
 go_wp2
 clear r0 r1 r2 p0 p1 p2
 obtain ⟨r0, r1, r2, r3, r4, r5, r6, r7⟩ := oct8 HKR.out
 exact bodyPost_ret (v := .agg #[.int .i64 1, .string lo, .string hi, .bool op, .int .i64 t.n, .int .u64 t.a, .int .u64 t.b, .slice none 0 0]) (by simp [results, Tryz.results58, go_sem, r0, r1, r2, r3, r4, r5, r6, r7]) rfl ⟨rfl, SF.out, KW.out, LF.out⟩
def inB (b l : Int) : Bool := decide (2 ≤ b ∧ b ≤ 16 ∧ 1 ≤ l ∧ l ≤ 32)
set_option maxHeartbeats 3200000 in
set_option maxRecDepth 100000 in
theorem inb_any (b l : Int) (w : World) : Calls Tryz.prog 31 #[.int .i64 b, .int .i64 l] w fun e w' => e = .returned (.bool (inB b l)) ∧ Below w.heap.size w w' := by
 by_cases h1 : 2 ≤ b
 ·by_cases h2 : b ≤ 16
  ·by_cases h3 : 1 ≤ l
   ·by_cases h4 : l ≤ 32
    ·rw [show inB b l = true from by unfold inB; simp; omega]
     go_enter Tryz.func31, Tryz.ntmps31
     go_wp2
     go_ret
     exact ⟨rfl, Below.refl _ _⟩
    ·rw [show inB b l = false from by unfold inB; simp; omega]
     go_enter Tryz.func31, Tryz.ntmps31
     go_wp2
     go_ret
     exact ⟨rfl, Below.refl _ _⟩
   ·rw [show inB b l = false from by unfold inB; simp; omega]
    go_enter Tryz.func31, Tryz.ntmps31
    go_wp2
    go_ret
    exact ⟨rfl, Below.refl _ _⟩
  ·rw [show inB b l = false from by unfold inB; simp; omega]
   go_enter Tryz.func31, Tryz.ntmps31
   go_wp2
   go_ret
   exact ⟨rfl, Below.refl _ _⟩
 ·rw [show inB b l = false from by unfold inB; simp; omega]
  go_enter Tryz.func31, Tryz.ntmps31
  go_wp2
  go_ret
  exact ⟨rfl, Below.refl _ _⟩
set_option maxHeartbeats 3200000 in
set_option maxRecDepth 100000 in
theorem compare_same (b lf : Int) (p : Pm) {w : World} {sb g tb : Nat} {nd ck : Int} {Ls : List En} (h : Sto w sb g tb nd ck Ls) (L : Lanes w) (hl : Ls.length ≤ 1000000) (hn : (foldV p.lo p.hi p.op Ls).n = p.cnt) (ha : (foldV p.lo p.hi p.op Ls).a = p.s0) (hb : (foldV p.lo p.hi p.op Ls).b = p.s1) :
    Calls Tryz.prog 32 #[.pointer (some ⟨sb, 0, none⟩), .int .i64 b, .int .i64 lf, .agg #[.int .i64 p.kind, .string p.lo, .string p.hi, .bool p.op, .int .i64 p.cnt, .int .u64 p.s0, .int .u64 p.s1, .slice p.ea p.el p.ec]] w fun e w' => e = .returned (.slice none 0 0) ∧ Sto w' sb g tb nd ck Ls ∧ Keeps (Of sb g tb) w w' ∧ Lanes w' := by
 have BX := aside (bnew w (.cells #[.int .i64 p.kind, .string p.lo, .string p.hi, .bool p.op, .int .i64 p.cnt, .int .u64 p.s0, .int .u64 p.s1, .slice p.ea p.el p.ec] 47))
 have KX := aside (heap_alloc_new w (.cells #[.int .i64 p.kind, .string p.lo, .string p.hi, .bool p.op, .int .i64 p.cnt, .int .u64 p.s0, .int .u64 p.s1, .slice p.ea p.el p.ec] 47))
 have HX := aside (h.below BX.out)
 have CF := aside (printOf_any p.lo p.hi p.op HX.out (L.keep BX.out) hl)
 rw [hn, ha, hb] at CF
 clear h L hl hn ha hb
 obtain ⟨pb, hpb⟩ : ∃ pb, w.heap.size = pb := ⟨_, rfl⟩
 rw [hpb] at KX
 obtain ⟨X, hX⟩ : ∃ X, w.alloc (.cells #[.int .i64 p.kind, .string p.lo, .string p.hi, .bool p.op, .int .i64 p.cnt, .int .u64 p.s0, .int .u64 p.s1, .slice p.ea p.el p.ec] 47) = X := ⟨_, rfl⟩
 rw [hX] at BX KX HX CF
 obtain ⟨p0, p1, p2, p3, p4, p5, p6, p7⟩ := oct KX.out
 go_enter Tryz.func32, Tryz.ntmps32
 go_wp2_with fail
 refine CF.out.mono ?_
 rintro e w1 ⟨rfl, s1, k1, l1⟩
 have K1 := aside (blk_on (blk_keep KX.out k1 (HX.out.not KX.out (by decide) (by decide) (by decide))) (bnew w1 (.cells #[.int .i64 p.cnt, .int .u64 p.s0, .int .u64 p.s1] 45)))
 have KT := aside (heap_alloc_new w1 (.cells #[.int .i64 p.cnt, .int .u64 p.s0, .int .u64 p.s1] 45))
 have S1 := aside (s1.below (bnew w1 (.cells #[.int .i64 p.cnt, .int .u64 p.s0, .int .u64 p.s1] 45)))
 have L1 := aside (l1.keep (bnew w1 (.cells #[.int .i64 p.cnt, .int .u64 p.s0, .int .u64 p.s1] 45)))
 have KK := aside (((Keeps.of_below BX.out _).trans k1).alloc (.cells #[.int .i64 p.cnt, .int .u64 p.s0, .int .u64 p.s1] 45))
 clear s1 l1 k1 CF HX BX KX p0 p1 p2 p3 p4 p5 p6 p7 hX
 obtain ⟨tb2, htb⟩ : ∃ tb2, w1.heap.size = tb2 := ⟨_, rfl⟩
 rw [htb] at KT
 obtain ⟨X2, hX2⟩ : ∃ X2, w1.alloc (.cells #[.int .i64 p.cnt, .int .u64 p.s0, .int .u64 p.s1] 45) = X2 := ⟨_, rfl⟩
 rw [hX2] at K1 KT S1 L1 KK
 obtain ⟨p0, p1, p2, p3, p4, p5, p6, p7⟩ := oct K1.out
 obtain ⟨t0, t1, t2⟩ := box3r KT.out
 have SQ : ∀ W, (binOp .eql 45 (.agg #[.int .i64 p.cnt, .int .u64 p.s0, .int .u64 p.s1]) (.agg #[.int .i64 p.cnt, .int .u64 p.s0, .int .u64 p.s1])).run Tryz.prog W = .ok (.bool true) W := fun W => tal_same _ _ _ W
 have FD : ∀ W, (Instr.field 47 (.agg #[.int .i64 1, .string p.lo, .string p.hi, .bool p.op, .int .i64 p.cnt, .int .u64 p.s0, .int .u64 p.s1, .slice none 0 0]) 2).run Tryz.prog W = .ok (.agg #[.int .i64 p.cnt, .int .u64 p.s0, .int .u64 p.s1]) W := fun W => by first | rfl | kernel_rfl
 go_wp2
 go_ret
 exact ⟨rfl, S1.out, KK.out, L1.out⟩
theorem ptN_one (P : Nat → Pm) : ptN P 1 = ptAt P 0 := by
 show (if ptN P 0 ≠ 0 then ptN P 0 else ptAt P 0) = ptAt P 0
 exact if_neg (fun h => h rfl)
def cErr (b lf : Int) (p : Pm) : Int := if inB b lf = false then 1 else if psChk (fun _ => p) 1 ≠ 0 then psChk (fun _ => p) 1 else if p.kind = 1 then 0 else 114
theorem cErr_ok {b lf : Int} {p : Pm} (h : cErr b lf p = 0) : inB b lf = true ∧ psChk (fun _ => p) 1 = 0 ∧ p.kind = 1 ∧ p.rg.chk = 0 := by
 unfold cErr at h
 cases hb : inB b lf
 ·rw [if_pos hb] at h; cases h
 ·rw [if_neg (by rw [hb]; simp)] at h
  by_cases h1 : psChk (fun _ => p) 1 = 0
  ·rw [if_neg (by simp [h1])] at h
   by_cases h2 : p.kind = 1
   ·obtain ⟨-, g2, g3⟩ := goods h1
    exact ⟨rfl, h1, h2, (g3 0 (by omega)).chk⟩
   ·rw [if_neg h2] at h; cases h
  ·rw [if_pos h1] at h; exact absurd h h1
theorem inB_bounds {b lf : Int} (h : inB b lf = true) : 2 ≤ b ∧ b ≤ 16 ∧ 1 ≤ lf ∧ lf ≤ 32 := by unfold inB at h; simpa using h
theorem cmpQ_same {b lf : Int} {r : Rg} {cnt s0 s1 : Int} {Ls : List En} (h : (foldV r.lo r.hi r.op Ls).n = cnt ∧ (foldV r.lo r.hi r.op Ls).a = s0 ∧ (foldV r.lo r.hi r.op Ls).b = s1) : cmpQ b lf r cnt s0 s1 Ls = [] := by unfold cmpQ; rw [if_pos h]
theorem cmpQ_items {b lf : Int} {r : Rg} {cnt s0 s1 : Int} {Ls : List En} (h : ¬ ((foldV r.lo r.hi r.op Ls).n = cnt ∧ (foldV r.lo r.hi r.op Ls).a = s0 ∧ (foldV r.lo r.hi r.op Ls).b = s1)) (h2 : (foldV r.lo r.hi r.op Ls).n ≤ lf) : cmpQ b lf r cnt s0 s1 Ls = [⟨2, r.lo, r.hi, r.op, tZero, thruL r.lo r.hi r.op true Ls⟩] := by unfold cmpQ; rw [if_neg h, if_pos h2]
theorem cmpQ_split {b lf : Int} {r : Rg} {cnt s0 s1 : Int} {Ls : List En} (h : ¬ ((foldV r.lo r.hi r.op Ls).n = cnt ∧ (foldV r.lo r.hi r.op Ls).a = s0 ∧ (foldV r.lo r.hi r.op Ls).b = s1)) (h2 : ¬ (foldV r.lo r.hi r.op Ls).n ≤ lf) : cmpQ b lf r cnt s0 s1 Ls = spQ r Ls ((min b (foldV r.lo r.hi r.op Ls).n).toNat - 1) := by unfold cmpQ; rw [if_neg h, if_neg h2]
theorem tal_eqB {t : Tl} {n a b : Int} : (t.n == n && (t.a == a && t.b == b)) = decide (t.n = n ∧ t.a = a ∧ t.b = b) := by
 by_cases h1 : t.n = n <;> by_cases h2 : t.a = a <;> by_cases h3 : t.b = b <;> simp [h1, h2, h3]
theorem min_cut {b lf n : Int} (hb : inB b lf = true) (h : ¬ n ≤ lf) : ∃ q : Nat, min b n = (q : Int) + 1 ∧ (min b n).toNat - 1 = q ∧ (q : Int) + 1 ≤ n := by
 obtain ⟨h1, h2, h3, h4⟩ := inB_bounds hb
 exact ⟨(min b n - 1).toNat, by omega, by omega, by omega⟩
theorem op_append_partsG {B : Nat} {w : World} {o : Oper} {act : Act} {K : Act → World → Prop} {Q : Exit → Act → World → Prop} (s x : Operand)
    (ho : o.op = .call { callee := .builtin .append, args := #[s, x], argTypes := #[23, 23] })
    (n : Nat) (v : Value) (A : List Pm) (hs : act.eval s = v) (hA : w.ownsRow B 47 8 v n (ptCells A)) (y : Addr) (len cap : Nat) (P : Nat → Pm) (hx : act.eval x = .slice (some y) len cap) (hL : PartsIn w (some y) len cap P)
    (hlen : (n + len) * 96 ≤ 140737488351232) (hB : B ≤ w.heap.size)
    (h : ∀ v' w', w'.ownsRow B 47 8 v' (n + len) (ptCells (A ++ firstP P len)) → w.grownBy w' v.ownBlock → K (act.put o.dst v') w') : o.wp Tryz.prog act w K Q := by
 obtain ⟨i0, hi, hz0, hz1, hz2⟩ := info_parts infoPart
 refine wp_append_own w s x _ ho B 47 i0 _ 8 96 Tryz.underlying23 hi hz0 hz1 hz2 rfl (by decide) _ _ _ hs hA y len cap (ptCells (firstP P len)) hx (by rw [ptCells_length, firstP_len]) (parts_cells hL) (ptCells_one _) (by unfold maxLen; omega) (by omega) hB ?_
 intro v' w' ho' hg' _
 rw [← ptCells_append] at ho'
 exact h v' w' ho' hg'
theorem grown_row {w w' : World} {B n : Nat} {v : Value} {xs : List Value} (o : w.ownsRow B 47 8 v n xs) (hg : w.grownBy w' v.ownBlock) : Below w.heap.size w w' ∨ ∃ g cs, B ≤ g ∧ w.heap[g]? = some (.cells cs 47 (0, 0)) ∧ Keeps (fun x => x = g) w w' := by
 rcases o.2 with ⟨rfl, -⟩ | ⟨g, cap, cur, rfl, hb, hgk, -⟩
 ·exact .inl ((Below.refl _ w).grown hg (Nat.le_refl _) (fun k e => by cases e))
 ·exact .inr ⟨g, _, hb, hgk, (Keeps.refl (fun x => x = g) w).grown hg (fun k e _ => by cases e; rfl)⟩
theorem Sto.grownP {w w' : World} {sb g tb : Nat} {nd ck : Int} {Ls : List En} (h : Sto w sb g tb nd ck Ls) {B n : Nat} {v : Value} {xs : List Value} (o : w.ownsRow B 47 8 v n xs) (hg : w.grownBy w' v.ownBlock) : Sto w' sb g tb nd ck Ls := by
 rcases grown_row o hg with b | ⟨g2, cs, -, h2, k⟩
 ·exact h.below b
 ·exact h.set h2 (by decide) (by decide) (by decide) (by decide) k
theorem Lanes.grownP {w w' : World} (h : Lanes w) {B n : Nat} (hB : 0 < B) {v : Value} {xs : List Value} (o : w.ownsRow B 47 8 v n xs) (hg : w.grownBy w' v.ownBlock) : Lanes w' := by
 rcases grown_row o hg with b | ⟨g2, cs, h1, h2, k⟩
 ·exact h.keep b
 ·exact h.keeps k (fun (e : 0 = g2) => by omega)
theorem own_grownP {w w' : World} {B n : Nat} {v : Value} {xs : List Value} (o : w.ownsRow B 47 8 v n xs) (hg : w.grownBy w' v.ownBlock) {C : Nat} {e : TypeId} {s : Nat} {u : Value} {m : Nat} {ys : List Value} (h : w.ownsRow C e s u m ys) (he : e ≠ 47) : w'.ownsRow C e s u m ys := by
 rcases grown_row o hg with b | ⟨g2, cs, h1, h2, k⟩
 ·exact own_on h b
 ·refine own_keep h k (fun i cs' hi e' => ?_)
  subst e'
  rw [h2] at hi
  simp only [Option.some.injEq, Obj.cells.injEq] at hi
  exact he hi.2.1.symm
theorem keeps_grownP {S : Nat → Prop} {a w w' : World} {B n : Nat} {v : Value} {xs : List Value} (h : Keeps S a w) (o : w.ownsRow B 47 8 v n xs) (hB : a.heap.size ≤ B) (hg : w.grownBy w' v.ownBlock) : Keeps S a w' :=
 h.grown hg (fun k e hk => by have := (o.lt k e).1; omega)
def cutP (r : Rg) (Ls : List En) (q i : Nat) : Pm := (prQ Ls (cutR r Ls q i)).pm none 0
theorem cut_told {r : Rg} {Ls : List En} {q B : Nat} {v : Value} {w : World} (h : w.ownsRow B 47 8 v (q + 1) (ptCells (firstP (cutP r Ls q) (q + 1)))) : Told B v (spQ r Ls q) w := by
 refine ⟨firstP (cutP r Ls q) (q + 1), by rw [firstP_len]; exact h, by unfold spQ; rw [firstP_len, List.length_map, List.length_range], fun i m p e1 e2 => ?_⟩
 have hi : i < q + 1 := by have := (List.getElem?_eq_some_iff.1 e1).1; rwa [firstP_len] at this
 unfold firstP at e1
 unfold spQ at e2
 rw [List.getElem?_map, List.getElem?_range hi] at e1 e2
 simp only [Option.map_some, Option.some.injEq] at e1 e2
 subst e1 e2
 exact ⟨rfl, rfl, .inl ⟨rfl, rfl⟩⟩
theorem firstP_snoc (P : Nat → Pm) (n : Nat) : firstP P n ++ [P n] = firstP P (n + 1) := by simp [firstP, List.range_succ]
set_option maxHeartbeats 8000000 in
set_option maxRecDepth 100000 in
theorem splitP_any (r : Rg) (q : Nat) {w : World} {sb g tb : Nat} {nd ck : Int} {Ls : List En} (h : Sto w sb g tb nd ck Ls) (L : Lanes w) (hm : MapL Ls) (hl : Ls.length ≤ 256) (hc : r.chk = 0) (hq : q + 1 ≤ (keysIn r Ls).length) :
    Calls Tryz.prog 60 #[.pointer (some ⟨sb, 0, none⟩), .agg #[.string r.lo, .string r.hi, .bool r.op], .int .i64 ((q : Int) + 1)] w fun e w' => ∃ v, e = .returned v ∧ Told w.heap.size v (spQ r Ls q) w' ∧ Sto w' sb g tb nd ck Ls ∧ Keeps (Of sb g tb) w w' ∧ Lanes w' := by
 obtain ⟨i0, hi0, hz0, hz1, hz2⟩ := info_parts infoPart
 have HI := aside hi0
 have B0 := aside (bnew w (.cells #[.string r.lo, .string r.hi, .bool r.op] 40))
 have K0 := aside (heap_alloc_new w (.cells #[.string r.lo, .string r.hi, .bool r.op] 40))
 have CS := aside (qsplit_ok r q (h.below B0.out) hm hl hc hq)
 have H := aside h
 have LL := aside L
 have HQ := aside (show q + 1 ≤ 256 from Nat.le_trans hq (Nat.le_trans (keysIn_le _ _) hl))
 have HL := aside hl
 have CPR := aside (fun (W : World) (r3 : Rg) (hs : Sto W sb g tb nd ck Ls) (hL : Lanes W) => printOf_any r3.lo r3.hi r3.op hs hL (by omega))
 have HW0 := aside (show 0 < w.heap.size from by have := h.lt; omega)
 clear h L hm hl hc hq hi0
 obtain ⟨r0, r1, r2⟩ := box3r K0.out
 go_enter Tryz.func60, Tryz.ntmps60
 go_wp2_with fail
 refine CS.out.mono ?_
 rintro e w1 ⟨gr, cr, rfl, or1, b1⟩
 have B1 := aside (bthen B0.out b1)
 have OR1 := aside (own_low or1 B0.out.size)
 have hqn : (0 : Int) ≤ (q : Int) + 1 := by omega
 clear b1 or1 CS B0 K0 r0 r1 r2
 have hc2 := (row_max OR1.out).1
 go_wp2_with (at_make; go_loud (refine wpList_make_own _ rfl _ _ 23 rfl w.heap.size 47 i0 (.agg #[.int .i64 0, .string ⟨#[]⟩, .string ⟨#[]⟩, .bool false, .int .i64 0, .int .u64 0, .int .u64 0, .slice none 0 0]) 8 Tryz.underlying23 HI.out hz0 hz1 _ _ _ (q + 1) rfl rfl (by simp) (by rw [hz2]; have := HQ.out; omega) (by unfold maxLen; have := HQ.out; omega) B1.out.size ?_); intro w2 own2 gr2; refine Hid.out ?_)
 refine aside ?_
 have B2 := aside (B1.out.grown gr2 B1.out.size (fun k e => by cases e))
 have BG := aside ((Below.refl w1.heap.size w1).grown gr2 (Nat.le_refl _) (fun k e => by cases e))
 have OR2 := aside (own_on OR1.out BG.out)
 have OP2 := aside (show w2.ownsRow w.heap.size 47 8 (.slice (some ⟨w1.heap.size, 0, none⟩) 0 (q + 1)) 0 (ptCells (firstP (cutP r Ls q) 0)) from own2)
 have S2 := aside (H.out.below B2.out)
 have L2 := aside (LL.out.keep B2.out)
 have K2 := aside (Keeps.of_below B2.out (Of sb g tb))
 clear own2 gr2 BG OR1 B1 B2 hz0 hz1 hz2 HI
 go_wp2_with fail
 go_loopw [9, 24] (fun v i wr => ∃ j : Nat, i = .int .i64 (j : Int) ∧ j ≤ q + 1 ∧ Hid (wr.ownsRow w.heap.size 47 8 v j (ptCells (firstP (cutP r Ls q) j))) ∧ Hid (wr.ownsRow w.heap.size 40 3 (.slice (some ⟨gr, 0, none⟩) (q + 1) cr) (q + 1) (rgCells (cutR r Ls q) (q + 1))) ∧ Hid (Sto wr sb g tb nd ck Ls) ∧ Hid (Keeps (Of sb g tb) w wr) ∧ Hid (Lanes wr)) (fun v i _ => q + 1 - (intOf i).toNat)
 case atStart => exact ⟨0, rfl, Nat.zero_le _, OP2, OR2, S2, K2, L2⟩
 case round =>
  obtain ⟨j, rfl, hj, HP, HR, HS, HK, HLn⟩ := hrel
  clear OP2 OR2 S2 K2 L2
  by_cases hlt : (j : Int) < (q : Int) + 1
  ·have hj0 : (0 : Int) ≤ (j : Int) := by omega
   have hjq : j < q + 1 := by omega
   obtain ⟨c0, c1, c2⟩ := rgCells_at (cutR r Ls q) (q + 1) j hjq
   have d0 := HR.out.cellAt (j * 3) (by have := rgCells_length (cutR r Ls q) (q + 1); omega)
   have d1 := HR.out.cellAt (j * 3 + 1) (by have := rgCells_length (cutR r Ls q) (q + 1); omega)
   have d2 := HR.out.cellAt (j * 3 + 2) (by have := rgCells_length (cutR r Ls q) (q + 1); omega)
   rw [c0] at d0
   rw [c1] at d1
   rw [c2] at d2
   obtain ⟨r3, hr3⟩ : ∃ r3, cutR r Ls q j = r3 := ⟨_, rfl⟩
   have HR3 := aside hr3
   rw [hr3] at d0 d1 d2
   obtain ⟨a9, c9, rfl, -, -, -⟩ := own_slice HP.out
   have NB := bnew wr (.cells #[.string r3.lo, .string r3.hi, .bool r3.op] 40)
   have KB := aside (heap_alloc_new wr (.cells #[.string r3.lo, .string r3.hi, .bool r3.op] 40))
   have S3 := aside (HS.out.below NB)
   have L3 := aside (HLn.out.keep NB)
   have P3 := aside (own_on HP.out NB)
   have R3 := aside (own_on HR.out NB)
   have K3 := aside (HK.out.alloc (.cells #[.string r3.lo, .string r3.hi, .bool r3.op] 40))
   have C3 := aside (CPR.out _ r3 S3.out L3.out)
   clear c0 c1 c2 hr3 HP HR HS HK HLn NB
   go_wp2_with fail
   refine C3.out.mono ?_
   rintro e w4 ⟨rfl, s4, k4, l4⟩
   have BN := bnew w4 (.cells #[.int .i64 1, .string r3.lo, .string r3.hi, .bool r3.op, .int .i64 (foldV r3.lo r3.hi r3.op Ls).n, .int .u64 (foldV r3.lo r3.hi r3.op Ls).a, .int .u64 (foldV r3.lo r3.hi r3.op Ls).b, .slice none 0 0] 47)
   have P4 := aside (own_on (own_keep P3.out k4 (fun i cs e => S3.out.not e (by decide) (by decide) (by decide))) BN)
   have R4 := aside (own_on (own_keep R3.out k4 (fun i cs e => S3.out.not e (by decide) (by decide) (by decide))) BN)
   have S4 := aside (s4.below BN)
   have L4 := aside (l4.keep BN)
   have K4 := aside ((K3.out.trans k4).alloc (.cells #[.int .i64 1, .string r3.lo, .string r3.hi, .bool r3.op, .int .i64 (foldV r3.lo r3.hi r3.op Ls).n, .int .u64 (foldV r3.lo r3.hi r3.op Ls).a, .int .u64 (foldV r3.lo r3.hi r3.op Ls).b, .slice none 0 0] 47))
   have PI := aside (show PartsIn (w4.alloc (.cells #[.int .i64 1, .string r3.lo, .string r3.hi, .bool r3.op, .int .i64 (foldV r3.lo r3.hi r3.op Ls).n, .int .u64 (foldV r3.lo r3.hi r3.op Ls).a, .int .u64 (foldV r3.lo r3.hi r3.op Ls).b, .slice none 0 0] 47)) (some ⟨w4.heap.size, 0, none⟩) 1 1 (fun _ => (prQ Ls r3).pm none 0) from ⟨Nat.le_refl _, by unfold maxLen; omega, .inr ⟨w4.heap.size, 0, rfl, by simp, fun i hi => ⟨by
    obtain rfl : i = 0 := by omega
    exact oct (p := (prQ Ls r3).pm none 0) (heap_alloc_new w4 (.cells #[.int .i64 1, .string r3.lo, .string r3.hi, .bool r3.op, .int .i64 (foldV r3.lo r3.hi r3.op Ls).n, .int .u64 (foldV r3.lo r3.hi r3.op Ls).a, .int .u64 (foldV r3.lo r3.hi r3.op Ls).b, .slice none 0 0] 47)), ⟨Nat.le_refl _, Nat.zero_le _, .inl rfl⟩⟩⟩⟩)
   have HSZ := aside (show w.heap.size ≤ (w4.alloc (.cells #[.int .i64 1, .string r3.lo, .string r3.hi, .bool r3.op, .int .i64 (foldV r3.lo r3.hi r3.op Ls).n, .int .u64 (foldV r3.lo r3.hi r3.op Ls).a, .int .u64 (foldV r3.lo r3.hi r3.op Ls).b, .slice none 0 0] 47)).heap.size from K4.out.size)
   have HCP := aside (show firstP (cutP r Ls q) j ++ firstP (fun _ => (prQ Ls r3).pm none 0) 1 = firstP (cutP r Ls q) (j + 1) from by rw [← firstP_snoc (cutP r Ls q) j, show cutP r Ls q j = (prQ Ls r3).pm none 0 from by unfold cutP; rw [HR3.out]]; rfl)
   have hwr : IntKind.i64.wrap ((j : Int) + 1) = (((j + 1 : Nat)) : Int) := by rw [IntKind.wrap_i64]; have := HQ.out; omega
   clear s4 l4 k4 BN C3 S3 L3 P3 R3 K3 KB d0 d1 d2
   go_wp2_with (at_builtin; go_loud (refine wpList_plain rfl fun K hK => op_append_partsG (B := w.heap.size) _ _ rfl j _ (firstP (cutP r Ls q) j) (by rfl) P4.out ⟨w4.heap.size, 0, none⟩ 1 1 (fun _ => (prQ Ls r3).pm none 0) (by rfl) PI.out (by have := HQ.out; omega) HSZ.out ?_); intro v6 w6 own6 gr6; refine hK _ _ ?_; refine Hid.out ?_)
   refine aside ?_
   rw [HCP.out] at own6
   have P6 := aside own6
   have R6 := aside (own_grownP P4.out gr6 R4.out (by decide))
   have S6 := aside (S4.out.grownP P4.out gr6)
   have L6 := aside (L4.out.grownP HW0.out P4.out gr6)
   have K6 := aside (keeps_grownP K4.out P4.out (Nat.le_refl _) gr6)
   clear own6 gr6 P4 R4 S4 L4 K4 PI HSZ HCP
   go_wp2
   go_roundw
   case rel => exact ⟨j + 1, by go_num, by omega, P6, R6, S6, K6, L6⟩
   case measure => simp [intOf]; omega
  ·have hjq : j = q + 1 := by omega
   subst hjq
   go_wp2
   go_ret
   exact ⟨_, rfl, cut_told HP.out, HS.out, HK.out, HLn.out⟩
set_option maxHeartbeats 8000000 in
set_option maxRecDepth 100000 in
theorem cmpC_any (b lf : Int) (p : Pm) {w : World} {sb g tb : Nat} {nd ck : Int} {Ls : List En} (h : Sto w sb g tb nd ck Ls) (L : Lanes w) (hm : MapL Ls) (hl : Ls.length ≤ 256) (hI : inB b lf = true) (hc : p.rg.chk = 0) :
    Calls Tryz.prog 32 #[.pointer (some ⟨sb, 0, none⟩), .int .i64 b, .int .i64 lf, .agg #[.int .i64 p.kind, .string p.lo, .string p.hi, .bool p.op, .int .i64 p.cnt, .int .u64 p.s0, .int .u64 p.s1, .slice p.ea p.el p.ec]] w fun e w' => ∃ v, e = .returned v ∧ Told w.heap.size v (cmpQ b lf p.rg p.cnt p.s0 p.s1 Ls) w' ∧ Sto w' sb g tb nd ck Ls ∧ Keeps (Of sb g tb) w w' ∧ Lanes w' := by
 by_cases hs : (foldV p.lo p.hi p.op Ls).n = p.cnt ∧ (foldV p.lo p.hi p.op Ls).a = p.s0 ∧ (foldV p.lo p.hi p.op Ls).b = p.s1
 ·rw [cmpQ_same (r := p.rg) hs]
  refine (compare_same b lf p h L (by omega) hs.1 hs.2.1 hs.2.2).mono ?_
  rintro e w' ⟨rfl, s1, k1, l1⟩
  exact ⟨_, rfl, Told.zero _ _, s1, k1, l1⟩
 have BX := aside (bnew w (.cells #[.int .i64 p.kind, .string p.lo, .string p.hi, .bool p.op, .int .i64 p.cnt, .int .u64 p.s0, .int .u64 p.s1, .slice p.ea p.el p.ec] 47))
 have KX := aside (heap_alloc_new w (.cells #[.int .i64 p.kind, .string p.lo, .string p.hi, .bool p.op, .int .i64 p.cnt, .int .u64 p.s0, .int .u64 p.s1, .slice p.ea p.el p.ec] 47))
 have HX := aside (h.below BX.out)
 have CF := aside (printOf_any p.lo p.hi p.op HX.out (L.keep BX.out) (by omega))
 have HFN := aside (show (foldV p.lo p.hi p.op Ls).n = ((keysIn p.rg Ls).length : Int) from fold_n (r := p.rg) hc (by omega))
 have HT2 := aside (fun h2 => cmpQ_items (b := b) (lf := lf) (r := p.rg) (cnt := p.cnt) (s0 := p.s0) (s1 := p.s1) (Ls := Ls) hs h2)
 have HT3 := aside (fun h2 => cmpQ_split (b := b) (lf := lf) (r := p.rg) (cnt := p.cnt) (s0 := p.s0) (s1 := p.s1) (Ls := Ls) hs h2)
 rw [show foldV p.rg.lo p.rg.hi p.rg.op Ls = foldV p.lo p.hi p.op Ls from rfl] at HT2 HT3
 generalize foldV p.lo p.hi p.op Ls = t at *
 have HM := aside hm
 have HL := aside hl
 have HI := aside hI
 have HRC := aside hc
 clear h L hl hm hI hc
 obtain ⟨pb, hpb⟩ : ∃ pb, w.heap.size = pb := ⟨_, rfl⟩
 have HPB := aside hpb
 rw [hpb] at KX
 obtain ⟨X, hX⟩ : ∃ X, w.alloc (.cells #[.int .i64 p.kind, .string p.lo, .string p.hi, .bool p.op, .int .i64 p.cnt, .int .u64 p.s0, .int .u64 p.s1, .slice p.ea p.el p.ec] 47) = X := ⟨_, rfl⟩
 rw [hX] at BX KX HX CF
 obtain ⟨p0, p1, p2, p3, p4, p5, p6, p7⟩ := oct KX.out
 go_enter Tryz.func32, Tryz.ntmps32
 go_wp2_with fail
 refine CF.out.mono ?_
 rintro e w1 ⟨rfl, s1, k1, l1⟩
 have BN := bnew w1 (.cells #[.int .i64 t.n, .int .u64 t.a, .int .u64 t.b] 45)
 have K1 := aside (blk_on (blk_keep KX.out k1 (HX.out.not KX.out (by decide) (by decide) (by decide))) BN)
 have KT := aside (heap_alloc_new w1 (.cells #[.int .i64 t.n, .int .u64 t.a, .int .u64 t.b] 45))
 have S1 := aside (s1.below BN)
 have L1 := aside (l1.keep BN)
 have KK := aside (((Keeps.of_below BX.out _).trans k1).alloc (.cells #[.int .i64 t.n, .int .u64 t.a, .int .u64 t.b] 45))
 clear s1 l1 k1 CF HX BX KX p0 p1 p2 p3 p4 p5 p6 p7 hX BN
 obtain ⟨tb2, htb⟩ : ∃ tb2, w1.heap.size = tb2 := ⟨_, rfl⟩
 rw [htb] at KT
 obtain ⟨X2, hX2⟩ : ∃ X2, w1.alloc (.cells #[.int .i64 t.n, .int .u64 t.a, .int .u64 t.b] 45) = X2 := ⟨_, rfl⟩
 rw [hX2] at K1 KT S1 L1 KK
 obtain ⟨p0, p1, p2, p3, p4, p5, p6, p7⟩ := oct K1.out
 obtain ⟨t0, t1, t2⟩ := box3r KT.out
 have SQ : ∀ W, (binOp .eql 45 (.agg #[.int .i64 t.n, .int .u64 t.a, .int .u64 t.b]) (.agg #[.int .i64 p.cnt, .int .u64 p.s0, .int .u64 p.s1])).run Tryz.prog W = .ok (.bool (decide (t.n = p.cnt ∧ t.a = p.s0 ∧ t.b = p.s1))) W := fun W => by rw [tal_run, tal_eqB]
 rw [decide_eq_false hs] at SQ
 have FD : ∀ W, (Instr.field 47 (.agg #[.int .i64 1, .string p.lo, .string p.hi, .bool p.op, .int .i64 t.n, .int .u64 t.a, .int .u64 t.b, .slice none 0 0]) 2).run Tryz.prog W = .ok (.agg #[.int .i64 t.n, .int .u64 t.a, .int .u64 t.b]) W := fun W => by first | rfl | kernel_rfl
 by_cases hle : t.n ≤ lf
 ·have HTT := aside (HT2.out hle)
  have CH := aside (fun W (b : Below X2.heap.size X2 W) => heldIn_any p.lo p.hi p.op (S1.out.below b) (by have := HL.out; omega) HRC.out)
  rw [show thruL p.rg.lo p.rg.hi p.rg.op true Ls = thruL p.lo p.hi p.op true Ls from rfl] at HTT
  generalize thruL p.lo p.hi p.op true Ls = m at *
  go_wp2_with fail
  clear p0 p4 p5 p6 p7 t0 t1 t2 SQ FD
  refine wp_region_held_drew (S := fun W => Below X2.heap.size X2 W ∧ W.cell? ⟨pb, 1, none⟩ = some (.string p.lo) ∧ W.cell? ⟨pb, 2, none⟩ = some (.string p.hi) ∧ W.cell? ⟨pb, 3, none⟩ = some (.bool p.op)) (by kernel_rfl) ⟨(Below.refl _ X2).drew, p1, p2, p3⟩ (fun hHeld => ?_)
  refine tk 0 rfl _ ?_; refine tk 1 rfl _ ?_; refine tk 2 rfl _ ?_; refine tk 3 rfl _ ?_; refine tk 4 rfl _ ?_
  have HW9 := aside hHeld.1.size
  refine rd 5 rfl fun K hK => ?_
  go_simp
  refine (CH.out _ hHeld.1).mono ?_
  rintro e w9 ⟨v1, rfl, o1, b9⟩
  refine hK.out _ _ (⟨hHeld.1.trans (b9.mono hHeld.1.size), cell_in hHeld.2.1 b9, cell_in hHeld.2.2.1 b9, cell_in hHeld.2.2.2 b9⟩) (fun hHeld => ?_)
  clear hK K 
  obtain ⟨a1, c1, rfl, -, -, -⟩ := own_slice o1
  have HS10 := aside (show w.heap.size ≤ w9.heap.size from Nat.le_trans KK.out.size hHeld.1.size)
  have O1 := aside (own_low o1 (Nat.le_trans KK.out.size HW9.out))
  clear o1 CH HW9
  refine tk 6 rfl _ ?_
  refine rd 7 rfl fun K hK => ?_
  go_simp
  refine hK.out _ _ (⟨hHeld.1.alloc hHeld.1.size _, cell_in hHeld.2.1 (bnew _ _), cell_in hHeld.2.2.1 (bnew _ _), cell_in hHeld.2.2.2 (bnew _ _)⟩) (fun hHeld => ?_)
  clear hK K 
  refine tk 8 rfl _ ?_
  refine wpAnyH_done (by kernel_rfl) ?_ _
  go_wp2
  go_ret
  refine ⟨_, rfl, by rw [HTT.out]; exact Told.single (q := ⟨2, p.lo, p.hi, p.op, tZero, m⟩) (heap_alloc_new w9 _) HS10.out (own_on O1.out (bnew w9 _)), S1.out.below hHeld.1, KK.out.trans (Keeps.of_below hHeld.1 _), L1.out.keep hHeld.1⟩
 ·have HTT := aside (HT3.out (by first | exact hle | omega))
  obtain ⟨q, hq1, hq2, hq3⟩ := min_cut HI.out hle
  rw [hq2] at HTT
  have HQK := aside (show q + 1 ≤ (keysIn p.rg Ls).length from by have := HFN.out; omega)
  have CS := aside (splitP_any p.rg q S1.out L1.out HM.out HL.out HRC.out HQK.out)
  have CS2 := aside (show Calls Tryz.prog 60 #[.pointer (some ⟨sb, 0, none⟩), .agg #[.string p.lo, .string p.hi, .bool p.op], .int .i64 ((q : Int) + 1)] X2 _ from CS.out)
  clear CS
  go_wp2_with fail
  all_goals (first | rw [show t.n = (q : Int) + 1 from by omega] | rw [show b = (q : Int) + 1 from by omega])
  all_goals refine CS2.out.mono ?_
  all_goals
   rintro e w9 ⟨v9, rfl, t9, s9, k9, l9⟩
   have T9 := aside (t9.low KK.out.size)
   have S9 := aside s9
   have L9 := aside l9
   have K9 := aside (KK.out.trans k9)
   clear t9 s9 k9 l9 CS2
   go_wp2
   go_ret
   exact ⟨_, rfl, by rw [HTT.out]; exact T9.out, S9.out, K9.out, L9.out⟩
theorem rev_indE {P : List En → Prop} (h0 : P []) (hs : ∀ l e, P l → P (l ++ [e])) (l : List En) : P l := by
 have h : ∀ r : List En, P r.reverse := by
  intro r
  induction r with
  | nil => exact h0
  | cons e r ih => rw [List.reverse_cons]; exact hs _ _ ih
 have := h l.reverse
 rwa [List.reverse_reverse] at this
theorem step_okE {s : TkS} (h : MapL s.l ∧ s.l.length ≤ 256) (e : En) : MapL (tkStep s e).l ∧ (tkStep s e).l.length ≤ 256 := by
 unfold tkStep
 split
 ·rename_i hy
  obtain ⟨-, h2, h3⟩ := tk_yes hy
  exact ⟨take_map h.1 h2, take_len h.1.rises h.2 h3⟩
 ·split
  ·exact h
  ·exact h
theorem tkAll_okE {s : TkS} (h : MapL s.l ∧ s.l.length ≤ 256) (E : List En) : MapL (tkAll s E).l ∧ (tkAll s E).l.length ≤ 256 := by
 refine rev_indE (P := fun E => MapL (tkAll s E).l ∧ (tkAll s E).l.length ≤ 256) h (fun E e ih => ?_) E
 rw [tkAll_snoc]
 exact step_okE ih e
end Go.Proofs.YtpbkjffiohfkcaaGreatDoor
