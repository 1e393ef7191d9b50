/-
  Split of the document.
-/
import Derived.Test.YtpbkjffiohfkcaaGreatDoorBr43
import Derived.Test.YtpbkjffiohfkcaaGreatDoorBr26
import Derived.Test.YtpbkjffiohfkcaaGreatDoorBr37
namespace Go.Proofs.YtpbkjffiohfkcaaGreatDoor
open Go.RowKit
set_option linter.unusedVariables false
theorem strCells_snoc (l : List ByteArray) (s : ByteArray) : strCells (l ++ [s]) = strCells l ++ [.string s] := by simp [strCells]
theorem infoKey : (Tryz.prog.info? 9).map (fun i => (i.zero, i.size, i.bytes)) = some (some (.string ⟨#[]⟩), 1, 16) := by kernel_rfl
theorem op_append_key {w : World} {o : Oper} {act : Act} {K : Act → World → Prop} {Q : Exit → Act → World → Prop} (s x : Operand)
    (ho : o.op = .call { callee := .builtin .append, args := #[s, x], argTypes := #[143, 143] })
    (B n : Nat) (v : Value) (l : List ByteArray) (hs : act.eval s = v) (hown : w.ownsRow B 9 1 v n (strCells l)) (b c : Nat) (t : ByteArray) (hx : act.eval x = .slice (some ⟨b, 0, none⟩) 1 c)
    (hb : w.heap[b]? = some (.cells #[.string t] 9 (0, 0))) (hlen : n * 16 ≤ 140737488351232) (hB : B ≤ w.heap.size)
    (h : ∀ v' w', w'.ownsRow B 9 1 v' (n + 1) (strCells (l ++ [t])) → w.grownBy w' v.ownBlock → K (act.put o.dst v') w') : o.wp Tryz.prog act w K Q := by
 obtain ⟨i0, hi, hz0, hz1, hz2⟩ := info_parts infoKey
 refine wp_append_own w s x _ ho B 9 i0 _ 1 16 Tryz.underlying143 hi hz0 hz1 hz2 rfl (by decide) _ _ _ hs hown ⟨b, 0, none⟩ 1 c [.string t] hx rfl ?_ (fun u hu => by rw [List.mem_singleton] at hu; subst hu; rfl) (by unfold maxLen; omega) (by omega) hB ?_
 ·exact World.news_of_block (cs := #[.string t]) (t := 9) (fr := (0, 0)) hb
 ·intro v' w' ho' hg _
  rw [← strCells_snoc] at ho'
  exact h v' w' ho' hg
theorem keys_take {m : List En} {j : Nat} (h : j < m.length) : (m.map (fun e => e.k)).take j ++ [(nthE m j).k] = (m.map (fun e => e.k)).take (j + 1) := by
 have e := nthE_get h
 rw [List.take_add_one, List.getElem?_map, e]
 rfl
set_option maxHeartbeats 8000000 in
set_option maxRecDepth 100000 in
theorem rsplit_ok (r : Rg) (q : Nat) {w : World} {B db : Nat} {nd ck : Int} {l : List En} (h : DSt w B db nd ck l) (hm : MapL l) (hl : l.length ≤ 256) (hc : r.chk = 0) (hq : q + 1 ≤ (keysIn r l).length) :
    Calls Tryz.prog 45 #[.pointer (some ⟨db, 0, none⟩), .agg #[.string r.lo, .string r.hi, .bool r.op], .int .i64 ((q : Int) + 1)] w fun e w' => ∃ g cp, e = .returned (.tuple #[.slice (some ⟨g, 0, none⟩) (q + 1) cp, .int .i64 0]) ∧ w'.ownsRow w.heap.size 40 3 (.slice (some ⟨g, 0, none⟩) (q + 1) cp) (q + 1) (rgCells (cutR r l q) (q + 1)) ∧ Below w.heap.size w w' := by
 have B0 := aside (bnew w (.cells #[.string r.lo, .string r.hi, .bool r.op] 40))
 have K0 := aside (heap_alloc_new w (.cells #[.string r.lo, .string r.hi, .bool r.op] 40))
 have CA := aside (rallS r.lo r.hi r.op (h.below B0.out) hm (by omega))
 rw [show Rg.chk ⟨r.lo, r.hi, r.op⟩ = 0 from hc, outL_ok _ rfl] at CA
 have HKM := aside (keysIn_map hm hc)
 have HIM := aside (show MapL (inL r l) from mapL_sub hm List.filter_sublist)
 have HIL := aside (show (inL r l).length ≤ 256 from Nat.le_trans (inL_len _ _) hl)
 have CR := aside (fun (W : World) (a : Option Addr) (c : Nat) (hs : StrsIn W.heap.size W a (keysIn r l).length c (nthS (keysIn r l))) => rranges_ok r.lo r.hi r.op a (keysIn r l).length c (nthS (keysIn r l)) q W hs hc (keys_keyE hm) (keys_allK hm hc) hq (Nat.le_trans (keysIn_le _ _) hl))
 have CA2 := aside (show Calls Tryz.prog 39 #[.pointer (some ⟨db, 0, none⟩), .agg #[.string r.lo, .string r.hi, .bool r.op]] (w.alloc (.cells #[.string r.lo, .string r.hi, .bool r.op] 40)) _ from CA.out)
 clear CA h hm hl hc hq
 obtain ⟨m, hmm⟩ : ∃ m, inL r l = m := ⟨_, rfl⟩
 rw [show inL ⟨r.lo, r.hi, r.op⟩ l = m from hmm] at CA2
 rw [hmm] at HKM HIM HIL
 clear hmm
 obtain ⟨rb, hrb⟩ : ∃ rb, w.heap.size = rb := ⟨_, rfl⟩
 have HRB := aside hrb
 rw [hrb] at K0
 obtain ⟨X, hX⟩ : ∃ X, w.alloc (.cells #[.string r.lo, .string r.hi, .bool r.op] 40) = X := ⟨_, rfl⟩
 rw [hX] at B0 K0 CA2
 obtain ⟨r0, r1, r2⟩ := box3r K0.out
 go_enter Tryz.func45, Tryz.ntmps45
 go_wp2_with fail
 refine CA2.out.mono ?_
 rintro e w1 ⟨b1, v1, rfl, o1⟩
 obtain ⟨a1, c1, rfl, hE1⟩ := own_ents o1 (fun e he => key_small (HIM.out.chk e he))
 have HE1 := aside hE1
 have B1 := aside (bthen B0.out b1)
 have K1 := aside (blk_on K0.out b1)
 have hmx : (m.length : Int) ≤ 256 := by have := HIL.out; omega
 clear b1 o1 hE1 CA2 B0 K0 r0 r1 r2 hX X
 go_wp2_with fail
 go_loopw [10, 21] (fun v i wr => ∃ j : Nat, i = .int .i64 (j : Int) ∧ j ≤ m.length ∧ Hid (wr.ownsRow w1.heap.size 9 1 v j (strCells ((m.map (fun e => e.k)).take j))) ∧ Hid (Below w1.heap.size w1 wr)) (fun v i _ => m.length - (intOf i).toNat)
 case atStart => exact ⟨0, rfl, Nat.zero_le _, aside ⟨rfl, .inl ⟨rfl, rfl⟩⟩, aside (Below.refl _ _)⟩
 case round =>
  obtain ⟨j, rfl, hj, HO, HB⟩ := hrel
  obtain ⟨a9, c9, rfl, -, -, -⟩ := own_slice HO.out
  by_cases hlt : (j : Int) < (m.length : Int)
  ·have hj0 : (0 : Int) ≤ (j : Int) := by omega
   have hjm : j < m.length := by omega
   have hE := HE1.out.keep HB.out
   rcases hE.2.2 with h0 | ⟨b, off, rfl, hb, hc⟩
   ·omega
   obtain ⟨⟨c0, c1', c2, c3, c4⟩, -⟩ := hc j hjm
   have HKT := aside (keys_take hjm)
   obtain ⟨t, ht⟩ : ∃ t, nthE m j = t := ⟨_, rfl⟩
   rw [ht] at c0 c1' c2 c3 c4 HKT
   have hlc := hE.1
   have hwr : IntKind.i64.wrap ((j : Int) + 1) = (((j + 1 : Nat)) : Int) := by rw [IntKind.wrap_i64]; omega
   clear hc hE ht hb
   have NB := bthen (bnew wr (.cells #[.string t.k, .int .i64 t.c, .int .i64 t.n, .string t.v, .bool t.d] 77)) (bnew _ (.cells #[.string t.k] 9))
   have O2 := aside (own_on HO.out NB)
   have B2 := aside (bthen HB.out NB)
   have KS0 := heap_alloc_new (wr.alloc (.cells #[.string t.k, .int .i64 t.c, .int .i64 t.n, .string t.v, .bool t.d] 77)) (.cells #[.string t.k] 9)
   rw [World.size_alloc] at KS0
   have KS := aside KS0
   clear KS0
   have HSZ := aside (show w1.heap.size ≤ ((wr.alloc (.cells #[.string t.k, .int .i64 t.c, .int .i64 t.n, .string t.v, .bool t.d] 77)).alloc (.cells #[.string t.k] 9)).heap.size from (bthen HB.out NB).size)
   clear NB HO HB
   go_wp2_with (at_builtin; go_loud (refine wpList_plain rfl fun K hK => op_append_key _ _ rfl w1.heap.size j _ _ (by rfl) O2.out _ 1 t.k (by rfl) KS.out (by omega) HSZ.out ?_); intro v6 w6 own6 gr6; refine hK _ _ ?_; refine Hid.out ?_)
   refine aside ?_
   have O6 := aside (show w6.ownsRow w1.heap.size 9 1 v6 (j + 1) (strCells ((m.map (fun e => e.k)).take (j + 1))) from by rw [← HKT.out]; exact own6)
   have B6 := aside (B2.out.grown gr6 HSZ.out (fun k e => (O2.out.lt k e).1))
   clear own6 gr6 O2 B2 KS HSZ HKT c0 c1' c2 c3 c4
   go_wp2
   go_roundw
   case rel => exact ⟨j + 1, by go_num, by omega, O6, B6⟩
   case measure => simp [intOf]; omega
  ·obtain rfl : j = m.length := by omega
   have HS := aside (show StrsIn wr.heap.size wr a9 (keysIn r l).length c9 (nthS (keysIn r l)) from by
    have ho := HO.out
    rw [List.take_of_length_le (by simp), ← HKM.out, show m.length = (keysIn r l).length from by rw [HKM.out, List.length_map]] at ho
    exact strs_row ho rfl (by rw [HKM.out, List.length_map]; omega))
   have HJ := aside (show (keysIn r l).length = m.length from by rw [HKM.out, List.length_map])
   have BB := aside (bthen B1.out HB.out)
   have KK := aside (blk_on K1.out HB.out)
   have C3 := aside (CR.out wr a9 c9 HS.out)
   rw [HJ.out] at C3
   clear HO HB HS K1 HE1
   obtain ⟨r0, r1, r2⟩ := box3r KK.out
   go_wp2_with fail
   refine C3.out.mono ?_
   rintro e w7 ⟨g7, c7, rfl, o7, -, b7⟩
   have B7 := aside (bthen BB.out b7)
   have O7 := aside (own_low o7 BB.out.size)
   clear b7 o7 C3 r0 r1 r2
   go_wp2
   go_ret2
   refine ⟨g7, c7, rfl, ?_, B7.out⟩
   have := O7.out
   rw [← HJ.out] at this
   exact this
end Go.Proofs.YtpbkjffiohfkcaaGreatDoor
namespace Go.Proofs.YtpbkjffiohfkcaaGreatDoor
open Go.RowKit
set_option linter.unusedVariables false
theorem emp_may {lo hi : ByteArray} {op : Bool} (h : Rg.chk ⟨lo, hi, op⟩ = 0) : Rg.emp ⟨lo, hi, op⟩ = (!op && lo.toList == hi.toList) := by
 unfold Rg.emp Rg.may
 rw [h]
 simp
set_option maxHeartbeats 6400000 in
set_option maxRecDepth 100000 in
theorem rprint_any (lo hi : ByteArray) (op : Bool) {w : World} {B db : Nat} {nd ck : Int} {l : List En} (h : DSt w B db nd ck l) (hm : MapL l) (hl : l.length ≤ 1000000) :
    Calls Tryz.prog 46 #[.pointer (some ⟨db, 0, none⟩), .agg #[.string lo, .string hi, .bool op]] w fun e w' => e = .returned (.tuple #[prV lo hi op (foldV lo hi op l) (prErr ⟨lo, hi, op⟩), .int .i64 (prErr ⟨lo, hi, op⟩)]) ∧ Below w.heap.size w w' := by
 obtain ⟨c, hc⟩ : ∃ c, Rg.chk ⟨lo, hi, op⟩ = c := ⟨_, rfl⟩
 have HP := aside (show prErr ⟨lo, hi, op⟩ = if c ≠ 0 then c else if Rg.emp ⟨lo, hi, op⟩ = true then 115 else 0 by unfold prErr; rw [hc])
 have HM := aside (show c = 0 → Rg.emp ⟨lo, hi, op⟩ = (!op && lo.toList == hi.toList) from fun e => emp_may (by rw [hc, e]))
 have CC := aside (fun W => checkRef_at hc W)
 have CF := aside (fun W (bb : Below w.heap.size w W) => rfoldS lo hi op (h.below bb) hm hl)
 rw [hc] at CF
 have BX := aside (bthen (bnew w (.cells #[.string lo, .string hi, .bool op] 40)) (bnew _ (.cells #[.int .i64 0, .string ⟨#[]⟩, .string ⟨#[]⟩, .bool false, .int .i64 0, .int .u64 0, .int .u64 0, .slice none 0 0] 47)))
 have KR0 := aside (blk_on (heap_alloc_new w (.cells #[.string lo, .string hi, .bool op] 40)) (bnew _ (.cells #[.int .i64 0, .string ⟨#[]⟩, .string ⟨#[]⟩, .bool false, .int .i64 0, .int .u64 0, .int .u64 0, .slice none 0 0] 47)))
 have KZ := aside (heap_alloc_new (w.alloc (.cells #[.string lo, .string hi, .bool op] 40)) (.cells #[.int .i64 0, .string ⟨#[]⟩, .string ⟨#[]⟩, .bool false, .int .i64 0, .int .u64 0, .int .u64 0, .slice none 0 0] 47))
 rw [World.size_alloc] at KZ
 generalize foldV lo hi op l = t at *
 clear h hm hl hc
 by_cases h0 : c = 0
 ·subst h0
  have he := HM.out rfl
  cases op with
  | true =>
   rw [show prErr ⟨lo, hi, true⟩ = 0 from by rw [HP.out, he]; simp, show prV lo hi true t 0 = .agg #[.int .i64 1, .string lo, .string hi, .bool true, .int .i64 t.n, .int .u64 t.a, .int .u64 t.b, .slice none 0 0] from by unfold prV; rw [if_pos rfl]]
   clear he HP HM
   go_enter Tryz.func46, Tryz.ntmps46
   go_wp2_with fail
   refine (CC.out _).mono ?_
   rintro e w1 ⟨rfl, b1⟩
   have B1 := aside (bthen BX.out b1)
   have KR1 := aside (blk_on KR0.out b1)
   have KZ1 := aside (blk_on KZ.out b1)
   clear b1 KR0 KZ BX
   obtain ⟨fb, hfb⟩ : ∃ fb, w.heap.size = fb := ⟨_, rfl⟩
   rw [hfb] at KR1 KZ1 ⊢
   have HLE : w.heap.size ≤ fb + 1 := by omega
   obtain ⟨r0, r1, r2⟩ := box3r KR1.out
   go_wp2_with fail
   refine (CF.out _ B1.out).mono ?_
   rintro e w2 ⟨rfl, b2⟩
   have B2 := aside (bthen B1.out b2)
   have KZ2 := aside (blk_on KZ1.out b2)
   have KR2 := aside (blk_on KR1.out b2)
   clear b2 KR1 KZ1 CF B1 r0 r1 r2 CC
   unfold tlV
   obtain ⟨r0, r1, r2⟩ := box3r KR2.out
   go_upto_region 7 with fail
   clear r0 r1 r2
   have KZ3 := aside (blk_on KZ2.out (bnew w2 (.cells #[.int .i64 t.n, .int .u64 t.a, .int .u64 t.b] 45)))
   have KR3 := aside (blk_on KR2.out (bnew w2 (.cells #[.int .i64 t.n, .int .u64 t.a, .int .u64 t.b] 45)))
   have KT3 := aside (heap_alloc_new w2 (.cells #[.int .i64 t.n, .int .u64 t.a, .int .u64 t.b] 45))
   have B3 := aside (bthen B2.out (bnew w2 (.cells #[.int .i64 t.n, .int .u64 t.a, .int .u64 t.b] 45)))
   clear KZ2 KR2 B2
   generalize w2.alloc (.cells #[.int .i64 t.n, .int .u64 t.a, .int .u64 t.b] 45) = W3 at *
   generalize w2.heap.size = tb2 at *
   obtain ⟨r0, r1, r2⟩ := box3r KR3.out
   obtain ⟨p0, p1, p2⟩ := box3r KT3.out
   obtain ⟨a0, a1, a2, a3, a4, a5, a6, a7, hkz⟩ : ∃ a0 a1 a2 a3 a4 a5 a6 a7 : Value, W3.heap[fb + 1]? = some (Obj.cells #[a0, a1, a2, a3, a4, a5, a6, a7] 47 (0, 0)) := ⟨_, _, _, _, _, _, _, _, KZ3.out⟩
   clear KZ3
   have KZ3 := aside hkz
   clear hkz
   obtain ⟨z0, z1, z2, z3, z4, z5, z6, z7⟩ := oct8 KZ3.out
   have y0 := frozen_of_row _ _ 0 _ _ KZ3.out
   have y1 := frozen_of_row _ _ 1 _ _ KZ3.out
   have y2 := frozen_of_row _ _ 2 _ _ KZ3.out
   have y3 := frozen_of_row _ _ 3 _ _ KZ3.out
   have y4 := frozen_of_row _ _ 4 _ _ KZ3.out
   have y5 := frozen_of_row _ _ 5 _ _ KZ3.out
   have y6 := frozen_of_row _ _ 6 _ _ KZ3.out
   have y7 := frozen_of_row _ _ 7 _ _ KZ3.out
   have KR := (set_in 7 (.slice none 0 0) (set_in 6 (.int .u64 t.b) (set_in 5 (.int .u64 t.a) (set_in 4 (.int .i64 t.n) (set_in 3 (.bool true) (set_in 2 (.string hi) (set_in 1 (.string lo) (set_in 0 (.int .i64 1) KZ3.out))))))))
   simp only [List.setIfInBounds_toArray, List.set_cons_zero, List.set_cons_succ] at KR
   have HKR := aside KR
   clear KR
   have KF := aside (((((((((Keeps.refl (fun x => x = fb + 1) W3).setCell (p := ⟨fb + 1, 0, none⟩) (fun _ => rfl) (.int .i64 1)).setCell (p := ⟨fb + 1, 1, none⟩) (fun _ => rfl) (.string lo)).setCell (p := ⟨fb + 1, 2, none⟩) (fun _ => rfl) (.string hi)).setCell (p := ⟨fb + 1, 3, none⟩) (fun _ => rfl) (.bool true)).setCell (p := ⟨fb + 1, 4, none⟩) (fun _ => rfl) (.int .i64 t.n)).setCell (p := ⟨fb + 1, 5, none⟩) (fun _ => rfl) (.int .u64 t.a)).setCell (p := ⟨fb + 1, 6, none⟩) (fun _ => rfl) (.int .u64 t.b)).setCell (p := ⟨fb + 1, 7, none⟩) (fun _ => rfl) (.slice none 0 0))
   have BF := aside (((((((((B3.out.setCell (p := ⟨fb + 1, 0, none⟩) HLE (.int .i64 1)).setCell (p := ⟨fb + 1, 1, none⟩) HLE (.string lo)).setCell (p := ⟨fb + 1, 2, none⟩) HLE (.string hi)).setCell (p := ⟨fb + 1, 3, none⟩) HLE (.bool true)).setCell (p := ⟨fb + 1, 4, none⟩) HLE (.int .i64 t.n)).setCell (p := ⟨fb + 1, 5, none⟩) HLE (.int .u64 t.a)).setCell (p := ⟨fb + 1, 6, none⟩) HLE (.int .u64 t.b)).setCell (p := ⟨fb + 1, 7, none⟩) HLE (.slice none 0 0)))
   go_wp2
   clear r0 r1 r2 p0 p1 p2
   obtain ⟨r0, r1, r2, r3, r4, r5, r6, r7⟩ := oct8 HKR.out
   exact bodyPost_ret (v := .tuple #[.agg #[.int .i64 1, .string lo, .string hi, .bool true, .int .i64 t.n, .int .u64 t.a, .int .u64 t.b, .slice none 0 0], .int .i64 0]) (by simp [results, Tryz.results46, go_sem, r0, r1, r2, r3, r4, r5, r6, r7]) rfl ⟨rfl, BF.out⟩
  | false =>
   cases hs : (lo.toList == hi.toList) with
   | true =>
    rw [show prErr ⟨lo, hi, false⟩ = 115 from by rw [HP.out, he, hs]; simp, show prV lo hi false t 115 = .agg #[.int .i64 0, .string ⟨#[]⟩, .string ⟨#[]⟩, .bool false, .int .i64 0, .int .u64 0, .int .u64 0, .slice none 0 0] from by unfold prV; rw [if_neg (by decide)]]
    clear he HP HM CF
    go_enter Tryz.func46, Tryz.ntmps46
    go_wp2_with fail
    refine (CC.out _).mono ?_
    rintro e w1 ⟨rfl, b1⟩
    have B1 := aside (bthen BX.out b1)
    have KR1 := aside (blk_on KR0.out b1)
    have KZ1 := aside (blk_on KZ.out b1)
    clear b1 KR0 KZ BX
    obtain ⟨fb, hfb⟩ : ∃ fb, w.heap.size = fb := ⟨_, rfl⟩
    rw [hfb] at KR1 KZ1 ⊢
    have HLE : w.heap.size ≤ fb + 1 := by omega
    obtain ⟨r0, r1, r2⟩ := box3r KR1.out
    go_upto_region 5 with fail
    clear r0 r1 r2
    obtain ⟨a0, a1, a2, a3, a4, a5, a6, a7, hkz⟩ : ∃ a0 a1 a2 a3 a4 a5 a6 a7 : Value, w1.heap[fb + 1]? = some (Obj.cells #[a0, a1, a2, a3, a4, a5, a6, a7] 47 (0, 0)) := ⟨_, _, _, _, _, _, _, _, KZ1.out⟩
    clear KZ1
    have KZ1 := aside hkz
    clear hkz
    obtain ⟨z0, z1, z2, z3, z4, z5, z6, z7⟩ := oct8 KZ1.out
    have y0 := frozen_of_row _ _ 0 _ _ KZ1.out
    have y1 := frozen_of_row _ _ 1 _ _ KZ1.out
    have y2 := frozen_of_row _ _ 2 _ _ KZ1.out
    have y3 := frozen_of_row _ _ 3 _ _ KZ1.out
    have y4 := frozen_of_row _ _ 4 _ _ KZ1.out
    have y5 := frozen_of_row _ _ 5 _ _ KZ1.out
    have y6 := frozen_of_row _ _ 6 _ _ KZ1.out
    have y7 := frozen_of_row _ _ 7 _ _ KZ1.out
    have KR := (set_in 7 (.slice none 0 0) (set_in 6 (.int .u64 0) (set_in 5 (.int .u64 0) (set_in 4 (.int .i64 0) (set_in 3 (.bool false) (set_in 2 (.string ⟨#[]⟩) (set_in 1 (.string ⟨#[]⟩) (set_in 0 (.int .i64 0) KZ1.out))))))))
    simp only [List.setIfInBounds_toArray, List.set_cons_zero, List.set_cons_succ] at KR
    have HKR := aside KR
    clear KR
    have KF := aside (((((((((Keeps.refl (fun x => x = fb + 1) w1).setCell (p := ⟨fb + 1, 0, none⟩) (fun _ => rfl) (.int .i64 0)).setCell (p := ⟨fb + 1, 1, none⟩) (fun _ => rfl) (.string ⟨#[]⟩)).setCell (p := ⟨fb + 1, 2, none⟩) (fun _ => rfl) (.string ⟨#[]⟩)).setCell (p := ⟨fb + 1, 3, none⟩) (fun _ => rfl) (.bool false)).setCell (p := ⟨fb + 1, 4, none⟩) (fun _ => rfl) (.int .i64 0)).setCell (p := ⟨fb + 1, 5, none⟩) (fun _ => rfl) (.int .u64 0)).setCell (p := ⟨fb + 1, 6, none⟩) (fun _ => rfl) (.int .u64 0)).setCell (p := ⟨fb + 1, 7, none⟩) (fun _ => rfl) (.slice none 0 0))
    have BF := aside (((((((((B1.out.setCell (p := ⟨fb + 1, 0, none⟩) HLE (.int .i64 0)).setCell (p := ⟨fb + 1, 1, none⟩) HLE (.string ⟨#[]⟩)).setCell (p := ⟨fb + 1, 2, none⟩) HLE (.string ⟨#[]⟩)).setCell (p := ⟨fb + 1, 3, none⟩) HLE (.bool false)).setCell (p := ⟨fb + 1, 4, none⟩) HLE (.int .i64 0)).setCell (p := ⟨fb + 1, 5, none⟩) HLE (.int .u64 0)).setCell (p := ⟨fb + 1, 6, none⟩) HLE (.int .u64 0)).setCell (p := ⟨fb + 1, 7, none⟩) HLE (.slice none 0 0)))
    go_wp2
    obtain ⟨r0, r1, r2, r3, r4, r5, r6, r7⟩ := oct8 HKR.out
    exact bodyPost_ret (v := .tuple #[.agg #[.int .i64 0, .string ⟨#[]⟩, .string ⟨#[]⟩, .bool false, .int .i64 0, .int .u64 0, .int .u64 0, .slice none 0 0], .int .i64 115]) (by simp [results, Tryz.results46, go_sem, r0, r1, r2, r3, r4, r5, r6, r7]) rfl ⟨rfl, BF.out⟩
   | false =>
    rw [show prErr ⟨lo, hi, false⟩ = 0 from by rw [HP.out, he, hs]; simp, show prV lo hi false t 0 = .agg #[.int .i64 1, .string lo, .string hi, .bool false, .int .i64 t.n, .int .u64 t.a, .int .u64 t.b, .slice none 0 0] from by unfold prV; rw [if_pos rfl]]
    clear he HP HM
    go_enter Tryz.func46, Tryz.ntmps46
    go_wp2_with fail
    refine (CC.out _).mono ?_
    rintro e w1 ⟨rfl, b1⟩
    have B1 := aside (bthen BX.out b1)
    have KR1 := aside (blk_on KR0.out b1)
    have KZ1 := aside (blk_on KZ.out b1)
    clear b1 KR0 KZ BX
    obtain ⟨fb, hfb⟩ : ∃ fb, w.heap.size = fb := ⟨_, rfl⟩
    rw [hfb] at KR1 KZ1 ⊢
    have HLE : w.heap.size ≤ fb + 1 := by omega
    obtain ⟨r0, r1, r2⟩ := box3r KR1.out
    go_wp2_with fail
    refine (CF.out _ B1.out).mono ?_
    rintro e w2 ⟨rfl, b2⟩
    have B2 := aside (bthen B1.out b2)
    have KZ2 := aside (blk_on KZ1.out b2)
    have KR2 := aside (blk_on KR1.out b2)
    clear b2 KR1 KZ1 CF B1 r0 r1 r2 CC
    unfold tlV
    obtain ⟨r0, r1, r2⟩ := box3r KR2.out
    go_upto_region 7 with fail
    clear r0 r1 r2
    have KZ3 := aside (blk_on KZ2.out (bnew w2 (.cells #[.int .i64 t.n, .int .u64 t.a, .int .u64 t.b] 45)))
    have KR3 := aside (blk_on KR2.out (bnew w2 (.cells #[.int .i64 t.n, .int .u64 t.a, .int .u64 t.b] 45)))
    have KT3 := aside (heap_alloc_new w2 (.cells #[.int .i64 t.n, .int .u64 t.a, .int .u64 t.b] 45))
    have B3 := aside (bthen B2.out (bnew w2 (.cells #[.int .i64 t.n, .int .u64 t.a, .int .u64 t.b] 45)))
    clear KZ2 KR2 B2
    generalize w2.alloc (.cells #[.int .i64 t.n, .int .u64 t.a, .int .u64 t.b] 45) = W3 at *
    generalize w2.heap.size = tb2 at *
    obtain ⟨r0, r1, r2⟩ := box3r KR3.out
    obtain ⟨p0, p1, p2⟩ := box3r KT3.out
    obtain ⟨a0, a1, a2, a3, a4, a5, a6, a7, hkz⟩ : ∃ a0 a1 a2 a3 a4 a5 a6 a7 : Value, W3.heap[fb + 1]? = some (Obj.cells #[a0, a1, a2, a3, a4, a5, a6, a7] 47 (0, 0)) := ⟨_, _, _, _, _, _, _, _, KZ3.out⟩
    clear KZ3
    have KZ3 := aside hkz
    clear hkz
    obtain ⟨z0, z1, z2, z3, z4, z5, z6, z7⟩ := oct8 KZ3.out
    have y0 := frozen_of_row _ _ 0 _ _ KZ3.out
    have y1 := frozen_of_row _ _ 1 _ _ KZ3.out
    have y2 := frozen_of_row _ _ 2 _ _ KZ3.out
    have y3 := frozen_of_row _ _ 3 _ _ KZ3.out
    have y4 := frozen_of_row _ _ 4 _ _ KZ3.out
    have y5 := frozen_of_row _ _ 5 _ _ KZ3.out
    have y6 := frozen_of_row _ _ 6 _ _ KZ3.out
    have y7 := frozen_of_row _ _ 7 _ _ KZ3.out
    have KR := (set_in 7 (.slice none 0 0) (set_in 6 (.int .u64 t.b) (set_in 5 (.int .u64 t.a) (set_in 4 (.int .i64 t.n) (set_in 3 (.bool false) (set_in 2 (.string hi) (set_in 1 (.string lo) (set_in 0 (.int .i64 1) KZ3.out))))))))
    simp only [List.setIfInBounds_toArray, List.set_cons_zero, List.set_cons_succ] at KR
    have HKR := aside KR
    clear KR
    have KF := aside (((((((((Keeps.refl (fun x => x = fb + 1) W3).setCell (p := ⟨fb + 1, 0, none⟩) (fun _ => rfl) (.int .i64 1)).setCell (p := ⟨fb + 1, 1, none⟩) (fun _ => rfl) (.string lo)).setCell (p := ⟨fb + 1, 2, none⟩) (fun _ => rfl) (.string hi)).setCell (p := ⟨fb + 1, 3, none⟩) (fun _ => rfl) (.bool false)).setCell (p := ⟨fb + 1, 4, none⟩) (fun _ => rfl) (.int .i64 t.n)).setCell (p := ⟨fb + 1, 5, none⟩) (fun _ => rfl) (.int .u64 t.a)).setCell (p := ⟨fb + 1, 6, none⟩) (fun _ => rfl) (.int .u64 t.b)).setCell (p := ⟨fb + 1, 7, none⟩) (fun _ => rfl) (.slice none 0 0))
    have BF := aside (((((((((B3.out.setCell (p := ⟨fb + 1, 0, none⟩) HLE (.int .i64 1)).setCell (p := ⟨fb + 1, 1, none⟩) HLE (.string lo)).setCell (p := ⟨fb + 1, 2, none⟩) HLE (.string hi)).setCell (p := ⟨fb + 1, 3, none⟩) HLE (.bool false)).setCell (p := ⟨fb + 1, 4, none⟩) HLE (.int .i64 t.n)).setCell (p := ⟨fb + 1, 5, none⟩) HLE (.int .u64 t.a)).setCell (p := ⟨fb + 1, 6, none⟩) HLE (.int .u64 t.b)).setCell (p := ⟨fb + 1, 7, none⟩) HLE (.slice none 0 0)))
    go_wp2
    clear r0 r1 r2 p0 p1 p2
    obtain ⟨r0, r1, r2, r3, r4, r5, r6, r7⟩ := oct8 HKR.out
    exact bodyPost_ret (v := .tuple #[.agg #[.int .i64 1, .string lo, .string hi, .bool false, .int .i64 t.n, .int .u64 t.a, .int .u64 t.b, .slice none 0 0], .int .i64 0]) (by simp [results, Tryz.results46, go_sem, r0, r1, r2, r3, r4, r5, r6, r7]) rfl ⟨rfl, BF.out⟩
 ·have hb : (c == 0) = false := by simpa using h0
  rw [show prErr ⟨lo, hi, op⟩ = c from by rw [HP.out, if_pos h0], show prV lo hi op t c = .agg #[.int .i64 0, .string ⟨#[]⟩, .string ⟨#[]⟩, .bool false, .int .i64 0, .int .u64 0, .int .u64 0, .slice none 0 0] from by unfold prV; rw [if_neg h0]]
  clear HP HM CF
  go_enter Tryz.func46, Tryz.ntmps46
  go_wp2_with fail
  refine (CC.out _).mono ?_
  rintro e w1 ⟨rfl, b1⟩
  have B1 := aside (bthen BX.out b1)
  have KR1 := aside (blk_on KR0.out b1)
  have KZ1 := aside (blk_on KZ.out b1)
  clear b1 KR0 KZ BX
  obtain ⟨fb, hfb⟩ : ∃ fb, w.heap.size = fb := ⟨_, rfl⟩
  rw [hfb] at KR1 KZ1 ⊢
  have HLE : w.heap.size ≤ fb + 1 := by omega
  obtain ⟨r0, r1, r2⟩ := box3r KR1.out
  go_upto_region 3 with fail
  clear r0 r1 r2
  obtain ⟨a0, a1, a2, a3, a4, a5, a6, a7, hkz⟩ : ∃ a0 a1 a2 a3 a4 a5 a6 a7 : Value, w1.heap[fb + 1]? = some (Obj.cells #[a0, a1, a2, a3, a4, a5, a6, a7] 47 (0, 0)) := ⟨_, _, _, _, _, _, _, _, KZ1.out⟩
  clear KZ1
  have KZ1 := aside hkz
  clear hkz
  obtain ⟨z0, z1, z2, z3, z4, z5, z6, z7⟩ := oct8 KZ1.out
  have y0 := frozen_of_row _ _ 0 _ _ KZ1.out
  have y1 := frozen_of_row _ _ 1 _ _ KZ1.out
  have y2 := frozen_of_row _ _ 2 _ _ KZ1.out
  have y3 := frozen_of_row _ _ 3 _ _ KZ1.out
  have y4 := frozen_of_row _ _ 4 _ _ KZ1.out
  have y5 := frozen_of_row _ _ 5 _ _ KZ1.out
  have y6 := frozen_of_row _ _ 6 _ _ KZ1.out
  have y7 := frozen_of_row _ _ 7 _ _ KZ1.out
  have KR := (set_in 7 (.slice none 0 0) (set_in 6 (.int .u64 0) (set_in 5 (.int .u64 0) (set_in 4 (.int .i64 0) (set_in 3 (.bool false) (set_in 2 (.string ⟨#[]⟩) (set_in 1 (.string ⟨#[]⟩) (set_in 0 (.int .i64 0) KZ1.out))))))))
  simp only [List.setIfInBounds_toArray, List.set_cons_zero, List.set_cons_succ] at KR
  have HKR := aside KR
  clear KR
  have KF := aside (((((((((Keeps.refl (fun x => x = fb + 1) w1).setCell (p := ⟨fb + 1, 0, none⟩) (fun _ => rfl) (.int .i64 0)).setCell (p := ⟨fb + 1, 1, none⟩) (fun _ => rfl) (.string ⟨#[]⟩)).setCell (p := ⟨fb + 1, 2, none⟩) (fun _ => rfl) (.string ⟨#[]⟩)).setCell (p := ⟨fb + 1, 3, none⟩) (fun _ => rfl) (.bool false)).setCell (p := ⟨fb + 1, 4, none⟩) (fun _ => rfl) (.int .i64 0)).setCell (p := ⟨fb + 1, 5, none⟩) (fun _ => rfl) (.int .u64 0)).setCell (p := ⟨fb + 1, 6, none⟩) (fun _ => rfl) (.int .u64 0)).setCell (p := ⟨fb + 1, 7, none⟩) (fun _ => rfl) (.slice none 0 0))
  have BF := aside (((((((((B1.out.setCell (p := ⟨fb + 1, 0, none⟩) HLE (.int .i64 0)).setCell (p := ⟨fb + 1, 1, none⟩) HLE (.string ⟨#[]⟩)).setCell (p := ⟨fb + 1, 2, none⟩) HLE (.string ⟨#[]⟩)).setCell (p := ⟨fb + 1, 3, none⟩) HLE (.bool false)).setCell (p := ⟨fb + 1, 4, none⟩) HLE (.int .i64 0)).setCell (p := ⟨fb + 1, 5, none⟩) HLE (.int .u64 0)).setCell (p := ⟨fb + 1, 6, none⟩) HLE (.int .u64 0)).setCell (p := ⟨fb + 1, 7, none⟩) HLE (.slice none 0 0)))
  go_wp2
  obtain ⟨r0, r1, r2, r3, r4, r5, r6, r7⟩ := oct8 HKR.out
  exact bodyPost_ret (v := .tuple #[.agg #[.int .i64 0, .string ⟨#[]⟩, .string ⟨#[]⟩, .bool false, .int .i64 0, .int .u64 0, .int .u64 0, .slice none 0 0], .int .i64 c]) (by simp [results, Tryz.results46, go_sem, r0, r1, r2, r3, r4, r5, r6, r7]) rfl ⟨rfl, BF.out⟩
end Go.Proofs.YtpbkjffiohfkcaaGreatDoor
