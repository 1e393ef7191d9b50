/-
  The document's Print.
-/
import Derived.Test.YtpbkjffiohfkcaaGreatDoorBt31
namespace Go.Proofs.YtpbkjffiohfkcaaGreatDoor
open Go.RowKit
set_option linter.unusedVariables false
theorem emp_may {lo hi : ByteArray} {op : Bool} (h : Rg.chk ⟨lo, hi, op⟩ = 0) : Rg.emp ⟨lo, hi, op⟩ = (!op && lo.toList == hi.toList) := by
 unfold Rg.emp Rg.may
 rw [h]
 simp
set_option maxHeartbeats 6400000 in
set_option maxRecDepth 100000 in
theorem rprint_any (lo hi : ByteArray) (op : Bool) {w : World} {B db : Nat} {nd ck : Int} {l : List En} (h : DSt w B db nd ck l) (hm : MapL l) (hl : l.length ≤ 1000000) :
    Calls Tryz.prog 46 #[.pointer (some ⟨db, 0, none⟩), .agg #[.string lo, .string hi, .bool op]] w fun e w' => e = .returned (.tuple #[prV lo hi op (foldV lo hi op l) (prErr ⟨lo, hi, op⟩), .int .i64 (prErr ⟨lo, hi, op⟩)]) ∧ Below w.heap.size w w' := by
 obtain ⟨c, hc⟩ : ∃ c, Rg.chk ⟨lo, hi, op⟩ = c := ⟨_, rfl⟩
 have HP := aside (show prErr ⟨lo, hi, op⟩ = if c ≠ 0 then c else if Rg.emp ⟨lo, hi, op⟩ = true then 115 else 0 by unfold prErr; rw [hc])
 have HM := aside (show c = 0 → Rg.emp ⟨lo, hi, op⟩ = (!op && lo.toList == hi.toList) from fun e => emp_may (by rw [hc, e]))
 have CC := aside (fun W => checkRef_at hc W)
 have CF := aside (fun W (bb : Below w.heap.size w W) => rfoldS lo hi op (h.below bb) hm hl)
 rw [hc] at CF
 have BX := aside (bthen (bnew w (.cells #[.string lo, .string hi, .bool op] 40)) (bnew _ (.cells #[.int .i64 0, .string ⟨#[]⟩, .string ⟨#[]⟩, .bool false, .int .i64 0, .int .u64 0, .int .u64 0, .slice none 0 0] 47)))
 have KR0 := aside (blk_on (heap_alloc_new w (.cells #[.string lo, .string hi, .bool op] 40)) (bnew _ (.cells #[.int .i64 0, .string ⟨#[]⟩, .string ⟨#[]⟩, .bool false, .int .i64 0, .int .u64 0, .int .u64 0, .slice none 0 0] 47)))
 have KZ := aside (heap_alloc_new (w.alloc (.cells #[.string lo, .string hi, .bool op] 40)) (.cells #[.int .i64 0, .string ⟨#[]⟩, .string ⟨#[]⟩, .bool false, .int .i64 0, .int .u64 0, .int .u64 0, .slice none 0 0] 47))
 rw [World.size_alloc] at KZ
 generalize foldV lo hi op l = t at *
 clear h hm hl hc
 by_cases h0 : c = 0
 ·subst h0
  have he := HM.out rfl
  cases op with
  | true =>
   rw [show prErr ⟨lo, hi, true⟩ = 0 from by rw [HP.out, he]; simp, show prV lo hi true t 0 = .agg #[.int .i64 1, .string lo, .string hi, .bool true, .int .i64 t.n, .int .u64 t.a, .int .u64 t.b, .slice none 0 0] from by unfold prV; rw [if_pos rfl]]
   clear he HP HM
   go_enter Tryz.func46, Tryz.ntmps46
   go_wp2_with fail
   refine (CC.out _).mono ?_
   rintro e w1 ⟨rfl, b1⟩
   have B1 := aside (bthen BX.out b1)
   have KR1 := aside (blk_on KR0.out b1)
   have KZ1 := aside (blk_on KZ.out b1)
   clear b1 KR0 KZ BX
   obtain ⟨fb, hfb⟩ : ∃ fb, w.heap.size = fb := ⟨_, rfl⟩
   rw [hfb] at KR1 KZ1 ⊢
   have HLE : w.heap.size ≤ fb + 1 := by omega
   obtain ⟨r0, r1, r2⟩ := box3r KR1.out
   go_wp2_with fail
   refine (CF.out _ B1.out).mono ?_
   rintro e w2 ⟨rfl, b2⟩
   have B2 := aside (bthen B1.out b2)
   have KZ2 := aside (blk_on KZ1.out b2)
   have KR2 := aside (blk_on KR1.out b2)
   clear b2 KR1 KZ1 CF B1 r0 r1 r2 CC
   unfold tlV
   obtain ⟨r0, r1, r2⟩ := box3r KR2.out
   go_upto_region 7 with fail
   clear r0 r1 r2
   have KZ3 := aside (blk_on KZ2.out (bnew w2 (.cells #[.int .i64 t.n, .int .u64 t.a, .int .u64 t.b] 45)))
   have KR3 := aside (blk_on KR2.out (bnew w2 (.cells #[.int .i64 t.n, .int .u64 t.a, .int .u64 t.b] 45)))
   have KT3 := aside (heap_alloc_new w2 (.cells #[.int .i64 t.n, .int .u64 t.a, .int .u64 t.b] 45))
   have B3 := aside (bthen B2.out (bnew w2 (.cells #[.int .i64 t.n, .int .u64 t.a, .int .u64 t.b] 45)))
   clear KZ2 KR2 B2
   generalize w2.alloc (.cells #[.int .i64 t.n, .int .u64 t.a, .int .u64 t.b] 45) = W3 at *
   generalize w2.heap.size = tb2 at *
   obtain ⟨r0, r1, r2⟩ := box3r KR3.out
   obtain ⟨p0, p1, p2⟩ := box3r KT3.out
   obtain ⟨a0, a1, a2, a3, a4, a5, a6, a7, hkz⟩ : ∃ a0 a1 a2 a3 a4 a5 a6 a7 : Value, W3.heap[fb + 1]? = some (Obj.cells #[a0, a1, a2, a3, a4, a5, a6, a7] 47 (0, 0)) := ⟨_, _, _, _, _, _, _, _, KZ3.out⟩
   clear KZ3
   have KZ3 := aside hkz
   clear hkz
   obtain ⟨z0, z1, z2, z3, z4, z5, z6, z7⟩ := oct8 KZ3.out
   have y0 := frozen_of_row _ _ 0 _ _ KZ3.out
   have y1 := frozen_of_row _ _ 1 _ _ KZ3.out
   have y2 := frozen_of_row _ _ 2 _ _ KZ3.out
   have y3 := frozen_of_row _ _ 3 _ _ KZ3.out
   have y4 := frozen_of_row _ _ 4 _ _ KZ3.out
   have y5 := frozen_of_row _ _ 5 _ _ KZ3.out
   have y6 := frozen_of_row _ _ 6 _ _ KZ3.out
   have y7 := frozen_of_row _ _ 7 _ _ KZ3.out
   have KR := (set_in 7 (.slice none 0 0) (set_in 6 (.int .u64 t.b) (set_in 5 (.int .u64 t.a) (set_in 4 (.int .i64 t.n) (set_in 3 (.bool true) (set_in 2 (.string hi) (set_in 1 (.string lo) (set_in 0 (.int .i64 1) KZ3.out))))))))
   simp only [List.setIfInBounds_toArray, List.set_cons_zero, List.set_cons_succ] at KR
   have HKR := aside KR
   clear KR
   have KF := aside (((((((((Keeps.refl (fun x => x = fb + 1) W3).setCell (p := ⟨fb + 1, 0, none⟩) (fun _ => rfl) (.int .i64 1)).setCell (p := ⟨fb + 1, 1, none⟩) (fun _ => rfl) (.string lo)).setCell (p := ⟨fb + 1, 2, none⟩) (fun _ => rfl) (.string hi)).setCell (p := ⟨fb + 1, 3, none⟩) (fun _ => rfl) (.bool true)).setCell (p := ⟨fb + 1, 4, none⟩) (fun _ => rfl) (.int .i64 t.n)).setCell (p := ⟨fb + 1, 5, none⟩) (fun _ => rfl) (.int .u64 t.a)).setCell (p := ⟨fb + 1, 6, none⟩) (fun _ => rfl) (.int .u64 t.b)).setCell (p := ⟨fb + 1, 7, none⟩) (fun _ => rfl) (.slice none 0 0))
   have BF := aside (((((((((B3.out.setCell (p := ⟨fb + 1, 0, none⟩) HLE (.int .i64 1)).setCell (p := ⟨fb + 1, 1, none⟩) HLE (.string lo)).setCell (p := ⟨fb + 1, 2, none⟩) HLE (.string hi)).setCell (p := ⟨fb + 1, 3, none⟩) HLE (.bool true)).setCell (p := ⟨fb + 1, 4, none⟩) HLE (.int .i64 t.n)).setCell (p := ⟨fb + 1, 5, none⟩) HLE (.int .u64 t.a)).setCell (p := ⟨fb + 1, 6, none⟩) HLE (.int .u64 t.b)).setCell (p := ⟨fb + 1, 7, none⟩) HLE (.slice none 0 0)))
   go_wp2
   clear r0 r1 r2 p0 p1 p2
   obtain ⟨r0, r1, r2, r3, r4, r5, r6, r7⟩ := oct8 HKR.out
   exact bodyPost_ret (v := .tuple #[.agg #[.int .i64 1, .string lo, .string hi, .bool true, .int .i64 t.n, .int .u64 t.a, .int .u64 t.b, .slice none 0 0], .int .i64 0]) (by simp [results, Tryz.results46, go_sem, r0, r1, r2, r3, r4, r5, r6, r7]) rfl ⟨rfl, BF.out⟩
  | false =>
   cases hs : (lo.toList == hi.toList) with
   | true =>
    rw [show prErr ⟨lo, hi, false⟩ = 115 from by rw [HP.out, he, hs]; simp, show prV lo hi false t 115 = .agg #[.int .i64 0, .string ⟨#[]⟩, .string ⟨#[]⟩, .bool false, .int .i64 0, .int .u64 0, .int .u64 0, .slice none 0 0] from by unfold prV; rw [if_neg (by decide)]]
    clear he HP HM CF
    go_enter Tryz.func46, Tryz.ntmps46
    go_wp2_with fail
    refine (CC.out _).mono ?_
    rintro e w1 ⟨rfl, b1⟩
    have B1 := aside (bthen BX.out b1)
    have KR1 := aside (blk_on KR0.out b1)
    have KZ1 := aside (blk_on KZ.out b1)
    clear b1 KR0 KZ BX
    obtain ⟨fb, hfb⟩ : ∃ fb, w.heap.size = fb := ⟨_, rfl⟩
    rw [hfb] at KR1 KZ1 ⊢
    have HLE : w.heap.size ≤ fb + 1 := by omega
    obtain ⟨r0, r1, r2⟩ := box3r KR1.out
    go_upto_region 5 with fail
    clear r0 r1 r2
    obtain ⟨a0, a1, a2, a3, a4, a5, a6, a7, hkz⟩ : ∃ a0 a1 a2 a3 a4 a5 a6 a7 : Value, w1.heap[fb + 1]? = some (Obj.cells #[a0, a1, a2, a3, a4, a5, a6, a7] 47 (0, 0)) := ⟨_, _, _, _, _, _, _, _, KZ1.out⟩
    clear KZ1
    have KZ1 := aside hkz
    clear hkz
    obtain ⟨z0, z1, z2, z3, z4, z5, z6, z7⟩ := oct8 KZ1.out
    have y0 := frozen_of_row _ _ 0 _ _ KZ1.out
    have y1 := frozen_of_row _ _ 1 _ _ KZ1.out
    have y2 := frozen_of_row _ _ 2 _ _ KZ1.out
    have y3 := frozen_of_row _ _ 3 _ _ KZ1.out
    have y4 := frozen_of_row _ _ 4 _ _ KZ1.out
    have y5 := frozen_of_row _ _ 5 _ _ KZ1.out
    have y6 := frozen_of_row _ _ 6 _ _ KZ1.out
    have y7 := frozen_of_row _ _ 7 _ _ KZ1.out
    have KR := (set_in 7 (.slice none 0 0) (set_in 6 (.int .u64 0) (set_in 5 (.int .u64 0) (set_in 4 (.int .i64 0) (set_in 3 (.bool false) (set_in 2 (.string ⟨#[]⟩) (set_in 1 (.string ⟨#[]⟩) (set_in 0 (.int .i64 0) KZ1.out))))))))
    simp only [List.setIfInBounds_toArray, List.set_cons_zero, List.set_cons_succ] at KR
    have HKR := aside KR
    clear KR
    have KF := aside (((((((((Keeps.refl (fun x => x = fb + 1) w1).setCell (p := ⟨fb + 1, 0, none⟩) (fun _ => rfl) (.int .i64 0)).setCell (p := ⟨fb + 1, 1, none⟩) (fun _ => rfl) (.string ⟨#[]⟩)).setCell (p := ⟨fb + 1, 2, none⟩) (fun _ => rfl) (.string ⟨#[]⟩)).setCell (p := ⟨fb + 1, 3, none⟩) (fun _ => rfl) (.bool false)).setCell (p := ⟨fb + 1, 4, none⟩) (fun _ => rfl) (.int .i64 0)).setCell (p := ⟨fb + 1, 5, none⟩) (fun _ => rfl) (.int .u64 0)).setCell (p := ⟨fb + 1, 6, none⟩) (fun _ => rfl) (.int .u64 0)).setCell (p := ⟨fb + 1, 7, none⟩) (fun _ => rfl) (.slice none 0 0))
    have BF := aside (((((((((B1.out.setCell (p := ⟨fb + 1, 0, none⟩) HLE (.int .i64 0)).setCell (p := ⟨fb + 1, 1, none⟩) HLE (.string ⟨#[]⟩)).setCell (p := ⟨fb + 1, 2, none⟩) HLE (.string ⟨#[]⟩)).setCell (p := ⟨fb + 1, 3, none⟩) HLE (.bool false)).setCell (p := ⟨fb + 1, 4, none⟩) HLE (.int .i64 0)).setCell (p := ⟨fb + 1, 5, none⟩) HLE (.int .u64 0)).setCell (p := ⟨fb + 1, 6, none⟩) HLE (.int .u64 0)).setCell (p := ⟨fb + 1, 7, none⟩) HLE (.slice none 0 0)))
    go_wp2
    obtain ⟨r0, r1, r2, r3, r4, r5, r6, r7⟩ := oct8 HKR.out
    exact bodyPost_ret (v := .tuple #[.agg #[.int .i64 0, .string ⟨#[]⟩, .string ⟨#[]⟩, .bool false, .int .i64 0, .int .u64 0, .int .u64 0, .slice none 0 0], .int .i64 115]) (by simp [results, Tryz.results46, go_sem, r0, r1, r2, r3, r4, r5, r6, r7]) rfl ⟨rfl, BF.out⟩
   | false =>
    rw [show prErr ⟨lo, hi, false⟩ = 0 from by rw [HP.out, he, hs]; simp, show prV lo hi false t 0 = .agg #[.int .i64 1, .string lo, .string hi, .bool false, .int .i64 t.n, .int .u64 t.a, .int .u64 t.b, .slice none 0 0] from by unfold prV; rw [if_pos rfl]]
    clear he HP HM
    go_enter Tryz.func46, Tryz.ntmps46
    go_wp2_with fail
    refine (CC.out _).mono ?_
    rintro e w1 ⟨rfl, b1⟩
    have B1 := aside (bthen BX.out b1)
    have KR1 := aside (blk_on KR0.out b1)
    have KZ1 := aside (blk_on KZ.out b1)
    clear b1 KR0 KZ BX
    obtain ⟨fb, hfb⟩ : ∃ fb, w.heap.size = fb := ⟨_, rfl⟩
    rw [hfb] at KR1 KZ1 ⊢
    have HLE : w.heap.size ≤ fb + 1 := by omega
    obtain ⟨r0, r1, r2⟩ := box3r KR1.out
    go_wp2_with fail
    refine (CF.out _ B1.out).mono ?_
    rintro e w2 ⟨rfl, b2⟩
    have B2 := aside (bthen B1.out b2)
    have KZ2 := aside (blk_on KZ1.out b2)
    have KR2 := aside (blk_on KR1.out b2)
    clear b2 KR1 KZ1 CF B1 r0 r1 r2 CC
    unfold tlV
    obtain ⟨r0, r1, r2⟩ := box3r KR2.out
    go_upto_region 7 with fail
    clear r0 r1 r2
    have KZ3 := aside (blk_on KZ2.out (bnew w2 (.cells #[.int .i64 t.n, .int .u64 t.a, .int .u64 t.b] 45)))
    have KR3 := aside (blk_on KR2.out (bnew w2 (.cells #[.int .i64 t.n, .int .u64 t.a, .int .u64 t.b] 45)))
    have KT3 := aside (heap_alloc_new w2 (.cells #[.int .i64 t.n, .int .u64 t.a, .int .u64 t.b] 45))
    have B3 := aside (bthen B2.out (bnew w2 (.cells #[.int .i64 t.n, .int .u64 t.a, .int .u64 t.b] 45)))
    clear KZ2 KR2 B2
    generalize w2.alloc (.cells #[.int .i64 t.n, .int .u64 t.a, .int .u64 t.b] 45) = W3 at *
    generalize w2.heap.size = tb2 at *
    obtain ⟨r0, r1, r2⟩ := box3r KR3.out
    obtain ⟨p0, p1, p2⟩ := box3r KT3.out
    obtain ⟨a0, a1, a2, a3, a4, a5, a6, a7, hkz⟩ : ∃ a0 a1 a2 a3 a4 a5 a6 a7 : Value, W3.heap[fb + 1]? = some (Obj.cells #[a0, a1, a2, a3, a4, a5, a6, a7] 47 (0, 0)) := ⟨_, _, _, _, _, _, _, _, KZ3.out⟩
    clear KZ3
    have KZ3 := aside hkz
    clear hkz
    obtain ⟨z0, z1, z2, z3, z4, z5, z6, z7⟩ := oct8 KZ3.out
    have y0 := frozen_of_row _ _ 0 _ _ KZ3.out
    have y1 := frozen_of_row _ _ 1 _ _ KZ3.out
    have y2 := frozen_of_row _ _ 2 _ _ KZ3.out
    have y3 := frozen_of_row _ _ 3 _ _ KZ3.out
    have y4 := frozen_of_row _ _ 4 _ _ KZ3.out
    have y5 := frozen_of_row _ _ 5 _ _ KZ3.out
    have y6 := frozen_of_row _ _ 6 _ _ KZ3.out
    have y7 := frozen_of_row _ _ 7 _ _ KZ3.out
    have KR := (set_in 7 (.slice none 0 0) (set_in 6 (.int .u64 t.b) (set_in 5 (.int .u64 t.a) (set_in 4 (.int .i64 t.n) (set_in 3 (.bool false) (set_in 2 (.string hi) (set_in 1 (.string lo) (set_in 0 (.int .i64 1) KZ3.out))))))))
    simp only [List.setIfInBounds_toArray, List.set_cons_zero, List.set_cons_succ] at KR
    have HKR := aside KR
    clear KR
    have KF := aside (((((((((Keeps.refl (fun x => x = fb + 1) W3).setCell (p := ⟨fb + 1, 0, none⟩) (fun _ => rfl) (.int .i64 1)).setCell (p := ⟨fb + 1, 1, none⟩) (fun _ => rfl) (.string lo)).setCell (p := ⟨fb + 1, 2, none⟩) (fun _ => rfl) (.string hi)).setCell (p := ⟨fb + 1, 3, none⟩) (fun _ => rfl) (.bool false)).setCell (p := ⟨fb + 1, 4, none⟩) (fun _ => rfl) (.int .i64 t.n)).setCell (p := ⟨fb + 1, 5, none⟩) (fun _ => rfl) (.int .u64 t.a)).setCell (p := ⟨fb + 1, 6, none⟩) (fun _ => rfl) (.int .u64 t.b)).setCell (p := ⟨fb + 1, 7, none⟩) (fun _ => rfl) (.slice none 0 0))
    have BF := aside (((((((((B3.out.setCell (p := ⟨fb + 1, 0, none⟩) HLE (.int .i64 1)).setCell (p := ⟨fb + 1, 1, none⟩) HLE (.string lo)).setCell (p := ⟨fb + 1, 2, none⟩) HLE (.string hi)).setCell (p := ⟨fb + 1, 3, none⟩) HLE (.bool false)).setCell (p := ⟨fb + 1, 4, none⟩) HLE (.int .i64 t.n)).setCell (p := ⟨fb + 1, 5, none⟩) HLE (.int .u64 t.a)).setCell (p := ⟨fb + 1, 6, none⟩) HLE (.int .u64 t.b)).setCell (p := ⟨fb + 1, 7, none⟩) HLE (.slice none 0 0)))
    go_wp2
    clear r0 r1 r2 p0 p1 p2
    obtain ⟨r0, r1, r2, r3, r4, r5, r6, r7⟩ := oct8 HKR.out
    exact bodyPost_ret (v := .tuple #[.agg #[.int .i64 1, .string lo, .string hi, .bool false, .int .i64 t.n, .int .u64 t.a, .int .u64 t.b, .slice none 0 0], .int .i64 0]) (by simp [results, Tryz.results46, go_sem, r0, r1, r2, r3, r4, r5, r6, r7]) rfl ⟨rfl, BF.out⟩
 ·have hb : (c == 0) = false := by simpa using h0
  rw [show prErr ⟨lo, hi, op⟩ = c from by rw [HP.out, if_pos h0], show prV lo hi op t c = .agg #[.int .i64 0, .string ⟨#[]⟩, .string ⟨#[]⟩, .bool false, .int .i64 0, .int .u64 0, .int .u64 0, .slice none 0 0] from by unfold prV; rw [if_neg h0]]
  clear HP HM CF
  go_enter Tryz.func46, Tryz.ntmps46
  go_wp2_with fail
  refine (CC.out _).mono ?_
  rintro e w1 ⟨rfl, b1⟩
  have B1 := aside (bthen BX.out b1)
  have KR1 := aside (blk_on KR0.out b1)
  have KZ1 := aside (blk_on KZ.out b1)
  clear b1 KR0 KZ BX
  obtain ⟨fb, hfb⟩ : ∃ fb, w.heap.size = fb := ⟨_, rfl⟩
  rw [hfb] at KR1 KZ1 ⊢
  have HLE : w.heap.size ≤ fb + 1 := by omega
  obtain ⟨r0, r1, r2⟩ := box3r KR1.out
  go_upto_region 3 with fail
  clear r0 r1 r2
  obtain ⟨a0, a1, a2, a3, a4, a5, a6, a7, hkz⟩ : ∃ a0 a1 a2 a3 a4 a5 a6 a7 : Value, w1.heap[fb + 1]? = some (Obj.cells #[a0, a1, a2, a3, a4, a5, a6, a7] 47 (0, 0)) := ⟨_, _, _, _, _, _, _, _, KZ1.out⟩
  clear KZ1
  have KZ1 := aside hkz
  clear hkz
  obtain ⟨z0, z1, z2, z3, z4, z5, z6, z7⟩ := oct8 KZ1.out
  have y0 := frozen_of_row _ _ 0 _ _ KZ1.out
  have y1 := frozen_of_row _ _ 1 _ _ KZ1.out
  have y2 := frozen_of_row _ _ 2 _ _ KZ1.out
  have y3 := frozen_of_row _ _ 3 _ _ KZ1.out
  have y4 := frozen_of_row _ _ 4 _ _ KZ1.out
  have y5 := frozen_of_row _ _ 5 _ _ KZ1.out
  have y6 := frozen_of_row _ _ 6 _ _ KZ1.out
  have y7 := frozen_of_row _ _ 7 _ _ KZ1.out
  have KR := (set_in 7 (.slice none 0 0) (set_in 6 (.int .u64 0) (set_in 5 (.int .u64 0) (set_in 4 (.int .i64 0) (set_in 3 (.bool false) (set_in 2 (.string ⟨#[]⟩) (set_in 1 (.string ⟨#[]⟩) (set_in 0 (.int .i64 0) KZ1.out))))))))
  simp only [List.setIfInBounds_toArray, List.set_cons_zero, List.set_cons_succ] at KR
  have HKR := aside KR
  clear KR
  have KF := aside (((((((((Keeps.refl (fun x => x = fb + 1) w1).setCell (p := ⟨fb + 1, 0, none⟩) (fun _ => rfl) (.int .i64 0)).setCell (p := ⟨fb + 1, 1, none⟩) (fun _ => rfl) (.string ⟨#[]⟩)).setCell (p := ⟨fb + 1, 2, none⟩) (fun _ => rfl) (.string ⟨#[]⟩)).setCell (p := ⟨fb + 1, 3, none⟩) (fun _ => rfl) (.bool false)).setCell (p := ⟨fb + 1, 4, none⟩) (fun _ => rfl) (.int .i64 0)).setCell (p := ⟨fb + 1, 5, none⟩) (fun _ => rfl) (.int .u64 0)).setCell (p := ⟨fb + 1, 6, none⟩) (fun _ => rfl) (.int .u64 0)).setCell (p := ⟨fb + 1, 7, none⟩) (fun _ => rfl) (.slice none 0 0))
  have BF := aside (((((((((B1.out.setCell (p := ⟨fb + 1, 0, none⟩) HLE (.int .i64 0)).setCell (p := ⟨fb + 1, 1, none⟩) HLE (.string ⟨#[]⟩)).setCell (p := ⟨fb + 1, 2, none⟩) HLE (.string ⟨#[]⟩)).setCell (p := ⟨fb + 1, 3, none⟩) HLE (.bool false)).setCell (p := ⟨fb + 1, 4, none⟩) HLE (.int .i64 0)).setCell (p := ⟨fb + 1, 5, none⟩) HLE (.int .u64 0)).setCell (p := ⟨fb + 1, 6, none⟩) HLE (.int .u64 0)).setCell (p := ⟨fb + 1, 7, none⟩) HLE (.slice none 0 0)))
  go_wp2
  obtain ⟨r0, r1, r2, r3, r4, r5, r6, r7⟩ := oct8 HKR.out
  exact bodyPost_ret (v := .tuple #[.agg #[.int .i64 0, .string ⟨#[]⟩, .string ⟨#[]⟩, .bool false, .int .i64 0, .int .u64 0, .int .u64 0, .slice none 0 0], .int .i64 c]) (by simp [results, Tryz.results46, go_sem, r0, r1, r2, r3, r4, r5, r6, r7]) rfl ⟨rfl, BF.out⟩
end Go.Proofs.YtpbkjffiohfkcaaGreatDoor
