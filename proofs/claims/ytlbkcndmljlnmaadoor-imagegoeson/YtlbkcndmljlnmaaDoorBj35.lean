/-
  A step at two stores that hold the same.
-/
import Derived.Test.YtlbkcndmljlnmaaDoorBj34
import Derived.Deep.CutBlock
import Derived.Deep.DeepCutAuto
namespace Go.Proofs.YtlbkcndmljlnmaaDoor
open Go.RowKit
set_option linter.unusedVariables false
/-- Two stores, apart, that hold the same. -/
structure Twi (sa ga ta sb gb tb : Nat) (nd ck : Int) (Ls : List En) (X : World) : Prop where
  a : Sto X sa ga ta nd ck Ls
  b : Sto X sb gb tb nd ck Ls
  n1 : sa ≠ sb
  n2 : ga ≠ gb
  n3 : ta ≠ tb
  L : Lanes X
theorem Twi.on {sa ga ta sb gb tb : Nat} {nd ck : Int} {Ls : List En} {X Y : World} (h : Twi sa ga ta sb gb tb nd ck Ls X) (b : Below X.heap.size X Y) : Twi sa ga ta sb gb tb nd ck Ls Y := ⟨h.a.below b, h.b.below b, h.n1, h.n2, h.n3, h.L.keep b⟩
/-- Six blocks, none below B. -/
def SixB (B sa ga ta sb gb tb : Nat) : Prop := (B ≤ sa ∧ B ≤ ga ∧ B ≤ ta) ∧ B ≤ sb ∧ B ≤ gb ∧ B ≤ tb
theorem belOf {B sb g tb : Nat} {X Y : World} (h : B ≤ X.heap.size) (b : B ≤ sb ∧ B ≤ g ∧ B ≤ tb) (k : Keeps (Of sb g tb) X Y) : Below B X Y :=
  k.below h (fun i hi e => by unfold Of at e; omega)
set_option maxHeartbeats 6400000 in
set_option maxRecDepth 100000 in
theorem does10_any {w : World} {B sa ga ta sb gb tb : Nat} {nd ck : Int} {Ls : List En} (kind : Int) (key val : ByteArray) (t : En) (lo hi : ByteArray) (op : Bool) (h : Twi sa ga ta sb gb tb nd ck Ls w) (hO : LdOk nd ck Ls) (hx : SixB B sa ga ta sb gb tb) (hB : B ≤ w.heap.size) :
    Calls Tryd.prog 19 #[.pointer (some ⟨sa, 0, none⟩), .pointer (some ⟨sb, 0, none⟩), .agg #[.int .i64 kind, .string key, .string val, .string t.k, .int .i64 t.c, .int .i64 t.n, .string t.v, .bool t.d, .string lo, .string hi, .bool op]] w fun e w' => e = .returned (.bool true) ∧ Below B w w' ∧ ∃ ck' Ls', LdOk nd ck' Ls' ∧ Twi sa ga ta sb gb tb nd ck' Ls' w' := by
  have NB := bnew w (.cells #[.int .i64 kind, .string key, .string val, .string t.k, .int .i64 t.c, .int .i64 t.n, .string t.v, .bool t.d, .string lo, .string hi, .bool op] 53)
  have HT := aside (h.on NB)
  have HO := aside hO
  have HX := aside hx
  have K0 := aside (heap_alloc_new w (.cells #[.int .i64 kind, .string key, .string val, .string t.k, .int .i64 t.c, .int .i64 t.n, .string t.v, .bool t.d, .string lo, .string hi, .bool op] 53))
  have B0 := aside (NB.mono hB)
  have HBW := aside (Nat.le_trans hB NB.size)
  have hl1 : Ls.length ≤ 1000000 := by have := hO.len; omega
  obtain ⟨bx, hbx⟩ : ∃ bx, w.heap.size = bx := ⟨_, rfl⟩
  rw [hbx] at K0
  obtain ⟨w0, hw0⟩ : ∃ w0, w.alloc (.cells #[.int .i64 kind, .string key, .string val, .string t.k, .int .i64 t.c, .int .i64 t.n, .string t.v, .bool t.d, .string lo, .string hi, .bool op] 53) = w0 := ⟨_, rfl⟩
  rw [hw0] at K0 B0 HT HBW
  have f0 : w0.cell? ⟨bx, 0, none⟩ = some (.int .i64 kind) := by rw [cell_of_row _ _ 0 _ _ _ K0.out]; rfl
  have f1 : w0.cell? ⟨bx, 1, none⟩ = some (.string key) := by rw [cell_of_row _ _ 1 _ _ _ K0.out]; rfl
  have f2 : w0.cell? ⟨bx, 2, none⟩ = some (.string val) := by rw [cell_of_row _ _ 2 _ _ _ K0.out]; rfl
  have f3 : w0.cell? ⟨bx, 3, none⟩ = some (.string t.k) := by rw [cell_of_row _ _ 3 _ _ _ K0.out]; rfl
  have f4 : w0.cell? ⟨bx, 4, none⟩ = some (.int .i64 t.c) := by rw [cell_of_row _ _ 4 _ _ _ K0.out]; rfl
  have f5 : w0.cell? ⟨bx, 5, none⟩ = some (.int .i64 t.n) := by rw [cell_of_row _ _ 5 _ _ _ K0.out]; rfl
  have f6 : w0.cell? ⟨bx, 6, none⟩ = some (.string t.v) := by rw [cell_of_row _ _ 6 _ _ _ K0.out]; rfl
  have f7 : w0.cell? ⟨bx, 7, none⟩ = some (.bool t.d) := by rw [cell_of_row _ _ 7 _ _ _ K0.out]; rfl
  have f8 : w0.cell? ⟨bx, 8, none⟩ = some (.string lo) := by rw [cell_of_row _ _ 8 _ _ _ K0.out]; rfl
  have f9 : w0.cell? ⟨bx, 9, none⟩ = some (.string hi) := by rw [cell_of_row _ _ 9 _ _ _ K0.out]; rfl
  have f10 : w0.cell? ⟨bx, 10, none⟩ = some (.bool op) := by rw [cell_of_row _ _ 10 _ _ _ K0.out]; rfl
  clear NB h hO hx hB
  go_enter Tryd.func19, Tryd.ntmps19
  go_wp2_with fail
  refine (among10 kind 4 w0 (by decide) (by decide)).mono ?_
  rintro e w1 ⟨k, rfl, hk, e1⟩
  obtain rfl : w0 = w1 := e1.symm
  clear hw0 hbx
  rcases (show k = 0 ∨ k = 1 ∨ k = 2 ∨ k = 3 from by omega) with rfl | rfl | rfl | rfl
  · clear hk
    go_wp2_with fail
    refine (qput key val HT.out.a HT.out.L hl1).mono ?_
    rintro e w2 ⟨c, m, er, rfl, he, k2, L2, hs⟩
    have HE1 := aside he
    clear he
    have KV := aside (heap_alloc_new w2 (.cells #[.int .i64 c, .int .i64 m] 42))
    have NB := bnew w2 (.cells #[.int .i64 c, .int .i64 m] 42)
    have SB := aside ((HT.out.b.keep HT.out.a k2 (fun e => HT.out.n1 e.symm) (fun e => HT.out.n2 e.symm) (fun e => HT.out.n3 e.symm)).below NB)
    have LL := aside (L2.keep NB)
    have K2 := aside (blk_on (blk_keep K0.out k2 (HT.out.a.not K0.out (by decide) (by decide) (by decide))) NB)
    have BB := aside ((belOf HBW.out HX.out.1 k2).trans (NB.mono (Nat.le_trans HBW.out k2.size)))
    have HS := aside hs
    clear f0 f1 f2 f3 f4 f5 f6 f7 f8 f9 f10 hs k2 L2
    have f1 : (w2.alloc (.cells #[.int .i64 c, .int .i64 m] 42)).cell? ⟨bx, 1, none⟩ = some (.string key) := by rw [cell_of_row _ _ 1 _ _ _ K2.out]; rfl
    have f2 : (w2.alloc (.cells #[.int .i64 c, .int .i64 m] 42)).cell? ⟨bx, 2, none⟩ = some (.string val) := by rw [cell_of_row _ _ 2 _ _ _ K2.out]; rfl
    have NBW := aside (Nat.le_trans HBW.out (Nat.le_trans (BB.out.size) (Nat.le_refl _)))
    obtain ⟨x7, hx7⟩ : ∃ x7, w2.heap.size = x7 := ⟨_, rfl⟩
    rw [hx7] at KV
    go_wp2_with fail
    refine (qput key val SB.out LL.out hl1).mono ?_
    rintro e w4 ⟨c', m', er', rfl, he', k4, L4, hs'⟩
    obtain rfl : er = er' := HE1.out.trans he'.symm
    clear he'
    have KW := aside (heap_alloc_new w4 (.cells #[.int .i64 c', .int .i64 m'] 42))
    have NB2 := bnew w4 (.cells #[.int .i64 c', .int .i64 m'] 42)
    replace KV := aside (blk_on (blk_keep KV.out k4 (SB.out.not KV.out (by decide) (by decide) (by decide))) NB2)
    have BZ := aside (B0.out.trans (BB.out.trans ((belOf (Nat.le_trans HBW.out BB.out.size) HX.out.2 k4).trans (NB2.mono (Nat.le_trans (Nat.le_trans HBW.out BB.out.size) k4.size)))))
    have L5 := aside (L4.keep NB2)
    have HA5 := aside (fun (ck' : Int) (Ls' : List En) (hA : Sto w2 sa ga ta nd ck' Ls') => ((hA.below NB).keep SB.out k4 HT.out.n1 HT.out.n2 HT.out.n3).below NB2)
    have HB5 := aside (fun (ck' : Int) (Ls' : List En) (hB : Sto w4 sb gb tb nd ck' Ls') => hB.below NB2)
    clear NB NB2 k4 L4
    obtain ⟨x9, hx9⟩ : ∃ x9, w4.heap.size = x9 := ⟨_, rfl⟩
    rw [hx9] at KW
    rcases HS.out with ⟨h0, rfl, hm, sA⟩ | ⟨h0, rfl, hm, sA⟩ <;> rcases hs' with ⟨h1, rfl, hm', hB0⟩ | ⟨h1, rfl, hm', hB0⟩
    · (subst hm; subst hm')
      have hVQ : ∀ w, (binOp .eql 42 (.agg #[.int .i64 0, .int .i64 0]) (.agg #[.int .i64 0, .int .i64 0])).run Tryd.prog w = .ok (.bool true) w := fun w => by rw [verq_run]; simp
      have v0 : (w4.alloc (.cells #[.int .i64 0, .int .i64 0] 42)).cell? ⟨x7, 0, none⟩ = some (.int .i64 0) := by rw [cell_of_row _ _ 0 _ _ _ KV.out]; rfl
      have v1 : (w4.alloc (.cells #[.int .i64 0, .int .i64 0] 42)).cell? ⟨x7, 1, none⟩ = some (.int .i64 0) := by rw [cell_of_row _ _ 1 _ _ _ KV.out]; rfl
      have u0 : (w4.alloc (.cells #[.int .i64 0, .int .i64 0] 42)).cell? ⟨x9, 0, none⟩ = some (.int .i64 0) := by rw [cell_of_row _ _ 0 _ _ _ KW.out]; rfl
      have u1 : (w4.alloc (.cells #[.int .i64 0, .int .i64 0] 42)).cell? ⟨x9, 1, none⟩ = some (.int .i64 0) := by rw [cell_of_row _ _ 1 _ _ _ KW.out]; rfl
      have FIN := aside (show LdOk nd (ck) (Ls) ∧ Twi sa ga ta sb gb tb nd (ck) (Ls) _ from ⟨HO.out, HA5.out _ _ sA, HB5.out _ _ hB0, HT.out.n1, HT.out.n2, HT.out.n3, L5.out⟩)
      clear sA hB0
      go_wp2
      go_ret
      exact ⟨rfl, BZ.out, _, _, FIN.out⟩
    · exact absurd h1 h0
    · exact absurd h0 h1
    · (obtain rfl : nd = m := hm.symm); (obtain rfl : nd = m' := hm'.symm)
      have hVQ : ∀ w, (binOp .eql 42 (.agg #[.int .i64 (ck + 1), .int .i64 nd]) (.agg #[.int .i64 (ck + 1), .int .i64 nd])).run Tryd.prog w = .ok (.bool true) w := fun w => by rw [verq_run]; simp
      have v0 : (w4.alloc (.cells #[.int .i64 (ck + 1), .int .i64 nd] 42)).cell? ⟨x7, 0, none⟩ = some (.int .i64 (ck + 1)) := by rw [cell_of_row _ _ 0 _ _ _ KV.out]; rfl
      have v1 : (w4.alloc (.cells #[.int .i64 (ck + 1), .int .i64 nd] 42)).cell? ⟨x7, 1, none⟩ = some (.int .i64 nd) := by rw [cell_of_row _ _ 1 _ _ _ KV.out]; rfl
      have u0 : (w4.alloc (.cells #[.int .i64 (ck + 1), .int .i64 nd] 42)).cell? ⟨x9, 0, none⟩ = some (.int .i64 (ck + 1)) := by rw [cell_of_row _ _ 0 _ _ _ KW.out]; rfl
      have u1 : (w4.alloc (.cells #[.int .i64 (ck + 1), .int .i64 nd] 42)).cell? ⟨x9, 1, none⟩ = some (.int .i64 nd) := by rw [cell_of_row _ _ 1 _ _ _ KW.out]; rfl
      have FIN := aside (show LdOk nd (ck + 1) (insE (wrEn key val false nd ck) Ls) ∧ Twi sa ga ta sb gb tb nd (ck + 1) (insE (wrEn key val false nd ck) Ls) _ from ⟨put_okI HO.out rfl (HE1.out.symm.trans h0), HA5.out _ _ sA, HB5.out _ _ hB0, HT.out.n1, HT.out.n2, HT.out.n3, L5.out⟩)
      clear sA hB0
      go_wp2
      go_ret
      exact ⟨rfl, BZ.out, _, _, FIN.out⟩
  · clear hk
    go_wp2_with fail
    refine (qdel key HT.out.a HT.out.L hl1).mono ?_
    rintro e w2 ⟨c, m, er, rfl, he, k2, L2, hs⟩
    have HE1 := aside he
    clear he
    have KV := aside (heap_alloc_new w2 (.cells #[.int .i64 c, .int .i64 m] 42))
    have NB := bnew w2 (.cells #[.int .i64 c, .int .i64 m] 42)
    have SB := aside ((HT.out.b.keep HT.out.a k2 (fun e => HT.out.n1 e.symm) (fun e => HT.out.n2 e.symm) (fun e => HT.out.n3 e.symm)).below NB)
    have LL := aside (L2.keep NB)
    have K2 := aside (blk_on (blk_keep K0.out k2 (HT.out.a.not K0.out (by decide) (by decide) (by decide))) NB)
    have BB := aside ((belOf HBW.out HX.out.1 k2).trans (NB.mono (Nat.le_trans HBW.out k2.size)))
    have HS := aside hs
    clear f0 f1 f2 f3 f4 f5 f6 f7 f8 f9 f10 hs k2 L2
    have f1 : (w2.alloc (.cells #[.int .i64 c, .int .i64 m] 42)).cell? ⟨bx, 1, none⟩ = some (.string key) := by rw [cell_of_row _ _ 1 _ _ _ K2.out]; rfl
    have NBW := aside (Nat.le_trans HBW.out (Nat.le_trans (BB.out.size) (Nat.le_refl _)))
    obtain ⟨x7, hx7⟩ : ∃ x7, w2.heap.size = x7 := ⟨_, rfl⟩
    rw [hx7] at KV
    go_wp2_with fail
    refine (qdel key SB.out LL.out hl1).mono ?_
    rintro e w4 ⟨c', m', er', rfl, he', k4, L4, hs'⟩
    obtain rfl : er = er' := HE1.out.trans he'.symm
    clear he'
    have KW := aside (heap_alloc_new w4 (.cells #[.int .i64 c', .int .i64 m'] 42))
    have NB2 := bnew w4 (.cells #[.int .i64 c', .int .i64 m'] 42)
    replace KV := aside (blk_on (blk_keep KV.out k4 (SB.out.not KV.out (by decide) (by decide) (by decide))) NB2)
    have BZ := aside (B0.out.trans (BB.out.trans ((belOf (Nat.le_trans HBW.out BB.out.size) HX.out.2 k4).trans (NB2.mono (Nat.le_trans (Nat.le_trans HBW.out BB.out.size) k4.size)))))
    have L5 := aside (L4.keep NB2)
    have HA5 := aside (fun (ck' : Int) (Ls' : List En) (hA : Sto w2 sa ga ta nd ck' Ls') => ((hA.below NB).keep SB.out k4 HT.out.n1 HT.out.n2 HT.out.n3).below NB2)
    have HB5 := aside (fun (ck' : Int) (Ls' : List En) (hB : Sto w4 sb gb tb nd ck' Ls') => hB.below NB2)
    clear NB NB2 k4 L4
    obtain ⟨x9, hx9⟩ : ∃ x9, w4.heap.size = x9 := ⟨_, rfl⟩
    rw [hx9] at KW
    rcases HS.out with ⟨h0, rfl, hm, sA⟩ | ⟨h0, rfl, hm, sA⟩ <;> rcases hs' with ⟨h1, rfl, hm', hB0⟩ | ⟨h1, rfl, hm', hB0⟩
    · (subst hm; subst hm')
      have hVQ : ∀ w, (binOp .eql 42 (.agg #[.int .i64 0, .int .i64 0]) (.agg #[.int .i64 0, .int .i64 0])).run Tryd.prog w = .ok (.bool true) w := fun w => by rw [verq_run]; simp
      have v0 : (w4.alloc (.cells #[.int .i64 0, .int .i64 0] 42)).cell? ⟨x7, 0, none⟩ = some (.int .i64 0) := by rw [cell_of_row _ _ 0 _ _ _ KV.out]; rfl
      have v1 : (w4.alloc (.cells #[.int .i64 0, .int .i64 0] 42)).cell? ⟨x7, 1, none⟩ = some (.int .i64 0) := by rw [cell_of_row _ _ 1 _ _ _ KV.out]; rfl
      have u0 : (w4.alloc (.cells #[.int .i64 0, .int .i64 0] 42)).cell? ⟨x9, 0, none⟩ = some (.int .i64 0) := by rw [cell_of_row _ _ 0 _ _ _ KW.out]; rfl
      have u1 : (w4.alloc (.cells #[.int .i64 0, .int .i64 0] 42)).cell? ⟨x9, 1, none⟩ = some (.int .i64 0) := by rw [cell_of_row _ _ 1 _ _ _ KW.out]; rfl
      have FIN := aside (show LdOk nd (ck) (Ls) ∧ Twi sa ga ta sb gb tb nd (ck) (Ls) _ from ⟨HO.out, HA5.out _ _ sA, HB5.out _ _ hB0, HT.out.n1, HT.out.n2, HT.out.n3, L5.out⟩)
      clear sA hB0
      go_wp2
      go_ret
      exact ⟨rfl, BZ.out, _, _, FIN.out⟩
    · exact absurd h1 h0
    · exact absurd h0 h1
    · (obtain rfl : nd = m := hm.symm); (obtain rfl : nd = m' := hm'.symm)
      have hVQ : ∀ w, (binOp .eql 42 (.agg #[.int .i64 (ck + 1), .int .i64 nd]) (.agg #[.int .i64 (ck + 1), .int .i64 nd])).run Tryd.prog w = .ok (.bool true) w := fun w => by rw [verq_run]; simp
      have v0 : (w4.alloc (.cells #[.int .i64 (ck + 1), .int .i64 nd] 42)).cell? ⟨x7, 0, none⟩ = some (.int .i64 (ck + 1)) := by rw [cell_of_row _ _ 0 _ _ _ KV.out]; rfl
      have v1 : (w4.alloc (.cells #[.int .i64 (ck + 1), .int .i64 nd] 42)).cell? ⟨x7, 1, none⟩ = some (.int .i64 nd) := by rw [cell_of_row _ _ 1 _ _ _ KV.out]; rfl
      have u0 : (w4.alloc (.cells #[.int .i64 (ck + 1), .int .i64 nd] 42)).cell? ⟨x9, 0, none⟩ = some (.int .i64 (ck + 1)) := by rw [cell_of_row _ _ 0 _ _ _ KW.out]; rfl
      have u1 : (w4.alloc (.cells #[.int .i64 (ck + 1), .int .i64 nd] 42)).cell? ⟨x9, 1, none⟩ = some (.int .i64 nd) := by rw [cell_of_row _ _ 1 _ _ _ KW.out]; rfl
      have FIN := aside (show LdOk nd (ck + 1) (insE (wrEn key ⟨#[]⟩ true nd ck) Ls) ∧ Twi sa ga ta sb gb tb nd (ck + 1) (insE (wrEn key ⟨#[]⟩ true nd ck) Ls) _ from ⟨put_okI HO.out (by kernel_rfl) (HE1.out.symm.trans h0), HA5.out _ _ sA, HB5.out _ _ hB0, HT.out.n1, HT.out.n2, HT.out.n3, L5.out⟩)
      clear sA hB0
      go_wp2
      go_ret
      exact ⟨rfl, BZ.out, _, _, FIN.out⟩
  · clear hk
    go_wp2_with fail
    refine (qtake t HT.out.a HT.out.L hl1).mono ?_
    rintro e w2 ⟨rfl, k2, L2, hs⟩
    have SB := aside (HT.out.b.keep HT.out.a k2 (fun e => HT.out.n1 e.symm) (fun e => HT.out.n2 e.symm) (fun e => HT.out.n3 e.symm))
    have LL := aside L2
    have K2 := aside (blk_keep K0.out k2 (HT.out.a.not K0.out (by decide) (by decide) (by decide)))
    have BB := aside (belOf HBW.out HX.out.1 k2)
    have HS := aside hs
    clear f0 f1 f2 f3 f4 f5 f6 f7 f8 f9 f10 hs k2 L2
    have f3 : w2.cell? ⟨bx, 3, none⟩ = some (.string t.k) := by rw [cell_of_row _ _ 3 _ _ _ K2.out]; rfl
    have f4 : w2.cell? ⟨bx, 4, none⟩ = some (.int .i64 t.c) := by rw [cell_of_row _ _ 4 _ _ _ K2.out]; rfl
    have f5 : w2.cell? ⟨bx, 5, none⟩ = some (.int .i64 t.n) := by rw [cell_of_row _ _ 5 _ _ _ K2.out]; rfl
    have f6 : w2.cell? ⟨bx, 6, none⟩ = some (.string t.v) := by rw [cell_of_row _ _ 6 _ _ _ K2.out]; rfl
    have f7 : w2.cell? ⟨bx, 7, none⟩ = some (.bool t.d) := by rw [cell_of_row _ _ 7 _ _ _ K2.out]; rfl
    go_wp2_with fail
    refine (qtake t SB.out LL.out hl1).mono ?_
    rintro e w4 ⟨rfl, k4, L4, hs'⟩
    have BZ := aside (B0.out.trans (BB.out.trans (belOf (Nat.le_trans HBW.out BB.out.size) HX.out.2 k4)))
    have FIN := aside (show ∃ ck' Ls', LdOk nd ck' Ls' ∧ Twi sa ga ta sb gb tb nd ck' Ls' w4 from by
      rcases HS.out with ⟨h0, sA⟩ | ⟨h0, sA⟩ <;> rcases hs' with ⟨h1, sB⟩ | ⟨h1, sB⟩
      · exact ⟨_, _, HO.out, sA.keep SB.out k4 HT.out.n1 HT.out.n2 HT.out.n3, sB, HT.out.n1, HT.out.n2, HT.out.n3, L4⟩
      · rw [h0] at h1; cases h1
      · rw [h0] at h1; cases h1
      · exact ⟨_, _, take_okI HO.out h0, sA.keep SB.out k4 HT.out.n1 HT.out.n2 HT.out.n3, sB, HT.out.n1, HT.out.n2, HT.out.n3, L4⟩)
    clear hs' k4 L4
    go_wp2
    go_ret
    exact ⟨rfl, BZ.out, FIN.out⟩
  · clear hk
    obtain ⟨fv, hfv⟩ : ∃ fv, foldV lo hi op Ls = fv := ⟨_, rfl⟩
    have CF := fun (w : World) (sb g tb : Nat) (nd ck : Int) (h : Sto w sb g tb nd ck Ls) (L : Lanes w) (hl : Ls.length ≤ 1000000) => qfold lo hi op h L hl
    rw [hfv] at CF
    replace CF := aside CF
    go_wp2_with fail
    refine (CF.out _ _ _ _ _ _ HT.out.a HT.out.L hl1).mono ?_
    rintro e w2 ⟨rfl, hs, k2, L2⟩
    have KV := aside (heap_alloc_new w2 (.cells #[.int .i64 fv.n, .int .u64 fv.a, .int .u64 fv.b] 97))
    have NB := bnew w2 (.cells #[.int .i64 fv.n, .int .u64 fv.a, .int .u64 fv.b] 97)
    have SB := aside ((HT.out.b.keep HT.out.a k2 (fun e => HT.out.n1 e.symm) (fun e => HT.out.n2 e.symm) (fun e => HT.out.n3 e.symm)).below NB)
    have LL := aside (L2.keep NB)
    have K2 := aside (blk_on (blk_keep K0.out k2 (HT.out.a.not K0.out (by decide) (by decide) (by decide))) NB)
    have BB := aside ((belOf HBW.out HX.out.1 k2).trans (NB.mono (Nat.le_trans HBW.out k2.size)))
    have HS := aside hs
    clear f0 f1 f2 f3 f4 f5 f6 f7 f8 f9 f10 hs k2 L2
    have f8 : (w2.alloc (.cells #[.int .i64 fv.n, .int .u64 fv.a, .int .u64 fv.b] 97)).cell? ⟨bx, 8, none⟩ = some (.string lo) := by rw [cell_of_row _ _ 8 _ _ _ K2.out]; rfl
    have f9 : (w2.alloc (.cells #[.int .i64 fv.n, .int .u64 fv.a, .int .u64 fv.b] 97)).cell? ⟨bx, 9, none⟩ = some (.string hi) := by rw [cell_of_row _ _ 9 _ _ _ K2.out]; rfl
    have f10 : (w2.alloc (.cells #[.int .i64 fv.n, .int .u64 fv.a, .int .u64 fv.b] 97)).cell? ⟨bx, 10, none⟩ = some (.bool op) := by rw [cell_of_row _ _ 10 _ _ _ K2.out]; rfl
    have NBW := aside (Nat.le_trans HBW.out (Nat.le_trans (BB.out.size) (Nat.le_refl _)))
    obtain ⟨x7, hx7⟩ : ∃ x7, w2.heap.size = x7 := ⟨_, rfl⟩
    rw [hx7] at KV
    go_wp2_with fail
    refine (CF.out _ _ _ _ _ _ SB.out LL.out hl1).mono ?_
    rintro e w4 ⟨rfl, hs', k4, L4⟩
    have KW := aside (heap_alloc_new w4 (.cells #[.int .i64 fv.n, .int .u64 fv.a, .int .u64 fv.b] 97))
    have NB2 := bnew w4 (.cells #[.int .i64 fv.n, .int .u64 fv.a, .int .u64 fv.b] 97)
    replace KV := aside (blk_on (blk_keep KV.out k4 (SB.out.not KV.out (by decide) (by decide) (by decide))) NB2)
    have BZ := aside (B0.out.trans (BB.out.trans ((belOf (Nat.le_trans HBW.out BB.out.size) HX.out.2 k4).trans (NB2.mono (Nat.le_trans (Nat.le_trans HBW.out BB.out.size) k4.size)))))
    have L5 := aside (L4.keep NB2)
    have HA5 := aside (fun (ck' : Int) (Ls' : List En) (hA : Sto w2 sa ga ta nd ck' Ls') => ((hA.below NB).keep SB.out k4 HT.out.n1 HT.out.n2 HT.out.n3).below NB2)
    have HB5 := aside (fun (ck' : Int) (Ls' : List En) (hB : Sto w4 sb gb tb nd ck' Ls') => hB.below NB2)
    clear NB NB2 k4 L4
    obtain ⟨x9, hx9⟩ : ∃ x9, w4.heap.size = x9 := ⟨_, rfl⟩
    rw [hx9] at KW
    have hVQ := fun w => tal_same fv.n fv.a fv.b w
    have v0 : (w4.alloc (.cells #[.int .i64 fv.n, .int .u64 fv.a, .int .u64 fv.b] 97)).cell? ⟨x7, 0, none⟩ = some (.int .i64 fv.n) := by rw [cell_of_row _ _ 0 _ _ _ KV.out]; rfl
    have v1 : (w4.alloc (.cells #[.int .i64 fv.n, .int .u64 fv.a, .int .u64 fv.b] 97)).cell? ⟨x7, 1, none⟩ = some (.int .u64 fv.a) := by rw [cell_of_row _ _ 1 _ _ _ KV.out]; rfl
    have v2 : (w4.alloc (.cells #[.int .i64 fv.n, .int .u64 fv.a, .int .u64 fv.b] 97)).cell? ⟨x7, 2, none⟩ = some (.int .u64 fv.b) := by rw [cell_of_row _ _ 2 _ _ _ KV.out]; rfl
    have u0 : (w4.alloc (.cells #[.int .i64 fv.n, .int .u64 fv.a, .int .u64 fv.b] 97)).cell? ⟨x9, 0, none⟩ = some (.int .i64 fv.n) := by rw [cell_of_row _ _ 0 _ _ _ KW.out]; rfl
    have u1 : (w4.alloc (.cells #[.int .i64 fv.n, .int .u64 fv.a, .int .u64 fv.b] 97)).cell? ⟨x9, 1, none⟩ = some (.int .u64 fv.a) := by rw [cell_of_row _ _ 1 _ _ _ KW.out]; rfl
    have u2 : (w4.alloc (.cells #[.int .i64 fv.n, .int .u64 fv.a, .int .u64 fv.b] 97)).cell? ⟨x9, 2, none⟩ = some (.int .u64 fv.b) := by rw [cell_of_row _ _ 2 _ _ _ KW.out]; rfl
    have FIN := aside (show LdOk nd ck Ls ∧ Twi sa ga ta sb gb tb nd ck Ls _ from ⟨HO.out, HA5.out _ _ HS.out, HB5.out _ _ hs', HT.out.n1, HT.out.n2, HT.out.n3, L5.out⟩)
    clear hs'
    go_wp2
    go_ret
    exact ⟨rfl, BZ.out, _, _, FIN.out⟩
end Go.Proofs.YtlbkcndmljlnmaaDoor
