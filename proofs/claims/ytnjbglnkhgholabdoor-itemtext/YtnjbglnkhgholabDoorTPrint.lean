/-
  Print, the code's and the document's own: an entry's text, or Check's error.
-/
import Derived.Test.YtnjbglnkhgholabDoorIBox
import Derived.Test.YtnjbglnkhgholabDoorDgLaw
import Derived.Test.YtnjbglnkhgholabDoorHexWalks3
import Derived.Lib.SmallJoins
import Derived.Laws.Concat
namespace Go.Proofs.YtnjbglnkhgholabDoor
open Go.RowKit
set_option linter.unusedVariables false

theorem gTab : Tryd.prog.globalNamed "internal/strconv.uint64pow10" = some 0 := by kernel_rfl
theorem tab_on {w W : World} (h : Lib.TabIs Tryd.prog w "internal/strconv.uint64pow10" .u64 Lib.pow10Tab) (b : Below w.heap.size w W) : Lib.TabIs Tryd.prog W "internal/strconv.uint64pow10" .u64 Lib.pow10Tab := Joins.tab_stays gTab h b (Nat.le_refl _)

/-- A number, not below 0. -/
def upN (n : Int) : Nat := (max n 0).toNat
theorem upN_eq (n : Int) : (upN n : Int) = max n 0 := by unfold upN; omega

/-- An entry's text. -/
def printL (e : En) : List UInt8 := [107] ++ Hx.hex e.k.data.toList ++ [32] ++ (Lib.decDigits (upN e.c) ++ [46] ++ Lib.decDigits (upN e.n)) ++ [32] ++ (bif e.d then [120] else [61] ++ Hx.hex e.v.data.toList)

theorem hex_is {s t : ByteArray} (h : t = ⟨(Hx.hex s.data.toList).toArray⟩) (hs : s.size ≤ 32) (w : World) :
    Calls Tryd.prog 10 #[.string s] w fun e w' => e = .returned (.string t) ∧ Below w.heap.size w w' := by
  subst h; exact hex_any s w (by omega)
theorem hexRef_is {s t : ByteArray} (h : t = ⟨(Hx.hex s.data.toList).toArray⟩) (hs : s.size ≤ 32) (w : World) :
    Calls Tryd.prog 13 #[.string s] w fun e w' => e = .returned (.string t) ∧ Below w.heap.size w w' := by
  subst h; exact hexRef_any s w (by omega)
theorem digits_is {n : Int} {t : ByteArray} (h : t = ⟨(Lib.decDigits (upN n)).toArray⟩) (hn : n ≤ 9223372036854775807) (w : World) (ht : Lib.TabIs Tryd.prog w "internal/strconv.uint64pow10" .u64 Lib.pow10Tab) :
    Calls Tryd.prog 11 #[.int .i64 n] w fun e w' => e = .returned (.string t) ∧ Below w.heap.size w w' := by
  subst h; exact digits_any n (upN n) (upN_eq n) hn w ht
theorem digitsRef_is {n : Int} {t : ByteArray} (h : t = ⟨(Lib.decDigits (upN n)).toArray⟩) (hn : n ≤ 9223372036854775807) (w : World) :
    Calls Tryd.prog 14 #[.int .i64 n] w fun e w' => e = .returned (.string t) ∧ Below w.heap.size w w' := by
  subst h; exact refDigits_int n (upN n) (upN_eq n) hn w

theorem ent_keep {w W W' : World} {i : Nat} {k v : ByteArray} {c n : Int} {d : Bool} (h : Below w.heap.size w W ∧ W.cell? ⟨i, 0, none⟩ = some (.string k) ∧ W.cell? ⟨i, 1, none⟩ = some (.int .i64 c) ∧ W.cell? ⟨i, 2, none⟩ = some (.int .i64 n) ∧ W.cell? ⟨i, 3, none⟩ = some (.string v) ∧ W.cell? ⟨i, 4, none⟩ = some (.bool d)) (bb : Below W.heap.size W W') :
    Below w.heap.size w W' ∧ W'.cell? ⟨i, 0, none⟩ = some (.string k) ∧ W'.cell? ⟨i, 1, none⟩ = some (.int .i64 c) ∧ W'.cell? ⟨i, 2, none⟩ = some (.int .i64 n) ∧ W'.cell? ⟨i, 3, none⟩ = some (.string v) ∧ W'.cell? ⟨i, 4, none⟩ = some (.bool d) := by
  obtain ⟨h, h0, h1, h2, h3, h4⟩ := h
  exact ⟨bthen h bb, cell_in h0 bb, cell_in h1 bb, cell_in h2 bb, cell_in h3 bb, cell_in h4 bb⟩

set_option maxHeartbeats 1600000 in
theorem print_no (k : ByteArray) (c n : Int) (v : ByteArray) (d : Bool) (q : Int) (w : World) (hq : En.chk ⟨k, c, n, v, d⟩ = q) (hne : q ≠ 0) :
    Calls Tryd.prog 5 #[.agg #[.string k, .int .i64 c, .int .i64 n, .string v, .bool d]] w fun e w' => e = .returned (.tuple #[.string ⟨#[]⟩, .int .i64 q]) ∧ Below w.heap.size w w' := by
  have C := aside (fun w => check_is hq w)
  have he : (q != 0) = true := by simp [hne]
  clear hq hne
  go_enter Tryd.func5, Tryd.ntmps5
  go_wp2_with fail
  refine (C.out _).mono ?_
  rintro e w1 ⟨rfl, b1⟩
  have b0 := bthen (bnew w _) b1
  clear b1
  go_wp2
  go_ret2
  exact ⟨rfl, b0⟩

set_option maxHeartbeats 1600000 in
theorem printRef_no (k : ByteArray) (c n : Int) (v : ByteArray) (d : Bool) (q : Int) (w : World) (hq : En.chk ⟨k, c, n, v, d⟩ = q) (hne : q ≠ 0) :
    Calls Tryd.prog 6 #[.agg #[.string k, .int .i64 c, .int .i64 n, .string v, .bool d]] w fun e w' => e = .returned (.tuple #[.string ⟨#[]⟩, .int .i64 q]) ∧ Below w.heap.size w w' := by
  have C := aside (fun w => checkRef_is hq w)
  have he : (q != 0) = true := by simp [hne]
  clear hq hne
  go_enter Tryd.func6, Tryd.ntmps6
  go_wp2_with fail
  refine (C.out _).mono ?_
  rintro e w1 ⟨rfl, b1⟩
  have b0 := bthen (bnew w _) b1
  clear b1
  go_wp2
  go_ret2
  exact ⟨rfl, b0⟩

set_option maxRecDepth 100000 in
set_option maxHeartbeats 6400000 in
theorem print_live (k : ByteArray) (c n : Int) (v : ByteArray) (w : World) (hq : En.chk ⟨k, c, n, v, false⟩ = 0) (htab : Lib.TabIs Tryd.prog w "internal/strconv.uint64pow10" .u64 Lib.pow10Tab) (hk hv dc dn : ByteArray) (s1 s2 s3 s4 s5 s6 s7 s8 : ByteArray)
    (h1 : hk = ⟨(Hx.hex k.data.toList).toArray⟩) (h2 : dc = ⟨(Lib.decDigits (upN c)).toArray⟩) (h3 : dn = ⟨(Lib.decDigits (upN n)).toArray⟩) (h4 : hv = ⟨(Hx.hex v.data.toList).toArray⟩) (hk32 : k.size ≤ 32) (hv32 : v.size ≤ 32) (hc : c ≤ 9223372036854775807) (hn : n ≤ 9223372036854775807)
    (a1 : ∀ wx, (Op.stringOp .add ⟨#[107]⟩ hk).run Tryd.prog wx = .ok (.string s1) wx) (a2 : ∀ wx, (Op.stringOp .add dc ⟨#[46]⟩).run Tryd.prog wx = .ok (.string s2) wx) (a3 : ∀ wx, (Op.stringOp .add s2 dn).run Tryd.prog wx = .ok (.string s3) wx) (a4 : ∀ wx, (Op.stringOp .add ⟨#[61]⟩ hv).run Tryd.prog wx = .ok (.string s4) wx) (a5 : ∀ wx, (Op.stringOp .add s1 ⟨#[32]⟩).run Tryd.prog wx = .ok (.string s5) wx) (a6 : ∀ wx, (Op.stringOp .add s5 s3).run Tryd.prog wx = .ok (.string s6) wx) (a7 : ∀ wx, (Op.stringOp .add s6 ⟨#[32]⟩).run Tryd.prog wx = .ok (.string s7) wx) (a8 : ∀ wx, (Op.stringOp .add s7 s4).run Tryd.prog wx = .ok (.string s8) wx) :
    Calls Tryd.prog 5 #[.agg #[.string k, .int .i64 c, .int .i64 n, .string v, .bool false]] w fun e w' => e = .returned (.tuple #[.string s8, .int .i64 0]) ∧ Below w.heap.size w w' := by
  have C := aside (fun w => check_is hq w)
  have HX1 := aside (fun w => hex_is h1 hk32 w)
  have HX2 := aside (fun w => hex_is h4 hv32 w)
  have D1 := aside (fun w ht => digits_is h2 hc w ht)
  have D2 := aside (fun w ht => digits_is h3 hn w ht)
  have HT := aside htab
  clear hq htab h1 h2 h3 h4 hk32 hv32 hc hn
  go_enter Tryd.func5, Tryd.ntmps5
  go_wp2_with fail
  refine (C.out _).mono ?_
  rintro e w1 ⟨rfl, b1⟩
  have KA := aside (blk_on (heap_alloc_new w (.cells #[.string k, .int .i64 c, .int .i64 n, .string v, .bool false] 25)) b1)
  have b01 := bthen (bnew w _) b1
  obtain ⟨⟨r0, r1, r2, r3, r4⟩, -⟩ := quint KA.out
  clear b1
  go_wp2_with fail
  refine (HX1.out _).mono ?_
  rintro e w2 ⟨rfl, b2⟩
  have KA2 := aside (blk_on KA.out b2)
  have b02 := bthen b01 b2
  clear r0 r1 r2 r3 r4 KA b01 b2
  have KA := KA2
  clear KA2
  obtain ⟨⟨r0, r1, r2, r3, r4⟩, -⟩ := quint KA.out
  go_wp2_with fail
  refine wp_region_held_drew (S := fun W => Below w.heap.size w W ∧ W.cell? ⟨w.heap.size, 0, none⟩ = some (.string k) ∧ W.cell? ⟨w.heap.size, 1, none⟩ = some (.int .i64 c) ∧ W.cell? ⟨w.heap.size, 2, none⟩ = some (.int .i64 n) ∧ W.cell? ⟨w.heap.size, 3, none⟩ = some (.string v) ∧ W.cell? ⟨w.heap.size, 4, none⟩ = some (.bool false)) (by kernel_rfl) ⟨b02.drew, r0, r1, r2, r3, r4⟩ (fun hHeld => ?_)
  clear r0 r1 r2 r3 r4 b02 KA
  refine wpAnyH_take (i := 0) (v := ?_) rfl (by kernel_rfl) (by kernel_rfl) (by kernel_rfl) (fun _ _ _ h => h) (Or.inl ⟨by rfl, ?_⟩) (by assumption) ?_
  rotate_left
  · intro w hSw
    go_simp
    try with_reducible rfl
  simp only [Act.put, List.getElem_toArray, List.getElem_cons_zero, List.setIfInBounds_toArray, List.set_cons_zero, List.set_cons_succ]
  refine wpAnyH_take (i := 1) (v := ?_) rfl (by kernel_rfl) (by kernel_rfl) (by kernel_rfl) (fun _ _ _ h => h) (Or.inl ⟨by rfl, ?_⟩) (by assumption) ?_
  rotate_left
  · intro w hSw
    go_simp
    try with_reducible rfl
  simp only [Act.put, List.getElem_toArray, List.getElem_cons_zero, List.getElem_cons_succ, List.setIfInBounds_toArray, List.set_cons_zero, List.set_cons_succ]
  refine wpAnyH_take (i := 2) (v := ?_) rfl (by kernel_rfl) (by kernel_rfl) (by kernel_rfl) (fun _ _ _ h => h) (Or.inl ⟨by rfl, ?_⟩) (by assumption) ?_
  rotate_left
  · intro w hSw
    go_simp
    try with_reducible rfl
  simp only [Act.put, List.getElem_toArray, List.getElem_cons_zero, List.getElem_cons_succ, List.setIfInBounds_toArray, List.set_cons_zero, List.set_cons_succ]
  refine wpAnyH_take (i := 5) (v := ?_) rfl (by kernel_rfl) (by kernel_rfl) (by kernel_rfl) (fun _ _ _ h => h) (Or.inl ⟨by rfl, ?_⟩) (by assumption) ?_
  rotate_left
  · intro w hSw
    go_simp
    try with_reducible rfl
  simp only [Act.put, List.getElem_toArray, List.getElem_cons_zero, List.getElem_cons_succ, List.setIfInBounds_toArray, List.set_cons_zero, List.set_cons_succ]
  refine wpAnyH_take (i := 6) (v := ?_) rfl (by kernel_rfl) (by kernel_rfl) (by kernel_rfl) (fun _ _ _ h => h) (Or.inl ⟨by rfl, ?_⟩) (by assumption) ?_
  rotate_left
  · intro w hSw
    go_simp
    try with_reducible rfl
  simp only [Act.put, List.getElem_toArray, List.getElem_cons_zero, List.getElem_cons_succ, List.setIfInBounds_toArray, List.set_cons_zero, List.set_cons_succ]
  refine wpAnyH_take (i := 7) (v := ?_) rfl (by kernel_rfl) (by kernel_rfl) (by kernel_rfl) (fun _ _ _ h => h) (Or.inl ⟨by rfl, ?_⟩) (by assumption) ?_
  rotate_left
  · intro w hSw
    go_simp
    try with_reducible rfl
  simp only [Act.put, List.getElem_toArray, List.getElem_cons_zero, List.getElem_cons_succ, List.setIfInBounds_toArray, List.set_cons_zero, List.set_cons_succ]
  refine wpAnyH_ready (rs := [3]) (by kernel_rfl) (by simp) ?_
  refine AllReadyH.cons rfl (fun K hK => ?_) AllReadyH.nil
  go_simp
  refine (D1.out _ (tab_on HT.out hHeld.1)).mono ?_
  rintro e w9 ⟨rfl, bb⟩
  refine hK.out _ _ (ent_keep hHeld bb) (fun hHeld => ?_)
  clear hK K 
  refine wpAnyH_take (i := 4) (v := ?_) rfl (by kernel_rfl) (by kernel_rfl) (by kernel_rfl) (fun _ _ _ h => h) (Or.inl ⟨by rfl, ?_⟩) (by assumption) ?_
  rotate_left
  · intro w hSw
    go_simp
    try with_reducible rfl
  simp only [Act.put, List.getElem_toArray, List.getElem_cons_zero, List.getElem_cons_succ, List.setIfInBounds_toArray, List.set_cons_zero, List.set_cons_succ]
  refine wpAnyH_ready (rs := [8]) (by kernel_rfl) (by simp) ?_
  refine AllReadyH.cons rfl (fun K hK => ?_) AllReadyH.nil
  go_simp
  refine (D2.out _ (tab_on HT.out hHeld.1)).mono ?_
  rintro e w9 ⟨rfl, bb⟩
  refine hK.out _ _ (ent_keep hHeld bb) (fun hHeld => ?_)
  clear hK K 
  refine wpAnyH_take (i := 9) (v := ?_) rfl (by kernel_rfl) (by kernel_rfl) (by kernel_rfl) (fun _ _ _ h => h) (Or.inl ⟨by rfl, ?_⟩) (by assumption) ?_
  rotate_left
  · intro w hSw
    go_simp
    try with_reducible rfl
  simp only [Act.put, List.getElem_toArray, List.getElem_cons_zero, List.getElem_cons_succ, List.setIfInBounds_toArray, List.set_cons_zero, List.set_cons_succ]
  refine wpAnyH_take (i := 10) (v := ?_) rfl (by kernel_rfl) (by kernel_rfl) (by kernel_rfl) (fun _ _ _ h => h) (Or.inl ⟨by rfl, ?_⟩) (by assumption) ?_
  rotate_left
  · intro w hSw
    go_simp
    try with_reducible rfl
  simp only [Act.put, List.getElem_toArray, List.getElem_cons_zero, List.getElem_cons_succ, List.setIfInBounds_toArray, List.set_cons_zero, List.set_cons_succ]
  refine wpAnyH_done (by kernel_rfl) ?_ _
  obtain ⟨b03, r0, r1, r2, r3, r4⟩ := hHeld
  have S3 := aside (And.intro r0 (And.intro r1 (And.intro r2 (And.intro r3 r4))))
  go_wp2_with fail
  refine (HX2.out _).mono ?_
  rintro e w4 ⟨rfl, b4⟩
  have b04 := bthen b03 b4
  have c4 := cell_in S3.out.2.2.2.2 b4
  clear r0 r1 r2 r3 r4 S3 b03 b4
  go_wp2
  go_ret2
  exact ⟨rfl, b04⟩

set_option maxRecDepth 100000 in
set_option maxHeartbeats 6400000 in
theorem print_dead (k : ByteArray) (c n : Int) (v : ByteArray) (w : World) (hq : En.chk ⟨k, c, n, v, true⟩ = 0) (htab : Lib.TabIs Tryd.prog w "internal/strconv.uint64pow10" .u64 Lib.pow10Tab) (hk hv dc dn : ByteArray) (s1 s2 s3 s4 s5 s6 s7 s8 : ByteArray)
    (h1 : hk = ⟨(Hx.hex k.data.toList).toArray⟩) (h2 : dc = ⟨(Lib.decDigits (upN c)).toArray⟩) (h3 : dn = ⟨(Lib.decDigits (upN n)).toArray⟩) (h4 : hv = ⟨(Hx.hex v.data.toList).toArray⟩) (hk32 : k.size ≤ 32) (hv32 : v.size ≤ 32) (hc : c ≤ 9223372036854775807) (hn : n ≤ 9223372036854775807)
    (a1 : ∀ wx, (Op.stringOp .add ⟨#[107]⟩ hk).run Tryd.prog wx = .ok (.string s1) wx) (a2 : ∀ wx, (Op.stringOp .add dc ⟨#[46]⟩).run Tryd.prog wx = .ok (.string s2) wx) (a3 : ∀ wx, (Op.stringOp .add s2 dn).run Tryd.prog wx = .ok (.string s3) wx) (a4 : ∀ wx, (Op.stringOp .add ⟨#[61]⟩ hv).run Tryd.prog wx = .ok (.string s4) wx) (a5 : ∀ wx, (Op.stringOp .add s1 ⟨#[32]⟩).run Tryd.prog wx = .ok (.string s5) wx) (a6 : ∀ wx, (Op.stringOp .add s5 s3).run Tryd.prog wx = .ok (.string s6) wx) (a7 : ∀ wx, (Op.stringOp .add s6 ⟨#[32]⟩).run Tryd.prog wx = .ok (.string s7) wx) (a8 : ∀ wx, (Op.stringOp .add s7 ⟨#[120]⟩).run Tryd.prog wx = .ok (.string s8) wx) :
    Calls Tryd.prog 5 #[.agg #[.string k, .int .i64 c, .int .i64 n, .string v, .bool true]] w fun e w' => e = .returned (.tuple #[.string s8, .int .i64 0]) ∧ Below w.heap.size w w' := by
  have C := aside (fun w => check_is hq w)
  have HX1 := aside (fun w => hex_is h1 hk32 w)
  have HX2 := aside (fun w => hex_is h4 hv32 w)
  have D1 := aside (fun w ht => digits_is h2 hc w ht)
  have D2 := aside (fun w ht => digits_is h3 hn w ht)
  have HT := aside htab
  clear hq htab h1 h2 h3 h4 hk32 hv32 hc hn
  go_enter Tryd.func5, Tryd.ntmps5
  go_wp2_with fail
  refine (C.out _).mono ?_
  rintro e w1 ⟨rfl, b1⟩
  have KA := aside (blk_on (heap_alloc_new w (.cells #[.string k, .int .i64 c, .int .i64 n, .string v, .bool true] 25)) b1)
  have b01 := bthen (bnew w _) b1
  obtain ⟨⟨r0, r1, r2, r3, r4⟩, -⟩ := quint KA.out
  clear b1
  go_wp2_with fail
  refine (HX1.out _).mono ?_
  rintro e w2 ⟨rfl, b2⟩
  have KA2 := aside (blk_on KA.out b2)
  have b02 := bthen b01 b2
  clear r0 r1 r2 r3 r4 KA b01 b2
  have KA := KA2
  clear KA2
  obtain ⟨⟨r0, r1, r2, r3, r4⟩, -⟩ := quint KA.out
  go_wp2_with fail
  refine wp_region_held_drew (S := fun W => Below w.heap.size w W ∧ W.cell? ⟨w.heap.size, 0, none⟩ = some (.string k) ∧ W.cell? ⟨w.heap.size, 1, none⟩ = some (.int .i64 c) ∧ W.cell? ⟨w.heap.size, 2, none⟩ = some (.int .i64 n) ∧ W.cell? ⟨w.heap.size, 3, none⟩ = some (.string v) ∧ W.cell? ⟨w.heap.size, 4, none⟩ = some (.bool true)) (by kernel_rfl) ⟨b02.drew, r0, r1, r2, r3, r4⟩ (fun hHeld => ?_)
  clear r0 r1 r2 r3 r4 b02 KA
  refine wpAnyH_take (i := 0) (v := ?_) rfl (by kernel_rfl) (by kernel_rfl) (by kernel_rfl) (fun _ _ _ h => h) (Or.inl ⟨by rfl, ?_⟩) (by assumption) ?_
  rotate_left
  · intro w hSw
    go_simp
    try with_reducible rfl
  simp only [Act.put, List.getElem_toArray, List.getElem_cons_zero, List.setIfInBounds_toArray, List.set_cons_zero, List.set_cons_succ]
  refine wpAnyH_take (i := 1) (v := ?_) rfl (by kernel_rfl) (by kernel_rfl) (by kernel_rfl) (fun _ _ _ h => h) (Or.inl ⟨by rfl, ?_⟩) (by assumption) ?_
  rotate_left
  · intro w hSw
    go_simp
    try with_reducible rfl
  simp only [Act.put, List.getElem_toArray, List.getElem_cons_zero, List.getElem_cons_succ, List.setIfInBounds_toArray, List.set_cons_zero, List.set_cons_succ]
  refine wpAnyH_take (i := 2) (v := ?_) rfl (by kernel_rfl) (by kernel_rfl) (by kernel_rfl) (fun _ _ _ h => h) (Or.inl ⟨by rfl, ?_⟩) (by assumption) ?_
  rotate_left
  · intro w hSw
    go_simp
    try with_reducible rfl
  simp only [Act.put, List.getElem_toArray, List.getElem_cons_zero, List.getElem_cons_succ, List.setIfInBounds_toArray, List.set_cons_zero, List.set_cons_succ]
  refine wpAnyH_take (i := 5) (v := ?_) rfl (by kernel_rfl) (by kernel_rfl) (by kernel_rfl) (fun _ _ _ h => h) (Or.inl ⟨by rfl, ?_⟩) (by assumption) ?_
  rotate_left
  · intro w hSw
    go_simp
    try with_reducible rfl
  simp only [Act.put, List.getElem_toArray, List.getElem_cons_zero, List.getElem_cons_succ, List.setIfInBounds_toArray, List.set_cons_zero, List.set_cons_succ]
  refine wpAnyH_take (i := 6) (v := ?_) rfl (by kernel_rfl) (by kernel_rfl) (by kernel_rfl) (fun _ _ _ h => h) (Or.inl ⟨by rfl, ?_⟩) (by assumption) ?_
  rotate_left
  · intro w hSw
    go_simp
    try with_reducible rfl
  simp only [Act.put, List.getElem_toArray, List.getElem_cons_zero, List.getElem_cons_succ, List.setIfInBounds_toArray, List.set_cons_zero, List.set_cons_succ]
  refine wpAnyH_take (i := 7) (v := ?_) rfl (by kernel_rfl) (by kernel_rfl) (by kernel_rfl) (fun _ _ _ h => h) (Or.inl ⟨by rfl, ?_⟩) (by assumption) ?_
  rotate_left
  · intro w hSw
    go_simp
    try with_reducible rfl
  simp only [Act.put, List.getElem_toArray, List.getElem_cons_zero, List.getElem_cons_succ, List.setIfInBounds_toArray, List.set_cons_zero, List.set_cons_succ]
  refine wpAnyH_ready (rs := [3]) (by kernel_rfl) (by simp) ?_
  refine AllReadyH.cons rfl (fun K hK => ?_) AllReadyH.nil
  go_simp
  refine (D1.out _ (tab_on HT.out hHeld.1)).mono ?_
  rintro e w9 ⟨rfl, bb⟩
  refine hK.out _ _ (ent_keep hHeld bb) (fun hHeld => ?_)
  clear hK K 
  refine wpAnyH_take (i := 4) (v := ?_) rfl (by kernel_rfl) (by kernel_rfl) (by kernel_rfl) (fun _ _ _ h => h) (Or.inl ⟨by rfl, ?_⟩) (by assumption) ?_
  rotate_left
  · intro w hSw
    go_simp
    try with_reducible rfl
  simp only [Act.put, List.getElem_toArray, List.getElem_cons_zero, List.getElem_cons_succ, List.setIfInBounds_toArray, List.set_cons_zero, List.set_cons_succ]
  refine wpAnyH_ready (rs := [8]) (by kernel_rfl) (by simp) ?_
  refine AllReadyH.cons rfl (fun K hK => ?_) AllReadyH.nil
  go_simp
  refine (D2.out _ (tab_on HT.out hHeld.1)).mono ?_
  rintro e w9 ⟨rfl, bb⟩
  refine hK.out _ _ (ent_keep hHeld bb) (fun hHeld => ?_)
  clear hK K 
  refine wpAnyH_take (i := 9) (v := ?_) rfl (by kernel_rfl) (by kernel_rfl) (by kernel_rfl) (fun _ _ _ h => h) (Or.inl ⟨by rfl, ?_⟩) (by assumption) ?_
  rotate_left
  · intro w hSw
    go_simp
    try with_reducible rfl
  simp only [Act.put, List.getElem_toArray, List.getElem_cons_zero, List.getElem_cons_succ, List.setIfInBounds_toArray, List.set_cons_zero, List.set_cons_succ]
  refine wpAnyH_take (i := 10) (v := ?_) rfl (by kernel_rfl) (by kernel_rfl) (by kernel_rfl) (fun _ _ _ h => h) (Or.inl ⟨by rfl, ?_⟩) (by assumption) ?_
  rotate_left
  · intro w hSw
    go_simp
    try with_reducible rfl
  simp only [Act.put, List.getElem_toArray, List.getElem_cons_zero, List.getElem_cons_succ, List.setIfInBounds_toArray, List.set_cons_zero, List.set_cons_succ]
  refine wpAnyH_done (by kernel_rfl) ?_ _
  obtain ⟨b03, r0, r1, r2, r3, r4⟩ := hHeld
  have S3 := aside (And.intro r0 (And.intro r1 (And.intro r2 (And.intro r3 r4))))
  go_wp2_with fail
  refine (HX2.out _).mono ?_
  rintro e w4 ⟨rfl, b4⟩
  have b04 := bthen b03 b4
  have c4 := cell_in S3.out.2.2.2.2 b4
  clear r0 r1 r2 r3 r4 S3 b03 b4
  go_wp2
  go_ret2
  exact ⟨rfl, b04⟩

set_option maxRecDepth 100000 in
set_option maxHeartbeats 6400000 in
theorem printRef_live (k : ByteArray) (c n : Int) (v : ByteArray) (w : World) (hq : En.chk ⟨k, c, n, v, false⟩ = 0) (hk hv dc dn : ByteArray) (s1 s2 s3 s4 s5 s6 s7 s8 : ByteArray)
    (h1 : hk = ⟨(Hx.hex k.data.toList).toArray⟩) (h2 : dc = ⟨(Lib.decDigits (upN c)).toArray⟩) (h3 : dn = ⟨(Lib.decDigits (upN n)).toArray⟩) (h4 : hv = ⟨(Hx.hex v.data.toList).toArray⟩) (hk32 : k.size ≤ 32) (hv32 : v.size ≤ 32) (hc : c ≤ 9223372036854775807) (hn : n ≤ 9223372036854775807)
    (a1 : ∀ wx, (Op.stringOp .add ⟨#[107]⟩ hk).run Tryd.prog wx = .ok (.string s1) wx) (a2 : ∀ wx, (Op.stringOp .add s1 ⟨#[32]⟩).run Tryd.prog wx = .ok (.string s2) wx) (a3 : ∀ wx, (Op.stringOp .add s2 dc).run Tryd.prog wx = .ok (.string s3) wx) (a4 : ∀ wx, (Op.stringOp .add s3 ⟨#[46]⟩).run Tryd.prog wx = .ok (.string s4) wx) (a5 : ∀ wx, (Op.stringOp .add s4 dn).run Tryd.prog wx = .ok (.string s5) wx) (a6 : ∀ wx, (Op.stringOp .add s5 ⟨#[32]⟩).run Tryd.prog wx = .ok (.string s6) wx) (a7 : ∀ wx, (Op.stringOp .add s6 ⟨#[61]⟩).run Tryd.prog wx = .ok (.string s7) wx) (a8 : ∀ wx, (Op.stringOp .add s7 hv).run Tryd.prog wx = .ok (.string s8) wx) :
    Calls Tryd.prog 6 #[.agg #[.string k, .int .i64 c, .int .i64 n, .string v, .bool false]] w fun e w' => e = .returned (.tuple #[.string s8, .int .i64 0]) ∧ Below w.heap.size w w' := by
  have C := aside (fun w => checkRef_is hq w)
  have HX1 := aside (fun w => hexRef_is h1 hk32 w)
  have HX2 := aside (fun w => hexRef_is h4 hv32 w)
  have D1 := aside (fun w => digitsRef_is h2 hc w)
  have D2 := aside (fun w => digitsRef_is h3 hn w)
  clear hq h1 h2 h3 h4 hk32 hv32 hc hn
  go_enter Tryd.func6, Tryd.ntmps6
  go_wp2_with fail
  refine (C.out _).mono ?_
  rintro e w1 ⟨rfl, b1⟩
  have KA := aside (blk_on (heap_alloc_new w (.cells #[.string k, .int .i64 c, .int .i64 n, .string v, .bool false] 25)) b1)
  have b01 := bthen (bnew w _) b1
  obtain ⟨⟨r0, r1, r2, r3, r4⟩, -⟩ := quint KA.out
  clear b1
  go_wp2_with fail
  refine wp_region_held_drew (S := fun W => Below w.heap.size w W ∧ W.cell? ⟨w.heap.size, 0, none⟩ = some (.string k) ∧ W.cell? ⟨w.heap.size, 1, none⟩ = some (.int .i64 c) ∧ W.cell? ⟨w.heap.size, 2, none⟩ = some (.int .i64 n) ∧ W.cell? ⟨w.heap.size, 3, none⟩ = some (.string v) ∧ W.cell? ⟨w.heap.size, 4, none⟩ = some (.bool false)) (by kernel_rfl) ⟨b01.drew, r0, r1, r2, r3, r4⟩ (fun hHeld => ?_)
  clear r0 r1 r2 r3 r4 b01 KA
  refine wpAnyH_take (i := 0) (v := ?_) rfl (by kernel_rfl) (by kernel_rfl) (by kernel_rfl) (fun _ _ _ h => h) (Or.inl ⟨by rfl, ?_⟩) (by assumption) ?_
  rotate_left
  · intro w hSw
    go_simp
    try with_reducible rfl
  simp only [Act.put, List.getElem_toArray, List.getElem_cons_zero, List.setIfInBounds_toArray, List.set_cons_zero, List.set_cons_succ]
  refine wpAnyH_take (i := 1) (v := ?_) rfl (by kernel_rfl) (by kernel_rfl) (by kernel_rfl) (fun _ _ _ h => h) (Or.inl ⟨by rfl, ?_⟩) (by assumption) ?_
  rotate_left
  · intro w hSw
    go_simp
    try with_reducible rfl
  simp only [Act.put, List.getElem_toArray, List.getElem_cons_zero, List.getElem_cons_succ, List.setIfInBounds_toArray, List.set_cons_zero, List.set_cons_succ]
  refine wpAnyH_take (i := 5) (v := ?_) rfl (by kernel_rfl) (by kernel_rfl) (by kernel_rfl) (fun _ _ _ h => h) (Or.inl ⟨by rfl, ?_⟩) (by assumption) ?_
  rotate_left
  · intro w hSw
    go_simp
    try with_reducible rfl
  simp only [Act.put, List.getElem_toArray, List.getElem_cons_zero, List.getElem_cons_succ, List.setIfInBounds_toArray, List.set_cons_zero, List.set_cons_succ]
  refine wpAnyH_take (i := 6) (v := ?_) rfl (by kernel_rfl) (by kernel_rfl) (by kernel_rfl) (fun _ _ _ h => h) (Or.inl ⟨by rfl, ?_⟩) (by assumption) ?_
  rotate_left
  · intro w hSw
    go_simp
    try with_reducible rfl
  simp only [Act.put, List.getElem_toArray, List.getElem_cons_zero, List.getElem_cons_succ, List.setIfInBounds_toArray, List.set_cons_zero, List.set_cons_succ]
  refine wpAnyH_take (i := 7) (v := ?_) rfl (by kernel_rfl) (by kernel_rfl) (by kernel_rfl) (fun _ _ _ h => h) (Or.inl ⟨by rfl, ?_⟩) (by assumption) ?_
  rotate_left
  · intro w hSw
    go_simp
    try with_reducible rfl
  simp only [Act.put, List.getElem_toArray, List.getElem_cons_zero, List.getElem_cons_succ, List.setIfInBounds_toArray, List.set_cons_zero, List.set_cons_succ]
  refine wpAnyH_take (i := 11) (v := ?_) rfl (by kernel_rfl) (by kernel_rfl) (by kernel_rfl) (fun _ _ _ h => h) (Or.inl ⟨by rfl, ?_⟩) (by assumption) ?_
  rotate_left
  · intro w hSw
    go_simp
    try with_reducible rfl
  simp only [Act.put, List.getElem_toArray, List.getElem_cons_zero, List.getElem_cons_succ, List.setIfInBounds_toArray, List.set_cons_zero, List.set_cons_succ]
  refine wpAnyH_take (i := 12) (v := ?_) rfl (by kernel_rfl) (by kernel_rfl) (by kernel_rfl) (fun _ _ _ h => h) (Or.inl ⟨by rfl, ?_⟩) (by assumption) ?_
  rotate_left
  · intro w hSw
    go_simp
    try with_reducible rfl
  simp only [Act.put, List.getElem_toArray, List.getElem_cons_zero, List.getElem_cons_succ, List.setIfInBounds_toArray, List.set_cons_zero, List.set_cons_succ]
  refine wpAnyH_take (i := 13) (v := ?_) rfl (by kernel_rfl) (by kernel_rfl) (by kernel_rfl) (fun _ _ _ h => h) (Or.inl ⟨by rfl, ?_⟩) (by assumption) ?_
  rotate_left
  · intro w hSw
    go_simp
    try with_reducible rfl
  simp only [Act.put, List.getElem_toArray, List.getElem_cons_zero, List.getElem_cons_succ, List.setIfInBounds_toArray, List.set_cons_zero, List.set_cons_succ]
  refine wpAnyH_ready (rs := [2]) (by kernel_rfl) (by simp) ?_
  refine AllReadyH.cons rfl (fun K hK => ?_) AllReadyH.nil
  go_simp
  refine (HX1.out _).mono ?_
  rintro e w9 ⟨rfl, bb⟩
  refine hK.out _ _ (ent_keep hHeld bb) (fun hHeld => ?_)
  clear hK K 
  refine wpAnyH_take (i := 3) (v := ?_) rfl (by kernel_rfl) (by kernel_rfl) (by kernel_rfl) (fun _ _ _ h => h) (Or.inl ⟨by rfl, ?_⟩) (by assumption) ?_
  rotate_left
  · intro w hSw
    go_simp
    try with_reducible rfl
  simp only [Act.put, List.getElem_toArray, List.getElem_cons_zero, List.getElem_cons_succ, List.setIfInBounds_toArray, List.set_cons_zero, List.set_cons_succ]
  refine wpAnyH_take (i := 4) (v := ?_) rfl (by kernel_rfl) (by kernel_rfl) (by kernel_rfl) (fun _ _ _ h => h) (Or.inl ⟨by rfl, ?_⟩) (by assumption) ?_
  rotate_left
  · intro w hSw
    go_simp
    try with_reducible rfl
  simp only [Act.put, List.getElem_toArray, List.getElem_cons_zero, List.getElem_cons_succ, List.setIfInBounds_toArray, List.set_cons_zero, List.set_cons_succ]
  refine wpAnyH_ready (rs := [8]) (by kernel_rfl) (by simp) ?_
  refine AllReadyH.cons rfl (fun K hK => ?_) AllReadyH.nil
  go_simp
  refine (D1.out _).mono ?_
  rintro e w9 ⟨rfl, bb⟩
  refine hK.out _ _ (ent_keep hHeld bb) (fun hHeld => ?_)
  clear hK K 
  refine wpAnyH_take (i := 9) (v := ?_) rfl (by kernel_rfl) (by kernel_rfl) (by kernel_rfl) (fun _ _ _ h => h) (Or.inl ⟨by rfl, ?_⟩) (by assumption) ?_
  rotate_left
  · intro w hSw
    go_simp
    try with_reducible rfl
  simp only [Act.put, List.getElem_toArray, List.getElem_cons_zero, List.getElem_cons_succ, List.setIfInBounds_toArray, List.set_cons_zero, List.set_cons_succ]
  refine wpAnyH_take (i := 10) (v := ?_) rfl (by kernel_rfl) (by kernel_rfl) (by kernel_rfl) (fun _ _ _ h => h) (Or.inl ⟨by rfl, ?_⟩) (by assumption) ?_
  rotate_left
  · intro w hSw
    go_simp
    try with_reducible rfl
  simp only [Act.put, List.getElem_toArray, List.getElem_cons_zero, List.getElem_cons_succ, List.setIfInBounds_toArray, List.set_cons_zero, List.set_cons_succ]
  refine wpAnyH_ready (rs := [14]) (by kernel_rfl) (by simp) ?_
  refine AllReadyH.cons rfl (fun K hK => ?_) AllReadyH.nil
  go_simp
  refine (D2.out _).mono ?_
  rintro e w9 ⟨rfl, bb⟩
  refine hK.out _ _ (ent_keep hHeld bb) (fun hHeld => ?_)
  clear hK K 
  refine wpAnyH_take (i := 15) (v := ?_) rfl (by kernel_rfl) (by kernel_rfl) (by kernel_rfl) (fun _ _ _ h => h) (Or.inl ⟨by rfl, ?_⟩) (by assumption) ?_
  rotate_left
  · intro w hSw
    go_simp
    try with_reducible rfl
  simp only [Act.put, List.getElem_toArray, List.getElem_cons_zero, List.getElem_cons_succ, List.setIfInBounds_toArray, List.set_cons_zero, List.set_cons_succ]
  refine wpAnyH_take (i := 16) (v := ?_) rfl (by kernel_rfl) (by kernel_rfl) (by kernel_rfl) (fun _ _ _ h => h) (Or.inl ⟨by rfl, ?_⟩) (by assumption) ?_
  rotate_left
  · intro w hSw
    go_simp
    try with_reducible rfl
  simp only [Act.put, List.getElem_toArray, List.getElem_cons_zero, List.getElem_cons_succ, List.setIfInBounds_toArray, List.set_cons_zero, List.set_cons_succ]
  refine wpAnyH_take (i := 17) (v := ?_) rfl (by kernel_rfl) (by kernel_rfl) (by kernel_rfl) (fun _ _ _ h => h) (Or.inl ⟨by rfl, ?_⟩) (by assumption) ?_
  rotate_left
  · intro w hSw
    go_simp
    try with_reducible rfl
  simp only [Act.put, List.getElem_toArray, List.getElem_cons_zero, List.getElem_cons_succ, List.setIfInBounds_toArray, List.set_cons_zero, List.set_cons_succ]
  refine wpAnyH_done (by kernel_rfl) ?_ _
  obtain ⟨b03, r0, r1, r2, r3, r4⟩ := hHeld
  go_wp2_with fail
  refine (HX2.out _).mono ?_
  rintro e w4 ⟨rfl, b4⟩
  have b04 := bthen b03 b4
  clear r0 r1 r2 r3 r4 b03 b4
  go_wp2
  go_ret2
  exact ⟨rfl, b04⟩

set_option maxRecDepth 100000 in
set_option maxHeartbeats 6400000 in
theorem printRef_dead (k : ByteArray) (c n : Int) (v : ByteArray) (w : World) (hq : En.chk ⟨k, c, n, v, true⟩ = 0) (hk hv dc dn : ByteArray) (s1 s2 s3 s4 s5 s6 s7 s8 : ByteArray)
    (h1 : hk = ⟨(Hx.hex k.data.toList).toArray⟩) (h2 : dc = ⟨(Lib.decDigits (upN c)).toArray⟩) (h3 : dn = ⟨(Lib.decDigits (upN n)).toArray⟩) (h4 : hv = ⟨(Hx.hex v.data.toList).toArray⟩) (hk32 : k.size ≤ 32) (hv32 : v.size ≤ 32) (hc : c ≤ 9223372036854775807) (hn : n ≤ 9223372036854775807)
    (a1 : ∀ wx, (Op.stringOp .add ⟨#[107]⟩ hk).run Tryd.prog wx = .ok (.string s1) wx) (a2 : ∀ wx, (Op.stringOp .add s1 ⟨#[32]⟩).run Tryd.prog wx = .ok (.string s2) wx) (a3 : ∀ wx, (Op.stringOp .add s2 dc).run Tryd.prog wx = .ok (.string s3) wx) (a4 : ∀ wx, (Op.stringOp .add s3 ⟨#[46]⟩).run Tryd.prog wx = .ok (.string s4) wx) (a5 : ∀ wx, (Op.stringOp .add s4 dn).run Tryd.prog wx = .ok (.string s5) wx) (a6 : ∀ wx, (Op.stringOp .add s5 ⟨#[32]⟩).run Tryd.prog wx = .ok (.string s6) wx) (a7 : ∀ wx, (Op.stringOp .add s6 ⟨#[120]⟩).run Tryd.prog wx = .ok (.string s8) wx) :
    Calls Tryd.prog 6 #[.agg #[.string k, .int .i64 c, .int .i64 n, .string v, .bool true]] w fun e w' => e = .returned (.tuple #[.string s8, .int .i64 0]) ∧ Below w.heap.size w w' := by
  have C := aside (fun w => checkRef_is hq w)
  have HX1 := aside (fun w => hexRef_is h1 hk32 w)
  have HX2 := aside (fun w => hexRef_is h4 hv32 w)
  have D1 := aside (fun w => digitsRef_is h2 hc w)
  have D2 := aside (fun w => digitsRef_is h3 hn w)
  clear hq h1 h2 h3 h4 hk32 hv32 hc hn
  go_enter Tryd.func6, Tryd.ntmps6
  go_wp2_with fail
  refine (C.out _).mono ?_
  rintro e w1 ⟨rfl, b1⟩
  have KA := aside (blk_on (heap_alloc_new w (.cells #[.string k, .int .i64 c, .int .i64 n, .string v, .bool true] 25)) b1)
  have b01 := bthen (bnew w _) b1
  obtain ⟨⟨r0, r1, r2, r3, r4⟩, -⟩ := quint KA.out
  clear b1
  go_wp2_with fail
  refine wp_region_held_drew (S := fun W => Below w.heap.size w W ∧ W.cell? ⟨w.heap.size, 0, none⟩ = some (.string k) ∧ W.cell? ⟨w.heap.size, 1, none⟩ = some (.int .i64 c) ∧ W.cell? ⟨w.heap.size, 2, none⟩ = some (.int .i64 n) ∧ W.cell? ⟨w.heap.size, 3, none⟩ = some (.string v) ∧ W.cell? ⟨w.heap.size, 4, none⟩ = some (.bool true)) (by kernel_rfl) ⟨b01.drew, r0, r1, r2, r3, r4⟩ (fun hHeld => ?_)
  clear r0 r1 r2 r3 r4 b01 KA
  refine wpAnyH_take (i := 0) (v := ?_) rfl (by kernel_rfl) (by kernel_rfl) (by kernel_rfl) (fun _ _ _ h => h) (Or.inl ⟨by rfl, ?_⟩) (by assumption) ?_
  rotate_left
  · intro w hSw
    go_simp
    try with_reducible rfl
  simp only [Act.put, List.getElem_toArray, List.getElem_cons_zero, List.setIfInBounds_toArray, List.set_cons_zero, List.set_cons_succ]
  refine wpAnyH_take (i := 1) (v := ?_) rfl (by kernel_rfl) (by kernel_rfl) (by kernel_rfl) (fun _ _ _ h => h) (Or.inl ⟨by rfl, ?_⟩) (by assumption) ?_
  rotate_left
  · intro w hSw
    go_simp
    try with_reducible rfl
  simp only [Act.put, List.getElem_toArray, List.getElem_cons_zero, List.getElem_cons_succ, List.setIfInBounds_toArray, List.set_cons_zero, List.set_cons_succ]
  refine wpAnyH_take (i := 5) (v := ?_) rfl (by kernel_rfl) (by kernel_rfl) (by kernel_rfl) (fun _ _ _ h => h) (Or.inl ⟨by rfl, ?_⟩) (by assumption) ?_
  rotate_left
  · intro w hSw
    go_simp
    try with_reducible rfl
  simp only [Act.put, List.getElem_toArray, List.getElem_cons_zero, List.getElem_cons_succ, List.setIfInBounds_toArray, List.set_cons_zero, List.set_cons_succ]
  refine wpAnyH_take (i := 6) (v := ?_) rfl (by kernel_rfl) (by kernel_rfl) (by kernel_rfl) (fun _ _ _ h => h) (Or.inl ⟨by rfl, ?_⟩) (by assumption) ?_
  rotate_left
  · intro w hSw
    go_simp
    try with_reducible rfl
  simp only [Act.put, List.getElem_toArray, List.getElem_cons_zero, List.getElem_cons_succ, List.setIfInBounds_toArray, List.set_cons_zero, List.set_cons_succ]
  refine wpAnyH_take (i := 7) (v := ?_) rfl (by kernel_rfl) (by kernel_rfl) (by kernel_rfl) (fun _ _ _ h => h) (Or.inl ⟨by rfl, ?_⟩) (by assumption) ?_
  rotate_left
  · intro w hSw
    go_simp
    try with_reducible rfl
  simp only [Act.put, List.getElem_toArray, List.getElem_cons_zero, List.getElem_cons_succ, List.setIfInBounds_toArray, List.set_cons_zero, List.set_cons_succ]
  refine wpAnyH_take (i := 11) (v := ?_) rfl (by kernel_rfl) (by kernel_rfl) (by kernel_rfl) (fun _ _ _ h => h) (Or.inl ⟨by rfl, ?_⟩) (by assumption) ?_
  rotate_left
  · intro w hSw
    go_simp
    try with_reducible rfl
  simp only [Act.put, List.getElem_toArray, List.getElem_cons_zero, List.getElem_cons_succ, List.setIfInBounds_toArray, List.set_cons_zero, List.set_cons_succ]
  refine wpAnyH_take (i := 12) (v := ?_) rfl (by kernel_rfl) (by kernel_rfl) (by kernel_rfl) (fun _ _ _ h => h) (Or.inl ⟨by rfl, ?_⟩) (by assumption) ?_
  rotate_left
  · intro w hSw
    go_simp
    try with_reducible rfl
  simp only [Act.put, List.getElem_toArray, List.getElem_cons_zero, List.getElem_cons_succ, List.setIfInBounds_toArray, List.set_cons_zero, List.set_cons_succ]
  refine wpAnyH_take (i := 13) (v := ?_) rfl (by kernel_rfl) (by kernel_rfl) (by kernel_rfl) (fun _ _ _ h => h) (Or.inl ⟨by rfl, ?_⟩) (by assumption) ?_
  rotate_left
  · intro w hSw
    go_simp
    try with_reducible rfl
  simp only [Act.put, List.getElem_toArray, List.getElem_cons_zero, List.getElem_cons_succ, List.setIfInBounds_toArray, List.set_cons_zero, List.set_cons_succ]
  refine wpAnyH_ready (rs := [2]) (by kernel_rfl) (by simp) ?_
  refine AllReadyH.cons rfl (fun K hK => ?_) AllReadyH.nil
  go_simp
  refine (HX1.out _).mono ?_
  rintro e w9 ⟨rfl, bb⟩
  refine hK.out _ _ (ent_keep hHeld bb) (fun hHeld => ?_)
  clear hK K 
  refine wpAnyH_take (i := 3) (v := ?_) rfl (by kernel_rfl) (by kernel_rfl) (by kernel_rfl) (fun _ _ _ h => h) (Or.inl ⟨by rfl, ?_⟩) (by assumption) ?_
  rotate_left
  · intro w hSw
    go_simp
    try with_reducible rfl
  simp only [Act.put, List.getElem_toArray, List.getElem_cons_zero, List.getElem_cons_succ, List.setIfInBounds_toArray, List.set_cons_zero, List.set_cons_succ]
  refine wpAnyH_take (i := 4) (v := ?_) rfl (by kernel_rfl) (by kernel_rfl) (by kernel_rfl) (fun _ _ _ h => h) (Or.inl ⟨by rfl, ?_⟩) (by assumption) ?_
  rotate_left
  · intro w hSw
    go_simp
    try with_reducible rfl
  simp only [Act.put, List.getElem_toArray, List.getElem_cons_zero, List.getElem_cons_succ, List.setIfInBounds_toArray, List.set_cons_zero, List.set_cons_succ]
  refine wpAnyH_ready (rs := [8]) (by kernel_rfl) (by simp) ?_
  refine AllReadyH.cons rfl (fun K hK => ?_) AllReadyH.nil
  go_simp
  refine (D1.out _).mono ?_
  rintro e w9 ⟨rfl, bb⟩
  refine hK.out _ _ (ent_keep hHeld bb) (fun hHeld => ?_)
  clear hK K 
  refine wpAnyH_take (i := 9) (v := ?_) rfl (by kernel_rfl) (by kernel_rfl) (by kernel_rfl) (fun _ _ _ h => h) (Or.inl ⟨by rfl, ?_⟩) (by assumption) ?_
  rotate_left
  · intro w hSw
    go_simp
    try with_reducible rfl
  simp only [Act.put, List.getElem_toArray, List.getElem_cons_zero, List.getElem_cons_succ, List.setIfInBounds_toArray, List.set_cons_zero, List.set_cons_succ]
  refine wpAnyH_take (i := 10) (v := ?_) rfl (by kernel_rfl) (by kernel_rfl) (by kernel_rfl) (fun _ _ _ h => h) (Or.inl ⟨by rfl, ?_⟩) (by assumption) ?_
  rotate_left
  · intro w hSw
    go_simp
    try with_reducible rfl
  simp only [Act.put, List.getElem_toArray, List.getElem_cons_zero, List.getElem_cons_succ, List.setIfInBounds_toArray, List.set_cons_zero, List.set_cons_succ]
  refine wpAnyH_ready (rs := [14]) (by kernel_rfl) (by simp) ?_
  refine AllReadyH.cons rfl (fun K hK => ?_) AllReadyH.nil
  go_simp
  refine (D2.out _).mono ?_
  rintro e w9 ⟨rfl, bb⟩
  refine hK.out _ _ (ent_keep hHeld bb) (fun hHeld => ?_)
  clear hK K 
  refine wpAnyH_take (i := 15) (v := ?_) rfl (by kernel_rfl) (by kernel_rfl) (by kernel_rfl) (fun _ _ _ h => h) (Or.inl ⟨by rfl, ?_⟩) (by assumption) ?_
  rotate_left
  · intro w hSw
    go_simp
    try with_reducible rfl
  simp only [Act.put, List.getElem_toArray, List.getElem_cons_zero, List.getElem_cons_succ, List.setIfInBounds_toArray, List.set_cons_zero, List.set_cons_succ]
  refine wpAnyH_take (i := 16) (v := ?_) rfl (by kernel_rfl) (by kernel_rfl) (by kernel_rfl) (fun _ _ _ h => h) (Or.inl ⟨by rfl, ?_⟩) (by assumption) ?_
  rotate_left
  · intro w hSw
    go_simp
    try with_reducible rfl
  simp only [Act.put, List.getElem_toArray, List.getElem_cons_zero, List.getElem_cons_succ, List.setIfInBounds_toArray, List.set_cons_zero, List.set_cons_succ]
  refine wpAnyH_take (i := 17) (v := ?_) rfl (by kernel_rfl) (by kernel_rfl) (by kernel_rfl) (fun _ _ _ h => h) (Or.inl ⟨by rfl, ?_⟩) (by assumption) ?_
  rotate_left
  · intro w hSw
    go_simp
    try with_reducible rfl
  simp only [Act.put, List.getElem_toArray, List.getElem_cons_zero, List.getElem_cons_succ, List.setIfInBounds_toArray, List.set_cons_zero, List.set_cons_succ]
  refine wpAnyH_done (by kernel_rfl) ?_ _
  obtain ⟨b03, r0, r1, r2, r3, r4⟩ := hHeld
  go_wp2
  go_ret2
  exact ⟨rfl, b03⟩

end Go.Proofs.YtnjbglnkhgholabDoor
