/-
  The law CutsDeep, walked.
-/
import Derived.Test.YtagcenfjdjaaaaaCuRngR
import Derived.Test.YtagcenfjdjaaaaaCuSame
import Derived.Test.YtagcenfjdjaaaaaCuDeepP
import Derived.Test.YtagcenfjdjaaaaaCuDep
namespace Go.Proofs.Ytagcenfjdjaaaaa
open Go.RowKit
set_option linter.unusedVariables false

theorem rgCells_one (f : Nat → Rg) : ∀ n, ∀ u ∈ rgCells f n, u.oneCell' = true
  | 0, u, h => by cases h
  | n + 1, u, h => by
    simp only [rgCells, List.mem_append] at h
    rcases h with h | h
    · exact rgCells_one f n u h
    · simp only [List.mem_cons, List.not_mem_nil, or_false] at h
      rcases h with rfl | rfl | rfl <;> rfl

theorem rgCells_app (U V : Nat → Rg) (m : Nat) : ∀ s, rgCells (appR U m V) (m + s) = rgCells U m ++ rgCells V s
  | 0 => by
    show rgCells (appR U m V) m = rgCells U m ++ []
    rw [List.append_nil]
    exact rgCells_congr (fun i hi => appR_low hi)
  | s + 1 => by
    show rgCells (appR U m V) (m + s + 1) = _
    simp only [rgCells]
    rw [rgCells_app U V m s, appR_high (Nat.le_add_right m s), Nat.add_sub_cancel_left, List.append_assoc]

theorem rgs_of {w : World} {B g n cap : Nat} {f : Nat → Rg} (h : w.ownsRow B 23 3 (.slice (some ⟨g, 0, none⟩) n cap) n (rgCells f n)) {i : Nat} (hi : i < n) :
    w.cell? ⟨g, i * 3, none⟩ = some (.string (f i).lo) ∧ w.cell? ⟨g, i * 3 + 1, none⟩ = some (.string (f i).hi) ∧ w.cell? ⟨g, i * 3 + 2, none⟩ = some (.bool (f i).op) := by
  obtain ⟨h0, h1, h2⟩ := rgCells_at f n i hi
  have c := fun j u hu => h.cells (g := g) rfl j u hu
  have e : ∀ j, (⟨g, 0, none⟩ : Addr).add j = ⟨g, 0 + j, none⟩ := fun j => by unfold Addr.add; split <;> simp_all
  have c0 := c _ _ h0; have c1 := c _ _ h1; have c2 := c _ _ h2
  rw [e, Nat.zero_add] at c0 c1 c2
  exact ⟨c0, c1, c2⟩

theorem row_in {w : World} {B g n cap : Nat} {e : TypeId} {s : Nat} {xs : List Value} (h : w.ownsRow B e s (.slice (some ⟨g, 0, none⟩) n cap) n xs) : n ≤ cap ∧ B ≤ g ∧ g < w.heap.size := by
  rcases h.2 with ⟨h1, -⟩ | ⟨g', cap', cur, h1, h2, h3, h4, -⟩
  · cases h1
  · cases h1; exact ⟨h4, h2, lies h3⟩

theorem lst_pos {b n : Nat} (hb : 0 < b) (hn : 0 < n) : ∀ k, 1 ≤ lst b k n
  | 0 => hn
  | k + 1 => by
    have := lst_pos hb hn k
    show 1 ≤ cdiv (lst b k n) b
    rw [cdiv_pos (by omega) hb]
    exact Nat.le_add_left 1 _

theorem may_zero {r : Rg} (h : r.may = true) : Rg.chk ⟨r.lo, r.hi, r.op⟩ = 0 := may_chk h

set_option maxHeartbeats 6400000 in
set_option maxRecDepth 100000 in
theorem cdeep_chk (lo hi : ByteArray) (op : Bool) (a : Option Addr) (n cap : Nat) (S : Nat → ByteArray) (p : Int) (w : World) (h : StrsIn w.heap.size w a n cap S) (c : Int) (hch : Rg.chk ⟨lo, hi, op⟩ = c) (hc0 : ¬ c = 0) :
    Calls Try.prog 3 #[.agg #[.string lo, .string hi, .bool op], .slice a n cap, .int .i64 p] w fun e w' => e = .returned (.bool true) ∧ Below w.heap.size w w' := by
  obtain ⟨x, hx⟩ : ∃ x : Int, (if 2 ≤ p ∧ p ≤ 16 then (dep p.toNat : Int) else 0) = x := ⟨_, rfl⟩
  obtain ⟨y, hy⟩ : ∃ y : Int, (if 2 ≤ p ∧ p ≤ 16 then (0 : Int) else 1) = y := ⟨_, rfl⟩
  have HD := aside (fun w => rdepth_any p w)
  rw [hx, hy] at HD
  clear hx hy
  have HS := aside h
  clear h
  have S0 := aside (HS.out.up (bnew w (.cells #[.string lo, .string hi, .bool op] 23)) (bnew w (.cells #[.string lo, .string hi, .bool op] 23)).size)
  go_enter Try.func3, Try.ntmps3
  go_wp2_with fail
  refine (beyond_any a n cap S lo hi op _ S0.out).mono ?_
  rintro e w1 ⟨⟨bb, rfl, hbb⟩, b1⟩
  have X1 := aside b1
  clear b1
  obtain ⟨hbx, hnx⟩ := box_after X1.out
  obtain ⟨⟨q0, q1, q2⟩, -⟩ := box_out hbx
  have B1 := aside hnx
  clear hbx hnx S0
  cases bb
  · clear hbb
    go_wp2_with fail
    refine (rranges_chk lo hi op a n cap S 1 _ (HS.out.up B1.out B1.out.size) c hch hc0).mono ?_
    rintro e w2 ⟨rfl, b2⟩
    have X2 := aside (X1.out.trans (b2.mono X1.out.size))
    obtain ⟨hbx, hnx⟩ := box_after X2.out
    clear q0 q1 q2 b2
    obtain ⟨⟨q0, q1, q2⟩, -⟩ := box_out hbx
    have B2 := aside hnx
    clear hbx hnx
    clear q0 q1 q2
    go_wp2_with fail
    refine (HD.out _).mono ?_
    rintro e w3 ⟨rfl, rfl⟩
    go_wp2
    go_ret
    exact ⟨rfl, B2.out⟩
  · clear q0 q1 q2
    go_wp2
    go_ret
    exact ⟨rfl, B1.out⟩

set_option maxHeartbeats 6400000 in
set_option maxRecDepth 100000 in
theorem cdeep_key (lo hi : ByteArray) (op : Bool) (a : Option Addr) (n cap : Nat) (S : Nat → ByteArray) (p : Int) (w : World) (h : StrsIn w.heap.size w a n cap S) (c : Int) (hch : Rg.chk ⟨lo, hi, op⟩ = 0) (hke : keyE S n = c) (hc0 : ¬ c = 0) :
    Calls Try.prog 3 #[.agg #[.string lo, .string hi, .bool op], .slice a n cap, .int .i64 p] w fun e w' => e = .returned (.bool true) ∧ Below w.heap.size w w' := by
  obtain ⟨x, hx⟩ : ∃ x : Int, (if 2 ≤ p ∧ p ≤ 16 then (dep p.toNat : Int) else 0) = x := ⟨_, rfl⟩
  obtain ⟨y, hy⟩ : ∃ y : Int, (if 2 ≤ p ∧ p ≤ 16 then (0 : Int) else 1) = y := ⟨_, rfl⟩
  have HD := aside (fun w => rdepth_any p w)
  rw [hx, hy] at HD
  clear hx hy
  have HS := aside h
  clear h
  have S0 := aside (HS.out.up (bnew w (.cells #[.string lo, .string hi, .bool op] 23)) (bnew w (.cells #[.string lo, .string hi, .bool op] 23)).size)
  go_enter Try.func3, Try.ntmps3
  go_wp2_with fail
  refine (beyond_any a n cap S lo hi op _ S0.out).mono ?_
  rintro e w1 ⟨⟨bb, rfl, hbb⟩, b1⟩
  have X1 := aside b1
  clear b1
  obtain ⟨hbx, hnx⟩ := box_after X1.out
  obtain ⟨⟨q0, q1, q2⟩, -⟩ := box_out hbx
  have B1 := aside hnx
  clear hbx hnx S0
  cases bb
  · clear hbb
    go_wp2_with fail
    refine (rranges_key lo hi op a n cap S 1 _ (HS.out.up B1.out B1.out.size) c hch hke hc0).mono ?_
    rintro e w2 ⟨rfl, b2⟩
    have X2 := aside (X1.out.trans (b2.mono X1.out.size))
    obtain ⟨hbx, hnx⟩ := box_after X2.out
    clear q0 q1 q2 b2
    obtain ⟨⟨q0, q1, q2⟩, -⟩ := box_out hbx
    have B2 := aside hnx
    clear hbx hnx
    clear q0 q1 q2
    go_wp2_with fail
    refine (HD.out _).mono ?_
    rintro e w3 ⟨rfl, rfl⟩
    go_wp2
    go_ret
    exact ⟨rfl, B2.out⟩
  · clear q0 q1 q2
    go_wp2
    go_ret
    exact ⟨rfl, B1.out⟩

set_option maxHeartbeats 6400000 in
set_option maxRecDepth 100000 in
theorem cdeep_not (lo hi : ByteArray) (op : Bool) (a : Option Addr) (n cap : Nat) (S : Nat → ByteArray) (p : Int) (w : World) (h : StrsIn w.heap.size w a n cap S) (hch : Rg.chk ⟨lo, hi, op⟩ = 0) (hke : keyE S n = 0) (hal : allK ⟨lo, hi, op⟩ S n = false) :
    Calls Try.prog 3 #[.agg #[.string lo, .string hi, .bool op], .slice a n cap, .int .i64 p] w fun e w' => e = .returned (.bool true) ∧ Below w.heap.size w w' := by
  obtain ⟨x, hx⟩ : ∃ x : Int, (if 2 ≤ p ∧ p ≤ 16 then (dep p.toNat : Int) else 0) = x := ⟨_, rfl⟩
  obtain ⟨y, hy⟩ : ∃ y : Int, (if 2 ≤ p ∧ p ≤ 16 then (0 : Int) else 1) = y := ⟨_, rfl⟩
  have HD := aside (fun w => rdepth_any p w)
  rw [hx, hy] at HD
  clear hx hy
  have HS := aside h
  clear h
  have S0 := aside (HS.out.up (bnew w (.cells #[.string lo, .string hi, .bool op] 23)) (bnew w (.cells #[.string lo, .string hi, .bool op] 23)).size)
  go_enter Try.func3, Try.ntmps3
  go_wp2_with fail
  refine (beyond_any a n cap S lo hi op _ S0.out).mono ?_
  rintro e w1 ⟨⟨bb, rfl, hbb⟩, b1⟩
  have X1 := aside b1
  clear b1
  obtain ⟨hbx, hnx⟩ := box_after X1.out
  obtain ⟨⟨q0, q1, q2⟩, -⟩ := box_out hbx
  have B1 := aside hnx
  clear hbx hnx S0
  cases bb
  · clear hbb
    go_wp2_with fail
    refine (rranges_not lo hi op a n cap S 1 _ (HS.out.up B1.out B1.out.size) hch hke hal).mono ?_
    rintro e w2 ⟨rfl, b2⟩
    have X2 := aside (X1.out.trans (b2.mono X1.out.size))
    obtain ⟨hbx, hnx⟩ := box_after X2.out
    clear q0 q1 q2 b2
    obtain ⟨⟨q0, q1, q2⟩, -⟩ := box_out hbx
    have B2 := aside hnx
    clear hbx hnx
    clear q0 q1 q2
    go_wp2_with fail
    refine (HD.out _).mono ?_
    rintro e w3 ⟨rfl, rfl⟩
    go_wp2
    go_ret
    exact ⟨rfl, B2.out⟩
  · clear q0 q1 q2
    go_wp2
    go_ret
    exact ⟨rfl, B1.out⟩

set_option maxHeartbeats 6400000 in
set_option maxRecDepth 100000 in
theorem cdeep_arg (lo hi : ByteArray) (op : Bool) (a : Option Addr) (n cap : Nat) (S : Nat → ByteArray) (p : Int) (w : World) (h : StrsIn w.heap.size w a n cap S) (hch : Rg.chk ⟨lo, hi, op⟩ = 0) (hke : keyE S n = 0) (hal : allK ⟨lo, hi, op⟩ S n = true) (hb : ¬ (1 ≤ (n : Int) ∧ (n : Int) ≤ 256 ∧ 1 ≤ (1 : Int) ∧ (1 : Int) ≤ (n : Int))) :
    Calls Try.prog 3 #[.agg #[.string lo, .string hi, .bool op], .slice a n cap, .int .i64 p] w fun e w' => e = .returned (.bool true) ∧ Below w.heap.size w w' := by
  obtain ⟨x, hx⟩ : ∃ x : Int, (if 2 ≤ p ∧ p ≤ 16 then (dep p.toNat : Int) else 0) = x := ⟨_, rfl⟩
  obtain ⟨y, hy⟩ : ∃ y : Int, (if 2 ≤ p ∧ p ≤ 16 then (0 : Int) else 1) = y := ⟨_, rfl⟩
  have HD := aside (fun w => rdepth_any p w)
  rw [hx, hy] at HD
  clear hx hy
  have HS := aside h
  clear h
  have S0 := aside (HS.out.up (bnew w (.cells #[.string lo, .string hi, .bool op] 23)) (bnew w (.cells #[.string lo, .string hi, .bool op] 23)).size)
  go_enter Try.func3, Try.ntmps3
  go_wp2_with fail
  refine (beyond_any a n cap S lo hi op _ S0.out).mono ?_
  rintro e w1 ⟨⟨bb, rfl, hbb⟩, b1⟩
  have X1 := aside b1
  clear b1
  obtain ⟨hbx, hnx⟩ := box_after X1.out
  obtain ⟨⟨q0, q1, q2⟩, -⟩ := box_out hbx
  have B1 := aside hnx
  clear hbx hnx S0
  cases bb
  · clear hbb
    go_wp2_with fail
    refine (rranges_arg lo hi op a n cap S 1 _ (HS.out.up B1.out B1.out.size) hch hke hal hb).mono ?_
    rintro e w2 ⟨rfl, b2⟩
    have X2 := aside (X1.out.trans (b2.mono X1.out.size))
    obtain ⟨hbx, hnx⟩ := box_after X2.out
    clear q0 q1 q2 b2
    obtain ⟨⟨q0, q1, q2⟩, -⟩ := box_out hbx
    have B2 := aside hnx
    clear hbx hnx
    clear q0 q1 q2
    go_wp2_with fail
    refine (HD.out _).mono ?_
    rintro e w3 ⟨rfl, rfl⟩
    go_wp2
    go_ret
    exact ⟨rfl, B2.out⟩
  · clear q0 q1 q2
    go_wp2
    go_ret
    exact ⟨rfl, B1.out⟩

set_option maxHeartbeats 6400000 in
set_option maxRecDepth 100000 in
theorem cdeep_nob (lo hi : ByteArray) (op : Bool) (a : Option Addr) (n cap : Nat) (S : Nat → ByteArray) (p : Int) (w : World) (h : StrsIn w.heap.size w a n cap S) (hch : Rg.chk ⟨lo, hi, op⟩ = 0) (hke : keyE S n = 0) (hal : allK ⟨lo, hi, op⟩ S n = true) (hn1 : 1 ≤ n) (hn : n ≤ 256) (hp : ¬ (2 ≤ p ∧ p ≤ 16)) :
    Calls Try.prog 3 #[.agg #[.string lo, .string hi, .bool op], .slice a n cap, .int .i64 p] w fun e w' => e = .returned (.bool true) ∧ Below w.heap.size w w' := by
  have HD := aside (fun w => rdepth_any p w)
  rw [if_neg hp, if_neg hp] at HD
  have HRR := aside (fun w h => rranges_ok lo hi op a n cap S 0 w h hch hke hal hn1 hn)
  clear hp
  have HS := aside h
  clear h
  have S0 := aside (HS.out.up (bnew w (.cells #[.string lo, .string hi, .bool op] 23)) (bnew w (.cells #[.string lo, .string hi, .bool op] 23)).size)
  go_enter Try.func3, Try.ntmps3
  go_wp2_with fail
  refine (beyond_any a n cap S lo hi op _ S0.out).mono ?_
  rintro e w1 ⟨⟨bb, rfl, hbb⟩, b1⟩
  have X1 := aside b1
  clear b1
  obtain ⟨hbx, hnx⟩ := box_after X1.out
  obtain ⟨⟨q0, q1, q2⟩, -⟩ := box_out hbx
  have B1 := aside hnx
  clear hbx hnx S0
  cases bb
  · clear hbb
    go_wp2_with fail
    refine (HRR.out _ (HS.out.up B1.out B1.out.size)).mono ?_
    rintro e w2 ⟨g2, c2, rfl, o2, l2, b2⟩
    have X2 := aside (X1.out.trans (b2.mono X1.out.size))
    obtain ⟨hbx, hnx⟩ := box_after X2.out
    clear o2 l2
    clear q0 q1 q2 b2
    obtain ⟨⟨q0, q1, q2⟩, -⟩ := box_out hbx
    have B2 := aside hnx
    clear hbx hnx
    clear q0 q1 q2
    go_wp2_with fail
    refine (HD.out _).mono ?_
    rintro e w3 ⟨rfl, rfl⟩
    go_wp2
    go_ret
    exact ⟨rfl, B2.out⟩
  · clear q0 q1 q2
    go_wp2
    go_ret
    exact ⟨rfl, B1.out⟩

set_option maxHeartbeats 51200000 in
set_option maxRecDepth 100000 in
theorem cdeep_ok (lo hi : ByteArray) (op : Bool) (a : Option Addr) (n cap : Nat) (S : Nat → ByteArray) (b : Nat) (w : World) (h : StrsIn w.heap.size w a n cap S) (hch : Rg.chk ⟨lo, hi, op⟩ = 0) (hke : keyE S n = 0) (hal : allK ⟨lo, hi, op⟩ S n = true) (hn1 : 1 ≤ n) (hn : n ≤ 256) (hb2 : 2 ≤ b) (hb16 : b ≤ 16) :
    Calls Try.prog 3 #[.agg #[.string lo, .string hi, .bool op], .slice a n cap, .int .i64 (b : Int)] w fun e w' => e = .returned (.bool true) ∧ Below w.heap.size w w' := by
  obtain ⟨ri0, hri0, hz0, hz1, hz2⟩ := info_parts info23
  obtain ⟨si0, hsi0, hy0, hy1, hy2⟩ := infoStr_parts
  have HD := aside (fun w => rdepth_any (b : Int) w)
  rw [if_pos (by omega), if_pos (by omega), Int.toNat_natCast] at HD
  have HRR := aside (fun w h => rranges_ok lo hi op a n cap S 0 w h hch hke hal hn1 hn)
  have HK := aside (keysOk hke)
  have HA := aside (show ∀ i, i < n → Rg.has ⟨lo, hi, op⟩ (S i) = true from fun i hi => allK_at hal hi)
  have HF0 := aside (full_start (r := ⟨lo, hi, op⟩) (by omega) HA.out)
  have HEND := aside (lst_dep hb2 hb16 hn)
  have hd8 := dep_le b
  generalize dep b = d at *
  have HS := aside h
  clear h
  have S0 := aside (HS.out.up (bnew w (.cells #[.string lo, .string hi, .bool op] 23)) (bnew w (.cells #[.string lo, .string hi, .bool op] 23)).size)
  go_enter Try.func3, Try.ntmps3
  go_wp2_with fail
  refine (beyond_any a n cap S lo hi op _ S0.out).mono ?_
  rintro e w1 ⟨⟨bb, rfl, hbb⟩, b1⟩
  have X1 := aside b1
  clear b1
  obtain ⟨hbx, hnx⟩ := box_after X1.out
  obtain ⟨⟨q0, q1, q2⟩, -⟩ := box_out hbx
  have B1 := aside hnx
  clear hbx hnx S0
  cases bb
  · clear hbb
    go_wp2_with fail
    refine (HRR.out _ (HS.out.up B1.out B1.out.size)).mono ?_
    rintro e w2 ⟨g2, c2, rfl, o2, l2, b2⟩
    have X2 := aside (X1.out.trans (b2.mono X1.out.size))
    obtain ⟨hbx, hnx⟩ := box_after X2.out
    clear o2 l2
    clear q0 q1 q2 b2
    obtain ⟨⟨q0, q1, q2⟩, -⟩ := box_out hbx
    have B2 := aside hnx
    clear hbx hnx
    clear q0 q1 q2
    have X3 := aside X2.out
    have B3 := aside B2.out
    go_wp2_with fail
    refine (HD.out _).mono ?_
    rintro e w3 ⟨rfl, hw3⟩
    subst hw3
    have S3 := aside (HS.out.up B3.out B3.out.size)
    have hlc := HS.out.1
    have O0 : Hid ((w3.alloc (.cells #[] 23)).ownsRow w3.heap.size 23 3 (.slice (some ⟨w3.heap.size, 0, none⟩) 0 0) 0 []) := aside (World.ownsRow_made w3 #[] 0 (Nat.le_refl _) (Nat.zero_le _) rfl)
    obtain ⟨⟨q0, q1, q2⟩, -⟩ := box_out (keepA (p := .cells #[] 23) (box_after X3.out).1)
    have XB : Hid (((w3.alloc (.cells #[] 23)).alloc (.cells #[.string lo, .string hi, .bool op] 23)).heap[w3.heap.size + 1]? = some (.cells #[.string lo, .string hi, .bool op] 23 (0, 0))) := aside (by have h1 := heap_alloc_new (w3.alloc (.cells #[] 23)) (.cells #[.string lo, .string hi, .bool op] 23); rwa [World.size_alloc] at h1)
    go_wp2_with (at_builtin; refine wpList_append_lies _ rfl _ _ _ rfl w3.heap.size 23 ri0 (.agg #[.string ⟨#[]⟩, .string ⟨#[]⟩, .bool false]) 3 40 Try.underlying26 hri0 hz0 hz1 hz2 rfl (by decide) _ _ _ (by rfl) (O0.out.alloc _) ⟨w3.heap.size + 1, 0, none⟩ 1 1 [.string lo, .string hi, .bool op] (by rfl) (by rfl) (World.news_of_block (cs := #[.string lo, .string hi, .bool op]) (t := 23) (fr := (0, 0)) XB.out) (by simp [Value.oneCell']) (by omega) (by unfold maxLen; omega) (by omega) (by simp; omega) (w3.heap.size + 1 + 1) (by simp) ?_; intro g4 c4 w4 hown4 hgrow4 hat4 hlt4; refine Hid.out ?_)
    refine aside ?_
    have O4 := aside (show w4.ownsRow w3.heap.size 23 3 (.slice (some ⟨g4, 0, none⟩) 1 c4) 1 (rgCells (fun _ => ⟨lo, hi, op⟩) 1) from hown4)
    have B34 := aside (show Below w3.heap.size w3 w4 from (((Below.refl _ w3).alloc (Nat.le_refl _) _).alloc (by simp) _).grown hgrow4 (by simp; omega) (fun j hj => (O0.out.lt j hj).1))
    clear hown4 hgrow4 hat4 hlt4 q0 q1 q2 O0
    go_wp2
    go_loopw [11, 12] (fun v u wr => ∃ (k g cp m : Nat) (T : Nat → Rg) (c : Nat → Nat), k ≤ d ∧ v = .slice (some ⟨g, 0, none⟩) m cp ∧ u = .int .i64 (k : Int) ∧ wr.ownsRow w3.heap.size 23 3 (.slice (some ⟨g, 0, none⟩) m cp) m (rgCells T m) ∧ Hid (Full T m c S n ⟨lo, hi, op⟩ (lst b k n)) ∧ Below w3.heap.size w3 wr) (fun _ u _ => d - (intOf u).toNat)
    case atStart => exact ⟨0, _, _, _, _, _, Nat.zero_le _, rfl, rfl, O4.out, HF0, B34.out⟩
    case round =>
      obtain ⟨k, g, cp, m, T, c, hk, rfl, rfl, hown, HF, hnx⟩ := hrel
      have OT := aside hown
      have BT := aside hnx
      have hmn := HF.out.pre.len
      have hmc := (row_in hown).1
      have GT := aside (row_in hown).2.2
      have CTO := aside (fun i (hi : i < m) => HF.out.pre.top (i := i + 1) (by omega))
      have CUP := aside HF.out.pre.up
      have CHA := aside HF.out.pre.has
      clear hown hnx O4 B34
      by_cases hkd : (k : Int) < (d : Int)
      · have hkw : IntKind.i64.wrap ((k : Int) + 1) = (k : Int) + 1 := by rw [IntKind.wrap_i64]; omega
        have H0 := aside (half_nil (fun _ => ⟨lo, hi, op⟩) T c S n ⟨lo, hi, op⟩ (lst b (k + 1) n) HF.out.pre.c0)
        have ON := aside (World.ownsRow_made wr (e := 23) (size := 3) (base := wr.heap.size) #[] 0 (Nat.le_refl _) (Nat.zero_le _) rfl)
        have BN := aside (bnew wr (.cells #[] 23))
        go_wp2
        generalize wr = Y at *
        go_loopw [13, 14] (fun v u wr => ∃ (i g' cp' m' : Nat) (U : Nat → Rg) (c' : Nat → Nat), i ≤ m ∧ v = .slice (some ⟨g', 0, none⟩) m' cp' ∧ u = .int .i64 (i : Int) ∧ wr.ownsRow Y.heap.size 23 3 (.slice (some ⟨g', 0, none⟩) m' cp') m' (rgCells U m') ∧ Hid (Half U m' c' T i c S n ⟨lo, hi, op⟩ (lst b (k + 1) n)) ∧ Below Y.heap.size Y wr) (fun _ u _ => m - (intOf u).toNat)
        case atStart => exact ⟨0, _, _, _, _, _, Nat.zero_le _, rfl, rfl, ON.out, H0, BN.out⟩
        case round =>
          obtain ⟨i, g', cp', m', U, c', hile, rfl, rfl, hown, HH, hnx⟩ := hrel
          have OU := aside hown
          have BU := aside hnx
          have hm2 := HH.out.pre.len
          have hmc2 := (row_in hown).1
          have GU := aside (row_in hown).2.2
          clear hown hnx
          by_cases him : (i : Int) < (m : Int)
          · have hi0 : (0 : Int) ≤ (i : Int) := by omega
            have hiw : IntKind.i64.wrap ((i : Int) + 1) = (i : Int) + 1 := by rw [IntKind.wrap_i64]; omega
            have hum := CUP.out i (by omega)
            have htop := CTO.out i (by omega)
            have OS := aside (show (wr.alloc (.cells #[] 9)).ownsRow wr.heap.size 9 1 (.slice (some ⟨wr.heap.size, 0, none⟩) (cj c i 0) 0) (cj c i 0) (strCells (strUpto (shf S (c i)) (cj c i 0))) from by rw [cj_zero]; exact World.ownsRow_made wr #[] 0 (Nat.le_refl _) (Nat.zero_le _) rfl)
            have BS := aside (bnew wr (.cells #[] 9))
            have OTW := aside (row_below OT.out BU.out GT.out)
            have GTW := aside (show g < wr.heap.size from Nat.lt_of_lt_of_le GT.out BU.out.size)
            have SW := aside (S3.out.up (BT.out.trans (BU.out.mono BT.out.size)) (BT.out.trans (BU.out.mono BT.out.size)).size)
            have R0 := aside (rgs_of OTW.out (i := i) (by omega))
            go_wp2
            generalize wr = Z at *
            go_loopw [15, 16] (fun v u wr => ∃ (j g8 cp8 : Nat), j ≤ n ∧ v = .slice (some ⟨g8, 0, none⟩) (cj c i j) cp8 ∧ u = .int .i64 (j : Int) ∧ wr.ownsRow Z.heap.size 9 1 (.slice (some ⟨g8, 0, none⟩) (cj c i j) cp8) (cj c i j) (strCells (strUpto (shf S (c i)) (cj c i j))) ∧ Below Z.heap.size Z wr) (fun _ u _ => n - (intOf u).toNat)
            case atStart => exact ⟨0, _, _, Nat.zero_le _, by rw [cj_zero], rfl, OS.out, BS.out⟩
            case round =>
              obtain ⟨j, g8, cp8, hj, rfl, rfl, hown, hnx⟩ := hrel
              have OI := aside hown
              have BZ := aside hnx
              have G8 := aside (row_in hown).2.2
              have hcl := cj_le (j := j) hum
              by_cases hjn : (j : Int) < (n : Int)
              · rcases SW.out.2.2 with h0 | ⟨bk, off, rfl, hbk, hcc⟩
                · omega
                have k0 := (hnx.cell (p := ⟨bk, off + j, none⟩) hbk).trans (hcc j (by omega))
                have r0 := (hnx.cell (p := ⟨g, i * 3, none⟩) GTW.out).trans R0.out.1
                have r1 := (hnx.cell (p := ⟨g, i * 3 + 1, none⟩) GTW.out).trans R0.out.2.1
                have r2 := (hnx.cell (p := ⟨g, i * 3 + 2, none⟩) GTW.out).trans R0.out.2.2
                have hj0 : (0 : Int) ≤ (j : Int) := by omega
                have hjw : IntKind.i64.wrap ((j : Int) + 1) = (j : Int) + 1 := by rw [IntKind.wrap_i64]; omega
                have him2 : i < m := by omega
                have HC := aside (fun w => holds_any (T i).lo (T i).hi (T i).op (S j) w)
                rw [show Rg.has ⟨(T i).lo, (T i).hi, (T i).op⟩ (S j) = _ from CHA.out i j him2 (by omega)] at HC
                clear hcc hnx
                by_cases hin : c i ≤ j ∧ j < c (i + 1)
                · rw [decide_eq_true hin.1, decide_eq_true hin.2] at HC
                  have hcj := cj_in hin.1 hin.2
                  have HSU := aside (strUpto_succ (shf S (c i)) (cj c i j))
                  rw [show shf S (c i) (cj c i j) = S j from by unfold shf; rw [hcj.2]] at HSU
                  clear hown
                  go_wp2_with fail
                  refine wp_region_held_drew (S := fun X => X.cell? ⟨g, i * 3, none⟩ = some (.string (T i).lo) ∧ X.cell? ⟨g, i * 3 + 1, none⟩ = some (.string (T i).hi) ∧ X.cell? ⟨g, i * 3 + 2, none⟩ = some (.bool (T i).op) ∧ X.cell? ⟨bk, off + j, none⟩ = some (.string (S j)) ∧ Hid (Below wr.heap.size wr X)) (by kernel_rfl) ⟨r0, r1, r2, k0, aside ((Below.refl _ wr).drew)⟩ (fun hHeld => ?_)
                  refine wpAnyH_take (i := 0) (v := ?_) rfl (by kernel_rfl) (by kernel_rfl) (by kernel_rfl) (fun _ _ _ h => h) (Or.inl ⟨by rfl, ?_⟩) (by assumption) ?_
                  rotate_left
                  · intro w hSw
                    go_simp
                    try with_reducible rfl
                  simp only [Act.put, List.getElem_toArray, List.getElem_cons_zero, List.setIfInBounds_toArray, List.set_cons_zero, List.set_cons_succ]
                  refine wpAnyH_take (i := 1) (v := ?_) rfl (by kernel_rfl) (by kernel_rfl) (by kernel_rfl) (fun _ _ _ h => h) (Or.inl ⟨by rfl, ?_⟩) (by assumption) ?_
                  rotate_left
                  · intro w hSw
                    go_simp
                    try with_reducible rfl
                  simp only [Act.put, List.getElem_toArray, List.getElem_cons_zero, List.getElem_cons_succ, List.setIfInBounds_toArray, List.set_cons_zero, List.set_cons_succ]
                  refine wpAnyH_take (i := 2) (v := ?_) rfl (by kernel_rfl) (by kernel_rfl) (by kernel_rfl) (fun _ _ _ h => h) (Or.inl ⟨by rfl, ?_⟩) (by assumption) ?_
                  rotate_left
                  · intro w hSw
                    go_simp
                    try with_reducible rfl
                  simp only [Act.put, List.getElem_toArray, List.getElem_cons_zero, List.getElem_cons_succ, List.setIfInBounds_toArray, List.set_cons_zero, List.set_cons_succ]
                  refine wpAnyH_take (i := 3) (v := ?_) rfl (by kernel_rfl) (by kernel_rfl) (by kernel_rfl) (fun _ _ _ h => h) (Or.inl ⟨by rfl, ?_⟩) (by assumption) ?_
                  rotate_left
                  · intro w hSw
                    go_simp
                    try with_reducible rfl
                  simp only [Act.put, List.getElem_toArray, List.getElem_cons_zero, List.getElem_cons_succ, List.setIfInBounds_toArray, List.set_cons_zero, List.set_cons_succ]
                  refine wpAnyH_take (i := 4) (v := ?_) rfl (by kernel_rfl) (by kernel_rfl) (by kernel_rfl) (fun _ _ _ h => h) (Or.inl ⟨by rfl, ?_⟩) (by assumption) ?_
                  rotate_left
                  · intro w hSw
                    go_simp
                    try with_reducible rfl
                  simp only [Act.put, List.getElem_toArray, List.getElem_cons_zero, List.getElem_cons_succ, List.setIfInBounds_toArray, List.set_cons_zero, List.set_cons_succ]
                  refine wpAnyH_take (i := 5) (v := ?_) rfl (by kernel_rfl) (by kernel_rfl) (by kernel_rfl) (fun _ _ _ h => h) (Or.inl ⟨by rfl, ?_⟩) (by assumption) ?_
                  rotate_left
                  · intro w hSw
                    go_simp
                    try with_reducible rfl
                  simp only [Act.put, List.getElem_toArray, List.getElem_cons_zero, List.getElem_cons_succ, List.setIfInBounds_toArray, List.set_cons_zero, List.set_cons_succ]
                  refine wpAnyH_take (i := 6) (v := ?_) rfl (by kernel_rfl) (by kernel_rfl) (by kernel_rfl) (fun _ _ _ h => h) (Or.inl ⟨by rfl, ?_⟩) (by assumption) ?_
                  rotate_left
                  · intro w hSw
                    go_simp
                    try with_reducible rfl
                  simp only [Act.put, List.getElem_toArray, List.getElem_cons_zero, List.getElem_cons_succ, List.setIfInBounds_toArray, List.set_cons_zero, List.set_cons_succ]
                  refine wpAnyH_take (i := 7) (v := ?_) rfl (by kernel_rfl) (by kernel_rfl) (by kernel_rfl) (fun _ _ _ h => h) (Or.inl ⟨by rfl, ?_⟩) (by assumption) ?_
                  rotate_left
                  · intro w hSw
                    go_simp
                    try with_reducible rfl
                  simp only [Act.put, List.getElem_toArray, List.getElem_cons_zero, List.getElem_cons_succ, List.setIfInBounds_toArray, List.set_cons_zero, List.set_cons_succ]
                  refine wpAnyH_ready (rs := [8]) (by kernel_rfl) (by simp) ?_
                  refine AllReadyH.cons rfl (fun K hK => ?_) AllReadyH.nil
                  go_simp
                  refine (HC.out _).mono ?_
                  rintro e w9 ⟨rfl, bb⟩
                  refine hK.out _ _ (⟨cell_on hHeld.1 bb, cell_on hHeld.2.1 bb, cell_on hHeld.2.2.1 bb, cell_on hHeld.2.2.2.1 bb, aside (hHeld.2.2.2.2.out.trans (bb.mono hHeld.2.2.2.2.out.size))⟩) (fun hHeld => ?_)
                  clear hK K 
                  refine wpAnyH_done (by kernel_rfl) ?_ _
                  have HY := aside hHeld.2.2.2.2.out
                  have k1 := hHeld.2.2.2.1
                  clear hHeld k0 r0 r1 r2
                  have OI2 := aside (row_below OI.out HY.out G8.out)
                  have BZ2 := aside (BZ.out.trans (HY.out.mono BZ.out.size))
                  have HNS := aside BZ2.out.size
                  go_wp2_with (at_builtin; refine wpList_append_lies _ rfl _ _ _ rfl Z.heap.size 9 si0 (.string ⟨#[]⟩) 1 16 Try.underlying24 hsi0 hy0 hy1 hy2 rfl (by decide) _ _ _ (by rfl) (OI2.out.alloc _) ⟨w9.heap.size, 0, none⟩ 1 1 [.string (S j)] (by rfl) (by rfl) (World.news_of_block (cs := #[.string (S j)]) (t := 9) (fr := (0, 0)) (heap_alloc_new w9 _)) (by simp [Value.oneCell']) (by omega) (by unfold maxLen; omega) (by omega) (by have := HNS.out; simp; omega) (w9.heap.size + 1) (by simp) ?_; intro g5 cp5 w5 hown1 hgrow hat hlt1; refine Hid.out ?_)
                  refine aside ?_
                  have HO := aside (show w5.ownsRow Z.heap.size 9 1 (.slice (some ⟨g5, 0, none⟩) (cj c i j + 1) cp5) (cj c i j + 1) (strCells (strUpto (shf S (c i)) (cj c i j + 1))) from by rw [HSU.out]; exact hown1)
                  have HB5 := aside (show Below Z.heap.size Z w5 from (BZ2.out.alloc BZ2.out.size _).grown hgrow (by have := BZ2.out.size; simp; omega) (fun x hx => (OI2.out.lt x hx).1))
                  clear hown1 hgrow hat hlt1 k1
                  go_wp2
                  go_roundw
                  case rel => exact ⟨j + 1, g5, cp5, by omega, by rw [hcj.1], by go_num, by rw [hcj.1]; exact HO.out, HB5.out⟩
                  case measure => simp [intOf]; omega
                · clear hown
                  have hcj := cj_out hum hin
                  have hf : (decide (c i ≤ j) && decide (j < c (i + 1))) = false := by
                    by_cases e1 : c i ≤ j
                    · rw [decide_eq_false (show ¬ j < c (i + 1) from by omega), Bool.and_false]
                    · rw [decide_eq_false e1]; rfl
                  rw [hf] at HC
                  go_wp2_with fail
                  refine wp_region_held_drew (S := fun X => X.cell? ⟨g, i * 3, none⟩ = some (.string (T i).lo) ∧ X.cell? ⟨g, i * 3 + 1, none⟩ = some (.string (T i).hi) ∧ X.cell? ⟨g, i * 3 + 2, none⟩ = some (.bool (T i).op) ∧ X.cell? ⟨bk, off + j, none⟩ = some (.string (S j)) ∧ Hid (Below wr.heap.size wr X)) (by kernel_rfl) ⟨r0, r1, r2, k0, aside ((Below.refl _ wr).drew)⟩ (fun hHeld => ?_)
                  refine wpAnyH_take (i := 0) (v := ?_) rfl (by kernel_rfl) (by kernel_rfl) (by kernel_rfl) (fun _ _ _ h => h) (Or.inl ⟨by rfl, ?_⟩) (by assumption) ?_
                  rotate_left
                  · intro w hSw
                    go_simp
                    try with_reducible rfl
                  simp only [Act.put, List.getElem_toArray, List.getElem_cons_zero, List.setIfInBounds_toArray, List.set_cons_zero, List.set_cons_succ]
                  refine wpAnyH_take (i := 1) (v := ?_) rfl (by kernel_rfl) (by kernel_rfl) (by kernel_rfl) (fun _ _ _ h => h) (Or.inl ⟨by rfl, ?_⟩) (by assumption) ?_
                  rotate_left
                  · intro w hSw
                    go_simp
                    try with_reducible rfl
                  simp only [Act.put, List.getElem_toArray, List.getElem_cons_zero, List.getElem_cons_succ, List.setIfInBounds_toArray, List.set_cons_zero, List.set_cons_succ]
                  refine wpAnyH_take (i := 2) (v := ?_) rfl (by kernel_rfl) (by kernel_rfl) (by kernel_rfl) (fun _ _ _ h => h) (Or.inl ⟨by rfl, ?_⟩) (by assumption) ?_
                  rotate_left
                  · intro w hSw
                    go_simp
                    try with_reducible rfl
                  simp only [Act.put, List.getElem_toArray, List.getElem_cons_zero, List.getElem_cons_succ, List.setIfInBounds_toArray, List.set_cons_zero, List.set_cons_succ]
                  refine wpAnyH_take (i := 3) (v := ?_) rfl (by kernel_rfl) (by kernel_rfl) (by kernel_rfl) (fun _ _ _ h => h) (Or.inl ⟨by rfl, ?_⟩) (by assumption) ?_
                  rotate_left
                  · intro w hSw
                    go_simp
                    try with_reducible rfl
                  simp only [Act.put, List.getElem_toArray, List.getElem_cons_zero, List.getElem_cons_succ, List.setIfInBounds_toArray, List.set_cons_zero, List.set_cons_succ]
                  refine wpAnyH_take (i := 4) (v := ?_) rfl (by kernel_rfl) (by kernel_rfl) (by kernel_rfl) (fun _ _ _ h => h) (Or.inl ⟨by rfl, ?_⟩) (by assumption) ?_
                  rotate_left
                  · intro w hSw
                    go_simp
                    try with_reducible rfl
                  simp only [Act.put, List.getElem_toArray, List.getElem_cons_zero, List.getElem_cons_succ, List.setIfInBounds_toArray, List.set_cons_zero, List.set_cons_succ]
                  refine wpAnyH_take (i := 5) (v := ?_) rfl (by kernel_rfl) (by kernel_rfl) (by kernel_rfl) (fun _ _ _ h => h) (Or.inl ⟨by rfl, ?_⟩) (by assumption) ?_
                  rotate_left
                  · intro w hSw
                    go_simp
                    try with_reducible rfl
                  simp only [Act.put, List.getElem_toArray, List.getElem_cons_zero, List.getElem_cons_succ, List.setIfInBounds_toArray, List.set_cons_zero, List.set_cons_succ]
                  refine wpAnyH_take (i := 6) (v := ?_) rfl (by kernel_rfl) (by kernel_rfl) (by kernel_rfl) (fun _ _ _ h => h) (Or.inl ⟨by rfl, ?_⟩) (by assumption) ?_
                  rotate_left
                  · intro w hSw
                    go_simp
                    try with_reducible rfl
                  simp only [Act.put, List.getElem_toArray, List.getElem_cons_zero, List.getElem_cons_succ, List.setIfInBounds_toArray, List.set_cons_zero, List.set_cons_succ]
                  refine wpAnyH_take (i := 7) (v := ?_) rfl (by kernel_rfl) (by kernel_rfl) (by kernel_rfl) (fun _ _ _ h => h) (Or.inl ⟨by rfl, ?_⟩) (by assumption) ?_
                  rotate_left
                  · intro w hSw
                    go_simp
                    try with_reducible rfl
                  simp only [Act.put, List.getElem_toArray, List.getElem_cons_zero, List.getElem_cons_succ, List.setIfInBounds_toArray, List.set_cons_zero, List.set_cons_succ]
                  refine wpAnyH_ready (rs := [8]) (by kernel_rfl) (by simp) ?_
                  refine AllReadyH.cons rfl (fun K hK => ?_) AllReadyH.nil
                  go_simp
                  refine (HC.out _).mono ?_
                  rintro e w9 ⟨rfl, bb⟩
                  refine hK.out _ _ (⟨cell_on hHeld.1 bb, cell_on hHeld.2.1 bb, cell_on hHeld.2.2.1 bb, cell_on hHeld.2.2.2.1 bb, aside (hHeld.2.2.2.2.out.trans (bb.mono hHeld.2.2.2.2.out.size))⟩) (fun hHeld => ?_)
                  clear hK K 
                  refine wpAnyH_done (by kernel_rfl) ?_ _
                  have HY := aside hHeld.2.2.2.2.out
                  clear hHeld k0 r0 r1 r2
                  have OI2 := aside (row_below OI.out HY.out G8.out)
                  have BZ2 := aside (BZ.out.trans (HY.out.mono BZ.out.size))
                  go_wp2
                  go_roundw
                  case rel => exact ⟨j + 1, g8, cp8, by omega, by rw [hcj], by go_num, by rw [hcj]; exact OI2.out, BZ2.out⟩
                  case measure => simp [intOf]; omega
              · obtain rfl : n = j := by omega
                have hall := cj_all hum htop
                obtain ⟨t, ht⟩ : ∃ t, cj c i n = t := ⟨_, rfl⟩
                rw [ht] at OI hall hcl
                rw [ht]
                clear hown ht
                have him2 : i < m := by omega
                have r0 := (hnx.cell (p := ⟨g, i * 3, none⟩) GTW.out).trans R0.out.1
                have r1 := (hnx.cell (p := ⟨g, i * 3 + 1, none⟩) GTW.out).trans R0.out.2.1
                have r2 := (hnx.cell (p := ⟨g, i * 3 + 2, none⟩) GTW.out).trans R0.out.2.2
                have OUW := aside (row_below OU.out BZ.out GU.out)
                have BYW := aside (BU.out.trans (BZ.out.mono BU.out.size))
                have HNS := aside BYW.out.size
                clear hnx
                by_cases ht2 : (t : Int) < 2
                · have HB := aside (Half.app HF.out.pre him2 HH.out (blk_one HF.out.pre him2 (L' := lst b (k + 1) n) (by have := lst_pos (b := b) (by omega) (n := n) (by omega) (k + 1); omega)))
                  have HRA := aside (show rgCells (appR U m' fun _ => T i) (m' + 1) = rgCells U m' ++ [.string (T i).lo, .string (T i).hi, .bool (T i).op] from by rw [rgCells_app]; rfl)
                  have hm3 := HB.out.pre.len
                  go_wp2_with (at_builtin; refine wpList_append_lies _ rfl _ _ _ rfl Y.heap.size 23 ri0 (.agg #[.string ⟨#[]⟩, .string ⟨#[]⟩, .bool false]) 3 40 Try.underlying26 hri0 hz0 hz1 hz2 rfl (by decide) _ _ _ (by rfl) (OUW.out.alloc _) ⟨wr.heap.size, 0, none⟩ 1 1 [.string (T i).lo, .string (T i).hi, .bool (T i).op] (by rfl) (by rfl) (World.news_of_block (cs := #[.string (T i).lo, .string (T i).hi, .bool (T i).op]) (t := 23) (fr := (0, 0)) (heap_alloc_new wr _)) (by simp [Value.oneCell']) (by omega) (by unfold maxLen; omega) (by omega) (by have := HNS.out; simp; omega) (wr.heap.size + 1) (by simp) ?_; intro g5 cp5 w5 hown1 hgrow hat hlt1; refine Hid.out ?_)
                  refine aside ?_
                  have HO := aside (show w5.ownsRow Y.heap.size 23 3 (.slice (some ⟨g5, 0, none⟩) (m' + 1) cp5) (m' + 1) (rgCells (appR U m' fun _ => T i) (m' + 1)) from by rw [HRA.out]; exact hown1)
                  have HB5 := aside (show Below Y.heap.size Y w5 from (BYW.out.alloc BYW.out.size _).grown hgrow (by have := BYW.out.size; simp; omega) (fun x hx => (OUW.out.lt x hx).1))
                  clear hown1 hgrow hat hlt1 r0 r1 r2
                  go_wp2
                  go_roundw
                  case rel => exact ⟨i + 1, g5, cp5, m' + 1, _, _, by omega, rfl, by go_num, HO.out, HB, HB5.out⟩
                  case measure => simp [intOf]; omega
                · have hmin : ∃ q, q + 1 = min t b := ⟨min t b - 1, by omega⟩
                  obtain ⟨q, hq⟩ := hmin
                  have hq1 : 1 ≤ q := by omega
                  rw [hall] at hq
                  have HSK := aside (shf_ok HK.out (a := c i) (k := c (i + 1) - c i) (by omega))
                  have HSH := aside (shf_has HF.out.pre him2)
                  have HB := aside (Half.app HF.out.pre him2 HH.out (blk_split HK.out HF.out.pre him2 (by omega) hq (L' := lst b (k + 1) n) (Nat.le_refl _)))
                  have CR := aside (ranges_ok (T i).lo (T i).hi (T i).op (some ⟨g8, 0, none⟩) t cp8 (shf S (c i)) q wr (strs_own OI.out (by omega)) (may_zero (has_parts (HSH.out 0 (by omega))).1) (by rw [hall]; exact keyE_zero HSK.out) (by rw [hall]; exact allK_true HSH.out) (by omega) (by omega))
                  rw [← hall] at HB hq
                  have hm3 := HB.out.pre.len
                  obtain ⟨V, hV⟩ : ∃ V, piece (T i) (bdr t (q + 1) (shf S (c i))) q = V := ⟨_, rfl⟩
                  have CR2 := aside (show Calls Try.prog 13 #[.agg #[.string (T i).lo, .string (T i).hi, .bool (T i).op], .slice (some ⟨g8, 0, none⟩) t cp8, .int .i64 ((q : Int) + 1)] wr fun e w' => ∃ g6 c6, e = .returned (.tuple #[.slice (some ⟨g6, 0, none⟩) (q + 1) c6, .int .i64 0]) ∧ w'.ownsRow wr.heap.size 23 3 (.slice (some ⟨g6, 0, none⟩) (q + 1) c6) (q + 1) (rgCells (piece (T i) (bdr t (q + 1) (shf S (c i))) q) (q + 1)) ∧ g6 < w'.heap.size ∧ Below wr.heap.size wr w' from CR.out)
                  rw [hV] at CR2 HB
                  clear CR hV HSK HSH
                  have HRA := aside (rgCells_app U V m' (q + 1))
                  have HQ := aside hq
                  have hqn2 : q + 1 ≤ 256 := by omega
                  clear hq hall
                  by_cases htb : t < b
                  · rw [show ((q : Int) + 1) = (t : Int) from by have := HQ.out; omega] at CR2
                    go_wp2_with fail
                    refine CR2.out.mono ?_
                    rintro e w6 ⟨g6, c6, rfl, o6, l6, b6⟩
                    have OUW6 := aside (row_below OUW.out b6 (row_in OUW.out).2.2)
                    have BY6 := aside (BYW.out.trans (b6.mono BYW.out.size))
                    have O6 := aside o6
                    have HNS6 := aside BY6.out.size
                    have hq6 := (row_in o6).1
                    clear o6 b6 l6 r0 r1 r2
                    go_wp2_with (at_builtin; refine wpList_append_lies _ rfl _ _ _ rfl Y.heap.size 23 ri0 (.agg #[.string ⟨#[]⟩, .string ⟨#[]⟩, .bool false]) 3 40 Try.underlying26 hri0 hz0 hz1 hz2 rfl (by decide) _ _ _ (by rfl) OUW6.out ⟨g6, 0, none⟩ (q + 1) c6 (rgCells V (q + 1)) (by rfl) (by rw [rgCells_length]) (fun x u hu => O6.out.cells (g := g6) rfl x u hu) (rgCells_one V (q + 1)) (by omega) (by unfold maxLen; omega) (by omega) HNS6.out w6.heap.size rfl ?_; intro g5 cp5 w5 hown1 hgrow hat hlt1; refine Hid.out ?_)
                    refine aside ?_
                    have HO := aside (show w5.ownsRow Y.heap.size 23 3 (.slice (some ⟨g5, 0, none⟩) (m' + (q + 1)) cp5) (m' + (q + 1)) (rgCells (appR U m' V) (m' + (q + 1))) from by rw [HRA.out]; exact hown1)
                    have HB5 := aside (show Below Y.heap.size Y w5 from BY6.out.grown hgrow BY6.out.size (fun x hx => (OUW6.out.lt x hx).1))
                    clear hown1 hgrow hat hlt1
                    go_wp2
                    go_roundw
                    case rel => exact ⟨i + 1, g5, cp5, m' + (q + 1), _, _, by omega, rfl, by go_num, HO.out, HB, HB5.out⟩
                    case measure => simp [intOf]; omega
                  · rw [show ((q : Int) + 1) = (b : Int) from by have := HQ.out; omega] at CR2
                    go_wp2_with fail
                    refine CR2.out.mono ?_
                    rintro e w6 ⟨g6, c6, rfl, o6, l6, b6⟩
                    have OUW6 := aside (row_below OUW.out b6 (row_in OUW.out).2.2)
                    have BY6 := aside (BYW.out.trans (b6.mono BYW.out.size))
                    have O6 := aside o6
                    have HNS6 := aside BY6.out.size
                    have hq6 := (row_in o6).1
                    clear o6 b6 l6 r0 r1 r2
                    go_wp2_with (at_builtin; refine wpList_append_lies _ rfl _ _ _ rfl Y.heap.size 23 ri0 (.agg #[.string ⟨#[]⟩, .string ⟨#[]⟩, .bool false]) 3 40 Try.underlying26 hri0 hz0 hz1 hz2 rfl (by decide) _ _ _ (by rfl) OUW6.out ⟨g6, 0, none⟩ (q + 1) c6 (rgCells V (q + 1)) (by rfl) (by rw [rgCells_length]) (fun x u hu => O6.out.cells (g := g6) rfl x u hu) (rgCells_one V (q + 1)) (by omega) (by unfold maxLen; omega) (by omega) HNS6.out w6.heap.size rfl ?_; intro g5 cp5 w5 hown1 hgrow hat hlt1; refine Hid.out ?_)
                    refine aside ?_
                    have HO := aside (show w5.ownsRow Y.heap.size 23 3 (.slice (some ⟨g5, 0, none⟩) (m' + (q + 1)) cp5) (m' + (q + 1)) (rgCells (appR U m' V) (m' + (q + 1))) from by rw [HRA.out]; exact hown1)
                    have HB5 := aside (show Below Y.heap.size Y w5 from BY6.out.grown hgrow BY6.out.size (fun x hx => (OUW6.out.lt x hx).1))
                    clear hown1 hgrow hat hlt1
                    go_wp2
                    go_roundw
                    case rel => exact ⟨i + 1, g5, cp5, m' + (q + 1), _, _, by omega, rfl, by go_num, HO.out, HB, HB5.out⟩
                    case measure => simp [intOf]; omega
          · obtain rfl : m = i := by omega
            have HFN := aside (Half.full HF.out HH.out)
            have O9 := aside (row_base OU.out BT.out.size)
            have B9 := aside (BT.out.trans (BU.out.mono BT.out.size))
            go_wp2
            go_roundw
            case rel => exact ⟨k + 1, _, _, _, _, _, by omega, rfl, by go_num, O9.out, HFN, B9.out⟩
            case measure => simp [intOf]; omega
      · obtain rfl : d = k := by omega
        have HL1 := HEND.out
        have LE1 := aside (fun i (hi : i < m) => HF.out.pre.le i hi)
        have HTI := aside HF.out.tiles
        have B9 := aside (bthen B3.out BT.out)
        have SD := aside (S3.out.up BT.out BT.out.size)
        go_wp2
        generalize wr = Y at *
        go_loopw [19] (fun v wr => ∃ i : Nat, i ≤ m ∧ v = .int .i64 (i : Int) ∧ Below Y.heap.size Y wr) (fun v _ => m - (intOf v).toNat)
        case atStart => exact ⟨0, Nat.zero_le _, rfl, Below.refl _ _⟩
        case round =>
          obtain ⟨i, hile, rfl, hnx⟩ := hrel
          have BU := aside hnx
          by_cases him : (i : Int) < (m : Int)
          · have hi0 : (0 : Int) ≤ (i : Int) := by omega
            have hiw : IntKind.i64.wrap ((i : Int) + 1) = (i : Int) + 1 := by rw [IntKind.wrap_i64]; omega
            have hum := CUP.out i (by omega)
            have htop := CTO.out i (by omega)
            have hle1 := LE1.out i (by omega)
            have R0 := aside (rgs_of OT.out (i := i) (by omega))
            have GTW := aside GT.out
            clear hnx
            go_wp2
            generalize wr = Z at *
            go_loopw [20, 21] (fun v u wr => ∃ j : Nat, j ≤ n ∧ v = .int .i64 (cj c i j : Int) ∧ u = .int .i64 (j : Int) ∧ Below Y.heap.size Y wr) (fun _ u _ => n - (intOf u).toNat)
            case atStart => exact ⟨0, Nat.zero_le _, by rw [cj_zero]; rfl, rfl, BU.out⟩
            case round =>
              obtain ⟨j, hj, rfl, rfl, hnx⟩ := hrel
              have BZ := aside hnx
              have hcl := cj_le (j := j) hum
              by_cases hjn : (j : Int) < (n : Int)
              · rcases SD.out.2.2 with h0 | ⟨bk, off, rfl, hbk, hcc⟩
                · omega
                have k0 := (hnx.cell (p := ⟨bk, off + j, none⟩) hbk).trans (hcc j (by omega))
                have r0 := (hnx.cell (p := ⟨g, i * 3, none⟩) GTW.out).trans R0.out.1
                have r1 := (hnx.cell (p := ⟨g, i * 3 + 1, none⟩) GTW.out).trans R0.out.2.1
                have r2 := (hnx.cell (p := ⟨g, i * 3 + 2, none⟩) GTW.out).trans R0.out.2.2
                have hj0 : (0 : Int) ≤ (j : Int) := by omega
                have hjw : IntKind.i64.wrap ((j : Int) + 1) = (j : Int) + 1 := by rw [IntKind.wrap_i64]; omega
                have him2 : i < m := by omega
                have HC := aside (fun w => holds_any (T i).lo (T i).hi (T i).op (S j) w)
                rw [show Rg.has ⟨(T i).lo, (T i).hi, (T i).op⟩ (S j) = _ from CHA.out i j him2 (by omega)] at HC
                clear hcc hnx
                by_cases hin : c i ≤ j ∧ j < c (i + 1)
                · rw [decide_eq_true hin.1, decide_eq_true hin.2] at HC
                  have hcj := cj_in hin.1 hin.2
                  have hcw : IntKind.i64.wrap ((cj c i j : Int) + 1) = (cj c i j : Int) + 1 := by rw [IntKind.wrap_i64]; omega
                  go_wp2_with fail
                  refine wp_region_held_drew (S := fun X => X.cell? ⟨g, i * 3, none⟩ = some (.string (T i).lo) ∧ X.cell? ⟨g, i * 3 + 1, none⟩ = some (.string (T i).hi) ∧ X.cell? ⟨g, i * 3 + 2, none⟩ = some (.bool (T i).op) ∧ X.cell? ⟨bk, off + j, none⟩ = some (.string (S j)) ∧ Hid (Below wr.heap.size wr X)) (by kernel_rfl) ⟨r0, r1, r2, k0, aside ((Below.refl _ wr).drew)⟩ (fun hHeld => ?_)
                  refine wpAnyH_take (i := 0) (v := ?_) rfl (by kernel_rfl) (by kernel_rfl) (by kernel_rfl) (fun _ _ _ h => h) (Or.inl ⟨by rfl, ?_⟩) (by assumption) ?_
                  rotate_left
                  · intro w hSw
                    go_simp
                    try with_reducible rfl
                  simp only [Act.put, List.getElem_toArray, List.getElem_cons_zero, List.setIfInBounds_toArray, List.set_cons_zero, List.set_cons_succ]
                  refine wpAnyH_take (i := 1) (v := ?_) rfl (by kernel_rfl) (by kernel_rfl) (by kernel_rfl) (fun _ _ _ h => h) (Or.inl ⟨by rfl, ?_⟩) (by assumption) ?_
                  rotate_left
                  · intro w hSw
                    go_simp
                    try with_reducible rfl
                  simp only [Act.put, List.getElem_toArray, List.getElem_cons_zero, List.getElem_cons_succ, List.setIfInBounds_toArray, List.set_cons_zero, List.set_cons_succ]
                  refine wpAnyH_take (i := 2) (v := ?_) rfl (by kernel_rfl) (by kernel_rfl) (by kernel_rfl) (fun _ _ _ h => h) (Or.inl ⟨by rfl, ?_⟩) (by assumption) ?_
                  rotate_left
                  · intro w hSw
                    go_simp
                    try with_reducible rfl
                  simp only [Act.put, List.getElem_toArray, List.getElem_cons_zero, List.getElem_cons_succ, List.setIfInBounds_toArray, List.set_cons_zero, List.set_cons_succ]
                  refine wpAnyH_take (i := 3) (v := ?_) rfl (by kernel_rfl) (by kernel_rfl) (by kernel_rfl) (fun _ _ _ h => h) (Or.inl ⟨by rfl, ?_⟩) (by assumption) ?_
                  rotate_left
                  · intro w hSw
                    go_simp
                    try with_reducible rfl
                  simp only [Act.put, List.getElem_toArray, List.getElem_cons_zero, List.getElem_cons_succ, List.setIfInBounds_toArray, List.set_cons_zero, List.set_cons_succ]
                  refine wpAnyH_take (i := 4) (v := ?_) rfl (by kernel_rfl) (by kernel_rfl) (by kernel_rfl) (fun _ _ _ h => h) (Or.inl ⟨by rfl, ?_⟩) (by assumption) ?_
                  rotate_left
                  · intro w hSw
                    go_simp
                    try with_reducible rfl
                  simp only [Act.put, List.getElem_toArray, List.getElem_cons_zero, List.getElem_cons_succ, List.setIfInBounds_toArray, List.set_cons_zero, List.set_cons_succ]
                  refine wpAnyH_take (i := 5) (v := ?_) rfl (by kernel_rfl) (by kernel_rfl) (by kernel_rfl) (fun _ _ _ h => h) (Or.inl ⟨by rfl, ?_⟩) (by assumption) ?_
                  rotate_left
                  · intro w hSw
                    go_simp
                    try with_reducible rfl
                  simp only [Act.put, List.getElem_toArray, List.getElem_cons_zero, List.getElem_cons_succ, List.setIfInBounds_toArray, List.set_cons_zero, List.set_cons_succ]
                  refine wpAnyH_take (i := 6) (v := ?_) rfl (by kernel_rfl) (by kernel_rfl) (by kernel_rfl) (fun _ _ _ h => h) (Or.inl ⟨by rfl, ?_⟩) (by assumption) ?_
                  rotate_left
                  · intro w hSw
                    go_simp
                    try with_reducible rfl
                  simp only [Act.put, List.getElem_toArray, List.getElem_cons_zero, List.getElem_cons_succ, List.setIfInBounds_toArray, List.set_cons_zero, List.set_cons_succ]
                  refine wpAnyH_take (i := 7) (v := ?_) rfl (by kernel_rfl) (by kernel_rfl) (by kernel_rfl) (fun _ _ _ h => h) (Or.inl ⟨by rfl, ?_⟩) (by assumption) ?_
                  rotate_left
                  · intro w hSw
                    go_simp
                    try with_reducible rfl
                  simp only [Act.put, List.getElem_toArray, List.getElem_cons_zero, List.getElem_cons_succ, List.setIfInBounds_toArray, List.set_cons_zero, List.set_cons_succ]
                  refine wpAnyH_ready (rs := [8]) (by kernel_rfl) (by simp) ?_
                  refine AllReadyH.cons rfl (fun K hK => ?_) AllReadyH.nil
                  go_simp
                  refine (HC.out _).mono ?_
                  rintro e w9 ⟨rfl, bb⟩
                  refine hK.out _ _ (⟨cell_on hHeld.1 bb, cell_on hHeld.2.1 bb, cell_on hHeld.2.2.1 bb, cell_on hHeld.2.2.2.1 bb, aside (hHeld.2.2.2.2.out.trans (bb.mono hHeld.2.2.2.2.out.size))⟩) (fun hHeld => ?_)
                  clear hK K 
                  refine wpAnyH_done (by kernel_rfl) ?_ _
                  have HY := aside hHeld.2.2.2.2.out
                  clear hHeld k0 r0 r1 r2
                  have BZ2 := aside (BZ.out.trans (HY.out.mono BZ.out.size))
                  go_wp2
                  go_roundw
                  case rel => exact ⟨j + 1, by omega, by rw [hcj.1]; go_num, by go_num, BZ2.out⟩
                  case measure => simp [intOf]; omega
                ·
                  have hcj := cj_out hum hin
                  have hf : (decide (c i ≤ j) && decide (j < c (i + 1))) = false := by
                    by_cases e1 : c i ≤ j
                    · rw [decide_eq_false (show ¬ j < c (i + 1) from by omega), Bool.and_false]
                    · rw [decide_eq_false e1]; rfl
                  rw [hf] at HC
                  go_wp2_with fail
                  refine wp_region_held_drew (S := fun X => X.cell? ⟨g, i * 3, none⟩ = some (.string (T i).lo) ∧ X.cell? ⟨g, i * 3 + 1, none⟩ = some (.string (T i).hi) ∧ X.cell? ⟨g, i * 3 + 2, none⟩ = some (.bool (T i).op) ∧ X.cell? ⟨bk, off + j, none⟩ = some (.string (S j)) ∧ Hid (Below wr.heap.size wr X)) (by kernel_rfl) ⟨r0, r1, r2, k0, aside ((Below.refl _ wr).drew)⟩ (fun hHeld => ?_)
                  refine wpAnyH_take (i := 0) (v := ?_) rfl (by kernel_rfl) (by kernel_rfl) (by kernel_rfl) (fun _ _ _ h => h) (Or.inl ⟨by rfl, ?_⟩) (by assumption) ?_
                  rotate_left
                  · intro w hSw
                    go_simp
                    try with_reducible rfl
                  simp only [Act.put, List.getElem_toArray, List.getElem_cons_zero, List.setIfInBounds_toArray, List.set_cons_zero, List.set_cons_succ]
                  refine wpAnyH_take (i := 1) (v := ?_) rfl (by kernel_rfl) (by kernel_rfl) (by kernel_rfl) (fun _ _ _ h => h) (Or.inl ⟨by rfl, ?_⟩) (by assumption) ?_
                  rotate_left
                  · intro w hSw
                    go_simp
                    try with_reducible rfl
                  simp only [Act.put, List.getElem_toArray, List.getElem_cons_zero, List.getElem_cons_succ, List.setIfInBounds_toArray, List.set_cons_zero, List.set_cons_succ]
                  refine wpAnyH_take (i := 2) (v := ?_) rfl (by kernel_rfl) (by kernel_rfl) (by kernel_rfl) (fun _ _ _ h => h) (Or.inl ⟨by rfl, ?_⟩) (by assumption) ?_
                  rotate_left
                  · intro w hSw
                    go_simp
                    try with_reducible rfl
                  simp only [Act.put, List.getElem_toArray, List.getElem_cons_zero, List.getElem_cons_succ, List.setIfInBounds_toArray, List.set_cons_zero, List.set_cons_succ]
                  refine wpAnyH_take (i := 3) (v := ?_) rfl (by kernel_rfl) (by kernel_rfl) (by kernel_rfl) (fun _ _ _ h => h) (Or.inl ⟨by rfl, ?_⟩) (by assumption) ?_
                  rotate_left
                  · intro w hSw
                    go_simp
                    try with_reducible rfl
                  simp only [Act.put, List.getElem_toArray, List.getElem_cons_zero, List.getElem_cons_succ, List.setIfInBounds_toArray, List.set_cons_zero, List.set_cons_succ]
                  refine wpAnyH_take (i := 4) (v := ?_) rfl (by kernel_rfl) (by kernel_rfl) (by kernel_rfl) (fun _ _ _ h => h) (Or.inl ⟨by rfl, ?_⟩) (by assumption) ?_
                  rotate_left
                  · intro w hSw
                    go_simp
                    try with_reducible rfl
                  simp only [Act.put, List.getElem_toArray, List.getElem_cons_zero, List.getElem_cons_succ, List.setIfInBounds_toArray, List.set_cons_zero, List.set_cons_succ]
                  refine wpAnyH_take (i := 5) (v := ?_) rfl (by kernel_rfl) (by kernel_rfl) (by kernel_rfl) (fun _ _ _ h => h) (Or.inl ⟨by rfl, ?_⟩) (by assumption) ?_
                  rotate_left
                  · intro w hSw
                    go_simp
                    try with_reducible rfl
                  simp only [Act.put, List.getElem_toArray, List.getElem_cons_zero, List.getElem_cons_succ, List.setIfInBounds_toArray, List.set_cons_zero, List.set_cons_succ]
                  refine wpAnyH_take (i := 6) (v := ?_) rfl (by kernel_rfl) (by kernel_rfl) (by kernel_rfl) (fun _ _ _ h => h) (Or.inl ⟨by rfl, ?_⟩) (by assumption) ?_
                  rotate_left
                  · intro w hSw
                    go_simp
                    try with_reducible rfl
                  simp only [Act.put, List.getElem_toArray, List.getElem_cons_zero, List.getElem_cons_succ, List.setIfInBounds_toArray, List.set_cons_zero, List.set_cons_succ]
                  refine wpAnyH_take (i := 7) (v := ?_) rfl (by kernel_rfl) (by kernel_rfl) (by kernel_rfl) (fun _ _ _ h => h) (Or.inl ⟨by rfl, ?_⟩) (by assumption) ?_
                  rotate_left
                  · intro w hSw
                    go_simp
                    try with_reducible rfl
                  simp only [Act.put, List.getElem_toArray, List.getElem_cons_zero, List.getElem_cons_succ, List.setIfInBounds_toArray, List.set_cons_zero, List.set_cons_succ]
                  refine wpAnyH_ready (rs := [8]) (by kernel_rfl) (by simp) ?_
                  refine AllReadyH.cons rfl (fun K hK => ?_) AllReadyH.nil
                  go_simp
                  refine (HC.out _).mono ?_
                  rintro e w9 ⟨rfl, bb⟩
                  refine hK.out _ _ (⟨cell_on hHeld.1 bb, cell_on hHeld.2.1 bb, cell_on hHeld.2.2.1 bb, cell_on hHeld.2.2.2.1 bb, aside (hHeld.2.2.2.2.out.trans (bb.mono hHeld.2.2.2.2.out.size))⟩) (fun hHeld => ?_)
                  clear hK K 
                  refine wpAnyH_done (by kernel_rfl) ?_ _
                  have HY := aside hHeld.2.2.2.2.out
                  clear hHeld k0 r0 r1 r2
                  have BZ2 := aside (BZ.out.trans (HY.out.mono BZ.out.size))
                  go_wp2
                  go_roundw
                  case rel => exact ⟨j + 1, by omega, by rw [hcj], by go_num, BZ2.out⟩
                  case measure => simp [intOf]; omega
              · have hcc1 : ¬ (1 < (cj c i j : Int)) := by omega
                clear hnx
                go_wp2
                go_roundw
                case rel => exact ⟨i + 1, by omega, by go_num, BZ.out⟩
                case measure => simp [intOf]; omega
          · have OTW := aside (rgs_of_row (row_below OT.out BU.out GT.out) (Nat.lt_of_lt_of_le GT.out BU.out.size) (by omega))
            obtain ⟨⟨q0, q1, q2⟩, -⟩ := box_out (keep (keep (box_after X3.out).1 BT.out) BU.out)
            have CT := aside (tile_any (some ⟨g, 0, none⟩) m cp T lo hi op wr OTW.out)
            rw [HTI.out] at CT
            clear hnx
            go_wp2_with fail
            refine CT.out.mono ?_
            rintro e w9 ⟨rfl, b9⟩
            clear q0 q1 q2
            go_wp2
            go_ret
            exact ⟨rfl, bthen (B9.out.trans (BU.out.mono B9.out.size)) b9⟩
  · clear q0 q1 q2
    go_wp2
    go_ret
    exact ⟨rfl, B1.out⟩

theorem cdeep_walk (lo hi : ByteArray) (op : Bool) (a : Option Addr) (n cap : Nat) (S : Nat → ByteArray) (p : Int) (w : World) (hp : -9223372036854775808 ≤ p ∧ p ≤ 9223372036854775807) (h : StrsIn w.heap.size w a n cap S) (hsz : n * 16 ≤ 140737488351232) (hf : (a = none ∧ n = 0 ∧ cap = 0) ∨ ∃ x, a = some x) :
    Calls Try.prog 3 #[.agg #[.string lo, .string hi, .bool op], .slice a n cap, .int .i64 p] w fun e w' => e = .returned (.bool true) ∧ Below w.heap.size w w' := by
  by_cases hch : Rg.chk ⟨lo, hi, op⟩ = 0
  · by_cases hke : keyE S n = 0
    · cases hal : allK ⟨lo, hi, op⟩ S n
      · exact cdeep_not lo hi op a n cap S p w h hch hke hal
      · by_cases hb : 1 ≤ (n : Int) ∧ (n : Int) ≤ 256 ∧ 1 ≤ (1 : Int) ∧ (1 : Int) ≤ (n : Int)
        · by_cases hq : 2 ≤ p ∧ p ≤ 16
          · have := cdeep_ok lo hi op a n cap S p.toNat w h hch hke hal (by omega) (by omega) (by omega) (by omega)
            rw [show ((p.toNat : Nat) : Int) = p from by omega] at this
            exact this
          · exact cdeep_nob lo hi op a n cap S p w h hch hke hal (by omega) (by omega) hq
        · exact cdeep_arg lo hi op a n cap S p w h hch hke hal hb
    · exact cdeep_key lo hi op a n cap S p w h _ hch rfl hke
  · exact cdeep_chk lo hi op a n cap S p w h _ rfl hch

end Go.Proofs.Ytagcenfjdjaaaaa
