/-
  Ranges of the code and of the document: a range split at keys.
-/
import Derived.Test.YtagcenfjdjaaaaaCuRng
namespace Go.Proofs.Ytagcenfjdjaaaaa
open Go.RowKit
set_option linter.unusedVariables false


set_option maxHeartbeats 6400000 in
set_option maxRecDepth 100000 in
theorem rranges_chk (lo hi : ByteArray) (op : Bool) (a : Option Addr) (n cap : Nat) (S : Nat → ByteArray) (p : Int) (w : World) (h : StrsIn w.heap.size w a n cap S) (c : Int) (hch : Rg.chk ⟨lo, hi, op⟩ = c) (hc0 : ¬ c = 0) :
    Calls Try.prog 10 #[.agg #[.string lo, .string hi, .bool op], .slice a n cap, .int .i64 p] w fun e w' => e = .returned (.tuple #[.slice none 0 0, .int .i64 c]) ∧ Below w.heap.size w w' := by
  have HS := aside h
  clear h
  go_enter Try.func10, Try.ntmps10
  go_wp2_with fail
  refine (checkRef_at hch _).mono ?_
  rintro e w1 ⟨rfl, b1⟩
  have X1 := aside b1
  clear b1
  obtain ⟨hbx, hnx⟩ := box_after X1.out
  obtain ⟨⟨q0, q1, q2⟩, -⟩ := box_out hbx
  have B1 := aside hnx
  clear hbx hnx
  go_wp2
  exact bodyPost_ret (v := .tuple #[.slice none 0 0, .int .i64 c]) (by simp [results, Try.results10, go_sem]) rfl ⟨rfl, B1.out⟩

set_option maxHeartbeats 6400000 in
set_option maxRecDepth 100000 in
theorem rranges_key (lo hi : ByteArray) (op : Bool) (a : Option Addr) (n cap : Nat) (S : Nat → ByteArray) (p : Int) (w : World) (h : StrsIn w.heap.size w a n cap S) (c : Int) (hch : Rg.chk ⟨lo, hi, op⟩ = 0) (hke : keyE S n = c) (hc0 : ¬ c = 0) :
    Calls Try.prog 10 #[.agg #[.string lo, .string hi, .bool op], .slice a n cap, .int .i64 p] w fun e w' => e = .returned (.tuple #[.slice none 0 0, .int .i64 c]) ∧ Below w.heap.size w w' := by
  have HS := aside h
  clear h
  go_enter Try.func10, Try.ntmps10
  go_wp2_with fail
  refine (checkRef_at hch _).mono ?_
  rintro e w1 ⟨rfl, b1⟩
  have X1 := aside b1
  clear b1
  obtain ⟨hbx, hnx⟩ := box_after X1.out
  obtain ⟨⟨q0, q1, q2⟩, -⟩ := box_out hbx
  have B1 := aside hnx
  clear hbx hnx
  go_wp2_with fail
  refine (rrise_any a n cap S _ (HS.out.up B1.out B1.out.size)).mono ?_
  rw [hke]
  rintro e w2 ⟨rfl, b2⟩
  have X2 := aside (X1.out.trans (b2.mono X1.out.size))
  clear b2 q0 q1 q2
  obtain ⟨hbx, hnx⟩ := box_after X2.out
  obtain ⟨⟨q0, q1, q2⟩, -⟩ := box_out hbx
  have B2 := aside hnx
  clear hbx hnx
  go_wp2
  exact bodyPost_ret (v := .tuple #[.slice none 0 0, .int .i64 c]) (by simp [results, Try.results10, go_sem]) rfl ⟨rfl, B2.out⟩

set_option maxHeartbeats 6400000 in
set_option maxRecDepth 100000 in
theorem rranges_not (lo hi : ByteArray) (op : Bool) (a : Option Addr) (n cap : Nat) (S : Nat → ByteArray) (p : Int) (w : World) (h : StrsIn w.heap.size w a n cap S) (hch : Rg.chk ⟨lo, hi, op⟩ = 0) (hke : keyE S n = 0) (hal : allK ⟨lo, hi, op⟩ S n = false) :
    Calls Try.prog 10 #[.agg #[.string lo, .string hi, .bool op], .slice a n cap, .int .i64 p] w fun e w' => e = .returned (.tuple #[.slice none 0 0, .int .i64 22]) ∧ Below w.heap.size w w' := by
  have HS := aside h
  clear h
  go_enter Try.func10, Try.ntmps10
  go_wp2_with fail
  refine (checkRef_at hch _).mono ?_
  rintro e w1 ⟨rfl, b1⟩
  have X1 := aside b1
  clear b1
  obtain ⟨hbx, hnx⟩ := box_after X1.out
  obtain ⟨⟨q0, q1, q2⟩, -⟩ := box_out hbx
  have B1 := aside hnx
  clear hbx hnx
  go_wp2_with fail
  refine (rrise_any a n cap S _ (HS.out.up B1.out B1.out.size)).mono ?_
  rw [hke]
  rintro e w2 ⟨rfl, b2⟩
  have X2 := aside (X1.out.trans (b2.mono X1.out.size))
  clear b2 q0 q1 q2
  obtain ⟨hbx, hnx⟩ := box_after X2.out
  obtain ⟨⟨q0, q1, q2⟩, -⟩ := box_out hbx
  have B2 := aside hnx
  clear hbx hnx
  go_wp2
  clear q0 q1 q2
  go_loopw [9] (fun i wr => ∃ k : Nat, k ≤ n ∧ i = .int .i64 (k : Int) ∧ Hid (∀ j, j < k → Rg.has ⟨lo, hi, op⟩ (S j) = true) ∧ Hid (Below (w.alloc (.cells #[.string lo, .string hi, .bool op] 23)).heap.size (w.alloc (.cells #[.string lo, .string hi, .bool op] 23)) wr)) (fun i _ => n - (intOf i).toNat)
  case atStart => exact ⟨0, Nat.zero_le _, rfl, fun j hj => by omega, X2⟩
  case round =>
    obtain ⟨k, hk, rfl, hall, HX⟩ := hrel
    obtain ⟨hbx, hnx⟩ := box_after HX.out
    obtain ⟨⟨q0, q1, q2⟩, -⟩ := box_out hbx
    have B3 := aside hnx
    by_cases hlt : (k : Int) < (n : Int)
    · rcases HS.out.2.2 with hh | ⟨b, off, rfl, hb, hc⟩
      · omega
      have c0 := (hnx.cell (p := ⟨b, off + k, none⟩) hb).trans (hc k (by omega))
      have hk0 : (0 : Int) ≤ (k : Int) := by omega
      have hqw : IntKind.i64.wrap ((k : Int) + 1) = (k : Int) + 1 := by rw [IntKind.wrap_i64]; have := HS.out.2.1; omega
      have KN := aside (show k < n from by omega)
      have hlc := HS.out.1
      clear hc hnx hbx
      obtain ⟨x, hx⟩ : ∃ x, Rg.has ⟨lo, hi, op⟩ (S k) = x := ⟨_, rfl⟩
      have HC := aside (fun w => holdsRef_any lo hi op (S k) w)
      rw [hx] at HC
      go_wp2_with fail
      refine wp_region_held_drew (S := fun X => X.cell? ⟨w.heap.size, 0, none⟩ = some (.string lo) ∧ X.cell? ⟨w.heap.size, 1, none⟩ = some (.string hi) ∧ X.cell? ⟨w.heap.size, 2, none⟩ = some (.bool op) ∧ X.cell? ⟨b, off + k, none⟩ = some (.string (S k)) ∧ Hid (Below (w.alloc (.cells #[.string lo, .string hi, .bool op] 23)).heap.size (w.alloc (.cells #[.string lo, .string hi, .bool op] 23)) X ∧ b < w.heap.size)) (by kernel_rfl) ⟨q0, q1, q2, c0, aside ⟨HX.out.drew, hb⟩⟩ (fun hHeld => ?_)
      refine wpAnyH_take (i := 0) (v := ?_) rfl (by kernel_rfl) (by kernel_rfl) (by kernel_rfl) (fun _ _ _ h => h) (Or.inl ⟨by rfl, ?_⟩) (by assumption) ?_
      rotate_left
      · intro w hSw
        go_simp
        try with_reducible rfl
      simp only [Act.put, List.getElem_toArray, List.getElem_cons_zero, List.setIfInBounds_toArray, List.set_cons_zero, List.set_cons_succ]
      refine wpAnyH_take (i := 1) (v := ?_) rfl (by kernel_rfl) (by kernel_rfl) (by kernel_rfl) (fun _ _ _ h => h) (Or.inl ⟨by rfl, ?_⟩) (by assumption) ?_
      rotate_left
      · intro w hSw
        go_simp
        try with_reducible rfl
      simp only [Act.put, List.getElem_toArray, List.getElem_cons_zero, List.getElem_cons_succ, List.setIfInBounds_toArray, List.set_cons_zero, List.set_cons_succ]
      refine wpAnyH_take (i := 2) (v := ?_) rfl (by kernel_rfl) (by kernel_rfl) (by kernel_rfl) (fun _ _ _ h => h) (Or.inl ⟨by rfl, ?_⟩) (by assumption) ?_
      rotate_left
      · intro w hSw
        go_simp
        try with_reducible rfl
      simp only [Act.put, List.getElem_toArray, List.getElem_cons_zero, List.getElem_cons_succ, List.setIfInBounds_toArray, List.set_cons_zero, List.set_cons_succ]
      refine wpAnyH_take (i := 3) (v := ?_) rfl (by kernel_rfl) (by kernel_rfl) (by kernel_rfl) (fun _ _ _ h => h) (Or.inl ⟨by rfl, ?_⟩) (by assumption) ?_
      rotate_left
      · intro w hSw
        go_simp
        try with_reducible rfl
      simp only [Act.put, List.getElem_toArray, List.getElem_cons_zero, List.getElem_cons_succ, List.setIfInBounds_toArray, List.set_cons_zero, List.set_cons_succ]
      refine wpAnyH_take (i := 4) (v := ?_) rfl (by kernel_rfl) (by kernel_rfl) (by kernel_rfl) (fun _ _ _ h => h) (Or.inl ⟨by rfl, ?_⟩) (by assumption) ?_
      rotate_left
      · intro w hSw
        go_simp
        try with_reducible rfl
      simp only [Act.put, List.getElem_toArray, List.getElem_cons_zero, List.getElem_cons_succ, List.setIfInBounds_toArray, List.set_cons_zero, List.set_cons_succ]
      refine wpAnyH_ready (rs := [5]) (by kernel_rfl) (by simp) ?_
      refine AllReadyH.cons rfl (fun K hK => ?_) AllReadyH.nil
      go_simp
      refine (HC.out _).mono ?_
      rintro e w9 ⟨rfl, bb⟩
      refine hK.out _ _ (⟨cell_on hHeld.1 bb, cell_on hHeld.2.1 bb, cell_on hHeld.2.2.1 bb, cell_on hHeld.2.2.2.1 bb, aside ⟨hHeld.2.2.2.2.out.1.trans (bb.mono hHeld.2.2.2.2.out.1.size), hHeld.2.2.2.2.out.2⟩⟩) (fun hHeld => ?_)
      clear hK K 
      refine wpAnyH_take (i := 6) (v := ?_) rfl (by kernel_rfl) (by kernel_rfl) (by kernel_rfl) (fun _ _ _ h => h) (Or.inl ⟨by rfl, ?_⟩) (by assumption) ?_
      rotate_left
      · intro w hSw
        go_simp
        try with_reducible rfl
      simp only [Act.put, List.getElem_toArray, List.getElem_cons_zero, List.getElem_cons_succ, List.setIfInBounds_toArray, List.set_cons_zero, List.set_cons_succ]
      refine wpAnyH_done (by kernel_rfl) ?_ _
      have HY := aside hHeld.2.2.2.2.out.1
      clear hHeld q0 q1 q2 c0 HC
      cases x
      · go_wp2
        exact bodyPost_ret (v := .tuple #[.slice none 0 0, .int .i64 22]) (by simp [results, Try.results10, go_sem]) rfl ⟨rfl, (box_after HY.out).2⟩
      · have HA := aside (show ∀ j, j < k + 1 → Rg.has ⟨lo, hi, op⟩ (S j) = true from fun j hj => by
          by_cases e : j = k
          · rw [e]; exact hx
          · exact hall.out j (by omega))
        go_wp2
        go_roundw
        case rel => exact ⟨k + 1, by omega, by go_num, HA, HY⟩
        case measure => simp [intOf]; omega
    · obtain rfl : n = k := by omega
      clear hbx hnx
      rw [allK_true hall.out] at hal
      cases hal

set_option maxHeartbeats 6400000 in
set_option maxRecDepth 100000 in
theorem rranges_arg (lo hi : ByteArray) (op : Bool) (a : Option Addr) (n cap : Nat) (S : Nat → ByteArray) (p : Int) (w : World) (h : StrsIn w.heap.size w a n cap S) (hch : Rg.chk ⟨lo, hi, op⟩ = 0) (hke : keyE S n = 0) (hal : allK ⟨lo, hi, op⟩ S n = true) (hb : ¬ (1 ≤ (n : Int) ∧ (n : Int) ≤ 256 ∧ 1 ≤ p ∧ p ≤ (n : Int))) :
    Calls Try.prog 10 #[.agg #[.string lo, .string hi, .bool op], .slice a n cap, .int .i64 p] w fun e w' => e = .returned (.tuple #[.slice none 0 0, .int .i64 1]) ∧ Below w.heap.size w w' := by
  have HS := aside h
  clear h
  have HB := aside hb
  clear hb
  go_enter Try.func10, Try.ntmps10
  go_wp2_with fail
  refine (checkRef_at hch _).mono ?_
  rintro e w1 ⟨rfl, b1⟩
  have X1 := aside b1
  clear b1
  obtain ⟨hbx, hnx⟩ := box_after X1.out
  obtain ⟨⟨q0, q1, q2⟩, -⟩ := box_out hbx
  have B1 := aside hnx
  clear hbx hnx
  go_wp2_with fail
  refine (rrise_any a n cap S _ (HS.out.up B1.out B1.out.size)).mono ?_
  rw [hke]
  rintro e w2 ⟨rfl, b2⟩
  have X2 := aside (X1.out.trans (b2.mono X1.out.size))
  clear b2 q0 q1 q2
  obtain ⟨hbx, hnx⟩ := box_after X2.out
  obtain ⟨⟨q0, q1, q2⟩, -⟩ := box_out hbx
  have B2 := aside hnx
  clear hbx hnx
  go_wp2
  clear q0 q1 q2
  go_loopw [9] (fun i wr => ∃ k : Nat, k ≤ n ∧ i = .int .i64 (k : Int) ∧ Hid (∀ j, j < k → Rg.has ⟨lo, hi, op⟩ (S j) = true) ∧ Hid (Below (w.alloc (.cells #[.string lo, .string hi, .bool op] 23)).heap.size (w.alloc (.cells #[.string lo, .string hi, .bool op] 23)) wr)) (fun i _ => n - (intOf i).toNat)
  case atStart => exact ⟨0, Nat.zero_le _, rfl, fun j hj => by omega, X2⟩
  case round =>
    obtain ⟨k, hk, rfl, hall, HX⟩ := hrel
    obtain ⟨hbx, hnx⟩ := box_after HX.out
    obtain ⟨⟨q0, q1, q2⟩, -⟩ := box_out hbx
    have B3 := aside hnx
    by_cases hlt : (k : Int) < (n : Int)
    · rcases HS.out.2.2 with hh | ⟨b, off, rfl, hb, hc⟩
      · omega
      have c0 := (hnx.cell (p := ⟨b, off + k, none⟩) hb).trans (hc k (by omega))
      have hk0 : (0 : Int) ≤ (k : Int) := by omega
      have hqw : IntKind.i64.wrap ((k : Int) + 1) = (k : Int) + 1 := by rw [IntKind.wrap_i64]; have := HS.out.2.1; omega
      have KN := aside (show k < n from by omega)
      have hlc := HS.out.1
      clear hc hnx hbx
      obtain ⟨x, hx⟩ : ∃ x, Rg.has ⟨lo, hi, op⟩ (S k) = x := ⟨_, rfl⟩
      have HC := aside (fun w => holdsRef_any lo hi op (S k) w)
      rw [hx] at HC
      go_wp2_with fail
      refine wp_region_held_drew (S := fun X => X.cell? ⟨w.heap.size, 0, none⟩ = some (.string lo) ∧ X.cell? ⟨w.heap.size, 1, none⟩ = some (.string hi) ∧ X.cell? ⟨w.heap.size, 2, none⟩ = some (.bool op) ∧ X.cell? ⟨b, off + k, none⟩ = some (.string (S k)) ∧ Hid (Below (w.alloc (.cells #[.string lo, .string hi, .bool op] 23)).heap.size (w.alloc (.cells #[.string lo, .string hi, .bool op] 23)) X ∧ b < w.heap.size)) (by kernel_rfl) ⟨q0, q1, q2, c0, aside ⟨HX.out.drew, hb⟩⟩ (fun hHeld => ?_)
      refine wpAnyH_take (i := 0) (v := ?_) rfl (by kernel_rfl) (by kernel_rfl) (by kernel_rfl) (fun _ _ _ h => h) (Or.inl ⟨by rfl, ?_⟩) (by assumption) ?_
      rotate_left
      · intro w hSw
        go_simp
        try with_reducible rfl
      simp only [Act.put, List.getElem_toArray, List.getElem_cons_zero, List.setIfInBounds_toArray, List.set_cons_zero, List.set_cons_succ]
      refine wpAnyH_take (i := 1) (v := ?_) rfl (by kernel_rfl) (by kernel_rfl) (by kernel_rfl) (fun _ _ _ h => h) (Or.inl ⟨by rfl, ?_⟩) (by assumption) ?_
      rotate_left
      · intro w hSw
        go_simp
        try with_reducible rfl
      simp only [Act.put, List.getElem_toArray, List.getElem_cons_zero, List.getElem_cons_succ, List.setIfInBounds_toArray, List.set_cons_zero, List.set_cons_succ]
      refine wpAnyH_take (i := 2) (v := ?_) rfl (by kernel_rfl) (by kernel_rfl) (by kernel_rfl) (fun _ _ _ h => h) (Or.inl ⟨by rfl, ?_⟩) (by assumption) ?_
      rotate_left
      · intro w hSw
        go_simp
        try with_reducible rfl
      simp only [Act.put, List.getElem_toArray, List.getElem_cons_zero, List.getElem_cons_succ, List.setIfInBounds_toArray, List.set_cons_zero, List.set_cons_succ]
      refine wpAnyH_take (i := 3) (v := ?_) rfl (by kernel_rfl) (by kernel_rfl) (by kernel_rfl) (fun _ _ _ h => h) (Or.inl ⟨by rfl, ?_⟩) (by assumption) ?_
      rotate_left
      · intro w hSw
        go_simp
        try with_reducible rfl
      simp only [Act.put, List.getElem_toArray, List.getElem_cons_zero, List.getElem_cons_succ, List.setIfInBounds_toArray, List.set_cons_zero, List.set_cons_succ]
      refine wpAnyH_take (i := 4) (v := ?_) rfl (by kernel_rfl) (by kernel_rfl) (by kernel_rfl) (fun _ _ _ h => h) (Or.inl ⟨by rfl, ?_⟩) (by assumption) ?_
      rotate_left
      · intro w hSw
        go_simp
        try with_reducible rfl
      simp only [Act.put, List.getElem_toArray, List.getElem_cons_zero, List.getElem_cons_succ, List.setIfInBounds_toArray, List.set_cons_zero, List.set_cons_succ]
      refine wpAnyH_ready (rs := [5]) (by kernel_rfl) (by simp) ?_
      refine AllReadyH.cons rfl (fun K hK => ?_) AllReadyH.nil
      go_simp
      refine (HC.out _).mono ?_
      rintro e w9 ⟨rfl, bb⟩
      refine hK.out _ _ (⟨cell_on hHeld.1 bb, cell_on hHeld.2.1 bb, cell_on hHeld.2.2.1 bb, cell_on hHeld.2.2.2.1 bb, aside ⟨hHeld.2.2.2.2.out.1.trans (bb.mono hHeld.2.2.2.2.out.1.size), hHeld.2.2.2.2.out.2⟩⟩) (fun hHeld => ?_)
      clear hK K 
      refine wpAnyH_take (i := 6) (v := ?_) rfl (by kernel_rfl) (by kernel_rfl) (by kernel_rfl) (fun _ _ _ h => h) (Or.inl ⟨by rfl, ?_⟩) (by assumption) ?_
      rotate_left
      · intro w hSw
        go_simp
        try with_reducible rfl
      simp only [Act.put, List.getElem_toArray, List.getElem_cons_zero, List.getElem_cons_succ, List.setIfInBounds_toArray, List.set_cons_zero, List.set_cons_succ]
      refine wpAnyH_done (by kernel_rfl) ?_ _
      have HY := aside hHeld.2.2.2.2.out.1
      clear hHeld q0 q1 q2 c0 HC
      cases x
      · exact absurd hx (by rw [allK_at hal KN.out]; simp)
      · have HA := aside (show ∀ j, j < k + 1 → Rg.has ⟨lo, hi, op⟩ (S j) = true from fun j hj => by
          by_cases e : j = k
          · rw [e]; exact hx
          · exact hall.out j (by omega))
        go_wp2
        go_roundw
        case rel => exact ⟨k + 1, by omega, by go_num, HA, HY⟩
        case measure => simp [intOf]; omega
    · obtain rfl : n = k := by omega
      clear hbx hnx
      clear q0 q1 q2
      go_wp2_with fail
      refine (rborders_arg a n cap p S _ (HS.out.up B3.out B3.out.size) hke HB.out).mono ?_
      rintro e w4 ⟨rfl, b4⟩
      go_wp2
      exact bodyPost_ret (v := .tuple #[.slice none 0 0, .int .i64 1]) (by simp [results, Try.results10, go_sem]) rfl ⟨rfl, bthen B3.out b4⟩

set_option maxHeartbeats 6400000 in
set_option maxRecDepth 100000 in
theorem rranges_ok (lo hi : ByteArray) (op : Bool) (a : Option Addr) (n cap : Nat) (S : Nat → ByteArray) (q : Nat) (w : World) (h : StrsIn w.heap.size w a n cap S) (hch : Rg.chk ⟨lo, hi, op⟩ = 0) (hke : keyE S n = 0) (hal : allK ⟨lo, hi, op⟩ S n = true) (hqn : q + 1 ≤ n) (hn : n ≤ 256) :
    Calls Try.prog 10 #[.agg #[.string lo, .string hi, .bool op], .slice a n cap, .int .i64 ((q : Int) + 1)] w fun e w' => ∃ g cp, e = .returned (.tuple #[.slice (some ⟨g, 0, none⟩) (q + 1) cp, .int .i64 0]) ∧ w'.ownsRow w.heap.size 23 3 (.slice (some ⟨g, 0, none⟩) (q + 1) cp) (q + 1) (rgCells (piece ⟨lo, hi, op⟩ (bdr n (q + 1) S) q) (q + 1)) ∧ g < w'.heap.size ∧ Below w.heap.size w w' := by
  have HS := aside h
  clear h
  obtain ⟨i0, hi0, hz0, hz1, hz2⟩ := info_parts info23
  go_enter Try.func10, Try.ntmps10
  go_wp2_with fail
  refine (checkRef_at hch _).mono ?_
  rintro e w1 ⟨rfl, b1⟩
  have X1 := aside b1
  clear b1
  obtain ⟨hbx, hnx⟩ := box_after X1.out
  obtain ⟨⟨q0, q1, q2⟩, -⟩ := box_out hbx
  have B1 := aside hnx
  clear hbx hnx
  go_wp2_with fail
  refine (rrise_any a n cap S _ (HS.out.up B1.out B1.out.size)).mono ?_
  rw [hke]
  rintro e w2 ⟨rfl, b2⟩
  have X2 := aside (X1.out.trans (b2.mono X1.out.size))
  clear b2 q0 q1 q2
  obtain ⟨hbx, hnx⟩ := box_after X2.out
  obtain ⟨⟨q0, q1, q2⟩, -⟩ := box_out hbx
  have B2 := aside hnx
  clear hbx hnx
  go_wp2
  clear q0 q1 q2
  go_loopw [9] (fun i wr => ∃ k : Nat, k ≤ n ∧ i = .int .i64 (k : Int) ∧ Hid (∀ j, j < k → Rg.has ⟨lo, hi, op⟩ (S j) = true) ∧ Hid (Below (w.alloc (.cells #[.string lo, .string hi, .bool op] 23)).heap.size (w.alloc (.cells #[.string lo, .string hi, .bool op] 23)) wr)) (fun i _ => n - (intOf i).toNat)
  case atStart => exact ⟨0, Nat.zero_le _, rfl, fun j hj => by omega, X2⟩
  case round =>
    obtain ⟨k, hk, rfl, hall, HX⟩ := hrel
    obtain ⟨hbx, hnx⟩ := box_after HX.out
    obtain ⟨⟨q0, q1, q2⟩, -⟩ := box_out hbx
    have B3 := aside hnx
    by_cases hlt : (k : Int) < (n : Int)
    · rcases HS.out.2.2 with hh | ⟨b, off, rfl, hb, hc⟩
      · omega
      have c0 := (hnx.cell (p := ⟨b, off + k, none⟩) hb).trans (hc k (by omega))
      have hk0 : (0 : Int) ≤ (k : Int) := by omega
      have hqw : IntKind.i64.wrap ((k : Int) + 1) = (k : Int) + 1 := by rw [IntKind.wrap_i64]; have := HS.out.2.1; omega
      have KN := aside (show k < n from by omega)
      have hlc := HS.out.1
      clear hc hnx hbx
      obtain ⟨x, hx⟩ : ∃ x, Rg.has ⟨lo, hi, op⟩ (S k) = x := ⟨_, rfl⟩
      have HC := aside (fun w => holdsRef_any lo hi op (S k) w)
      rw [hx] at HC
      go_wp2_with fail
      refine wp_region_held_drew (S := fun X => X.cell? ⟨w.heap.size, 0, none⟩ = some (.string lo) ∧ X.cell? ⟨w.heap.size, 1, none⟩ = some (.string hi) ∧ X.cell? ⟨w.heap.size, 2, none⟩ = some (.bool op) ∧ X.cell? ⟨b, off + k, none⟩ = some (.string (S k)) ∧ Hid (Below (w.alloc (.cells #[.string lo, .string hi, .bool op] 23)).heap.size (w.alloc (.cells #[.string lo, .string hi, .bool op] 23)) X ∧ b < w.heap.size)) (by kernel_rfl) ⟨q0, q1, q2, c0, aside ⟨HX.out.drew, hb⟩⟩ (fun hHeld => ?_)
      refine wpAnyH_take (i := 0) (v := ?_) rfl (by kernel_rfl) (by kernel_rfl) (by kernel_rfl) (fun _ _ _ h => h) (Or.inl ⟨by rfl, ?_⟩) (by assumption) ?_
      rotate_left
      · intro w hSw
        go_simp
        try with_reducible rfl
      simp only [Act.put, List.getElem_toArray, List.getElem_cons_zero, List.setIfInBounds_toArray, List.set_cons_zero, List.set_cons_succ]
      refine wpAnyH_take (i := 1) (v := ?_) rfl (by kernel_rfl) (by kernel_rfl) (by kernel_rfl) (fun _ _ _ h => h) (Or.inl ⟨by rfl, ?_⟩) (by assumption) ?_
      rotate_left
      · intro w hSw
        go_simp
        try with_reducible rfl
      simp only [Act.put, List.getElem_toArray, List.getElem_cons_zero, List.getElem_cons_succ, List.setIfInBounds_toArray, List.set_cons_zero, List.set_cons_succ]
      refine wpAnyH_take (i := 2) (v := ?_) rfl (by kernel_rfl) (by kernel_rfl) (by kernel_rfl) (fun _ _ _ h => h) (Or.inl ⟨by rfl, ?_⟩) (by assumption) ?_
      rotate_left
      · intro w hSw
        go_simp
        try with_reducible rfl
      simp only [Act.put, List.getElem_toArray, List.getElem_cons_zero, List.getElem_cons_succ, List.setIfInBounds_toArray, List.set_cons_zero, List.set_cons_succ]
      refine wpAnyH_take (i := 3) (v := ?_) rfl (by kernel_rfl) (by kernel_rfl) (by kernel_rfl) (fun _ _ _ h => h) (Or.inl ⟨by rfl, ?_⟩) (by assumption) ?_
      rotate_left
      · intro w hSw
        go_simp
        try with_reducible rfl
      simp only [Act.put, List.getElem_toArray, List.getElem_cons_zero, List.getElem_cons_succ, List.setIfInBounds_toArray, List.set_cons_zero, List.set_cons_succ]
      refine wpAnyH_take (i := 4) (v := ?_) rfl (by kernel_rfl) (by kernel_rfl) (by kernel_rfl) (fun _ _ _ h => h) (Or.inl ⟨by rfl, ?_⟩) (by assumption) ?_
      rotate_left
      · intro w hSw
        go_simp
        try with_reducible rfl
      simp only [Act.put, List.getElem_toArray, List.getElem_cons_zero, List.getElem_cons_succ, List.setIfInBounds_toArray, List.set_cons_zero, List.set_cons_succ]
      refine wpAnyH_ready (rs := [5]) (by kernel_rfl) (by simp) ?_
      refine AllReadyH.cons rfl (fun K hK => ?_) AllReadyH.nil
      go_simp
      refine (HC.out _).mono ?_
      rintro e w9 ⟨rfl, bb⟩
      refine hK.out _ _ (⟨cell_on hHeld.1 bb, cell_on hHeld.2.1 bb, cell_on hHeld.2.2.1 bb, cell_on hHeld.2.2.2.1 bb, aside ⟨hHeld.2.2.2.2.out.1.trans (bb.mono hHeld.2.2.2.2.out.1.size), hHeld.2.2.2.2.out.2⟩⟩) (fun hHeld => ?_)
      clear hK K 
      refine wpAnyH_take (i := 6) (v := ?_) rfl (by kernel_rfl) (by kernel_rfl) (by kernel_rfl) (fun _ _ _ h => h) (Or.inl ⟨by rfl, ?_⟩) (by assumption) ?_
      rotate_left
      · intro w hSw
        go_simp
        try with_reducible rfl
      simp only [Act.put, List.getElem_toArray, List.getElem_cons_zero, List.getElem_cons_succ, List.setIfInBounds_toArray, List.set_cons_zero, List.set_cons_succ]
      refine wpAnyH_done (by kernel_rfl) ?_ _
      have HY := aside hHeld.2.2.2.2.out.1
      clear hHeld q0 q1 q2 c0 HC
      cases x
      · exact absurd hx (by rw [allK_at hal KN.out]; simp)
      · have HA := aside (show ∀ j, j < k + 1 → Rg.has ⟨lo, hi, op⟩ (S j) = true from fun j hj => by
          by_cases e : j = k
          · rw [e]; exact hx
          · exact hall.out j (by omega))
        go_wp2
        go_roundw
        case rel => exact ⟨k + 1, by omega, by go_num, HA, HY⟩
        case measure => simp [intOf]; omega
    · obtain rfl : n = k := by omega
      clear hbx hnx
      clear q0 q1 q2
      go_wp2_with fail
      refine (rborders_ok a n cap q S _ (HS.out.up B3.out B3.out.size) hke hqn hn).mono ?_
      rintro e w4 ⟨g4, c4, rfl, o4, l4, b4⟩
      have J4 := aside (strs_own o4 (by omega))
      have X4 := aside (HX.out.trans (b4.mono HX.out.size))
      have hq4 := J4.out.1
      have L4 := aside l4
      clear b4 o4 l4
      obtain ⟨hbx, hnx⟩ := box_after X4.out
      obtain ⟨⟨q0, q1, q2⟩, -⟩ := box_out hbx
      have B4 := aside hnx
      have HBX := aside hbx
      clear hbx hnx
      have HO0 : Hid ((w4.alloc (.cells #[] 23)).ownsRow w4.heap.size 23 3 (.slice (some ⟨w4.heap.size, 0, none⟩) 0 0) 0 []) := aside (World.ownsRow_made w4 #[] 0 (Nat.le_refl _) (Nat.zero_le _) rfl)
      have HB0 := aside (bnew w4 (.cells #[] 23))
      have k0 := cell_on q0 HB0.out
      go_wp2
      clear q0 q1 q2 k0
      generalize wr = Y at *
      go_loopw [12, 13, 14] (fun v l i wr => ∃ g k cp, k ≤ q ∧ v = .slice (some ⟨g, 0, none⟩) k cp ∧ l = .string (cutLo lo (bdr n (q + 1) S) k) ∧ i = .int .i64 ((k : Nat) : Int) ∧ wr.ownsRow w4.heap.size 23 3 (.slice (some ⟨g, 0, none⟩) k cp) k (rgCells (fun j => ⟨cutLo lo (bdr n (q + 1) S) j, bdr n (q + 1) S j, false⟩) k) ∧ Below w4.heap.size w4 wr) (fun _ _ i _ => q - (intOf i).toNat)
      case atStart => exact ⟨_, 0, _, Nat.zero_le _, rfl, rfl, rfl, HO0.out, HB0.out⟩
      case round =>
        obtain ⟨g, k, cp, hk, rfl, rfl, rfl, hown, hnx⟩ := hrel
        have HNX := aside hnx
        have HNS := aside hnx.size
        by_cases hlt : (k : Int) < (q : Int)
        · rcases J4.out.2.2 with h0 | ⟨b, off, e1, hb, hc⟩
          · omega
          injection e1 with e1
          injection e1 with e2 e3
          subst e2 e3
          have c0 := (hnx.cell (p := ⟨g4, 0 + k, none⟩) hb).trans (hc k (by omega))
          rw [Nat.zero_add] at c0
          have HS1 := aside (show rgCells (fun j => ⟨cutLo lo (bdr n (q + 1) S) j, bdr n (q + 1) S j, false⟩) (k + 1) = rgCells (fun j => ⟨cutLo lo (bdr n (q + 1) S) j, bdr n (q + 1) S j, false⟩) k ++ [.string (cutLo lo (bdr n (q + 1) S) k), .string (bdr n (q + 1) S k), .bool false] from rfl)
          have HS2 := aside (show cutLo lo (bdr n (q + 1) S) (k + 1) = bdr n (q + 1) S k from rfl)
          have hk0 : (0 : Int) ≤ (k : Int) := by omega
          have hqw : IntKind.i64.wrap ((k : Int) + 1) = (k : Int) + 1 := by rw [IntKind.wrap_i64]; omega
          generalize cutLo lo (bdr n (q + 1) S) k = y at *
          generalize bdr n (q + 1) S k = z at *
          clear hc hnx
          go_wp2_with (at_builtin; refine wpList_append_lies _ rfl _ _ _ rfl w4.heap.size 23 i0 (.agg #[.string ⟨#[]⟩, .string ⟨#[]⟩, .bool false]) 3 40 Try.underlying26 hi0 hz0 hz1 hz2 rfl (by decide) _ _ _ (by rfl) (hown.alloc _) ⟨wr.heap.size, 0, none⟩ 1 1 [.string y, .string z, .bool false] (by rfl) (by rfl) (World.news_of_block (cs := #[.string y, .string z, .bool false]) (t := 23) (fr := (0, 0)) (heap_alloc_new wr _)) (by simp [Value.oneCell']) (by omega) (by unfold maxLen; omega) (by omega) (by have := HNS.out; simp; omega) (wr.heap.size + 1) (by simp) ?_; intro g5 cp5 w5 hown1 hgrow hat hlt1; refine Hid.out ?_)
          refine aside ?_
          have HO := aside (show w5.ownsRow w4.heap.size 23 3 (.slice (some ⟨g5, 0, none⟩) (k + 1) cp5) (k + 1) (rgCells (fun j => ⟨cutLo lo (bdr n (q + 1) S) j, bdr n (q + 1) S j, false⟩) (k + 1)) from by rw [HS1.out]; exact hown1)
          have HY := aside (show Below w4.heap.size w4 w5 from (HNX.out.alloc HNX.out.size _).grown hgrow (by have := HNX.out.size; simp; omega) (fun j hj => (hown.lt j hj).1))
          have c5 : w5.cell? ⟨g4, k, none⟩ = some (.string z) := by
            rcases J4.out.2.2 with h0 | ⟨b, off, e1, hb, hc⟩
            · omega
            injection e1 with e1
            injection e1 with e2 e3
            subst e2 e3
            have := (HY.out.cell (p := ⟨g4, 0 + k, none⟩) hb).trans (hc k (by omega))
            rw [Nat.zero_add] at this
            rw [this, ← HS2.out]
            rfl
          clear hown hown1 hgrow hat hlt1 c0
          go_wp2
          go_roundw
          case rel => exact ⟨g5, k + 1, cp5, by omega, by rfl, by rw [HS2.out], by go_num, HO.out, HY.out⟩
          case measure => simp [intOf]; omega
        · obtain rfl : q = k := by omega
          obtain ⟨⟨q0, q1, q2⟩, -⟩ := box_out (keep HBX.out HNX.out)
          clear hnx
          go_wp2_with (at_builtin; refine wpList_append_lies _ rfl _ _ _ rfl w4.heap.size 23 i0 (.agg #[.string ⟨#[]⟩, .string ⟨#[]⟩, .bool false]) 3 40 Try.underlying26 hi0 hz0 hz1 hz2 rfl (by decide) _ _ _ (by rfl) (hown.alloc _) ⟨wr.heap.size, 0, none⟩ 1 1 [.string (cutLo lo (bdr n (q + 1) S) q), .string hi, .bool op] (by rfl) (by rfl) (World.news_of_block (cs := #[.string (cutLo lo (bdr n (q + 1) S) q), .string hi, .bool op]) (t := 23) (fr := (0, 0)) (heap_alloc_new wr _)) (by simp [Value.oneCell']) (by omega) (by unfold maxLen; omega) (by omega) (by have := HNS.out; simp; omega) (wr.heap.size + 1) (by simp) ?_; intro g5 cp5 w5 hown1 hgrow hat hlt1; refine Hid.out ?_)
          refine aside ?_
          have HO := aside (show w5.ownsRow w.heap.size 23 3 (.slice (some ⟨g5, 0, none⟩) (q + 1) cp5) (q + 1) (rgCells (piece ⟨lo, hi, op⟩ (bdr n (q + 1) S) q) (q + 1)) from by
            rw [show rgCells (piece ⟨lo, hi, op⟩ (bdr n (q + 1) S) q) (q + 1) = rgCells (fun j => ⟨cutLo lo (bdr n (q + 1) S) j, bdr n (q + 1) S j, false⟩) q ++ [.string (cutLo lo (bdr n (q + 1) S) q), .string hi, .bool op] from by
              simp only [rgCells]
              rw [rgCells_congr (f := piece ⟨lo, hi, op⟩ (bdr n (q + 1) S) q) (g := (fun j => ⟨cutLo lo (bdr n (q + 1) S) j, bdr n (q + 1) S j, false⟩)) (fun i hi => by simp [piece, hi])]
              simp [piece]]
            exact row_base hown1 B4.out.size)
          have HY := aside (show Below w4.heap.size w4 w5 from (HNX.out.alloc HNX.out.size _).grown hgrow (by have := HNX.out.size; simp; omega) (fun j hj => (hown.lt j hj).1))
          clear hown hown1 hgrow hat q0 q1 q2
          go_wp2
          exact bodyPost_ret (v := .tuple #[.slice (some ⟨g5, 0, none⟩) (q + 1) cp5, .int .i64 0]) (by simp [results, Try.results10, go_sem]) rfl ⟨g5, cp5, rfl, HO.out, hlt1, bthen B4.out HY.out⟩

end Go.Proofs.Ytagcenfjdjaaaaa
