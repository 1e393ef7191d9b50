/-
  Ranges of the document: a range split at keys, where there are enough.
  A session between two maps, plain: what becomes of its ranges, turn by turn; the first over which there are twins.
  Rows of any structs: their cells, slices of them, appends.
  The keys of a list, in a row of their own: the document's and the code's.
  Lists of entries that can be read, by what is in them; what is in a range of them: the document's, the code's.
-/
import Derived.Test.YtfkdhambbpkmpaaDoorBv17
import Derived.Test.YtfkdhambbpkmpaaDoorBv8
import Derived.Test.YtfkdhambbpkmpaaDoorBv15
import Derived.Test.YtfkdhambbpkmpaaDoorBv12
import Derived.Test.YtfkdhambbpkmpaaDoorBv14
namespace Go.Proofs.YtfkdhambbpkmpaaDoor
open Go.RowKit
set_option linter.unusedVariables false
set_option maxHeartbeats 6400000 in
set_option maxRecDepth 100000 in
theorem rranges_ok (lo hi : ByteArray) (op : Bool) (a : Option Addr) (n cap : Nat) (S : Nat → ByteArray) (q : Nat) (w : World) (h : StrsIn w.heap.size w a n cap S) (hch : Rg.chk ⟨lo, hi, op⟩ = 0) (hke : keyE S n = 0) (hal : allK ⟨lo, hi, op⟩ S n = true) (hqn : q + 1 ≤ n) (hn : n ≤ 256) :
    Calls Tryd.prog 45 #[.agg #[.string lo, .string hi, .bool op], .slice a n cap, .int .i64 ((q : Int) + 1)] w fun e w' => ∃ g cp, e = .returned (.tuple #[.slice (some ⟨g, 0, none⟩) (q + 1) cp, .int .i64 0]) ∧ w'.ownsRow w.heap.size 26 3 (.slice (some ⟨g, 0, none⟩) (q + 1) cp) (q + 1) (rgCells (piece ⟨lo, hi, op⟩ (bdr n (q + 1) S) q) (q + 1)) ∧ g < w'.heap.size ∧ Below w.heap.size w w' := by
  have HS := aside h
  clear h
  obtain ⟨i0, hi0, hz0, hz1, hz2⟩ := info_parts info23
  go_enter Tryd.func45, Tryd.ntmps45
  go_wp2_with fail
  refine (checkRef_at hch _).mono ?_
  rintro e w1 ⟨rfl, b1⟩
  have X1 := aside b1
  clear b1
  obtain ⟨hbx, hnx⟩ := box_after X1.out
  obtain ⟨⟨q0, q1, q2⟩, -⟩ := box_out hbx
  have B1 := aside hnx
  clear hbx hnx
  go_wp2_with fail
  refine (rrise_any a n cap S _ (HS.out.up B1.out B1.out.size)).mono ?_
  rw [hke]
  rintro e w2 ⟨rfl, b2⟩
  have X2 := aside (X1.out.trans (b2.mono X1.out.size))
  clear b2 q0 q1 q2
  obtain ⟨hbx, hnx⟩ := box_after X2.out
  obtain ⟨⟨q0, q1, q2⟩, -⟩ := box_out hbx
  have B2 := aside hnx
  clear hbx hnx
  go_wp2
  clear q0 q1 q2
  go_loopw [9] (fun i wr => ∃ k : Nat, k ≤ n ∧ i = .int .i64 (k : Int) ∧ Hid (∀ j, j < k → Rg.has ⟨lo, hi, op⟩ (S j) = true) ∧ Hid (Below (w.alloc (.cells #[.string lo, .string hi, .bool op] 26)).heap.size (w.alloc (.cells #[.string lo, .string hi, .bool op] 26)) wr)) (fun i _ => n - (intOf i).toNat)
  case atStart => exact ⟨0, Nat.zero_le _, rfl, fun j hj => by omega, X2⟩
  case round =>
    obtain ⟨k, hk, rfl, hall, HX⟩ := hrel
    obtain ⟨hbx, hnx⟩ := box_after HX.out
    obtain ⟨⟨q0, q1, q2⟩, -⟩ := box_out hbx
    have B3 := aside hnx
    by_cases hlt : (k : Int) < (n : Int)
    · rcases HS.out.2.2 with hh | ⟨b, off, rfl, hb, hc⟩
      · omega
      have c0 := (hnx.cell (p := ⟨b, off + k, none⟩) hb).trans (hc k (by omega))
      have hk0 : (0 : Int) ≤ (k : Int) := by omega
      have hqw : IntKind.i64.wrap ((k : Int) + 1) = (k : Int) + 1 := by rw [IntKind.wrap_i64]; have := HS.out.2.1; omega
      have KN := aside (show k < n from by omega)
      have hlc := HS.out.1
      clear hc hnx hbx
      obtain ⟨x, hx⟩ : ∃ x, Rg.has ⟨lo, hi, op⟩ (S k) = x := ⟨_, rfl⟩
      have HC := aside (fun w => holdsRef_any lo hi op (S k) w)
      rw [hx] at HC
      go_wp2_with fail
      refine wp_region_held_drew (S := fun X => X.cell? ⟨w.heap.size, 0, none⟩ = some (.string lo) ∧ X.cell? ⟨w.heap.size, 1, none⟩ = some (.string hi) ∧ X.cell? ⟨w.heap.size, 2, none⟩ = some (.bool op) ∧ X.cell? ⟨b, off + k, none⟩ = some (.string (S k)) ∧ Hid (Below (w.alloc (.cells #[.string lo, .string hi, .bool op] 26)).heap.size (w.alloc (.cells #[.string lo, .string hi, .bool op] 26)) X ∧ b < w.heap.size)) (by kernel_rfl) ⟨q0, q1, q2, c0, aside ⟨HX.out.drew, hb⟩⟩ (fun hHeld => ?_)
      refine wpAnyH_take (i := 0) (v := ?_) rfl (by kernel_rfl) (by kernel_rfl) (by kernel_rfl) (fun _ _ _ h => h) (Or.inl ⟨by rfl, ?_⟩) (by assumption) ?_
      rotate_left
      · intro w hSw
        go_simp
        try with_reducible rfl
      simp only [Act.put, List.getElem_toArray, List.getElem_cons_zero, List.setIfInBounds_toArray, List.set_cons_zero, List.set_cons_succ]
      refine wpAnyH_take (i := 1) (v := ?_) rfl (by kernel_rfl) (by kernel_rfl) (by kernel_rfl) (fun _ _ _ h => h) (Or.inl ⟨by rfl, ?_⟩) (by assumption) ?_
      rotate_left
      · intro w hSw
        go_simp
        try with_reducible rfl
      simp only [Act.put, List.getElem_toArray, List.getElem_cons_zero, List.getElem_cons_succ, List.setIfInBounds_toArray, List.set_cons_zero, List.set_cons_succ]
      refine wpAnyH_take (i := 2) (v := ?_) rfl (by kernel_rfl) (by kernel_rfl) (by kernel_rfl) (fun _ _ _ h => h) (Or.inl ⟨by rfl, ?_⟩) (by assumption) ?_
      rotate_left
      · intro w hSw
        go_simp
        try with_reducible rfl
      simp only [Act.put, List.getElem_toArray, List.getElem_cons_zero, List.getElem_cons_succ, List.setIfInBounds_toArray, List.set_cons_zero, List.set_cons_succ]
      refine wpAnyH_take (i := 3) (v := ?_) rfl (by kernel_rfl) (by kernel_rfl) (by kernel_rfl) (fun _ _ _ h => h) (Or.inl ⟨by rfl, ?_⟩) (by assumption) ?_
      rotate_left
      · intro w hSw
        go_simp
        try with_reducible rfl
      simp only [Act.put, List.getElem_toArray, List.getElem_cons_zero, List.getElem_cons_succ, List.setIfInBounds_toArray, List.set_cons_zero, List.set_cons_succ]
      refine wpAnyH_take (i := 4) (v := ?_) rfl (by kernel_rfl) (by kernel_rfl) (by kernel_rfl) (fun _ _ _ h => h) (Or.inl ⟨by rfl, ?_⟩) (by assumption) ?_
      rotate_left
      · intro w hSw
        go_simp
        try with_reducible rfl
      simp only [Act.put, List.getElem_toArray, List.getElem_cons_zero, List.getElem_cons_succ, List.setIfInBounds_toArray, List.set_cons_zero, List.set_cons_succ]
      refine wpAnyH_ready (rs := [5]) (by kernel_rfl) (by simp) ?_
      refine AllReadyH.cons rfl (fun K hK => ?_) AllReadyH.nil
      go_simp
      refine (HC.out _).mono ?_
      rintro e w9 ⟨rfl, bb⟩
      refine hK.out _ _ (⟨cell_on hHeld.1 bb, cell_on hHeld.2.1 bb, cell_on hHeld.2.2.1 bb, cell_on hHeld.2.2.2.1 bb, aside ⟨hHeld.2.2.2.2.out.1.trans (bb.mono hHeld.2.2.2.2.out.1.size), hHeld.2.2.2.2.out.2⟩⟩) (fun hHeld => ?_)
      clear hK K 
      refine wpAnyH_take (i := 6) (v := ?_) rfl (by kernel_rfl) (by kernel_rfl) (by kernel_rfl) (fun _ _ _ h => h) (Or.inl ⟨by rfl, ?_⟩) (by assumption) ?_
      rotate_left
      · intro w hSw
        go_simp
        try with_reducible rfl
      simp only [Act.put, List.getElem_toArray, List.getElem_cons_zero, List.getElem_cons_succ, List.setIfInBounds_toArray, List.set_cons_zero, List.set_cons_succ]
      refine wpAnyH_done (by kernel_rfl) ?_ _
      have HY := aside hHeld.2.2.2.2.out.1
      clear hHeld q0 q1 q2 c0 HC
      cases x
      · exact absurd hx (by rw [allK_at hal KN.out]; simp)
      · have HA := aside (show ∀ j, j < k + 1 → Rg.has ⟨lo, hi, op⟩ (S j) = true from fun j hj => by
          by_cases e : j = k
          · rw [e]; exact hx
          · exact hall.out j (by omega))
        go_wp2
        go_roundw
        case rel => exact ⟨k + 1, by omega, by go_num, HA, HY⟩
        case measure => simp [intOf]; omega
    · obtain rfl : n = k := by omega
      clear hbx hnx
      clear q0 q1 q2
      go_wp2_with fail
      refine (rborders_ok a n cap q S _ (HS.out.up B3.out B3.out.size) hke hqn hn).mono ?_
      rintro e w4 ⟨g4, c4, rfl, o4, l4, b4⟩
      have J4 := aside (strs_own o4 (by omega))
      have X4 := aside (HX.out.trans (b4.mono HX.out.size))
      have hq4 := J4.out.1
      have L4 := aside l4
      clear b4 o4 l4
      obtain ⟨hbx, hnx⟩ := box_after X4.out
      obtain ⟨⟨q0, q1, q2⟩, -⟩ := box_out hbx
      have B4 := aside hnx
      have HBX := aside hbx
      clear hbx hnx
      have HO0 : Hid ((w4.alloc (.cells #[] 26)).ownsRow w4.heap.size 26 3 (.slice (some ⟨w4.heap.size, 0, none⟩) 0 0) 0 []) := aside (World.ownsRow_made w4 #[] 0 (Nat.le_refl _) (Nat.zero_le _) rfl)
      have HB0 := aside (bnew w4 (.cells #[] 26))
      have k0 := cell_on q0 HB0.out
      go_wp2
      clear q0 q1 q2 k0
      generalize wr = Y at *
      go_loopw [12, 13, 14] (fun v l i wr => ∃ g k cp, k ≤ q ∧ v = .slice (some ⟨g, 0, none⟩) k cp ∧ l = .string (cutLo lo (bdr n (q + 1) S) k) ∧ i = .int .i64 ((k : Nat) : Int) ∧ wr.ownsRow w4.heap.size 26 3 (.slice (some ⟨g, 0, none⟩) k cp) k (rgCells (fun j => ⟨cutLo lo (bdr n (q + 1) S) j, bdr n (q + 1) S j, false⟩) k) ∧ Below w4.heap.size w4 wr) (fun _ _ i _ => q - (intOf i).toNat)
      case atStart => exact ⟨_, 0, _, Nat.zero_le _, rfl, rfl, rfl, HO0.out, HB0.out⟩
      case round =>
        obtain ⟨g, k, cp, hk, rfl, rfl, rfl, hown, hnx⟩ := hrel
        have HNX := aside hnx
        have HNS := aside hnx.size
        by_cases hlt : (k : Int) < (q : Int)
        · rcases J4.out.2.2 with h0 | ⟨b, off, e1, hb, hc⟩
          · omega
          injection e1 with e1
          injection e1 with e2 e3
          subst e2 e3
          have c0 := (hnx.cell (p := ⟨g4, 0 + k, none⟩) hb).trans (hc k (by omega))
          rw [Nat.zero_add] at c0
          have HS1 := aside (show rgCells (fun j => ⟨cutLo lo (bdr n (q + 1) S) j, bdr n (q + 1) S j, false⟩) (k + 1) = rgCells (fun j => ⟨cutLo lo (bdr n (q + 1) S) j, bdr n (q + 1) S j, false⟩) k ++ [.string (cutLo lo (bdr n (q + 1) S) k), .string (bdr n (q + 1) S k), .bool false] from rfl)
          have HS2 := aside (show cutLo lo (bdr n (q + 1) S) (k + 1) = bdr n (q + 1) S k from rfl)
          have hk0 : (0 : Int) ≤ (k : Int) := by omega
          have hqw : IntKind.i64.wrap ((k : Int) + 1) = (k : Int) + 1 := by rw [IntKind.wrap_i64]; omega
          generalize cutLo lo (bdr n (q + 1) S) k = y at *
          generalize bdr n (q + 1) S k = z at *
          clear hc hnx
          go_wp2_with (at_builtin; refine wpList_append_lies _ rfl _ _ _ rfl w4.heap.size 26 i0 (.agg #[.string ⟨#[]⟩, .string ⟨#[]⟩, .bool false]) 3 40 Tryd.underlying61 hi0 hz0 hz1 hz2 rfl (by decide) _ _ _ (by rfl) (hown.alloc _) ⟨wr.heap.size, 0, none⟩ 1 1 [.string y, .string z, .bool false] (by rfl) (by rfl) (World.news_of_block (cs := #[.string y, .string z, .bool false]) (t := 26) (fr := (0, 0)) (heap_alloc_new wr _)) (by simp [Value.oneCell']) (by omega) (by unfold maxLen; omega) (by omega) (by have := HNS.out; simp; omega) (wr.heap.size + 1) (by simp) ?_; intro g5 cp5 w5 hown1 hgrow hat hlt1; refine Hid.out ?_)
          refine aside ?_
          have HO := aside (show w5.ownsRow w4.heap.size 26 3 (.slice (some ⟨g5, 0, none⟩) (k + 1) cp5) (k + 1) (rgCells (fun j => ⟨cutLo lo (bdr n (q + 1) S) j, bdr n (q + 1) S j, false⟩) (k + 1)) from by rw [HS1.out]; exact hown1)
          have HY := aside (show Below w4.heap.size w4 w5 from (HNX.out.alloc HNX.out.size _).grown hgrow (by have := HNX.out.size; simp; omega) (fun j hj => (hown.lt j hj).1))
          have c5 : w5.cell? ⟨g4, k, none⟩ = some (.string z) := by
            rcases J4.out.2.2 with h0 | ⟨b, off, e1, hb, hc⟩
            · omega
            injection e1 with e1
            injection e1 with e2 e3
            subst e2 e3
            have := (HY.out.cell (p := ⟨g4, 0 + k, none⟩) hb).trans (hc k (by omega))
            rw [Nat.zero_add] at this
            rw [this, ← HS2.out]
            rfl
          clear hown hown1 hgrow hat hlt1 c0
          go_wp2
          go_roundw
          case rel => exact ⟨g5, k + 1, cp5, by omega, by rfl, by rw [HS2.out], by go_num, HO.out, HY.out⟩
          case measure => simp [intOf]; omega
        · obtain rfl : q = k := by omega
          obtain ⟨⟨q0, q1, q2⟩, -⟩ := box_out (keep HBX.out HNX.out)
          clear hnx
          go_wp2_with (at_builtin; refine wpList_append_lies _ rfl _ _ _ rfl w4.heap.size 26 i0 (.agg #[.string ⟨#[]⟩, .string ⟨#[]⟩, .bool false]) 3 40 Tryd.underlying61 hi0 hz0 hz1 hz2 rfl (by decide) _ _ _ (by rfl) (hown.alloc _) ⟨wr.heap.size, 0, none⟩ 1 1 [.string (cutLo lo (bdr n (q + 1) S) q), .string hi, .bool op] (by rfl) (by rfl) (World.news_of_block (cs := #[.string (cutLo lo (bdr n (q + 1) S) q), .string hi, .bool op]) (t := 26) (fr := (0, 0)) (heap_alloc_new wr _)) (by simp [Value.oneCell']) (by omega) (by unfold maxLen; omega) (by omega) (by have := HNS.out; simp; omega) (wr.heap.size + 1) (by simp) ?_; intro g5 cp5 w5 hown1 hgrow hat hlt1; refine Hid.out ?_)
          refine aside ?_
          have HO := aside (show w5.ownsRow w.heap.size 26 3 (.slice (some ⟨g5, 0, none⟩) (q + 1) cp5) (q + 1) (rgCells (piece ⟨lo, hi, op⟩ (bdr n (q + 1) S) q) (q + 1)) from by
            rw [show rgCells (piece ⟨lo, hi, op⟩ (bdr n (q + 1) S) q) (q + 1) = rgCells (fun j => ⟨cutLo lo (bdr n (q + 1) S) j, bdr n (q + 1) S j, false⟩) q ++ [.string (cutLo lo (bdr n (q + 1) S) q), .string hi, .bool op] from by
              simp only [rgCells]
              rw [rgCells_congr (f := piece ⟨lo, hi, op⟩ (bdr n (q + 1) S) q) (g := (fun j => ⟨cutLo lo (bdr n (q + 1) S) j, bdr n (q + 1) S j, false⟩)) (fun i hi => by simp [piece, hi])]
              simp [piece]]
            exact row_base hown1 B4.out.size)
          have HY := aside (show Below w4.heap.size w4 w5 from (HNX.out.alloc HNX.out.size _).grown hgrow (by have := HNX.out.size; simp; omega) (fun j hj => (hown.lt j hj).1))
          clear hown hown1 hgrow hat q0 q1 q2
          go_wp2
          exact bodyPost_ret (v := .tuple #[.slice (some ⟨g5, 0, none⟩) (q + 1) cp5, .int .i64 0]) (by simp [results, Tryd.results45, go_sem]) rfl ⟨g5, cp5, rfl, HO.out, hlt1, bthen B4.out HY.out⟩
end Go.Proofs.YtfkdhambbpkmpaaDoor
namespace Go.Proofs.YtfkdhambbpkmpaaDoor
open Go.RowKit
set_option linter.unusedVariables false
theorem in_mapG {a : List En} (ha : MapL a) (r : Rg) : MapL (inL r a) := ⟨ha.rises.sublist List.filter_sublist, fun e he => ha.chk e (List.mem_filter.1 he).1⟩
/-- Whether two lists come to the same. -/
def talE (a b : List En) : Bool := ((a.length : Int) == (b.length : Int)) && (allI f0 a == allI f0 b && allI f1 a == allI f1 b)
theorem talE_turn (a b : List En) : talE a b = talE b a := by
  unfold talE
  rw [@BEq.comm _ _ _ (a.length : Int) (b.length : Int), @BEq.comm _ _ _ (allI f0 a) (allI f0 b), @BEq.comm _ _ _ (allI f1 a) (allI f1 b)]
/-- The keys of a list. -/
def keyL (l : List En) (i : Nat) : ByteArray := (nthE l i).k
/-- The parts of a range, at the keys of l: at most b. -/
def cutsL (b : Nat) (r : Rg) (l : List En) : List Rg := (List.range (min b l.length)).map (piece r (bdr l.length (min b l.length) (keyL l)) (min b l.length - 1))
/-- Over this range there are twins. -/
def twBad (M T : List En) (r : Rg) : Bool := talE (inL r M) (inL r T) && !(dfP (prs (inL r M) (inL r T))).isEmpty
/-- What goes out for a range. -/
def twOut (b lf : Nat) (M T : List En) (r : Rg) : List Rg := if talE (inL r M) (inL r T) = true then [] else if (inL r M).length ≤ lf then [] else cutsL b r (inL r M)
/-- Turn by turn. -/
def twGo (b lf : Nat) : Nat → List En → List En → List Rg → Option Rg
  | 0, _, _, _ => none
  | n + 1, M, T, l => if l = [] then none else match l.find? (twBad M T) with
    | some r => some r
    | none => twGo b lf n T M (l.flatMap (twOut b lf M T))
theorem twGo_nil (b lf n : Nat) (M T : List En) : twGo b lf n M T [] = none := by
  cases n <;> simp [twGo]
theorem twGo_bad {b lf n : Nat} {M T : List En} {l : List Rg} {r : Rg} (h : l.find? (twBad M T) = some r) : twGo b lf (n + 1) M T l = some r := by
  have : l ≠ [] := by rintro rfl; cases h
  simp [twGo, this, h]
theorem twGo_on {b lf n : Nat} {M T : List En} {l : List Rg} (hl : l ≠ []) (h : l.find? (twBad M T) = none) : twGo b lf (n + 1) M T l = twGo b lf n T M (l.flatMap (twOut b lf M T)) := by
  simp [twGo, hl, h]
theorem nthE_mem {l : List En} {i : Nat} (h : i < l.length) : nthE l i ∈ l := by
  have h1 := firstE_get (nthE l) h
  rw [firstE_nth] at h1
  exact List.mem_of_getElem? h1
theorem keysUp_map {l : List En} (h : MapL l) : KeysUp (keyL l) l.length := by
  constructor
  · intro i hi
    have := (chk_pos (h.chk _ (nthE_mem hi))).2.1
    unfold keyL
    omega
  · intro i j hij hj
    have h1 := firstE_get (nthE l) (show i < l.length by omega)
    have h2 := firstE_get (nthE l) hj
    rw [firstE_nth] at h1 h2
    obtain ⟨hi', e1⟩ := List.getElem?_eq_some_iff.1 h1
    obtain ⟨hj', e2⟩ := List.getElem?_eq_some_iff.1 h2
    unfold keyL
    rw [← e1, ← e2]
    have hp : l.Pairwise (fun a b => kLt a.k b.k = true) := h.rises
    exact List.pairwise_iff_getElem.1 hp i j hi' hj' hij
theorem allK_in (r : Rg) (M : List En) : allK r (keyL (inL r M)) (inL r M).length = true := allK_true (fun i hi => by
  have h := nthE_mem hi
  unfold inL at h
  exact (List.mem_filter.1 h).2)
theorem cnt_pos {T : Nat → Rg} {k : ByteArray} : ∀ {n j : Nat}, j < n → (T j).has k = true → 1 ≤ cnt T k n
  | n + 1, j, hj, h => by
    rcases Nat.lt_succ_iff_lt_or_eq.1 hj with h1 | h1
    · have := cnt_pos h1 h
      simp only [cnt]; omega
    · subst h1
      simp only [cnt, h]; simp
/-- A part lies within its range. -/
theorem piece_in {r : Rg} {S : Nat → ByteArray} {n q : Nat} (hm : r.may = true) (hk : KeysUp S n) (ha : ∀ i, i < n → r.has (S i) = true) (hq : q + 1 ≤ n) {j : Nat} (hj : j < q + 1) {k : ByteArray} (h : (piece r (bdr n (q + 1) S) q j).has k = true) : r.has k = true := by
  have h1 := cnt_chain (chain_of (piece_tiles (pieces_up hk ha hq))) hm k
  have h2 := cnt_pos hj h
  rw [h1] at h2
  cases h3 : r.has k with
  | true => rfl
  | false => rw [h3] at h2; simp at h2
theorem inL_in {r s : Rg} (h : ∀ k, s.has k = true → r.has k = true) (l : List En) : inL s (inL r l) = inL s l := by
  unfold inL
  rw [List.filter_filter]
  refine List.filter_congr (fun e _ => ?_)
  cases h1 : s.has e.k with
  | true => simp [h _ h1]
  | false => simp
/-- What a range of a session is. -/
structure TwOk (M T : List En) (n : Nat) (r : Rg) : Prop where
  may : r.may = true
  few : (inL r M).length + (inL r T).length < n
theorem cuts_mem {b : Nat} {r s : Rg} {l : List En} (h : s ∈ cutsL b r l) : ∃ j q, min b l.length = q ∧ j < q ∧ s = piece r (bdr l.length q (keyL l)) (q - 1) j := by
  unfold cutsL at h
  obtain ⟨j, hj, rfl⟩ := List.mem_map.1 h
  exact ⟨j, _, rfl, List.mem_range.1 hj, rfl⟩
theorem inL_split {r s : Rg} (M : List En) (hs : ∀ k, s.has k = true → r.has k = true) {e : En} (he : e ∈ inL r M) (hn : s.has e.k = false) : (inL s M).length < (inL r M).length := by
  rw [← inL_in hs M]
  unfold inL at *
  refine Nat.lt_of_not_le (fun h => ?_)
  have h1 := List.filter_sublist (p := fun e => s.has e.k) (l := M.filter fun e => r.has e.k)
  have h2 := h1.eq_of_length_le h
  have h3 : e ∈ List.filter (fun e => s.has e.k) (M.filter fun e => r.has e.k) := by rw [h2]; exact he
  have h4 := (List.mem_filter.1 h3).2
  rw [hn] at h4
  cases h4
theorem inL_le {r s : Rg} (M : List En) (hs : ∀ k, s.has k = true → r.has k = true) : (inL s M).length ≤ (inL r M).length := by
  rw [← inL_in hs M]
  exact inL_len _ _
/-- The parts are ranges of the session, too. -/
theorem tw_cuts {b n : Nat} {M T : List En} {r s : Rg} (hM : MapL M) (hb : 2 ≤ b) (h : TwOk M T (n + 1) r) (h2 : 2 ≤ (inL r M).length) (hs : s ∈ cutsL b r (inL r M)) : TwOk T M n s ∧ ∀ k, s.has k = true → r.has k = true := by
  obtain ⟨j, q, hq, hj, rfl⟩ := cuts_mem hs
  obtain ⟨p, rfl⟩ : ∃ p, q = p + 1 := ⟨q - 1, by omega⟩
  have hp : 1 ≤ p := by omega
  have hpn : p + 1 ≤ (inL r M).length := by omega
  have mI := in_mapG hM r
  have hk := keysUp_map mI
  have ha : ∀ i, i < (inL r M).length → r.has (keyL (inL r M) i) = true := fun i hi => allK_at (allK_in r M) hi
  rw [Nat.add_sub_cancel] at hs ⊢
  have hin : ∀ k, (piece r (bdr (inL r M).length (p + 1) (keyL (inL r M))) p j).has k = true → r.has k = true := fun k hk1 => piece_in h.may hk ha hpn hj hk1
  refine ⟨⟨rises_may (pieces_up hk ha hpn) hj, ?_⟩, hin⟩
  have l1 := inL_le T hin
  have hf := h.few
  have l2 : (inL (piece r (bdr (inL r M).length (p + 1) (keyL (inL r M))) p j) M).length < (inL r M).length := by
    obtain ⟨i, hi, hni⟩ : ∃ i, i < (inL r M).length ∧ (piece r (bdr (inL r M).length (p + 1) (keyL (inL r M))) p j).has (keyL (inL r M) i) = false := by
      by_cases hj0 : j = 0
      · refine ⟨stt (inL r M).length (p + 1) 1, ?_, ?_⟩
        · have := stt_up (n := (inL r M).length) (p := p + 1) (by omega) hpn (show 1 < p + 1 by omega)
          rw [stt_end _ (by omega)] at this
          exact this
        · have hlt : stt (inL r M).length (p + 1) 1 < (inL r M).length := by
            have := stt_up (n := (inL r M).length) (p := p + 1) (by omega) hpn (show 1 < p + 1 by omega)
            rw [stt_end _ (by omega)] at this
            exact this
          rw [piece_has hk ha hpn hlt hj, hj0]
          simp
      · refine ⟨0, by omega, ?_⟩
        rw [piece_has hk ha hpn (by omega) hj]
        have := stt_up (n := (inL r M).length) (p := p + 1) (by omega) hpn (show 0 < j by omega)
        rw [stt_zero] at this
        simp; omega
    exact inL_split M hin (nthE_mem hi) hni
  omega
/-- One turn: what goes out are ranges of the session. -/
theorem tw_turn {b lf n : Nat} {M T : List En} {l : List Rg} (hM : MapL M) (hb : 2 ≤ b) (hlf : 1 ≤ lf) (h : ∀ r ∈ l, TwOk M T (n + 1) r) : ∀ s ∈ l.flatMap (twOut b lf M T), TwOk T M n s := by
  intro s hs
  obtain ⟨r, hr, hs⟩ := List.mem_flatMap.1 hs
  unfold twOut at hs
  split at hs
  · cases hs
  · split at hs
    · cases hs
    · exact (tw_cuts hM hb (h r hr) (by omega) hs).1
end Go.Proofs.YtfkdhambbpkmpaaDoor
namespace Go.Proofs.YtfkdhambbpkmpaaDoor
open Go.RowKit
set_option linter.unusedVariables false
/-- The cells of a list, each one's by f. -/
def rowC {α : Type} (f : α → List Value) : List α → List Value
  | [] => []
  | e :: r => f e ++ rowC f r
/-- f gives m cells, each of them one. -/
structure RowF {α : Type} (f : α → List Value) (m : Nat) : Prop where
  len : ∀ e, (f e).length = m
  one : ∀ e, ∀ u ∈ f e, u.oneCell' = true
  pos : 0 < m
section
variable {α : Type} {f : α → List Value} {m : Nat}
theorem rowC_length (h : RowF f m) : ∀ l : List α, (rowC f l).length = l.length * m
  | [] => by simp [rowC]
  | e :: r => by simp only [rowC, List.length_append, rowC_length h r, List.length_cons, h.len]; rw [Nat.add_mul]; omega
theorem rowC_append : ∀ l k : List α, rowC f (l ++ k) = rowC f l ++ rowC f k
  | [], _ => rfl
  | e :: r, k => by simp [rowC, rowC_append r k]
theorem rowC_at (h : RowF f m) : ∀ (l : List α) (i r : Nat) (e : α), l[i]? = some e → r < m → (rowC f l)[i * m + r]? = (f e)[r]?
  | [], i, r, e, h1, _ => by simp at h1
  | x :: t, 0, r, e, h1, hr => by
    simp at h1; subst h1
    simp only [rowC]
    rw [List.getElem?_append_left (by rw [h.len]; omega)]
    simp
  | x :: t, i + 1, r, e, h1, hr => by
    simp only [rowC]
    have e1 : (i + 1) * m + r = m + (i * m + r) := by rw [Nat.add_mul]; omega
    rw [List.getElem?_append_right (by rw [h.len]; omega), h.len, e1, Nat.add_sub_cancel_left]
    exact rowC_at h t i r e (by simpa using h1) hr
theorem rowC_one (h : RowF f m) (l : List α) : ∀ u ∈ rowC f l, u.oneCell' = true := by
  induction l with
  | nil => intro u hu; simp [rowC] at hu
  | cons e r ih =>
    intro u hu
    simp only [rowC, List.mem_append] at hu
    rcases hu with hu | hu
    · exact h.one e u hu
    · exact ih u hu
/-- A list that can be read. -/
def RowIn (f : α → List Value) (w : World) (a : Option Addr) (n cap : Nat) (l : List α) : Prop :=
  l.length = n ∧ n ≤ cap ∧ cap ≤ maxLen ∧ ((a = none ∧ n = 0 ∧ cap = 0) ∨ ∃ b o, a = some ⟨b, o, none⟩ ∧ b < w.heap.size ∧ ∀ j u, (rowC f l)[j]? = some u → w.cell? ⟨b, o + j, none⟩ = some u)
theorem RowIn.on {w w' : World} {a : Option Addr} {n cap : Nat} {l : List α} (h : RowIn f w a n cap l) (bel : Below w.heap.size w w') : RowIn f w' a n cap l := by
  obtain ⟨h1, h2, h3, h4⟩ := h
  refine ⟨h1, h2, h3, ?_⟩
  rcases h4 with h | ⟨b, o, hx, hb, hc⟩
  · exact .inl h
  · refine .inr ⟨b, o, hx, by have := bel.size; omega, fun j u hj => ?_⟩
    have hcell := hc j u hj
    rw [← hcell]
    exact bel.cell (World.block_lt_of_cell? w _ hcell)
theorem RowIn.cellAt (hf : RowF f m) {w : World} {b o n cap : Nat} {l : List α} (h : RowIn f w (some ⟨b, o, none⟩) n cap l) {i r : Nat} {p : α} {u : Value} (hi : l[i]? = some p) (hr : r < m) (hu : (f p)[r]? = some u) : w.cell? ⟨b, o + i * m + r, none⟩ = some u := by
  obtain ⟨h1, h2, h3, ⟨h4, -⟩ | ⟨b', o', hx, hb, hc⟩⟩ := h
  · cases h4
  · injection hx with hx
    injection hx with e1 e2
    subst e1 e2
    rw [Nat.add_assoc]
    exact hc _ _ (by rw [rowC_at hf l i r p hi hr]; exact hu)
theorem RowIn.of_own (hf : RowF f m) {w : World} {B e n c : Nat} {a : Option Addr} {l : List α} (h : w.ownsRow B e m (.slice a n c) n (rowC f l)) : RowIn f w a n c l := by
  have hl : l.length = n := by
    have h1 := h.1
    rw [rowC_length hf] at h1
    exact Nat.eq_of_mul_eq_mul_right hf.pos h1
  obtain ⟨a', c', e1, h1, h2, ⟨h3, h4, h5⟩ | ⟨g, rfl, hb⟩⟩ := own_slice h
  · injection e1 with e1 e2 e3
    subst e1 e3
    exact ⟨hl, h1, h2, .inl ⟨h3, h4, h5⟩⟩
  · injection e1 with e1 e2 e3
    subst e1 e3
    have hg := (h.lt g rfl).2
    refine ⟨hl, h1, h2, .inr ⟨g, 0, rfl, hg, fun j u hj => ?_⟩⟩
    have hjl : j < (rowC f l).length := (List.getElem?_eq_some_iff.1 hj).1
    rw [Nat.zero_add, h.cellAt j (by rw [h.1] at hjl; exact hjl)]
    exact hj
/-- A list appended to an owned row. -/
theorem op_append_rowC (hf : RowF f m) {w : World} {o : Oper} {act : Act} {K : Act → World → Prop} {Q : Exit → Act → World → Prop} {ts e bts : Nat} {z : Value} (hu : Tryd.prog.underlying ts = some (.slice e)) (hinf : (Tryd.prog.info? e).map (fun i => (i.zero, i.size, i.bytes)) = some (some z, m, bts)) (hz : z.cells.size = m) (s x : Operand)
    (ho : o.op = .call { callee := .builtin .append, args := #[s, x], argTypes := #[ts, ts] })
    (B n k : Nat) (v : Value) (l r : List α) (hs : act.eval s = v) (hown : w.ownsRow B e m v n (rowC f l)) (a : Option Addr) (c : Nat) (hx : act.eval x = .slice a k c) (hr : RowIn f w a k c r) (hlen : (n + k) * bts ≤ 140737488355328) (h63 : n + k ≤ maxLen) (hB : B ≤ w.heap.size)
    (h : ∀ v' w', w'.ownsRow B e m v' (n + k) (rowC f (l ++ r)) → w.grownBy w' v.ownBlock → (v'.ownBlock = v.ownBlock ∨ v'.ownBlock = some w.heap.size) → K (act.put o.dst v') w') : o.wp Tryd.prog act w K Q := by
  obtain ⟨i0, hi, hz0, hz1, hz2⟩ := info_parts hinf
  obtain ⟨h1, h2, h3, ⟨rfl, rfl, rfl⟩ | ⟨b, off, rfl, hb, hc⟩⟩ := hr
  · obtain rfl : r = [] := List.eq_nil_of_length_eq_zero h1
    have hrun := run_append_owned_none (P := Tryd.prog) (w := w) B ts o.type e i0 m hu hi _ _ _ hown
    unfold Oper.wp
    simp [execOp, ho, resolve, invoke, builtin, hs, hx, hrun, Result.andThen]
    exact h v w (by rw [List.append_nil]; exact hown) (World.grownBy.refl _ _) (.inl rfl)
  · obtain ⟨v', w', hrun, h2, h3, h4, h5⟩ := run_append_own_at (P := Tryd.prog) w B ts o.type e i0 z m bts hu hi hz0 hz1 hz2 hz hf.pos v n (rowC f l) hown ⟨b, off, none⟩ k c (rowC f r) (by rw [rowC_length hf, h1]) (fun j u hj => by rw [Addr.add_lit]; exact hc j u hj) (rowC_one hf _) h63 hlen hB
    unfold Oper.wp execOp
    simp only [ho, resolve, invoke, builtin, Sem.run_bind, Sem.run_pure, Result.andThen_ok, List.map_toArray, List.map_cons, List.map_nil, hs, hx, hrun]
    rw [← rowC_append] at h2
    exact h v' w' h2 h3 h5
end
end Go.Proofs.YtfkdhambbpkmpaaDoor
namespace Go.Proofs.YtfkdhambbpkmpaaDoor
open Go.RowKit
set_option linter.unusedVariables false
theorem strCells_snocG (l : List ByteArray) (s : ByteArray) : strCells (l ++ [s]) = strCells l ++ [.string s] := by simp [strCells]
theorem keys_takeG {m : List En} {j : Nat} (h : j < m.length) : (m.map (fun e => e.k)).take j ++ [(nthE m j).k] = (m.map (fun e => e.k)).take (j + 1) := by
  have e := nthE_get h
  rw [List.take_add_one, List.getElem?_map, e]
  rfl
theorem infoKeyG : (Tryd.prog.info? 9).map (fun i => (i.zero, i.size, i.bytes)) = some (some (.string ⟨#[]⟩), 1, 16) := by kernel_rfl
/-- One text appended to a row of texts. -/
theorem op_append_keyG {w : World} {o : Oper} {act : Act} {K : Act → World → Prop} {Q : Exit → Act → World → Prop} (s x : Operand)
    (ho : o.op = .call { callee := .builtin .append, args := #[s, x], argTypes := #[33, 33] })
    (B n : Nat) (v : Value) (l : List ByteArray) (hs : act.eval s = v) (hown : w.ownsRow B 9 1 v n (strCells l)) (b c : Nat) (t : ByteArray) (hx : act.eval x = .slice (some ⟨b, 0, none⟩) 1 c)
    (hb : w.heap[b]? = some (.cells #[.string t] 9 (0, 0))) (hlen : n * 16 ≤ 140737488351232) (hB : B ≤ w.heap.size)
    (h : ∀ v' w', w'.ownsRow B 9 1 v' (n + 1) (strCells (l ++ [t])) → w.grownBy w' v.ownBlock → K (act.put o.dst v') w') : o.wp Tryd.prog act w K Q := by
  obtain ⟨i0, hi, hz0, hz1, hz2⟩ := info_parts infoKeyG
  refine wp_append_own w s x _ ho B 9 i0 _ 1 16 Tryd.underlying33 hi hz0 hz1 hz2 rfl (by decide) _ _ _ hs hown ⟨b, 0, none⟩ 1 c [.string t] hx rfl ?_ (fun u hu => by rw [List.mem_singleton] at hu; subst hu; rfl) (by unfold maxLen; omega) (by omega) hB ?_
  · exact World.news_of_block (cs := #[.string t]) (t := 9) (fr := (0, 0)) hb
  · intro v' w' ho' hg _
    rw [← strCells_snocG] at ho'
    exact h v' w' ho' hg
theorem own_empty_str (w : World) (B : Nat) (h : B ≤ w.heap.size) : (w.alloc (.cells #[] 9)).ownsRow B 9 1 (.slice (some ⟨w.heap.size, 0, none⟩) 0 0) 0 (strCells []) := by
  refine ⟨rfl, .inr ⟨w.heap.size, 0, #[], rfl, h, heap_alloc_new w _, Nat.le_refl _, Nat.zero_le _, rfl, rfl⟩⟩
set_option maxHeartbeats 8000000 in
set_option maxRecDepth 100000 in
theorem keys19_any (a : Option Addr) (len cap : Nat) (T : Nat → En) (w : World) (hE : EntsIn w a len cap T) (hl : len ≤ 256) :
    Calls Tryd.prog 46 #[.slice a len cap] w fun e w' => ∃ a' c', e = .returned (.slice a' len c') ∧ w'.ownsRow w.heap.size 9 1 (.slice a' len c') len (strCells ((firstE T len).map (fun e => e.k))) ∧ Below w.heap.size w w' := by
  have HE := aside hE
  obtain ⟨m, hmm⟩ : ∃ m, firstE T len = m := ⟨_, rfl⟩
  have hml : m.length = len := by rw [← hmm, firstE_len]
  have HT := aside (show ∀ i, i < len → T i = nthE m i from fun i hi => by
    have h1 := firstE_get T hi
    rw [hmm, nthE_get (by omega)] at h1
    injection h1 with h1
    exact h1.symm)
  have HML := aside hml
  rw [hmm]
  have hmx : (len : Int) ≤ 256 := by omega
  have hm0 : ¬ (len : Int) < 0 := by omega
  clear hE hl hmm hml
  go_enter Tryd.func46, Tryd.ntmps46
  have AL := bnew w (.cells #[] 9)
  have HX := aside (own_empty_str w w.heap.size (Nat.le_refl _))
  have HB0 := aside AL
  clear AL
  go_wp2_with fail
  go_loopw [3, 4] (fun v i wr => ∃ j : Nat, i = .int .i64 (j : Int) ∧ j ≤ len ∧ Hid (wr.ownsRow w.heap.size 9 1 v j (strCells ((m.map (fun e => e.k)).take j))) ∧ Hid (Below w.heap.size w wr)) (fun v i _ => len - (intOf i).toNat)
  case atStart => exact ⟨0, rfl, Nat.zero_le _, HX, HB0⟩
  case round =>
    obtain ⟨j, rfl, hj, HO, HB⟩ := hrel
    obtain ⟨a9, c9, rfl, -, -, -⟩ := own_slice HO.out
    by_cases hlt : (j : Int) < (len : Int)
    · have hj0 : (0 : Int) ≤ (j : Int) := by omega
      have hjm : j < len := by omega
      have hE := HE.out.keep HB.out
      rcases hE.2.2 with h0 | ⟨b, off, rfl, hb, hc⟩
      · omega
      obtain ⟨⟨c0, c1', c2, c3, c4⟩, -⟩ := hc j hjm
      have HKT := aside (keys_takeG (m := m) (j := j) (by rw [HML.out]; exact hjm))
      rw [HT.out j hjm] at c0 c1' c2 c3 c4
      obtain ⟨t, ht⟩ : ∃ t, nthE m j = t := ⟨_, rfl⟩
      rw [ht] at c0 c1' c2 c3 c4 HKT
      have hwr : IntKind.i64.wrap ((j : Int) + 1) = (((j + 1 : Nat)) : Int) := by rw [IntKind.wrap_i64]; omega
      clear hc hE ht hb
      have NB := bnew wr (.cells #[.string t.k] 9)
      have O2 := aside (own_on HO.out NB)
      have B2 := aside (bthen HB.out NB)
      have KS := aside (heap_alloc_new wr (.cells #[.string t.k] 9))
      have HSZ := aside (show w.heap.size ≤ (wr.alloc (.cells #[.string t.k] 9)).heap.size from (bthen HB.out NB).size)
      clear NB HO HB
      go_wp2_with (at_builtin; go_loud (refine wpList_plain rfl fun K hK => op_append_keyG _ _ rfl w.heap.size j _ _ (by rfl) O2.out _ 1 t.k (by rfl) KS.out (by omega) HSZ.out ?_); intro v6 w6 own6 gr6; refine hK _ _ ?_; refine Hid.out ?_)
      refine aside ?_
      have O6 := aside (show w6.ownsRow w.heap.size 9 1 v6 (j + 1) (strCells ((m.map (fun e => e.k)).take (j + 1))) from by rw [← HKT.out]; exact own6)
      have B6 := aside (B2.out.grown gr6 HSZ.out (fun k e => (O2.out.lt k e).1))
      clear own6 gr6 O2 B2 KS HSZ HKT c0 c1' c2 c3 c4
      go_wp2
      go_roundw
      case rel => exact ⟨j + 1, by go_num, by omega, O6, B6⟩
      case measure => simp [intOf]; omega
    · obtain rfl : j = len := by omega
      have O7 := aside (show wr.ownsRow w.heap.size 9 1 (.slice a9 j c9) j (strCells (m.map (fun e => e.k))) from by
        have h9 := HO.out
        rwa [List.take_of_length_le (by rw [List.length_map, HML.out]; omega)] at h9)
      clear HO
      go_wp2
      go_ret
      exact ⟨a9, c9, rfl, O7.out, HB.out⟩
set_option maxHeartbeats 8000000 in
set_option maxRecDepth 100000 in
theorem keysOf_any (a : Option Addr) (len cap : Nat) (T : Nat → En) (w : World) (hE : EntsIn w a len cap T) (hl : len ≤ 256) :
    Calls Tryd.prog 55 #[.slice a len cap] w fun e w' => ∃ a' c', e = .returned (.slice a' len c') ∧ w'.ownsRow w.heap.size 9 1 (.slice a' len c') len (strCells ((firstE T len).map (fun e => e.k))) ∧ Below w.heap.size w w' := by
  have HE := aside hE
  obtain ⟨m, hmm⟩ : ∃ m, firstE T len = m := ⟨_, rfl⟩
  have hml : m.length = len := by rw [← hmm, firstE_len]
  have HT := aside (show ∀ i, i < len → T i = nthE m i from fun i hi => by
    have h1 := firstE_get T hi
    rw [hmm, nthE_get (by omega)] at h1
    injection h1 with h1
    exact h1.symm)
  have HML := aside hml
  rw [hmm]
  have hmx : (len : Int) ≤ 256 := by omega
  have hm0 : ¬ (len : Int) < 0 := by omega
  obtain ⟨i0, hi, hz0, hz1, hz2⟩ := info_parts infoKeyG
  obtain ⟨wm, hrun, hown, hgrow⟩ := run_make_own (P := Tryd.prog) w w.heap.size 33 9 i0 (.string ⟨#[]⟩) 1 Tryd.underlying33 hi hz0 hz1 .i64 .i64 len (by rw [hz2]; omega) (by unfold maxLen; omega) (Nat.le_refl _)
  have HX := aside (show wm.ownsRow w.heap.size 9 1 (.slice (some ⟨w.heap.size, 0, none⟩) 0 len) 0 (strCells []) from hown)
  have HB0 := aside ((Below.refl w.heap.size w).grown hgrow (Nat.le_refl _) (fun j e => by cases e))
  clear hE hl hmm hml hown hgrow hi hz0 hz1 hz2
  go_enter Tryd.func55, Tryd.ntmps55
  go_wp2_with fail
  clear hrun
  go_loopw [3, 11] (fun v i wr => ∃ j : Nat, i = .int .i64 (j : Int) ∧ j ≤ len ∧ Hid (wr.ownsRow w.heap.size 9 1 v j (strCells ((m.map (fun e => e.k)).take j))) ∧ Hid (Below w.heap.size w wr)) (fun v i _ => len - (intOf i).toNat)
  case atStart => exact ⟨0, rfl, Nat.zero_le _, HX, HB0⟩
  case round =>
    obtain ⟨j, rfl, hj, HO, HB⟩ := hrel
    obtain ⟨a9, c9, rfl, -, -, -⟩ := own_slice HO.out
    by_cases hlt : (j : Int) < (len : Int)
    · have hj0 : (0 : Int) ≤ (j : Int) := by omega
      have hjm : j < len := by omega
      have hE := HE.out.keep HB.out
      rcases hE.2.2 with h0 | ⟨b, off, rfl, hb, hc⟩
      · omega
      obtain ⟨⟨c0, c1', c2, c3, c4⟩, -⟩ := hc j hjm
      have HKT := aside (keys_takeG (m := m) (j := j) (by rw [HML.out]; exact hjm))
      rw [HT.out j hjm] at c0 c1' c2 c3 c4
      obtain ⟨t, ht⟩ : ∃ t, nthE m j = t := ⟨_, rfl⟩
      rw [ht] at c0 c1' c2 c3 c4 HKT
      have hwr : IntKind.i64.wrap ((j : Int) + 1) = (((j + 1 : Nat)) : Int) := by rw [IntKind.wrap_i64]; omega
      clear hc hE ht hb
      have NB := bthen (bnew wr (.cells #[.string t.k, .int .i64 t.c, .int .i64 t.n, .string t.v, .bool t.d] 55)) (bnew _ (.cells #[.string t.k] 9))
      have O2 := aside (own_on HO.out NB)
      have B2 := aside (bthen HB.out NB)
      have KS0 := heap_alloc_new (wr.alloc (.cells #[.string t.k, .int .i64 t.c, .int .i64 t.n, .string t.v, .bool t.d] 55)) (.cells #[.string t.k] 9)
      rw [World.size_alloc] at KS0
      have KS := aside KS0
      clear KS0
      have HSZ := aside (show w.heap.size ≤ ((wr.alloc (.cells #[.string t.k, .int .i64 t.c, .int .i64 t.n, .string t.v, .bool t.d] 55)).alloc (.cells #[.string t.k] 9)).heap.size from (bthen HB.out NB).size)
      clear NB HO HB
      go_wp2_with (at_builtin; go_loud (refine wpList_plain rfl fun K hK => op_append_keyG _ _ rfl w.heap.size j _ _ (by rfl) O2.out _ 1 t.k (by rfl) KS.out (by omega) HSZ.out ?_); intro v6 w6 own6 gr6; refine hK _ _ ?_; refine Hid.out ?_)
      refine aside ?_
      have O6 := aside (show w6.ownsRow w.heap.size 9 1 v6 (j + 1) (strCells ((m.map (fun e => e.k)).take (j + 1))) from by rw [← HKT.out]; exact own6)
      have B6 := aside (B2.out.grown gr6 HSZ.out (fun k e => (O2.out.lt k e).1))
      clear own6 gr6 O2 B2 KS HSZ HKT c0 c1' c2 c3 c4
      go_wp2
      go_roundw
      case rel => exact ⟨j + 1, by go_num, by omega, O6, B6⟩
      case measure => simp [intOf]; omega
    · obtain rfl : j = len := by omega
      have O7 := aside (show wr.ownsRow w.heap.size 9 1 (.slice a9 j c9) j (strCells (m.map (fun e => e.k))) from by
        have h9 := HO.out
        rwa [List.take_of_length_le (by rw [List.length_map, HML.out]; omega)] at h9)
      clear HO
      go_wp2
      go_ret
      exact ⟨a9, c9, rfl, O7.out, HB.out⟩
end Go.Proofs.YtfkdhambbpkmpaaDoor
namespace Go.Proofs.YtfkdhambbpkmpaaDoor
open Go.RowKit
set_option linter.unusedVariables false
/-- A slice of entries, and what is in it. -/
def LsIn (w : World) (a : Option Addr) (n c : Nat) (l : List En) : Prop := ∃ T, EntsIn w a n c T ∧ firstE T n = l
theorem LsIn.on {w w' : World} {a : Option Addr} {n c : Nat} {l : List En} (h : LsIn w a n c l) (b : Below w.heap.size w w') : LsIn w' a n c l := by
  obtain ⟨T, h1, h2⟩ := h
  exact ⟨T, h1.keep b, h2⟩
theorem LsIn.len {w : World} {a : Option Addr} {n c : Nat} {l : List En} (h : LsIn w a n c l) : l.length = n := by
  obtain ⟨T, -, rfl⟩ := h
  exact firstE_len T n
theorem LsIn.keep {S : Nat → Prop} {w w' : World} {a : Option Addr} {n c : Nat} {l : List En} (h : LsIn w a n c l) (k : Keeps S w w') (hS : ∀ x, a = some x → ¬ S x.block) : LsIn w' a n c l := by
  obtain ⟨T, ⟨h1, h2, h3⟩, h4⟩ := h
  refine ⟨T, ⟨h1, h2, ?_⟩, h4⟩
  rcases h3 with h3 | ⟨b, off, rfl, hb, hc⟩
  · exact .inl h3
  · refine .inr ⟨b, off, rfl, by have := k.size; omega, fun i hi => ?_⟩
    have hn : ¬ S b := hS _ rfl
    obtain ⟨⟨c0, c1, c2, c3, c4⟩, hr⟩ := hc i hi
    refine ⟨⟨?_, ?_, ?_, ?_, ?_⟩, hr⟩
    · rw [k.cell (p := ⟨b, _, none⟩) hb hn]; exact c0
    · rw [k.cell (p := ⟨b, _, none⟩) hb hn]; exact c1
    · rw [k.cell (p := ⟨b, _, none⟩) hb hn]; exact c2
    · rw [k.cell (p := ⟨b, _, none⟩) hb hn]; exact c3
    · rw [k.cell (p := ⟨b, _, none⟩) hb hn]; exact c4
theorem map_keys {l : List En} (h : MapL l) : KeysOk l := fun e he => by
  have := (chk_pos (h.chk e he)).2.1
  omega
theorem chk_of_mayG {r : Rg} (h : r.may = true) : r.chk = 0 := by
  unfold Rg.may at h
  simpa using h
set_option maxHeartbeats 3200000 in
theorem in19_any {w : World} {a : Option Addr} {la ca : Nat} {l : List En} (r : Rg) (h : LsIn w a la ca l) (hm : MapL l) (hl : la ≤ 256) (hr : r.may = true) :
    Calls Tryd.prog 42 #[.slice a la ca, .agg #[.string r.lo, .string r.hi, .bool r.op]] w fun e w' => ∃ a' n c', e = .returned (.slice a' n c') ∧ LsIn w' a' n c' (inL r l) ∧ (∀ x, a' = some x → w.heap.size ≤ x.block ∧ x.block < w'.heap.size) ∧ Below w.heap.size w w' := by
  obtain ⟨T, hE, rfl⟩ := h
  have CI := rin_any a la ca T r.lo r.hi r.op w hE (by omega)
  have hck : ckR T la ⟨r.lo, r.hi, r.op⟩ = 0 := by
    unfold ckR
    rw [(ck_map la).2 hm, if_neg (by simp)]
    exact chk_of_mayG hr
  rw [hck, outL_ok _ rfl] at CI
  have HK := aside (map_keys (in_mapG hm r))
  have BV := bnew w (.cells #[.string r.lo, .string r.hi, .bool r.op] 26)
  have K0 := heap_alloc_new w (.cells #[.string r.lo, .string r.hi, .bool r.op] 26)
  have CI := aside (rin_any a la ca T r.lo r.hi r.op (w.alloc (.cells #[.string r.lo, .string r.hi, .bool r.op] 26)) (hE.keep BV) (by omega))
  rw [hck, outL_ok _ rfl] at CI
  have HB := aside BV
  obtain ⟨r0, r1, r2⟩ := box3r K0
  clear hE BV K0 hck hm
  go_enter Tryd.func42, Tryd.ntmps42
  go_wp2_with fail
  refine CI.out.mono ?_
  rintro e w1 ⟨v, rfl, ho, b1⟩
  obtain ⟨a1, c1, T1, rfl, h1, h2⟩ := ents_of_says ho HK.out
  have B1 := aside (bthen HB.out b1)
  have HX := aside (show ∀ x, a1 = some x → w.heap.size ≤ x.block ∧ x.block < w1.heap.size from by
    intro x hx
    have h9 := HB.out.size
    rcases ho.2 with ⟨h3, -⟩ | ⟨g, cap, cur, h3, h4, -⟩
    · injection h3 with h3; rw [h3] at hx; cases hx
    · injection h3 with h3
      rw [h3] at hx
      injection hx with hx
      subst hx
      exact ⟨Nat.le_trans h9 h4, (ho.lt g (by rw [h3]; rfl)).2⟩)
  have H1 := aside (show LsIn w1 a1 (inL ⟨r.lo, r.hi, r.op⟩ (firstE T la)).length c1 (inL r (firstE T la)) from ⟨T1, h1, h2⟩)
  clear ho h1 h2 b1 r0 r1 r2
  go_wp2
  go_ret
  exact ⟨a1, _, c1, rfl, H1.out, HX.out, B1.out⟩
set_option maxHeartbeats 3200000 in
theorem gin_any {w : World} {a : Option Addr} {la ca : Nat} {l : List En} (r : Rg) (h : LsIn w a la ca l) (hm : MapL l) (hl : la ≤ 256) (hr : r.may = true) :
    Calls Tryd.prog 11 #[.slice a la ca, .agg #[.string r.lo, .string r.hi, .bool r.op]] w fun e w' => ∃ a' n c', e = .returned (.tuple #[.slice a' n c', .int .i64 0]) ∧ LsIn w' a' n c' (inL r l) ∧ (∀ x, a' = some x → w.heap.size ≤ x.block ∧ x.block < w'.heap.size) ∧ Below w.heap.size w w' := by
  obtain ⟨T, hE, rfl⟩ := h
  have CI := min_any a la ca T r.lo r.hi r.op w hE (by omega)
  have hck : ckR T la ⟨r.lo, r.hi, r.op⟩ = 0 := by
    unfold ckR
    rw [(ck_map la).2 hm, if_neg (by simp)]
    exact chk_of_mayG hr
  rw [hck, outL_ok _ rfl] at CI
  have HK := aside (map_keys (in_mapG hm r))
  refine CI.mono ?_
  rintro e w1 ⟨v, rfl, ho, b1⟩
  obtain ⟨a1, c1, T1, rfl, h1, h2⟩ := ents_of_says ho HK.out
  refine ⟨a1, _, c1, rfl, ⟨T1, h1, h2⟩, ?_, b1⟩
  intro x hx
  rcases ho.2 with ⟨h3, -⟩ | ⟨g, cap, cur, h3, h4, -⟩
  · injection h3 with h3; rw [h3] at hx; cases hx
  · injection h3 with h3
    rw [h3] at hx
    injection hx with hx
    subst hx
    exact ⟨h4, (ho.lt g (by rw [h3]; rfl)).2⟩
end Go.Proofs.YtfkdhambbpkmpaaDoor
