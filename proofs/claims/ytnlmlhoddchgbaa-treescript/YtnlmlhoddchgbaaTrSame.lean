/-
  A tree answers as the document's in all.
-/
import Derived.Test.YtnlmlhoddchgbaaTrCalls
import Derived.Test.YtnlmlhoddchgbaaTrRank
namespace Go.Proofs.Ytnlmlhoddchgbaa
open Go.RowKit
set_option linter.unusedVariables false

theorem look_nth {L : List (Rw Int Mp)} {q : Nat} {y : Rw Int Mp} (hr : Rises L) (h : L[q]? = some y) : look y.k L = some y := by
  have h1 : (look y.k L).isSome = true := by
    unfold look
    rw [List.find?_isSome]
    exact ⟨y, List.mem_of_getElem? h, by simp [kLt_irrefl]⟩
  obtain ⟨z, hz⟩ := Option.isSome_iff_exists.1 h1
  have h2 := look_at hr hz
  rw [rank_at hr h, h] at h2
  rw [hz]
  exact h2.1.symm

theorem seg_one (l : List RowR) {q : Nat} (h : q < l.length) : foldL mJoin mZero (seg (l.map rowOf) q (q + 1)) = (nthR l q).s := by
  rw [← seg_rows l (Nat.le_succ q) h, show q.succ - q = 1 from by omega]
  show foldL mJoin mZero [rowOf (nthR l (q + 0))] = _
  rw [foldL_cons mon_map, foldL_nil, mon_map.right]
  rfl

theorem rowBox {w : World} {g : Nat} {x : RowR} {T : TypeId} (h : w.heap[g]? = some (.cells #[.string x.key, .int .i64 x.v, .int .u64 x.s.a, .int .u64 x.s.b] T (0, 0))) :
    w.cell? ⟨g, 0, none⟩ = some (.string x.key) ∧ w.cell? ⟨g, 1, none⟩ = some (.int .i64 x.v) ∧ w.cell? ⟨g, 2, none⟩ = some (.int .u64 x.s.a) ∧ w.cell? ⟨g, 3, none⟩ = some (.int .u64 x.s.b) := by
  simp [World.cell?, h]

/-- A pair and a row in a box. -/
structure SD (W X : World) (tb : Nat) (A : Tr Int Mp) (rb : Nat) (l : List RowR) (m gx : Nat) (y : RowR) : Prop where
  pr : Pr X tb A rb l m
  below : Below W.heap.size W X
  box : X.heap[gx]? = some (.cells #[.string y.key, .int .i64 y.v, .int .u64 y.s.a, .int .u64 y.s.b] 64 (0, 0))

theorem SD.on {W X X' : World} {tb rb m gx : Nat} {A : Tr Int Mp} {l : List RowR} {y : RowR} (h : SD W X tb A rb l m gx y) (b : Below X.heap.size X X') : SD W X' tb A rb l m gx y := ⟨h.pr.on b, bthen h.below b, blk_on h.box b⟩

set_option maxHeartbeats 12800000 in
set_option maxRecDepth 100000 in
theorem same_any {W : World} {tb rb m : Nat} {A : Tr Int Mp} {l : List RowR} (h : Pr W tb A rb l m) (hm : m ≤ 281474976710655) :
    Calls Try.prog 11 #[.pointer (some ⟨tb, 0, none⟩), .pointer (some ⟨rb, 0, none⟩)] W fun e w' => e = .returned (.bool true) ∧ Below W.heap.size W w' := by
  have PK := aside h
  have MS := aside hm
  have HRI := aside (show Rises (l.map rowOf) from h.rows ▸ h.gd.rises)
  have HLN := aside h.len
  obtain ⟨F, hF⟩ : ∃ F, foldL mJoin mZero (seg (l.map rowOf) (max (0 : Int) 0).toNat (min (l.length : Int) (l.length : Int)).toNat) = F := ⟨_, rfl⟩
  have CA := aside (fun X (h : Pr X tb A rb l m) => pFold 0 (l.length : Int) h MS.out)
  have CB := aside (fun X (h : Pr X tb A rb l m) => pRFold 0 (l.length : Int) h MS.out)
  rw [hF] at CA CB
  have hmn := map_ne
  clear hF h hm
  go_enter Try.func11, Try.ntmps11
  go_wp2_with fail
  refine (rlen_any PK.out.ref).mono ?_
  rintro e w1 ⟨rfl, rfl⟩
  go_wp2_with fail
  refine (pLen PK.out MS.out).mono ?_
  rintro e w2 ⟨rfl, rfl⟩
  go_wp2_with fail
  refine (CA.out _ PK.out).mono ?_
  rintro e w3 ⟨rfl, b3⟩
  have P3 := aside (PK.out.on b3)
  have B3 := aside b3
  clear b3
  go_wp2_with fail
  refine (CB.out _ P3.out).mono ?_
  rintro e w4 ⟨rfl, b4⟩
  have P4 := aside (P3.out.on b4)
  have B4 := aside (bthen B3.out b4)
  clear b4 P3 B3 CA CB
  obtain ⟨a, cap, hc, hr⟩ := P4.out.ref.open
  have HO := aside hr
  obtain ⟨n, hn⟩ : ∃ n, l.length = n := ⟨_, rfl⟩
  have HN := aside hn
  have hmx : (l.length : Int) ≤ 9223372036854775807 := by have := HLN.out; have := MS.out; omega
  rw [hn] at hc HO hmx
  rw [hn]
  clear hr hn
  go_wp2
  go_loopw [36] (fun i X => ∃ q : Nat, i = .int .i64 (q : Int) ∧ q ≤ n ∧ Below w4.heap.size w4 X) (fun i _ => n - (intOf i).toNat)
  case atStart => exact ⟨0, rfl, Nat.zero_le _, Below.refl _ _⟩
  case round =>
    obtain ⟨q, rfl, hq, bX⟩ := hrel
    have BX := aside bX
    clear bX
    by_cases hlt : (q : Int) < (n : Int)
    · rcases (HO.out.keep BX.out).2.2.2 with h0 | ⟨b, off, rfl, hbl, hcc⟩
      · omega
      obtain ⟨⟨c0, c1, c2, c3⟩, -⟩ := hcc q (by omega)
      have hq0 : (0 : Int) ≤ (q : Int) := by omega
      have hqw : IntKind.i64.wrap ((q : Int) + 1) = (q : Int) + 1 := by rw [IntKind.wrap_i64]; omega
      have QL := aside (show q + 1 ≤ n from by omega)
      have HQ := aside (show q < l.length from by have := HN.out; omega)
      have hget : (l.map rowOf)[q]? = some (rowOf (nthR l q)) := by rw [List.getElem?_map, nthR_get HQ.out]; rfl
      have HLK := aside (show look (nthR l q).key (l.map rowOf) = some (rowOf (nthR l q)) from look_nth HRI.out hget)
      have HRK := aside (show rankL (nthR l q).key (l.map rowOf) = q from rank_at HRI.out hget)
      have HSG := aside (seg_one l HQ.out)
      obtain ⟨y, hy⟩ : ∃ y, nthR l q = y := ⟨_, rfl⟩
      have CT := aside (fun X (h : Pr X tb A rb l m) => pAtIn h MS.out q HQ.out)
      have CG := aside (fun X gx (h : SD w4 X tb A rb l m gx y) => pGet y.key h.pr MS.out)
      have CR := aside (fun X gx (h : SD w4 X tb A rb l m gx y) => pRank y.key h.pr MS.out)
      have CF := aside (fun X gx (h : SD w4 X tb A rb l m gx y) => pFold (q : Int) ((q : Int) + 1) h.pr MS.out)
      rw [show (max (q : Int) 0).toNat = q from by omega, show (min ((q : Int) + 1) (l.length : Int)).toNat = q + 1 from by have := HQ.out; omega, HSG.out] at CF
      rw [hy] at CT CF HLK HRK c0 c1 c2 c3
      rw [HLK.out] at CG
      rw [HRK.out] at CR
      have CG := aside (show ∀ X gx, SD w4 X tb A rb l m gx y → Calls Try.prog 19 #[.pointer (some ⟨tb, 0, none⟩), .string y.key] X fun e w' => e = .returned (.tuple #[.int .i64 y.v, .bool true]) ∧ Below X.heap.size X w' from CG.out)
      have D0 := aside (⟨(P4.out.on (bthen BX.out (bnew wr _))), bthen BX.out (bnew wr _), heap_alloc_new wr _⟩ : SD w4 (wr.alloc (.cells #[.string y.key, .int .i64 y.v, .int .u64 y.s.a, .int .u64 y.s.b] 64)) tb A rb l m wr.heap.size y)
      clear hcc hbl hq hy hget HLK HRK HSG
      go_wp2_with fail
      clear c0 c1 c2 c3
      generalize wr.alloc (.cells #[.string y.key, .int .i64 y.v, .int .u64 y.s.a, .int .u64 y.s.b] 64) = V at *
      generalize wr.heap.size = gx at *
      refine (CT.out _ D0.out.pr).mono ?_
      rintro e w7 ⟨rfl, b7⟩
      have D7 := aside (D0.out.on b7)
      obtain ⟨x0, x1, x2, x3⟩ := rowBox D7.out.box
      clear b7 D0
      go_wp2_with fail
      refine (CG.out _ _ D7.out).mono ?_
      rintro e w8 ⟨rfl, b8⟩
      have D8 := aside (D7.out.on b8)
      clear b8 D7 x0 x1 x2 x3
      go_wp2_with fail
      refine wp_region_held_drew (S := fun X => X.cell? ⟨gx, 0, none⟩ = some (.string y.key) ∧ X.cell? ⟨gx, 1, none⟩ = some (.int .i64 y.v) ∧ X.cell? ⟨gx, 2, none⟩ = some (.int .u64 y.s.a) ∧ X.cell? ⟨gx, 3, none⟩ = some (.int .u64 y.s.b) ∧ Hid (SD w4 X tb A rb l m gx y)) (by kernel_rfl) ⟨(rowBox D8.out.box).1, (rowBox D8.out.box).2.1, (rowBox D8.out.box).2.2.1, (rowBox D8.out.box).2.2.2, aside (D8.out.on ((Below.refl _ w8).drew))⟩ (fun hHeld => ?_)
      refine wpAnyH_take (i := 0) (v := ?_) rfl (by kernel_rfl) (by kernel_rfl) (by kernel_rfl) (fun _ _ _ h => h) (Or.inl ⟨by rfl, ?_⟩) (by assumption) ?_
      rotate_left
      · intro w hSw
        go_simp
        try with_reducible rfl
      simp only [Act.put, List.getElem_toArray, List.getElem_cons_zero, List.setIfInBounds_toArray, List.set_cons_zero, List.set_cons_succ]
      refine wpAnyH_take (i := 1) (v := ?_) rfl (by kernel_rfl) (by kernel_rfl) (by kernel_rfl) (fun _ _ _ h => h) (Or.inl ⟨by rfl, ?_⟩) (by assumption) ?_
      rotate_left
      · intro w hSw
        go_simp
        try with_reducible rfl
      simp only [Act.put, List.getElem_toArray, List.getElem_cons_zero, List.getElem_cons_succ, List.setIfInBounds_toArray, List.set_cons_zero, List.set_cons_succ]
      refine wpAnyH_take (i := 2) (v := ?_) rfl (by kernel_rfl) (by kernel_rfl) (by kernel_rfl) (fun _ _ _ h => h) (Or.inl ⟨by rfl, ?_⟩) (by assumption) ?_
      rotate_left
      · intro w hSw
        go_simp
        try with_reducible rfl
      simp only [Act.put, List.getElem_toArray, List.getElem_cons_zero, List.getElem_cons_succ, List.setIfInBounds_toArray, List.set_cons_zero, List.set_cons_succ]
      refine wpAnyH_take (i := 3) (v := ?_) rfl (by kernel_rfl) (by kernel_rfl) (by kernel_rfl) (fun _ _ _ h => h) (Or.inl ⟨by rfl, ?_⟩) (by assumption) ?_
      rotate_left
      · intro w hSw
        go_simp
        try with_reducible rfl
      simp only [Act.put, List.getElem_toArray, List.getElem_cons_zero, List.getElem_cons_succ, List.setIfInBounds_toArray, List.set_cons_zero, List.set_cons_succ]
      refine wpAnyH_take (i := 4) (v := ?_) rfl (by kernel_rfl) (by kernel_rfl) (by kernel_rfl) (fun _ _ _ h => h) (Or.inl ⟨by rfl, ?_⟩) (by assumption) ?_
      rotate_left
      · intro w hSw
        go_simp
        try with_reducible rfl
      simp only [Act.put, List.getElem_toArray, List.getElem_cons_zero, List.getElem_cons_succ, List.setIfInBounds_toArray, List.set_cons_zero, List.set_cons_succ]
      refine wpAnyH_take (i := 5) (v := ?_) rfl (by kernel_rfl) (by kernel_rfl) (by kernel_rfl) (fun _ _ _ h => h) (Or.inl ⟨by rfl, ?_⟩) (by assumption) ?_
      rotate_left
      · intro w hSw
        go_simp
        try with_reducible rfl
      simp only [Act.put, List.getElem_toArray, List.getElem_cons_zero, List.getElem_cons_succ, List.setIfInBounds_toArray, List.set_cons_zero, List.set_cons_succ]
      refine wpAnyH_take (i := 6) (v := ?_) rfl (by kernel_rfl) (by kernel_rfl) (by kernel_rfl) (fun _ _ _ h => h) (Or.inl ⟨by rfl, ?_⟩) (by assumption) ?_
      rotate_left
      · intro w hSw
        go_simp
        try with_reducible rfl
      simp only [Act.put, List.getElem_toArray, List.getElem_cons_zero, List.getElem_cons_succ, List.setIfInBounds_toArray, List.set_cons_zero, List.set_cons_succ]
      refine wpAnyH_take (i := 7) (v := ?_) rfl (by kernel_rfl) (by kernel_rfl) (by kernel_rfl) (fun _ _ _ h => h) (Or.inl ⟨by rfl, ?_⟩) (by assumption) ?_
      rotate_left
      · intro w hSw
        go_simp
        try with_reducible rfl
      simp only [Act.put, List.getElem_toArray, List.getElem_cons_zero, List.getElem_cons_succ, List.setIfInBounds_toArray, List.set_cons_zero, List.set_cons_succ]
      refine wpAnyH_take (i := 8) (v := ?_) rfl (by kernel_rfl) (by kernel_rfl) (by kernel_rfl) (fun _ _ _ h => h) (Or.inl ⟨by rfl, ?_⟩) (by assumption) ?_
      rotate_left
      · intro w hSw
        go_simp
        try with_reducible rfl
      simp only [Act.put, List.getElem_toArray, List.getElem_cons_zero, List.getElem_cons_succ, List.setIfInBounds_toArray, List.set_cons_zero, List.set_cons_succ]
      refine wpAnyH_take (i := 9) (v := ?_) rfl (by kernel_rfl) (by kernel_rfl) (by kernel_rfl) (fun _ _ _ h => h) (Or.inl ⟨by rfl, ?_⟩) (by assumption) ?_
      rotate_left
      · intro w hSw
        go_simp
        try with_reducible rfl
      simp only [Act.put, List.getElem_toArray, List.getElem_cons_zero, List.getElem_cons_succ, List.setIfInBounds_toArray, List.set_cons_zero, List.set_cons_succ]
      refine wpAnyH_take (i := 10) (v := ?_) rfl (by kernel_rfl) (by kernel_rfl) (by kernel_rfl) (fun _ _ _ h => h) (Or.inl ⟨by rfl, ?_⟩) (by assumption) ?_
      rotate_left
      · intro w hSw
        go_simp
        try with_reducible rfl
      simp only [Act.put, List.getElem_toArray, List.getElem_cons_zero, List.getElem_cons_succ, List.setIfInBounds_toArray, List.set_cons_zero, List.set_cons_succ]
      refine wpAnyH_take (i := 11) (v := ?_) rfl (by kernel_rfl) (by kernel_rfl) (by kernel_rfl) (fun _ _ _ h => h) (Or.inl ⟨by rfl, ?_⟩) (by assumption) ?_
      rotate_left
      · intro w hSw
        go_simp
        try with_reducible rfl
      simp only [Act.put, List.getElem_toArray, List.getElem_cons_zero, List.getElem_cons_succ, List.setIfInBounds_toArray, List.set_cons_zero, List.set_cons_succ]
      refine wpAnyH_take (i := 12) (v := ?_) rfl (by kernel_rfl) (by kernel_rfl) (by kernel_rfl) (fun _ _ _ h => h) (Or.inl ⟨by rfl, ?_⟩) (by assumption) ?_
      rotate_left
      · intro w hSw
        go_simp
        try with_reducible rfl
      simp only [Act.put, List.getElem_toArray, List.getElem_cons_zero, List.getElem_cons_succ, List.setIfInBounds_toArray, List.set_cons_zero, List.set_cons_succ]
      refine wpAnyH_take (i := 13) (v := ?_) rfl (by kernel_rfl) (by kernel_rfl) (by kernel_rfl) (fun _ _ _ h => h) (Or.inl ⟨by rfl, ?_⟩) (by assumption) ?_
      rotate_left
      · intro w hSw
        go_simp
        try with_reducible rfl
      simp only [Act.put, List.getElem_toArray, List.getElem_cons_zero, List.getElem_cons_succ, List.setIfInBounds_toArray, List.set_cons_zero, List.set_cons_succ]
      refine wpAnyH_take (i := 14) (v := ?_) rfl (by kernel_rfl) (by kernel_rfl) (by kernel_rfl) (fun _ _ _ h => h) (Or.inl ⟨by rfl, ?_⟩) (by assumption) ?_
      rotate_left
      · intro w hSw
        go_simp
        try with_reducible rfl
      simp only [Act.put, List.getElem_toArray, List.getElem_cons_zero, List.getElem_cons_succ, List.setIfInBounds_toArray, List.set_cons_zero, List.set_cons_succ]
      refine wpAnyH_take (i := 15) (v := ?_) rfl (by kernel_rfl) (by kernel_rfl) (by kernel_rfl) (fun _ _ _ h => h) (Or.inl ⟨by rfl, ?_⟩) (by assumption) ?_
      rotate_left
      · intro w hSw
        go_simp
        try with_reducible rfl
      simp only [Act.put, List.getElem_toArray, List.getElem_cons_zero, List.getElem_cons_succ, List.setIfInBounds_toArray, List.set_cons_zero, List.set_cons_succ]
      refine wpAnyH_take (i := 16) (v := ?_) rfl (by kernel_rfl) (by kernel_rfl) (by kernel_rfl) (fun _ _ _ h => h) (Or.inl ⟨by rfl, ?_⟩) (by assumption) ?_
      rotate_left
      · intro w hSw
        go_simp
        try with_reducible rfl
      simp only [Act.put, List.getElem_toArray, List.getElem_cons_zero, List.getElem_cons_succ, List.setIfInBounds_toArray, List.set_cons_zero, List.set_cons_succ]
      refine wpAnyH_take (i := 17) (v := ?_) rfl (by kernel_rfl) (by kernel_rfl) (by kernel_rfl) (fun _ _ _ h => h) (Or.inl ⟨by rfl, ?_⟩) (by assumption) ?_
      rotate_left
      · intro w hSw
        go_simp
        try with_reducible rfl
      simp only [Act.put, List.getElem_toArray, List.getElem_cons_zero, List.getElem_cons_succ, List.setIfInBounds_toArray, List.set_cons_zero, List.set_cons_succ]
      refine wpAnyH_take (i := 18) (v := ?_) rfl (by kernel_rfl) (by kernel_rfl) (by kernel_rfl) (fun _ _ _ h => h) (Or.inl ⟨by rfl, ?_⟩) (by assumption) ?_
      rotate_left
      · intro w hSw
        go_simp
        try with_reducible rfl
      simp only [Act.put, List.getElem_toArray, List.getElem_cons_zero, List.getElem_cons_succ, List.setIfInBounds_toArray, List.set_cons_zero, List.set_cons_succ]
      refine wpAnyH_take (i := 19) (v := ?_) rfl (by kernel_rfl) (by kernel_rfl) (by kernel_rfl) (fun _ _ _ h => h) (Or.inl ⟨by rfl, ?_⟩) (by assumption) ?_
      rotate_left
      · intro w hSw
        go_simp
        try with_reducible rfl
      simp only [Act.put, List.getElem_toArray, List.getElem_cons_zero, List.getElem_cons_succ, List.setIfInBounds_toArray, List.set_cons_zero, List.set_cons_succ]
      refine wpAnyH_take (i := 20) (v := ?_) rfl (by kernel_rfl) (by kernel_rfl) (by kernel_rfl) (fun _ _ _ h => h) (Or.inl ⟨by rfl, ?_⟩) (by assumption) ?_
      rotate_left
      · intro w hSw
        go_simp
        try with_reducible rfl
      simp only [Act.put, List.getElem_toArray, List.getElem_cons_zero, List.getElem_cons_succ, List.setIfInBounds_toArray, List.set_cons_zero, List.set_cons_succ]
      refine wpAnyH_take (i := 21) (v := ?_) rfl (by kernel_rfl) (by kernel_rfl) (by kernel_rfl) (fun _ _ _ h => h) (Or.inl ⟨by rfl, ?_⟩) (by assumption) ?_
      rotate_left
      · intro w hSw
        go_simp
        try with_reducible rfl
      simp only [Act.put, List.getElem_toArray, List.getElem_cons_zero, List.getElem_cons_succ, List.setIfInBounds_toArray, List.set_cons_zero, List.set_cons_succ]
      refine wpAnyH_take (i := 22) (v := ?_) rfl (by kernel_rfl) (by kernel_rfl) (by kernel_rfl) (fun _ _ _ h => h) (Or.inl ⟨by rfl, ?_⟩) (by assumption) ?_
      rotate_left
      · intro w hSw
        go_simp
        try with_reducible rfl
      simp only [Act.put, List.getElem_toArray, List.getElem_cons_zero, List.getElem_cons_succ, List.setIfInBounds_toArray, List.set_cons_zero, List.set_cons_succ]
      refine wpAnyH_take (i := 23) (v := ?_) rfl (by kernel_rfl) (by kernel_rfl) (by kernel_rfl) (fun _ _ _ h => h) (Or.inl ⟨by rfl, ?_⟩) (by assumption) ?_
      rotate_left
      · intro w hSw
        go_simp
        try with_reducible rfl
      simp only [Act.put, List.getElem_toArray, List.getElem_cons_zero, List.getElem_cons_succ, List.setIfInBounds_toArray, List.set_cons_zero, List.set_cons_succ]
      refine wpAnyH_take (i := 24) (v := ?_) rfl (by kernel_rfl) (by kernel_rfl) (by kernel_rfl) (fun _ _ _ h => h) (Or.inl ⟨by rfl, ?_⟩) (by assumption) ?_
      rotate_left
      · intro w hSw
        go_simp
        try with_reducible rfl
      simp only [Act.put, List.getElem_toArray, List.getElem_cons_zero, List.getElem_cons_succ, List.setIfInBounds_toArray, List.set_cons_zero, List.set_cons_succ]
      refine wpAnyH_take (i := 25) (v := ?_) rfl (by kernel_rfl) (by kernel_rfl) (by kernel_rfl) (fun _ _ _ h => h) (Or.inl ⟨by rfl, ?_⟩) (by assumption) ?_
      rotate_left
      · intro w hSw
        go_simp
        try with_reducible rfl
      simp only [Act.put, List.getElem_toArray, List.getElem_cons_zero, List.getElem_cons_succ, List.setIfInBounds_toArray, List.set_cons_zero, List.set_cons_succ]
      refine wpAnyH_take (i := 26) (v := ?_) rfl (by kernel_rfl) (by kernel_rfl) (by kernel_rfl) (fun _ _ _ h => h) (Or.inl ⟨by rfl, ?_⟩) (by assumption) ?_
      rotate_left
      · intro w hSw
        go_simp
        try with_reducible rfl
      simp only [Act.put, List.getElem_toArray, List.getElem_cons_zero, List.getElem_cons_succ, List.setIfInBounds_toArray, List.set_cons_zero, List.set_cons_succ]
      refine wpAnyH_take (i := 27) (v := ?_) rfl (by kernel_rfl) (by kernel_rfl) (by kernel_rfl) (fun _ _ _ h => h) (Or.inl ⟨by rfl, ?_⟩) (by assumption) ?_
      rotate_left
      · intro w hSw
        go_simp
        try with_reducible rfl
      simp only [Act.put, List.getElem_toArray, List.getElem_cons_zero, List.getElem_cons_succ, List.setIfInBounds_toArray, List.set_cons_zero, List.set_cons_succ]
      refine wpAnyH_take (i := 29) (v := ?_) rfl (by kernel_rfl) (by kernel_rfl) (by kernel_rfl) (fun _ _ _ h => h) (Or.inl ⟨by rfl, ?_⟩) (by assumption) ?_
      rotate_left
      · intro w hSw
        go_simp
        try with_reducible rfl
      simp only [Act.put, List.getElem_toArray, List.getElem_cons_zero, List.getElem_cons_succ, List.setIfInBounds_toArray, List.set_cons_zero, List.set_cons_succ]
      refine wpAnyH_ready (rs := [28]) (by kernel_rfl) (by simp) ?_
      refine AllReadyH.cons rfl (fun K hK => ?_) AllReadyH.nil
      go_simp
      refine (CR.out _ _ hHeld.2.2.2.2.out).mono ?_
      rintro e w9 ⟨rfl, bb⟩
      refine hK.out _ _ (⟨(rowBox (hHeld.2.2.2.2.out.on bb).box).1, (rowBox (hHeld.2.2.2.2.out.on bb).box).2.1, (rowBox (hHeld.2.2.2.2.out.on bb).box).2.2.1, (rowBox (hHeld.2.2.2.2.out.on bb).box).2.2.2, aside (hHeld.2.2.2.2.out.on bb)⟩) (fun hHeld => ?_)
      clear hK K 
      refine wpAnyH_take (i := 30) (v := ?_) rfl (by kernel_rfl) (by kernel_rfl) (by kernel_rfl) (fun _ _ _ h => h) (Or.inl ⟨by rfl, ?_⟩) (by assumption) ?_
      rotate_left
      · intro w hSw
        go_simp
        try with_reducible rfl
      simp only [Act.put, List.getElem_toArray, List.getElem_cons_zero, List.getElem_cons_succ, List.setIfInBounds_toArray, List.set_cons_zero, List.set_cons_succ]
      refine wpAnyH_take (i := 31) (v := ?_) rfl (by kernel_rfl) (by kernel_rfl) (by kernel_rfl) (fun _ _ _ h => h) (Or.inl ⟨by rfl, ?_⟩) (by assumption) ?_
      rotate_left
      · intro w hSw
        go_simp
        try with_reducible rfl
      simp only [Act.put, List.getElem_toArray, List.getElem_cons_zero, List.getElem_cons_succ, List.setIfInBounds_toArray, List.set_cons_zero, List.set_cons_succ]
      refine wpAnyH_take (i := 32) (v := ?_) rfl (by kernel_rfl) (by kernel_rfl) (by kernel_rfl) (fun _ _ _ h => h) (Or.inl ⟨by rfl, ?_⟩) (by assumption) ?_
      rotate_left
      · intro w hSw
        go_simp
        try with_reducible rfl
      simp only [Act.put, List.getElem_toArray, List.getElem_cons_zero, List.getElem_cons_succ, List.setIfInBounds_toArray, List.set_cons_zero, List.set_cons_succ]
      refine wpAnyH_take (i := 33) (v := ?_) rfl (by kernel_rfl) (by kernel_rfl) (by kernel_rfl) (fun _ _ _ h => h) (Or.inl ⟨by rfl, ?_⟩) (by assumption) ?_
      rotate_left
      · intro w hSw
        go_simp
        try with_reducible rfl
      simp only [Act.put, List.getElem_toArray, List.getElem_cons_zero, List.getElem_cons_succ, List.setIfInBounds_toArray, List.set_cons_zero, List.set_cons_succ]
      refine wpAnyH_take (i := 34) (v := ?_) rfl (by kernel_rfl) (by kernel_rfl) (by kernel_rfl) (fun _ _ _ h => h) (Or.inl ⟨by rfl, ?_⟩) (by assumption) ?_
      rotate_left
      · intro w hSw
        go_simp
        try with_reducible rfl
      simp only [Act.put, List.getElem_toArray, List.getElem_cons_zero, List.getElem_cons_succ, List.setIfInBounds_toArray, List.set_cons_zero, List.set_cons_succ]
      refine wpAnyH_take (i := 35) (v := ?_) rfl (by kernel_rfl) (by kernel_rfl) (by kernel_rfl) (fun _ _ _ h => h) (Or.inl ⟨by rfl, ?_⟩) (by assumption) ?_
      rotate_left
      · intro w hSw
        go_simp
        try with_reducible rfl
      simp only [Act.put, List.getElem_toArray, List.getElem_cons_zero, List.getElem_cons_succ, List.setIfInBounds_toArray, List.set_cons_zero, List.set_cons_succ]
      refine wpAnyH_take (i := 36) (v := ?_) rfl (by kernel_rfl) (by kernel_rfl) (by kernel_rfl) (fun _ _ _ h => h) (Or.inl ⟨by rfl, ?_⟩) (by assumption) ?_
      rotate_left
      · intro w hSw
        go_simp
        try with_reducible rfl
      simp only [Act.put, List.getElem_toArray, List.getElem_cons_zero, List.getElem_cons_succ, List.setIfInBounds_toArray, List.set_cons_zero, List.set_cons_succ]
      refine wpAnyH_take (i := 38) (v := ?_) rfl (by kernel_rfl) (by kernel_rfl) (by kernel_rfl) (fun _ _ _ h => h) (Or.inl ⟨by rfl, ?_⟩) (by assumption) ?_
      rotate_left
      · intro w hSw
        go_simp
        try with_reducible rfl
      simp only [Act.put, List.getElem_toArray, List.getElem_cons_zero, List.getElem_cons_succ, List.setIfInBounds_toArray, List.set_cons_zero, List.set_cons_succ]
      refine wpAnyH_take (i := 39) (v := ?_) rfl (by kernel_rfl) (by kernel_rfl) (by kernel_rfl) (fun _ _ _ h => h) (Or.inl ⟨by rfl, ?_⟩) (by assumption) ?_
      rotate_left
      · intro w hSw
        go_simp
        try with_reducible rfl
      simp only [Act.put, List.getElem_toArray, List.getElem_cons_zero, List.getElem_cons_succ, List.setIfInBounds_toArray, List.set_cons_zero, List.set_cons_succ]
      refine wpAnyH_ready (rs := [37]) (by kernel_rfl) (by simp) ?_
      refine AllReadyH.cons rfl (fun K hK => ?_) AllReadyH.nil
      go_simp
      refine (CF.out _ _ hHeld.2.2.2.2.out).mono ?_
      rintro e w9 ⟨rfl, bb⟩
      refine hK.out _ _ (⟨(rowBox (hHeld.2.2.2.2.out.on bb).box).1, (rowBox (hHeld.2.2.2.2.out.on bb).box).2.1, (rowBox (hHeld.2.2.2.2.out.on bb).box).2.2.1, (rowBox (hHeld.2.2.2.2.out.on bb).box).2.2.2, aside (hHeld.2.2.2.2.out.on bb)⟩) (fun hHeld => ?_)
      clear hK K 
      refine wpAnyH_take (i := 40) (v := .bool false) rfl (by kernel_rfl) (by kernel_rfl) (by kernel_rfl) (fun _ _ _ h => h) (Or.inl ⟨by rfl, ?_⟩) (by assumption) ?_
      · intro w hSw
        have hme := map_ne y.s w
        go_simp
      simp only [Act.put, List.getElem_toArray, List.getElem_cons_zero, List.getElem_cons_succ, List.setIfInBounds_toArray, List.set_cons_zero, List.set_cons_succ]
      refine wpAnyH_take (i := 41) (v := ?_) rfl (by kernel_rfl) (by kernel_rfl) (by kernel_rfl) (fun _ _ _ h => h) (Or.inl ⟨by rfl, ?_⟩) (by assumption) ?_
      rotate_left
      · intro w hSw
        go_simp
        try with_reducible rfl
      simp only [Act.put, List.getElem_toArray, List.getElem_cons_zero, List.getElem_cons_succ, List.setIfInBounds_toArray, List.set_cons_zero, List.set_cons_succ]
      refine wpAnyH_done (by kernel_rfl) ?_ _
      have D9 := aside hHeld.2.2.2.2.out
      clear hHeld
      go_wp2
      go_roundw
      case rel => exact ⟨q + 1, by go_num, QL.out, D9.out.below⟩
      case measure => simp [intOf]; have := QL.out; omega
    · have hqn : n = q := by omega
      subst hqn
      go_wp2_with fail
      refine (pAtOut (P4.out.on BX.out) MS.out (n : Int) ⟨by omega, hmx⟩ (.inr (by have := HN.out; omega))).mono ?_
      rintro e w9 ⟨rfl, b9⟩
      have B9 := aside (bthen B4.out (bthen BX.out b9))
      clear b9
      go_wp2
      go_ret
      exact ⟨rfl, B9.out⟩

end Go.Proofs.Ytnlmlhoddchgbaa
