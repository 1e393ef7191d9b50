/-
  What a ghost's laws call: lists compared and weighed, maps that can be held, bounds of a Config, maps that are alike.
  Maps that are checked, one behind the other; the newest of two maps, either way round.
  What == says of two sums.
  Tallies: their three cells, what == says of two, and of sums within them.
  Add and Less of the code and of the document: lane by lane, modulo 2^64.
-/
import Derived.Test.YtfkdhambbpkmpaaDoorBv11
import Derived.Test.YtfkdhambbpkmpaaDoorBv1
import Derived.Laws.Tables
import Derived.Laws.Cover2
namespace Go.Proofs.YtfkdhambbpkmpaaDoor
open Go.RowKit
set_option linter.unusedVariables false
/-- What 'held' tells of a list: what is wrong with it, or that it is too long. -/
def chkH (T : Nat → En) (n : Nat) : Int := if ckN T n = 0 then (if 256 < n then 80 else 0) else ckN T n
theorem chkH_ok {T : Nat → En} {n : Nat} (h : chkH T n = 0) : ckN T n = 0 ∧ n ≤ 256 := by
  unfold chkH at h
  split at h
  · split at h
    · omega
    · exact ⟨by assumption, by omega⟩
  · exact absurd h (by assumption)
def okC (b l : Int) : Prop := 2 ≤ b ∧ b ≤ 16 ∧ 1 ≤ l ∧ l ≤ 32
instance (b l : Int) : Decidable (okC b l) := by unfold okC; infer_instance
/-- A list that a call told, and its entries. -/
theorem ents_of_says {w : World} {B n : Nat} {v : Value} {l : List En} (h : w.ownsRow B 55 5 v n (entCells l)) (hk : KeysOk l) : ∃ a c T, v = .slice a n c ∧ EntsIn w a n c T ∧ firstE T n = l := by
  have hl : l.length = n := by have := h.1; rw [entCells_length] at this; omega
  obtain ⟨a, c, rfl, hn, hm, hform⟩ := own_slice h
  refine ⟨a, c, nthE l, rfl, ?_, by rw [← hl]; exact firstE_nth l⟩
  rcases hform with ⟨rfl, rfl, rfl⟩ | ⟨g, rfl, hb⟩
  · exact ⟨Nat.le_refl _, Nat.zero_le _, .inl rfl⟩
  · have := ents_of_row h hk (o := 0) (m := n) (c := c) (by omega) hn hm (a := some ⟨g, 0, none⟩) (.inr (by simp))
    simpa using this
set_option maxHeartbeats 3200000 in
theorem held19_any (a : Option Addr) (len cap : Nat) (T : Nat → En) (w : World) (h : EntsIn w a len cap T) : Calls Tryd.prog 22 #[.slice a len cap] w fun e w' => e = .returned (.int .i64 (chkH T len)) ∧ Below w.heap.size w w' := by
  have CK := aside (rchk_any a len cap T w h)
  have hmx : (len : Int) ≤ 9223372036854775807 := by have h1 := h.1; have h2 := h.2.1; unfold maxLen at h2; omega
  unfold chkH
  obtain ⟨q, hq⟩ : ∃ q, ckN T len = q := ⟨_, rfl⟩
  rw [hq] at CK ⊢
  clear h hq
  by_cases h0 : q = 0
  · subst h0
    by_cases hl : (256 : Int) < (len : Int)
    · rw [if_pos rfl, if_pos (by omega)]
      go_enter Tryd.func22, Tryd.ntmps22
      go_wp2_with fail
      refine CK.out.mono ?_
      rintro e w' ⟨rfl, bb⟩
      have B1 := aside bb
      clear bb CK
      go_wp2
      go_ret
      exact ⟨rfl, B1.out⟩
    · rw [if_pos rfl, if_neg (by omega)]
      go_enter Tryd.func22, Tryd.ntmps22
      go_wp2_with fail
      refine CK.out.mono ?_
      rintro e w' ⟨rfl, bb⟩
      have B1 := aside bb
      clear bb CK
      go_wp2
      go_ret
      exact ⟨rfl, B1.out⟩
  · rw [if_neg h0]
    have hz : (q == 0) = false := by simpa using h0
    go_enter Tryd.func22, Tryd.ntmps22
    go_wp2_with fail
    refine CK.out.mono ?_
    rintro e w' ⟨rfl, bb⟩
    have B1 := aside bb
    clear bb CK
    go_wp2
    go_ret
    exact ⟨rfl, B1.out⟩
set_option maxHeartbeats 3200000 in
theorem right19_any (b l : Int) (w : World) : Calls Tryd.prog 23 #[.int .i64 b, .int .i64 l] w fun e w' => e = .returned (.bool (decide (okC b l))) ∧ w' = w := by
  by_cases h1 : 2 ≤ b
  · by_cases h2 : b ≤ 16
    · by_cases h3 : 1 ≤ l
      · by_cases h4 : l ≤ 32
        · rw [decide_eq_true (show okC b l from ⟨h1, h2, h3, h4⟩)]
          go_enter Tryd.func23, Tryd.ntmps23
          go_wp2
          go_ret
          exact ⟨rfl, rfl⟩
        · rw [decide_eq_false (show ¬ okC b l from fun h => h4 h.2.2.2)]
          go_enter Tryd.func23, Tryd.ntmps23
          go_wp2
          go_ret
          exact ⟨rfl, rfl⟩
      · rw [decide_eq_false (show ¬ okC b l from fun h => h3 h.2.2.1)]
        go_enter Tryd.func23, Tryd.ntmps23
        go_wp2
        go_ret
        exact ⟨rfl, rfl⟩
    · rw [decide_eq_false (show ¬ okC b l from fun h => h2 h.2.1)]
      go_enter Tryd.func23, Tryd.ntmps23
      go_wp2
      go_ret
      exact ⟨rfl, rfl⟩
  · rw [decide_eq_false (show ¬ okC b l from fun h => h1 h.1)]
    go_enter Tryd.func23, Tryd.ntmps23
    go_wp2
    go_ret
    exact ⟨rfl, rfl⟩
set_option maxHeartbeats 3200000 in
theorem inbounds_any (b l : Int) (w : World) : Calls Tryd.prog 20 #[.int .i64 b, .int .i64 l] w fun e w' => e = .returned (.bool (decide (okC b l))) ∧ w' = w := by
  by_cases h1 : 2 ≤ b
  · by_cases h2 : b ≤ 16
    · by_cases h3 : 1 ≤ l
      · by_cases h4 : l ≤ 32
        · rw [decide_eq_true (show okC b l from ⟨h1, h2, h3, h4⟩)]
          go_enter Tryd.func20, Tryd.ntmps20
          go_wp2
          go_ret
          exact ⟨rfl, rfl⟩
        · rw [decide_eq_false (show ¬ okC b l from fun h => h4 h.2.2.2)]
          go_enter Tryd.func20, Tryd.ntmps20
          go_wp2
          go_ret
          exact ⟨rfl, rfl⟩
      · rw [decide_eq_false (show ¬ okC b l from fun h => h3 h.2.2.1)]
        go_enter Tryd.func20, Tryd.ntmps20
        go_wp2
        go_ret
        exact ⟨rfl, rfl⟩
    · rw [decide_eq_false (show ¬ okC b l from fun h => h2 h.2.1)]
      go_enter Tryd.func20, Tryd.ntmps20
      go_wp2
      go_ret
      exact ⟨rfl, rfl⟩
  · rw [decide_eq_false (show ¬ okC b l from fun h => h1 h.1)]
    go_enter Tryd.func20, Tryd.ntmps20
    go_wp2
    go_ret
    exact ⟨rfl, rfl⟩
set_option maxHeartbeats 3200000 in
theorem alike19_any (a : Option Addr) (la ca : Nat) (A : Nat → En) (b : Option Addr) (lb cb : Nat) (B : Nat → En) (w : World) (hA : EntsIn w a la ca A) (hB : EntsIn w b lb cb B) (hl : la + lb ≤ 2147483648) :
    Calls Tryd.prog 34 #[.slice a la ca, .slice b lb cb] w fun e w' => e = .returned (.bool (((outL (ck2 A la B lb) (dfP (prs (firstE A la) (firstE B lb)))).length : Int) == 0)) ∧ Below w.heap.size w w' := by
  have CD := aside (rdiff_any a la ca A b lb cb B w hA hB hl)
  have HSZ := aside (show (outL (ck2 A la B lb) (dfP (prs (firstE A la) (firstE B lb)))).length ≤ 2147483648 from by
    unfold outL
    split
    · have h1 := dfP_len (prs (firstE A la) (firstE B lb)); have h2 := prs_len (firstE A la) (firstE B lb); rw [firstE_len, firstE_len] at h2; omega
    · exact Nat.zero_le _)
  clear hA hB hl
  obtain ⟨L, hL⟩ : ∃ L, outL (ck2 A la B lb) (dfP (prs (firstE A la) (firstE B lb))) = L := ⟨_, rfl⟩
  obtain ⟨q, hq⟩ : ∃ q, ck2 A la B lb = q := ⟨_, rfl⟩
  rw [hL] at CD HSZ ⊢
  rw [hq] at CD
  obtain ⟨n, hn⟩ : ∃ n, L.length = n := ⟨_, rfl⟩
  have HN := aside hn
  rw [hn] at HSZ ⊢
  clear hL hq hn
  go_enter Tryd.func34, Tryd.ntmps34
  go_wp2_with fail
  refine CD.out.mono ?_
  rintro e w' ⟨v, rfl, ho, bb⟩
  rw [HN.out] at ho
  obtain ⟨a', c', rfl, hc1, hc2, -⟩ := own_slice ho
  have B1 := aside bb
  have hm := HSZ.out
  have hn1 : (n : Int) ≤ 2147483648 := by omega
  clear ho bb CD hc1 hc2
  go_wp2
  go_ret
  exact ⟨rfl, B1.out⟩
set_option maxHeartbeats 3200000 in
theorem unlike_any (a : Option Addr) (la ca : Nat) (A : Nat → En) (b : Option Addr) (lb cb : Nat) (B : Nat → En) (w : World) (hA : EntsIn w a la ca A) (hB : EntsIn w b lb cb B) (hl : la + lb ≤ 2147483648) :
    Calls Tryd.prog 33 #[.slice a la ca, .slice b lb cb] w fun e w' => e = .returned (.bool (decide (0 < (outL (ck2 A la B lb) (dfP (prs (firstE A la) (firstE B lb)))).length))) ∧ Below w.heap.size w w' := by
  have CD := aside (mdiff_any a la ca A b lb cb B w hA hB hl)
  have HSZ := aside (show (outL (ck2 A la B lb) (dfP (prs (firstE A la) (firstE B lb)))).length ≤ 2147483648 from by
    unfold outL
    split
    · have h1 := dfP_len (prs (firstE A la) (firstE B lb)); have h2 := prs_len (firstE A la) (firstE B lb); rw [firstE_len, firstE_len] at h2; omega
    · exact Nat.zero_le _)
  clear hA hB hl
  obtain ⟨L, hL⟩ : ∃ L, outL (ck2 A la B lb) (dfP (prs (firstE A la) (firstE B lb))) = L := ⟨_, rfl⟩
  obtain ⟨q, hq⟩ : ∃ q, ck2 A la B lb = q := ⟨_, rfl⟩
  rw [hL] at CD HSZ ⊢
  rw [hq] at CD
  obtain ⟨n, hn⟩ : ∃ n, L.length = n := ⟨_, rfl⟩
  have HN := aside hn
  rw [hn] at HSZ ⊢
  clear hL hq hn
  go_enter Tryd.func33, Tryd.ntmps33
  go_wp2_with fail
  refine CD.out.mono ?_
  rintro e w' ⟨v, rfl, ho, bb⟩
  rw [HN.out] at ho
  obtain ⟨a', c', rfl, hc1, hc2, -⟩ := own_slice ho
  have B1 := aside bb
  have hm := HSZ.out
  have hn1 : (n : Int) ≤ 2147483648 := by omega
  clear ho bb CD hc1 hc2
  go_wp2
  go_ret
  exact ⟨rfl, B1.out⟩
theorem by_step19 (c x y : Nat) (hc : c ≤ 1073741824) : Value.int .i64 (IntKind.i64.wrap ((c : Int) + IntKind.i64.wrap (IntKind.i64.wrap (1 + (if (1073741824 : Int) < (x : Int) then 1073741824 else (x : Int))) + if (1073741824 : Int) < (y : Int) then 1073741824 else (y : Int)))) = .int .i64 ((c + (1 + (min x 1073741824 + min y 1073741824)) : Nat) : Int) := by
  congr 1
  rw [IntKind.wrap_i64, IntKind.wrap_i64, IntKind.wrap_i64]
  split <;> split <;> omega
set_option maxHeartbeats 6400000 in
set_option maxRecDepth 100000 in
theorem weigh19_any (a : Option Addr) (n cap : Nat) (T : Nat → En) (w : World) (h : EntsIn w a n cap T) : Calls Tryd.prog 6 #[.slice a n cap] w fun e w' => ∃ q : Nat, e = .returned (.int .i64 (q : Int)) ∧ q ≤ 3221225473 ∧ (q ≤ 1073741823 → n ≤ q) ∧ Below w.heap.size w w' := by
  have HE := aside h
  have hmx : (n : Int) ≤ 9223372036854775807 := by have h1 := h.1; have h2 := h.2.1; unfold maxLen at h2; omega
  clear h
  go_enter Tryd.func6, Tryd.ntmps6
  go_wp2
  go_loopw [3, 4] (fun u i wr => ∃ (j c : Nat), u = .int .i64 (c : Int) ∧ i = .int .i64 (j : Int) ∧ j ≤ n ∧ c ≤ 3221225473 ∧ Hid (j ≤ c) ∧ Below w.heap.size w wr) (fun _ i _ => n - (intOf i).toNat)
  case atStart => exact ⟨0, 0, rfl, rfl, Nat.zero_le _, by omega, Nat.le_refl _, Below.refl _ _⟩
  case round =>
    obtain ⟨j, c, rfl, rfl, hj, hc, HS2, hB⟩ := hrel
    have HB2 := aside hB
    clear hB
    by_cases hjl : (j : Int) < (n : Int)
    · have hj0 : (0 : Int) ≤ (j : Int) := by omega
      by_cases hle : (c : Int) < 1073741824
      · rcases HE.out.2.2 with h0 | ⟨b, off, rfl, -, -⟩
        · omega
        obtain ⟨t, ht⟩ : ∃ t, T j = t := ⟨_, rfl⟩
        have FV := aside (ents_five (HE.out.keep HB2.out) (by omega) ht)
        obtain ⟨c0, -, -, c3, -⟩ := FV.out
        clear ht
        go_wp2_with fail
        refine wp_region_held_drew (S := fun W => Below w.heap.size w W ∧ W.cell? ⟨b, off + j * 5, none⟩ = some (.string t.k) ∧ W.cell? ⟨b, off + j * 5 + 3, none⟩ = some (.string t.v)) (by kernel_rfl) (show _ from ⟨HB2.out.drew, by simpa using c0, by simpa using c3⟩) (fun hHeld => ?_)
        refine wpAnyH_take (i := 0) (v := ?_) rfl (by kernel_rfl) (by kernel_rfl) (by kernel_rfl) (fun _ _ _ h => h) (Or.inl ⟨by rfl, ?_⟩) (by assumption) ?_
        rotate_left
        · intro w hSw
          go_simp
          try with_reducible rfl
        simp only [Act.put, List.getElem_toArray, List.getElem_cons_zero, List.setIfInBounds_toArray, List.set_cons_zero, List.set_cons_succ]
        refine wpAnyH_take (i := 1) (v := ?_) rfl (by kernel_rfl) (by kernel_rfl) (by kernel_rfl) (fun _ _ _ h => h) (Or.inl ⟨by rfl, ?_⟩) (by assumption) ?_
        rotate_left
        · intro w hSw
          go_simp
          try with_reducible rfl
        simp only [Act.put, List.getElem_toArray, List.getElem_cons_zero, List.getElem_cons_succ, List.setIfInBounds_toArray, List.set_cons_zero, List.set_cons_succ]
        refine wpAnyH_take (i := 2) (v := ?_) rfl (by kernel_rfl) (by kernel_rfl) (by kernel_rfl) (fun _ _ _ h => h) (Or.inl ⟨by rfl, ?_⟩) (by assumption) ?_
        rotate_left
        · intro w hSw
          go_simp
          try with_reducible rfl
        simp only [Act.put, List.getElem_toArray, List.getElem_cons_zero, List.getElem_cons_succ, List.setIfInBounds_toArray, List.set_cons_zero, List.set_cons_succ]
        refine wpAnyH_take (i := 3) (v := ?_) rfl (by kernel_rfl) (by kernel_rfl) (by kernel_rfl) (fun _ _ _ h => h) (Or.inl ⟨by rfl, ?_⟩) (by assumption) ?_
        rotate_left
        · intro w hSw
          go_simp
          try with_reducible rfl
        simp only [Act.put, List.getElem_toArray, List.getElem_cons_zero, List.getElem_cons_succ, List.setIfInBounds_toArray, List.set_cons_zero, List.set_cons_succ]
        refine wpAnyH_take (i := 4) (v := ?_) rfl (by kernel_rfl) (by kernel_rfl) (by kernel_rfl) (fun _ _ _ h => h) (Or.inl ⟨by rfl, ?_⟩) (by assumption) ?_
        rotate_left
        · intro w hSw
          go_simp
          try with_reducible rfl
        simp only [Act.put, List.getElem_toArray, List.getElem_cons_zero, List.getElem_cons_succ, List.setIfInBounds_toArray, List.set_cons_zero, List.set_cons_succ]
        refine wpAnyH_take (i := 5) (v := ?_) rfl (by kernel_rfl) (by kernel_rfl) (by kernel_rfl) (fun _ _ _ h => h) (Or.inl ⟨by rfl, ?_⟩) (by assumption) ?_
        rotate_left
        · intro w hSw
          go_simp
          try with_reducible rfl
        simp only [Act.put, List.getElem_toArray, List.getElem_cons_zero, List.getElem_cons_succ, List.setIfInBounds_toArray, List.set_cons_zero, List.set_cons_succ]
        refine wpAnyH_take (i := 6) (v := ?_) rfl (by kernel_rfl) (by kernel_rfl) (by kernel_rfl) (fun _ _ _ h => h) (Or.inl ⟨by rfl, ?_⟩) (by assumption) ?_
        rotate_left
        · intro w hSw
          go_simp
          try with_reducible rfl
        simp only [Act.put, List.getElem_toArray, List.getElem_cons_zero, List.getElem_cons_succ, List.setIfInBounds_toArray, List.set_cons_zero, List.set_cons_succ]
        refine wpAnyH_take (i := 7) (v := ?_) rfl (by kernel_rfl) (by kernel_rfl) (by kernel_rfl) (fun _ _ _ h => h) (Or.inl ⟨by rfl, ?_⟩) (by assumption) ?_
        rotate_left
        · intro w hSw
          go_simp
          try with_reducible rfl
        simp only [Act.put, List.getElem_toArray, List.getElem_cons_zero, List.getElem_cons_succ, List.setIfInBounds_toArray, List.set_cons_zero, List.set_cons_succ]
        refine wpAnyH_take (i := 8) (v := ?_) rfl (by kernel_rfl) (by kernel_rfl) (by kernel_rfl) (fun _ _ _ h => h) (Or.inl ⟨by rfl, ?_⟩) (by assumption) ?_
        rotate_left
        · intro w hSw
          go_simp
          try with_reducible rfl
        simp only [Act.put, List.getElem_toArray, List.getElem_cons_zero, List.getElem_cons_succ, List.setIfInBounds_toArray, List.set_cons_zero, List.set_cons_succ]
        refine wpAnyH_take (i := 9) (v := ?_) rfl (by kernel_rfl) (by kernel_rfl) (by kernel_rfl) (fun _ _ _ h => h) (Or.inl ⟨by rfl, ?_⟩) (by assumption) ?_
        rotate_left
        · intro w hSw
          go_simp
          try with_reducible rfl
        simp only [Act.put, List.getElem_toArray, List.getElem_cons_zero, List.getElem_cons_succ, List.setIfInBounds_toArray, List.set_cons_zero, List.set_cons_succ]
        refine wpAnyH_take (i := 10) (v := ?_) rfl (by kernel_rfl) (by kernel_rfl) (by kernel_rfl) (fun _ _ _ h => h) (Or.inl ⟨by rfl, ?_⟩) (by assumption) ?_
        rotate_left
        · intro w hSw
          go_simp
          try with_reducible rfl
        simp only [Act.put, List.getElem_toArray, List.getElem_cons_zero, List.getElem_cons_succ, List.setIfInBounds_toArray, List.set_cons_zero, List.set_cons_succ]
        refine wpAnyH_take (i := 11) (v := ?_) rfl (by kernel_rfl) (by kernel_rfl) (by kernel_rfl) (fun _ _ _ h => h) (Or.inl ⟨by rfl, ?_⟩) (by assumption) ?_
        rotate_left
        · intro w hSw
          go_simp
          try with_reducible rfl
        simp only [Act.put, List.getElem_toArray, List.getElem_cons_zero, List.getElem_cons_succ, List.setIfInBounds_toArray, List.set_cons_zero, List.set_cons_succ]
        refine wpAnyH_take (i := 12) (v := ?_) rfl (by kernel_rfl) (by kernel_rfl) (by kernel_rfl) (fun _ _ _ h => h) (Or.inl ⟨by rfl, ?_⟩) (by assumption) ?_
        rotate_left
        · intro w hSw
          go_simp
          try with_reducible rfl
        simp only [Act.put, List.getElem_toArray, List.getElem_cons_zero, List.getElem_cons_succ, List.setIfInBounds_toArray, List.set_cons_zero, List.set_cons_succ]
        refine wpAnyH_take (i := 13) (v := ?_) rfl (by kernel_rfl) (by kernel_rfl) (by kernel_rfl) (fun _ _ _ h => h) (Or.inl ⟨by rfl, ?_⟩) (by assumption) ?_
        rotate_left
        · intro w hSw
          go_simp
          try with_reducible rfl
        simp only [Act.put, List.getElem_toArray, List.getElem_cons_zero, List.getElem_cons_succ, List.setIfInBounds_toArray, List.set_cons_zero, List.set_cons_succ]
        refine wpAnyH_take (i := 14) (v := ?_) rfl (by kernel_rfl) (by kernel_rfl) (by kernel_rfl) (fun _ _ _ h => h) (Or.inl ⟨by rfl, ?_⟩) (by assumption) ?_
        rotate_left
        · intro w hSw
          go_simp
          try with_reducible rfl
        simp only [Act.put, List.getElem_toArray, List.getElem_cons_zero, List.getElem_cons_succ, List.setIfInBounds_toArray, List.set_cons_zero, List.set_cons_succ]
        refine wpAnyH_take (i := 15) (v := ?_) rfl (by kernel_rfl) (by kernel_rfl) (by kernel_rfl) (fun _ _ _ h => h) (Or.inl ⟨by rfl, ?_⟩) (by assumption) ?_
        rotate_left
        · intro w hSw
          go_simp
          try with_reducible rfl
        simp only [Act.put, List.getElem_toArray, List.getElem_cons_zero, List.getElem_cons_succ, List.setIfInBounds_toArray, List.set_cons_zero, List.set_cons_succ]
        refine wpAnyH_take (i := 16) (v := ?_) rfl (by kernel_rfl) (by kernel_rfl) (by kernel_rfl) (fun _ _ _ h => h) (Or.inl ⟨by rfl, ?_⟩) (by assumption) ?_
        rotate_left
        · intro w hSw
          go_simp
          try with_reducible rfl
        simp only [Act.put, List.getElem_toArray, List.getElem_cons_zero, List.getElem_cons_succ, List.setIfInBounds_toArray, List.set_cons_zero, List.set_cons_succ]
        refine wpAnyH_take (i := 17) (v := ?_) rfl (by kernel_rfl) (by kernel_rfl) (by kernel_rfl) (fun _ _ _ h => h) (Or.inl ⟨by rfl, ?_⟩) (by assumption) ?_
        rotate_left
        · intro w hSw
          go_simp
          try with_reducible rfl
        simp only [Act.put, List.getElem_toArray, List.getElem_cons_zero, List.getElem_cons_succ, List.setIfInBounds_toArray, List.set_cons_zero, List.set_cons_succ]
        refine wpAnyH_take (i := 18) (v := ?_) rfl (by kernel_rfl) (by kernel_rfl) (by kernel_rfl) (fun _ _ _ h => h) (Or.inl ⟨by rfl, ?_⟩) (by assumption) ?_
        rotate_left
        · intro w hSw
          go_simp
          try with_reducible rfl
        simp only [Act.put, List.getElem_toArray, List.getElem_cons_zero, List.getElem_cons_succ, List.setIfInBounds_toArray, List.set_cons_zero, List.set_cons_succ]
        refine wpAnyH_done (by kernel_rfl) ?_ _
        go_wp2
        go_roundw
        case rel => exact ⟨j + 1, c + (1 + (min t.k.size 1073741824 + min t.v.size 1073741824)), by_step19 c t.k.size t.v.size (by omega), by first | rfl | go_num, by omega, by omega, by have := HS2.out; show j + 1 ≤ _; omega, by first | exact HB2.out.drew | exact HB2.out⟩
        case measure => simp [intOf] <;> omega
      · go_wp2
        go_ret
        exact ⟨c, rfl, hc, fun h => by omega, HB2.out⟩
    · obtain rfl : j = n := by omega
      go_wp2
      go_ret
      exact ⟨c, rfl, hc, fun h => HS2.out, HB2.out⟩
end Go.Proofs.YtfkdhambbpkmpaaDoor
namespace Go.Proofs.YtfkdhambbpkmpaaDoor
open Go.RowKit
set_option linter.unusedVariables false
theorem prs_swap19 (a b : List En) : prs b a = (prs a b).map (fun p => (p.2, p.1)) := by
  induction a, b using prs.induct with
  | case1 => rw [prs_nil]; rfl
  | case2 x r ih => rw [prs_left, prs_right, ih]; rfl
  | case3 y s ih => rw [prs_left, prs_right, ih]; rfl
  | case4 x r y s h ih =>
    have h2 : kLt y.k x.k = false := by
      cases hh : kLt y.k x.k
      · rfl
      · have := kLt_trans h hh; rw [kLt_irrefl] at this; cases this
    rw [prs_lt r s h, prs_gt s r h2 h, ih]; rfl
  | case5 x r y s h h' ih => rw [prs_gt r s (by simpa using h) h', prs_lt s r h', ih]; rfl
  | case6 x r y s h h' ih => rw [prs_eq r s (by simpa using h) (by simpa using h'), prs_eq s r (by simpa using h') (by simpa using h), ih]; rfl
/-- Lists in a row. -/
def ListsIn (w : World) (gb m : Nat) (ad : Nat → Option Addr) (ln cp : Nat → Nat) (T : Nat → Nat → En) : Prop := ∀ k, k < m → w.cell? ⟨gb, k, none⟩ = some (.slice (ad k) (ln k) (cp k)) ∧ EntsIn w (ad k) (ln k) (cp k) (T k)
/-- The first that is wrong. -/
def cmN (f : Nat → Int) : Nat → Int
  | 0 => 0
  | m + 1 => if cmN f m = 0 then f m else cmN f m
theorem cmN_stop {f : Nat → Int} {j : Nat} (h : cmN f j ≠ 0) : ∀ m, j ≤ m → cmN f m = cmN f j := by
  intro m hm
  obtain ⟨d, rfl⟩ : ∃ d, m = j + d := ⟨m - j, by omega⟩
  clear hm
  induction d with
  | zero => rfl
  | succ d ih =>
    show (if cmN f (j + d) = 0 then f (j + d) else cmN f (j + d)) = _
    rw [ih, if_neg h]
set_option maxHeartbeats 6400000 in
set_option maxRecDepth 100000 in
theorem cmaps_any (gb m cq : Nat) (ad : Nat → Option Addr) (ln cp : Nat → Nat) (T : Nat → Nat → En) (w : World) (hm : m ≤ 1000) (h : ListsIn w gb m ad ln cp T) :
    Calls Tryd.prog 19 #[.slice (some ⟨gb, 0, none⟩) m cq] w fun e w' => e = .returned (.int .i64 (cmN (fun k => chkH (T k) (ln k)) m)) ∧ Below w.heap.size w w' := by
  have HL := aside h
  have HF := aside (show ∀ j, cmN (fun k => chkH (T k) (ln k)) j = 0 → cmN (fun k => chkH (T k) (ln k)) (j + 1) = chkH (T j) (ln j) from fun j hj => by
    show (if _ = 0 then _ else _) = _
    rw [if_pos hj])
  have HS := aside (fun (j : Nat) (h0 : cmN (fun k => chkH (T k) (ln k)) j ≠ 0) (hj : j ≤ m) => cmN_stop h0 m hj)
  have HQ0 : cmN (fun k => chkH (T k) (ln k)) 0 = 0 := rfl
  obtain ⟨F, hF⟩ : ∃ F, cmN (fun k => chkH (T k) (ln k)) = F := ⟨_, rfl⟩
  rw [hF] at HF HS HQ0 ⊢
  have HQ := aside HQ0
  clear h hF HQ0
  go_enter Tryd.func19, Tryd.ntmps19
  go_wp2
  go_loopw [8] (fun i wr => ∃ k : Nat, i = .int .i64 (k : Int) ∧ k ≤ m ∧ Hid (F k = 0) ∧ Below w.heap.size w wr) (fun i _ => m - (intOf i).toNat)
  case atStart => exact ⟨0, rfl, Nat.zero_le _, HQ.out, Below.refl _ _⟩
  case round =>
    clear HQ
    obtain ⟨k, rfl, hk, HK, hB⟩ := hrel
    have HB := aside hB
    clear hB
    by_cases hlt : (k : Int) < (m : Int)
    · have hk0 : (0 : Int) ≤ (k : Int) := by omega
      obtain ⟨hcell, hE⟩ := HL.out k (by omega)
      have CK := aside (mchk_any (ad k) (ln k) (cp k) (T k) wr (hE.keep HB.out))
      have gcell := cell_in hcell HB.out
      have H1 := aside (HF.out k HK.out)
      have HR := aside (fun (h0 : F (k + 1) ≠ 0) => HS.out (k + 1) h0 (by omega))
      have hmx : (ln k : Int) ≤ 9223372036854775807 := by have h1 := hE.1; have h2 := hE.2.1; unfold maxLen at h2; omega
      unfold chkH at H1
      generalize ad k = a at *
      obtain ⟨n, hn⟩ : ∃ n, ln k = n := ⟨_, rfl⟩
      rw [hn] at CK H1 hmx gcell
      generalize cp k = cpk at *
      obtain ⟨q, hq⟩ : ∃ q, ckN (T k) n = q := ⟨_, rfl⟩
      rw [hq] at CK H1
      clear hcell hE hn hq
      go_wp2_with fail
      refine CK.out.mono ?_
      rintro e w1 ⟨rfl, bb⟩
      have B1 := aside (bthen HB.out bb)
      clear bb CK gcell
      by_cases h0 : q = 0
      · subst h0
        by_cases hl : (256 : Int) < (n : Int)
        · have HE := aside (show F m = 80 from by have h9 := H1.out; rw [if_pos rfl, if_pos (by omega)] at h9; rw [HR.out (by omega), h9])
          go_wp2
          go_ret
          exact ⟨by rw [HE.out]; rfl, B1.out⟩
        · have HE := aside (show F (k + 1) = 0 from by have h9 := H1.out; rw [if_pos rfl, if_neg (by omega)] at h9; exact h9)
          go_wp2
          go_roundw
          case rel => exact ⟨k + 1, by first | rfl | go_num, by omega, HE.out, B1.out⟩
          case measure => simp [intOf] <;> omega
      · have HE := aside (show F m = q from by have h9 := H1.out; rw [if_neg h0] at h9; rw [HR.out (by omega), h9])
        have hz : (q == 0) = false := by simpa using h0
        go_wp2
        go_ret
        exact ⟨by rw [HE.out]; rfl, B1.out⟩
    · obtain rfl : k = m := by omega
      go_wp2
      go_ret
      exact ⟨by rw [HK.out]; rfl, HB.out⟩
theorem four19 {w : World} {i : Nat} {a b c d : Value} {T : TypeId} (h : w.heap[i]? = some (.cells #[a, b, c, d] T (0, 0))) : w.cell? ⟨i, 0, none⟩ = some a ∧ w.cell? ⟨i, 1, none⟩ = some b ∧ w.cell? ⟨i, 2, none⟩ = some c ∧ w.cell? ⟨i, 3, none⟩ = some d := by
  simp [World.cell?, h]
theorem set_one19 {w : World} {b k : Nat} {cs : Array Value} {t : TypeId} (h : w.heap[b]? = some (.cells cs t (0, 0))) (u : Value) : (w.setCell ⟨b, k, none⟩ u).heap[b]? = some (.cells (cs.setIfInBounds k u) t (0, 0)) := by
  rw [heap_setCell_same w b k _ _ _ h]
theorem set_four19 {w : World} {b : Nat} {x y z d : Value} {t : TypeId} (h : w.heap[b]? = some (.cells #[x, y, z, d] t (0, 0))) (u v r s : Value) : ((((w.setCell ⟨b, 0, none⟩ u).setCell ⟨b, 1, none⟩ v).setCell ⟨b, 2, none⟩ r).setCell ⟨b, 3, none⟩ s).heap[b]? = some (.cells #[u, v, r, s] t (0, 0)) := by
  have h1 := set_one19 (k := 3) (set_one19 (k := 2) (set_one19 (k := 1) (set_one19 (k := 0) h u) v) r) s
  simpa using h1
theorem bel_four19 {B : Nat} {w0 w : World} {b : Nat} (h : Below B w0 w) (hb : B ≤ b) (u v r s : Value) : Below B w0 ((((w.setCell ⟨b, 0, none⟩ u).setCell ⟨b, 1, none⟩ v).setCell ⟨b, 2, none⟩ r).setCell ⟨b, 3, none⟩ s) :=
  (((h.setCell (p := ⟨b, 0, none⟩) hb u).setCell (p := ⟨b, 1, none⟩) hb v).setCell (p := ⟨b, 2, none⟩) hb r).setCell (p := ⟨b, 3, none⟩) hb s
end Go.Proofs.YtfkdhambbpkmpaaDoor
namespace Go.Proofs.YtfkdhambbpkmpaaDoor
open Go.RowKit
end Go.Proofs.YtfkdhambbpkmpaaDoor
namespace Go.Proofs.YtfkdhambbpkmpaaDoor
open Go.RowKit
set_option linter.unusedVariables false
/-- The three cells of a tally's block. -/
theorem tri {w : World} {i : Nat} {a b c : Value} {T : TypeId} (h : w.heap[i]? = some (.cells #[a, b, c] T (0, 0))) :
    w.cell? ⟨i, 0, none⟩ = some a ∧ w.cell? ⟨i, 1, none⟩ = some b ∧ w.cell? ⟨i, 2, none⟩ = some c ∧ w.frozen? ⟨i, 0, none⟩ = false ∧ w.frozen? ⟨i, 1, none⟩ = false ∧ w.frozen? ⟨i, 2, none⟩ = false :=
  ⟨by simp [World.cell?, h], by simp [World.cell?, h], by simp [World.cell?, h], frozen_of_row w i 0 _ _ h, frozen_of_row w i 1 _ _ h, frozen_of_row w i 2 _ _ h⟩
/-- A store into another block. -/
theorem cell_apart {X : World} {i k : Nat} {p : Addr} {u v : Value} (h : X.cell? p = some v) (hne : p.block ≠ i) : (X.setCell ⟨i, k, none⟩ u).cell? p = some v :=
  (World.cell?_setCell_other _ _ _ _ (fun e => hne (by rw [← e]))).trans h
theorem sum_in9 (a b c d : Int) (w : World) : (Op.equalIn 9999 38 (.agg #[.int .u64 a, .int .u64 b]) (.agg #[.int .u64 c, .int .u64 d])).run Tryd.prog w = .ok (a == c && b == d) w := by
  have u3 := Tryd.underlying36
  have a3 := Tryd.isAgg36
  have z3 := Tryd.sizeOf36
  rw [show (9999 : Nat) = 9998 + 1 from rfl, Op.equalIn]
  simp only [Sem.run_bind, run_underlying Tryd.underlying38, Result.andThen_ok]
  simp only [Std.Legacy.Range.forIn_eq_forIn_range', Std.Legacy.Range.size, Nat.sub_zero, Nat.add_sub_cancel, Nat.div_one, List.range'_succ, List.range'_zero, List.forIn_cons, List.forIn_nil]
  go_simp
  by_cases h1 : a = c <;> by_cases h2 : b = d <;> simp [h1, h2]
theorem tal_in (n a b m c d : Int) (w : World) : (Op.equalIn 10000 40 (.agg #[.int .i64 n, .int .u64 a, .int .u64 b]) (.agg #[.int .i64 m, .int .u64 c, .int .u64 d])).run Tryd.prog w = .ok (n == m && (a == c && b == d)) w := by
  have e := sum_in9 a b c d w
  rw [show (10000 : Nat) = 9999 + 1 from rfl]
  go_simp
  by_cases h1 : n = m <;> by_cases h2 : a = c <;> by_cases h3 : b = d <;> simp [h1, h2, h3]
theorem tal_run (n a b m c d : Int) (w : World) : (binOp .eql 40 (.agg #[.int .i64 n, .int .u64 a, .int .u64 b]) (.agg #[.int .i64 m, .int .u64 c, .int .u64 d])).run Tryd.prog w = .ok (.bool (n == m && (a == c && b == d))) w := by
  rw [run_eql_struct, tal_in]; rfl
end Go.Proofs.YtfkdhambbpkmpaaDoor
namespace Go.Proofs.YtfkdhambbpkmpaaDoor
open Go.RowKit
set_option linter.unusedVariables false
/-- The memory in Add's and Less's loop: the first sum, the second, the result. -/
def add3 (w : World) (x0 x1 b0 b1 r0 r1 : Int) : World :=
  ((w.alloc (.cells #[.int .u64 x0, .int .u64 x1] 38)).alloc (.cells #[.int .u64 b0, .int .u64 b1] 38)).alloc (.cells #[.int .u64 r0, .int .u64 r1] 38)
theorem add3_below (w : World) (x0 x1 b0 b1 r0 r1 : Int) : Below w.heap.size w (add3 w x0 x1 b0 b1 r0 r1) := ((bnew w _).alloc (by simp) _).alloc (by simp; omega) _
def AddRel (w : World) (a0 a1 b0 b1 s0 s1 : Int) (i : Value) (wr : World) : Prop :=
  (i = .int .i64 0 ∧ wr = add3 w a0 a1 b0 b1 0 0) ∨ (i = .int .i64 1 ∧ wr = (add3 w s0 a1 b0 b1 0 0).drew) ∨ (i = .int .i64 2 ∧ wr = (add3 w s0 s1 b0 b1 0 0).drew.drew)
set_option maxHeartbeats 1600000 in
set_option maxRecDepth 100000 in
theorem add_any (a0 a1 b0 b1 : Int) (w : World) :
    Calls Tryd.prog 51 #[.agg #[.int .u64 a0, .int .u64 a1], .agg #[.int .u64 b0, .int .u64 b1]] w fun e w' => e = .returned (.agg #[.int .u64 (IntKind.u64.wrap (a0 + b0)), .int .u64 (IntKind.u64.wrap (a1 + b1))]) ∧ Below w.heap.size w w' := by
  go_enter Tryd.func51, Tryd.ntmps51
  go_wp2
  go_loopw [6] (fun i wr => AddRel w a0 a1 b0 b1 (IntKind.u64.wrap (a0 + b0)) (IntKind.u64.wrap (a1 + b1)) i wr) (fun i _ => 2 - (intOf i).toNat)
  case atStart => exact .inl ⟨rfl, rfl⟩
  case round =>
    obtain ⟨rfl, rfl⟩ | ⟨rfl, rfl⟩ | ⟨rfl, rfl⟩ := hrel
    · unfold add3
      go_wp2
      go_region
      go_wp2
      go_roundw
      case rel => exact .inr (.inl ⟨rfl, rfl⟩)
      case measure => simp [intOf]
    · unfold add3
      go_wp2
      go_region
      go_wp2
      go_roundw
      case rel => exact .inr (.inr ⟨rfl, rfl⟩)
      case measure => simp [intOf]
    · unfold add3
      go_wp2
      exact bodyPost_ret (v := .agg #[.int .u64 (IntKind.u64.wrap (a0 + b0)), .int .u64 (IntKind.u64.wrap (a1 + b1))]) (by simp [results, Tryd.results51, go_sem]) rfl ⟨rfl, (add3_below w (IntKind.u64.wrap (a0 + b0)) (IntKind.u64.wrap (a1 + b1)) b0 b1 (IntKind.u64.wrap (a0 + b0)) (IntKind.u64.wrap (a1 + b1))).drew.drew⟩
set_option maxHeartbeats 1600000 in
set_option maxRecDepth 100000 in
theorem addRef_any (a0 a1 b0 b1 : Int) (w : World) :
    Calls Tryd.prog 74 #[.agg #[.int .u64 a0, .int .u64 a1], .agg #[.int .u64 b0, .int .u64 b1]] w fun e w' => e = .returned (.agg #[.int .u64 (IntKind.u64.wrap (a0 + b0)), .int .u64 (IntKind.u64.wrap (a1 + b1))]) ∧ Below w.heap.size w w' := by
  go_enter Tryd.func74, Tryd.ntmps74
  go_wp2
  exact bodyPost_ret (v := .agg #[.int .u64 (IntKind.u64.wrap (a0 + b0)), .int .u64 (IntKind.u64.wrap (a1 + b1))]) (by simp [results, Tryd.results74, go_sem]) rfl ⟨rfl, add3_below w a0 a1 b0 b1 (IntKind.u64.wrap (a0 + b0)) (IntKind.u64.wrap (a1 + b1))⟩
end Go.Proofs.YtfkdhambbpkmpaaDoor
