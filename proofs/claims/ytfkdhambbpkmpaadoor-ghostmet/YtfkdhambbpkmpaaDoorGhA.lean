/-
  What a ghost's laws call: lists compared and weighed, maps that can be held, bounds of a Config, maps that are alike.
-/
import Derived.Test.YtfkdhambbpkmpaaDoorMgRdf
import Derived.Test.YtfkdhambbpkmpaaDoorMgPl3
import Derived.Test.YtfkdhambbpkmpaaDoorGhS
namespace Go.Proofs.YtfkdhambbpkmpaaDoor
open Go.RowKit
set_option linter.unusedVariables false

theorem prs_self : ∀ l : List En, prs l l = l.map (fun x => (x, x))
  | [] => prs_nil
  | x :: l => by rw [prs_eq _ _ (kLt_irrefl _) (kLt_irrefl _), prs_self l]; rfl
theorem dfP_self (l : List En) : dfP (prs l l) = [] := by
  rw [prs_self]
  unfold dfP
  rw [List.map_eq_nil_iff, List.filter_eq_nil_iff]
  intro p hp
  obtain ⟨x, -, rfl⟩ := List.mem_map.1 hp
  simp [vNe]
/-- What 'held' tells of a list: what is wrong with it, or that it is too long. -/
def chkH (T : Nat → En) (n : Nat) : Int := if ckN T n = 0 then (if 256 < n then 80 else 0) else ckN T n
theorem chkH_ok {T : Nat → En} {n : Nat} (h : chkH T n = 0) : ckN T n = 0 ∧ n ≤ 256 := by
  unfold chkH at h
  split at h
  · split at h
    · omega
    · exact ⟨by assumption, by omega⟩
  · exact absurd h (by assumption)
theorem chkH_of {T : Nat → En} {n : Nat} (h : ckN T n = 0) (hn : n ≤ 256) : chkH T n = 0 := by
  unfold chkH
  rw [if_pos h, if_neg (by omega)]
def okC (b l : Int) : Prop := 2 ≤ b ∧ b ≤ 16 ∧ 1 ≤ l ∧ l ≤ 32
instance (b l : Int) : Decidable (okC b l) := by unfold okC; infer_instance
/-- A list that a call told, and its entries. -/
theorem ents_of_says {w : World} {B n : Nat} {v : Value} {l : List En} (h : w.ownsRow B 55 5 v n (entCells l)) (hk : KeysOk l) : ∃ a c T, v = .slice a n c ∧ EntsIn w a n c T ∧ firstE T n = l := by
  have hl : l.length = n := by have := h.1; rw [entCells_length] at this; omega
  obtain ⟨a, c, rfl, hn, hm, hform⟩ := own_slice h
  refine ⟨a, c, nthE l, rfl, ?_, by rw [← hl]; exact firstE_nth l⟩
  rcases hform with ⟨rfl, rfl, rfl⟩ | ⟨g, rfl, hb⟩
  · exact ⟨Nat.le_refl _, Nat.zero_le _, .inl rfl⟩
  · have := ents_of_row h hk (o := 0) (m := n) (c := c) (by omega) hn hm (a := some ⟨g, 0, none⟩) (.inr (by simp))
    simpa using this
set_option maxHeartbeats 3200000 in
theorem held19_any (a : Option Addr) (len cap : Nat) (T : Nat → En) (w : World) (h : EntsIn w a len cap T) : Calls Tryd.prog 22 #[.slice a len cap] w fun e w' => e = .returned (.int .i64 (chkH T len)) ∧ Below w.heap.size w w' := by
  have CK := aside (rchk_any a len cap T w h)
  have hmx : (len : Int) ≤ 9223372036854775807 := by have h1 := h.1; have h2 := h.2.1; unfold maxLen at h2; omega
  unfold chkH
  obtain ⟨q, hq⟩ : ∃ q, ckN T len = q := ⟨_, rfl⟩
  rw [hq] at CK ⊢
  clear h hq
  by_cases h0 : q = 0
  · subst h0
    by_cases hl : (256 : Int) < (len : Int)
    · rw [if_pos rfl, if_pos (by omega)]
      go_enter Tryd.func22, Tryd.ntmps22
      go_wp2_with fail
      refine CK.out.mono ?_
      rintro e w' ⟨rfl, bb⟩
      have B1 := aside bb
      clear bb CK
      go_wp2
      go_ret
      exact ⟨rfl, B1.out⟩
    · rw [if_pos rfl, if_neg (by omega)]
      go_enter Tryd.func22, Tryd.ntmps22
      go_wp2_with fail
      refine CK.out.mono ?_
      rintro e w' ⟨rfl, bb⟩
      have B1 := aside bb
      clear bb CK
      go_wp2
      go_ret
      exact ⟨rfl, B1.out⟩
  · rw [if_neg h0]
    have hz : (q == 0) = false := by simpa using h0
    go_enter Tryd.func22, Tryd.ntmps22
    go_wp2_with fail
    refine CK.out.mono ?_
    rintro e w' ⟨rfl, bb⟩
    have B1 := aside bb
    clear bb CK
    go_wp2
    go_ret
    exact ⟨rfl, B1.out⟩
set_option maxHeartbeats 3200000 in
theorem right19_any (b l : Int) (w : World) : Calls Tryd.prog 23 #[.int .i64 b, .int .i64 l] w fun e w' => e = .returned (.bool (decide (okC b l))) ∧ w' = w := by
  by_cases h1 : 2 ≤ b
  · by_cases h2 : b ≤ 16
    · by_cases h3 : 1 ≤ l
      · by_cases h4 : l ≤ 32
        · rw [decide_eq_true (show okC b l from ⟨h1, h2, h3, h4⟩)]
          go_enter Tryd.func23, Tryd.ntmps23
          go_wp2
          go_ret
          exact ⟨rfl, rfl⟩
        · rw [decide_eq_false (show ¬ okC b l from fun h => h4 h.2.2.2)]
          go_enter Tryd.func23, Tryd.ntmps23
          go_wp2
          go_ret
          exact ⟨rfl, rfl⟩
      · rw [decide_eq_false (show ¬ okC b l from fun h => h3 h.2.2.1)]
        go_enter Tryd.func23, Tryd.ntmps23
        go_wp2
        go_ret
        exact ⟨rfl, rfl⟩
    · rw [decide_eq_false (show ¬ okC b l from fun h => h2 h.2.1)]
      go_enter Tryd.func23, Tryd.ntmps23
      go_wp2
      go_ret
      exact ⟨rfl, rfl⟩
  · rw [decide_eq_false (show ¬ okC b l from fun h => h1 h.1)]
    go_enter Tryd.func23, Tryd.ntmps23
    go_wp2
    go_ret
    exact ⟨rfl, rfl⟩
set_option maxHeartbeats 3200000 in
theorem inbounds_any (b l : Int) (w : World) : Calls Tryd.prog 20 #[.int .i64 b, .int .i64 l] w fun e w' => e = .returned (.bool (decide (okC b l))) ∧ w' = w := by
  by_cases h1 : 2 ≤ b
  · by_cases h2 : b ≤ 16
    · by_cases h3 : 1 ≤ l
      · by_cases h4 : l ≤ 32
        · rw [decide_eq_true (show okC b l from ⟨h1, h2, h3, h4⟩)]
          go_enter Tryd.func20, Tryd.ntmps20
          go_wp2
          go_ret
          exact ⟨rfl, rfl⟩
        · rw [decide_eq_false (show ¬ okC b l from fun h => h4 h.2.2.2)]
          go_enter Tryd.func20, Tryd.ntmps20
          go_wp2
          go_ret
          exact ⟨rfl, rfl⟩
      · rw [decide_eq_false (show ¬ okC b l from fun h => h3 h.2.2.1)]
        go_enter Tryd.func20, Tryd.ntmps20
        go_wp2
        go_ret
        exact ⟨rfl, rfl⟩
    · rw [decide_eq_false (show ¬ okC b l from fun h => h2 h.2.1)]
      go_enter Tryd.func20, Tryd.ntmps20
      go_wp2
      go_ret
      exact ⟨rfl, rfl⟩
  · rw [decide_eq_false (show ¬ okC b l from fun h => h1 h.1)]
    go_enter Tryd.func20, Tryd.ntmps20
    go_wp2
    go_ret
    exact ⟨rfl, rfl⟩
set_option maxHeartbeats 3200000 in
theorem alike19_any (a : Option Addr) (la ca : Nat) (A : Nat → En) (b : Option Addr) (lb cb : Nat) (B : Nat → En) (w : World) (hA : EntsIn w a la ca A) (hB : EntsIn w b lb cb B) (hl : la + lb ≤ 2147483648) :
    Calls Tryd.prog 34 #[.slice a la ca, .slice b lb cb] w fun e w' => e = .returned (.bool (((outL (ck2 A la B lb) (dfP (prs (firstE A la) (firstE B lb)))).length : Int) == 0)) ∧ Below w.heap.size w w' := by
  have CD := aside (rdiff_any a la ca A b lb cb B w hA hB hl)
  have HSZ := aside (show (outL (ck2 A la B lb) (dfP (prs (firstE A la) (firstE B lb)))).length ≤ 2147483648 from by
    unfold outL
    split
    · have h1 := dfP_len (prs (firstE A la) (firstE B lb)); have h2 := prs_len (firstE A la) (firstE B lb); rw [firstE_len, firstE_len] at h2; omega
    · exact Nat.zero_le _)
  clear hA hB hl
  obtain ⟨L, hL⟩ : ∃ L, outL (ck2 A la B lb) (dfP (prs (firstE A la) (firstE B lb))) = L := ⟨_, rfl⟩
  obtain ⟨q, hq⟩ : ∃ q, ck2 A la B lb = q := ⟨_, rfl⟩
  rw [hL] at CD HSZ ⊢
  rw [hq] at CD
  obtain ⟨n, hn⟩ : ∃ n, L.length = n := ⟨_, rfl⟩
  have HN := aside hn
  rw [hn] at HSZ ⊢
  clear hL hq hn
  go_enter Tryd.func34, Tryd.ntmps34
  go_wp2_with fail
  refine CD.out.mono ?_
  rintro e w' ⟨v, rfl, ho, bb⟩
  rw [HN.out] at ho
  obtain ⟨a', c', rfl, hc1, hc2, -⟩ := own_slice ho
  have B1 := aside bb
  have hm := HSZ.out
  have hn1 : (n : Int) ≤ 2147483648 := by omega
  clear ho bb CD hc1 hc2
  go_wp2
  go_ret
  exact ⟨rfl, B1.out⟩
set_option maxHeartbeats 3200000 in
theorem unlike_any (a : Option Addr) (la ca : Nat) (A : Nat → En) (b : Option Addr) (lb cb : Nat) (B : Nat → En) (w : World) (hA : EntsIn w a la ca A) (hB : EntsIn w b lb cb B) (hl : la + lb ≤ 2147483648) :
    Calls Tryd.prog 33 #[.slice a la ca, .slice b lb cb] w fun e w' => e = .returned (.bool (decide (0 < (outL (ck2 A la B lb) (dfP (prs (firstE A la) (firstE B lb)))).length))) ∧ Below w.heap.size w w' := by
  have CD := aside (mdiff_any a la ca A b lb cb B w hA hB hl)
  have HSZ := aside (show (outL (ck2 A la B lb) (dfP (prs (firstE A la) (firstE B lb)))).length ≤ 2147483648 from by
    unfold outL
    split
    · have h1 := dfP_len (prs (firstE A la) (firstE B lb)); have h2 := prs_len (firstE A la) (firstE B lb); rw [firstE_len, firstE_len] at h2; omega
    · exact Nat.zero_le _)
  clear hA hB hl
  obtain ⟨L, hL⟩ : ∃ L, outL (ck2 A la B lb) (dfP (prs (firstE A la) (firstE B lb))) = L := ⟨_, rfl⟩
  obtain ⟨q, hq⟩ : ∃ q, ck2 A la B lb = q := ⟨_, rfl⟩
  rw [hL] at CD HSZ ⊢
  rw [hq] at CD
  obtain ⟨n, hn⟩ : ∃ n, L.length = n := ⟨_, rfl⟩
  have HN := aside hn
  rw [hn] at HSZ ⊢
  clear hL hq hn
  go_enter Tryd.func33, Tryd.ntmps33
  go_wp2_with fail
  refine CD.out.mono ?_
  rintro e w' ⟨v, rfl, ho, bb⟩
  rw [HN.out] at ho
  obtain ⟨a', c', rfl, hc1, hc2, -⟩ := own_slice ho
  have B1 := aside bb
  have hm := HSZ.out
  have hn1 : (n : Int) ≤ 2147483648 := by omega
  clear ho bb CD hc1 hc2
  go_wp2
  go_ret
  exact ⟨rfl, B1.out⟩
theorem by_step19 (c x y : Nat) (hc : c ≤ 1073741824) : Value.int .i64 (IntKind.i64.wrap ((c : Int) + IntKind.i64.wrap (IntKind.i64.wrap (1 + (if (1073741824 : Int) < (x : Int) then 1073741824 else (x : Int))) + if (1073741824 : Int) < (y : Int) then 1073741824 else (y : Int)))) = .int .i64 ((c + (1 + (min x 1073741824 + min y 1073741824)) : Nat) : Int) := by
  congr 1
  rw [IntKind.wrap_i64, IntKind.wrap_i64, IntKind.wrap_i64]
  split <;> split <;> omega
set_option maxHeartbeats 6400000 in
set_option maxRecDepth 100000 in
theorem weigh19_any (a : Option Addr) (n cap : Nat) (T : Nat → En) (w : World) (h : EntsIn w a n cap T) : Calls Tryd.prog 6 #[.slice a n cap] w fun e w' => ∃ q : Nat, e = .returned (.int .i64 (q : Int)) ∧ q ≤ 3221225473 ∧ (q ≤ 1073741823 → n ≤ q) ∧ Below w.heap.size w w' := by
  have HE := aside h
  have hmx : (n : Int) ≤ 9223372036854775807 := by have h1 := h.1; have h2 := h.2.1; unfold maxLen at h2; omega
  clear h
  go_enter Tryd.func6, Tryd.ntmps6
  go_wp2
  go_loopw [3, 4] (fun u i wr => ∃ (j c : Nat), u = .int .i64 (c : Int) ∧ i = .int .i64 (j : Int) ∧ j ≤ n ∧ c ≤ 3221225473 ∧ Hid (j ≤ c) ∧ Below w.heap.size w wr) (fun _ i _ => n - (intOf i).toNat)
  case atStart => exact ⟨0, 0, rfl, rfl, Nat.zero_le _, by omega, Nat.le_refl _, Below.refl _ _⟩
  case round =>
    obtain ⟨j, c, rfl, rfl, hj, hc, HS2, hB⟩ := hrel
    have HB2 := aside hB
    clear hB
    by_cases hjl : (j : Int) < (n : Int)
    · have hj0 : (0 : Int) ≤ (j : Int) := by omega
      by_cases hle : (c : Int) < 1073741824
      · rcases HE.out.2.2 with h0 | ⟨b, off, rfl, -, -⟩
        · omega
        obtain ⟨t, ht⟩ : ∃ t, T j = t := ⟨_, rfl⟩
        have FV := aside (ents_five (HE.out.keep HB2.out) (by omega) ht)
        obtain ⟨c0, -, -, c3, -⟩ := FV.out
        clear ht
        go_wp2_with fail
        refine wp_region_held_drew (S := fun W => Below w.heap.size w W ∧ W.cell? ⟨b, off + j * 5, none⟩ = some (.string t.k) ∧ W.cell? ⟨b, off + j * 5 + 3, none⟩ = some (.string t.v)) (by kernel_rfl) (show _ from ⟨HB2.out.drew, by simpa using c0, by simpa using c3⟩) (fun hHeld => ?_)
        refine wpAnyH_take (i := 0) (v := ?_) rfl (by kernel_rfl) (by kernel_rfl) (by kernel_rfl) (fun _ _ _ h => h) (Or.inl ⟨by rfl, ?_⟩) (by assumption) ?_
        rotate_left
        · intro w hSw
          go_simp
          try with_reducible rfl
        simp only [Act.put, List.getElem_toArray, List.getElem_cons_zero, List.setIfInBounds_toArray, List.set_cons_zero, List.set_cons_succ]
        refine wpAnyH_take (i := 1) (v := ?_) rfl (by kernel_rfl) (by kernel_rfl) (by kernel_rfl) (fun _ _ _ h => h) (Or.inl ⟨by rfl, ?_⟩) (by assumption) ?_
        rotate_left
        · intro w hSw
          go_simp
          try with_reducible rfl
        simp only [Act.put, List.getElem_toArray, List.getElem_cons_zero, List.getElem_cons_succ, List.setIfInBounds_toArray, List.set_cons_zero, List.set_cons_succ]
        refine wpAnyH_take (i := 2) (v := ?_) rfl (by kernel_rfl) (by kernel_rfl) (by kernel_rfl) (fun _ _ _ h => h) (Or.inl ⟨by rfl, ?_⟩) (by assumption) ?_
        rotate_left
        · intro w hSw
          go_simp
          try with_reducible rfl
        simp only [Act.put, List.getElem_toArray, List.getElem_cons_zero, List.getElem_cons_succ, List.setIfInBounds_toArray, List.set_cons_zero, List.set_cons_succ]
        refine wpAnyH_take (i := 3) (v := ?_) rfl (by kernel_rfl) (by kernel_rfl) (by kernel_rfl) (fun _ _ _ h => h) (Or.inl ⟨by rfl, ?_⟩) (by assumption) ?_
        rotate_left
        · intro w hSw
          go_simp
          try with_reducible rfl
        simp only [Act.put, List.getElem_toArray, List.getElem_cons_zero, List.getElem_cons_succ, List.setIfInBounds_toArray, List.set_cons_zero, List.set_cons_succ]
        refine wpAnyH_take (i := 4) (v := ?_) rfl (by kernel_rfl) (by kernel_rfl) (by kernel_rfl) (fun _ _ _ h => h) (Or.inl ⟨by rfl, ?_⟩) (by assumption) ?_
        rotate_left
        · intro w hSw
          go_simp
          try with_reducible rfl
        simp only [Act.put, List.getElem_toArray, List.getElem_cons_zero, List.getElem_cons_succ, List.setIfInBounds_toArray, List.set_cons_zero, List.set_cons_succ]
        refine wpAnyH_take (i := 5) (v := ?_) rfl (by kernel_rfl) (by kernel_rfl) (by kernel_rfl) (fun _ _ _ h => h) (Or.inl ⟨by rfl, ?_⟩) (by assumption) ?_
        rotate_left
        · intro w hSw
          go_simp
          try with_reducible rfl
        simp only [Act.put, List.getElem_toArray, List.getElem_cons_zero, List.getElem_cons_succ, List.setIfInBounds_toArray, List.set_cons_zero, List.set_cons_succ]
        refine wpAnyH_take (i := 6) (v := ?_) rfl (by kernel_rfl) (by kernel_rfl) (by kernel_rfl) (fun _ _ _ h => h) (Or.inl ⟨by rfl, ?_⟩) (by assumption) ?_
        rotate_left
        · intro w hSw
          go_simp
          try with_reducible rfl
        simp only [Act.put, List.getElem_toArray, List.getElem_cons_zero, List.getElem_cons_succ, List.setIfInBounds_toArray, List.set_cons_zero, List.set_cons_succ]
        refine wpAnyH_take (i := 7) (v := ?_) rfl (by kernel_rfl) (by kernel_rfl) (by kernel_rfl) (fun _ _ _ h => h) (Or.inl ⟨by rfl, ?_⟩) (by assumption) ?_
        rotate_left
        · intro w hSw
          go_simp
          try with_reducible rfl
        simp only [Act.put, List.getElem_toArray, List.getElem_cons_zero, List.getElem_cons_succ, List.setIfInBounds_toArray, List.set_cons_zero, List.set_cons_succ]
        refine wpAnyH_take (i := 8) (v := ?_) rfl (by kernel_rfl) (by kernel_rfl) (by kernel_rfl) (fun _ _ _ h => h) (Or.inl ⟨by rfl, ?_⟩) (by assumption) ?_
        rotate_left
        · intro w hSw
          go_simp
          try with_reducible rfl
        simp only [Act.put, List.getElem_toArray, List.getElem_cons_zero, List.getElem_cons_succ, List.setIfInBounds_toArray, List.set_cons_zero, List.set_cons_succ]
        refine wpAnyH_take (i := 9) (v := ?_) rfl (by kernel_rfl) (by kernel_rfl) (by kernel_rfl) (fun _ _ _ h => h) (Or.inl ⟨by rfl, ?_⟩) (by assumption) ?_
        rotate_left
        · intro w hSw
          go_simp
          try with_reducible rfl
        simp only [Act.put, List.getElem_toArray, List.getElem_cons_zero, List.getElem_cons_succ, List.setIfInBounds_toArray, List.set_cons_zero, List.set_cons_succ]
        refine wpAnyH_take (i := 10) (v := ?_) rfl (by kernel_rfl) (by kernel_rfl) (by kernel_rfl) (fun _ _ _ h => h) (Or.inl ⟨by rfl, ?_⟩) (by assumption) ?_
        rotate_left
        · intro w hSw
          go_simp
          try with_reducible rfl
        simp only [Act.put, List.getElem_toArray, List.getElem_cons_zero, List.getElem_cons_succ, List.setIfInBounds_toArray, List.set_cons_zero, List.set_cons_succ]
        refine wpAnyH_take (i := 11) (v := ?_) rfl (by kernel_rfl) (by kernel_rfl) (by kernel_rfl) (fun _ _ _ h => h) (Or.inl ⟨by rfl, ?_⟩) (by assumption) ?_
        rotate_left
        · intro w hSw
          go_simp
          try with_reducible rfl
        simp only [Act.put, List.getElem_toArray, List.getElem_cons_zero, List.getElem_cons_succ, List.setIfInBounds_toArray, List.set_cons_zero, List.set_cons_succ]
        refine wpAnyH_take (i := 12) (v := ?_) rfl (by kernel_rfl) (by kernel_rfl) (by kernel_rfl) (fun _ _ _ h => h) (Or.inl ⟨by rfl, ?_⟩) (by assumption) ?_
        rotate_left
        · intro w hSw
          go_simp
          try with_reducible rfl
        simp only [Act.put, List.getElem_toArray, List.getElem_cons_zero, List.getElem_cons_succ, List.setIfInBounds_toArray, List.set_cons_zero, List.set_cons_succ]
        refine wpAnyH_take (i := 13) (v := ?_) rfl (by kernel_rfl) (by kernel_rfl) (by kernel_rfl) (fun _ _ _ h => h) (Or.inl ⟨by rfl, ?_⟩) (by assumption) ?_
        rotate_left
        · intro w hSw
          go_simp
          try with_reducible rfl
        simp only [Act.put, List.getElem_toArray, List.getElem_cons_zero, List.getElem_cons_succ, List.setIfInBounds_toArray, List.set_cons_zero, List.set_cons_succ]
        refine wpAnyH_take (i := 14) (v := ?_) rfl (by kernel_rfl) (by kernel_rfl) (by kernel_rfl) (fun _ _ _ h => h) (Or.inl ⟨by rfl, ?_⟩) (by assumption) ?_
        rotate_left
        · intro w hSw
          go_simp
          try with_reducible rfl
        simp only [Act.put, List.getElem_toArray, List.getElem_cons_zero, List.getElem_cons_succ, List.setIfInBounds_toArray, List.set_cons_zero, List.set_cons_succ]
        refine wpAnyH_take (i := 15) (v := ?_) rfl (by kernel_rfl) (by kernel_rfl) (by kernel_rfl) (fun _ _ _ h => h) (Or.inl ⟨by rfl, ?_⟩) (by assumption) ?_
        rotate_left
        · intro w hSw
          go_simp
          try with_reducible rfl
        simp only [Act.put, List.getElem_toArray, List.getElem_cons_zero, List.getElem_cons_succ, List.setIfInBounds_toArray, List.set_cons_zero, List.set_cons_succ]
        refine wpAnyH_take (i := 16) (v := ?_) rfl (by kernel_rfl) (by kernel_rfl) (by kernel_rfl) (fun _ _ _ h => h) (Or.inl ⟨by rfl, ?_⟩) (by assumption) ?_
        rotate_left
        · intro w hSw
          go_simp
          try with_reducible rfl
        simp only [Act.put, List.getElem_toArray, List.getElem_cons_zero, List.getElem_cons_succ, List.setIfInBounds_toArray, List.set_cons_zero, List.set_cons_succ]
        refine wpAnyH_take (i := 17) (v := ?_) rfl (by kernel_rfl) (by kernel_rfl) (by kernel_rfl) (fun _ _ _ h => h) (Or.inl ⟨by rfl, ?_⟩) (by assumption) ?_
        rotate_left
        · intro w hSw
          go_simp
          try with_reducible rfl
        simp only [Act.put, List.getElem_toArray, List.getElem_cons_zero, List.getElem_cons_succ, List.setIfInBounds_toArray, List.set_cons_zero, List.set_cons_succ]
        refine wpAnyH_take (i := 18) (v := ?_) rfl (by kernel_rfl) (by kernel_rfl) (by kernel_rfl) (fun _ _ _ h => h) (Or.inl ⟨by rfl, ?_⟩) (by assumption) ?_
        rotate_left
        · intro w hSw
          go_simp
          try with_reducible rfl
        simp only [Act.put, List.getElem_toArray, List.getElem_cons_zero, List.getElem_cons_succ, List.setIfInBounds_toArray, List.set_cons_zero, List.set_cons_succ]
        refine wpAnyH_done (by kernel_rfl) ?_ _
        go_wp2
        go_roundw
        case rel => exact ⟨j + 1, c + (1 + (min t.k.size 1073741824 + min t.v.size 1073741824)), by_step19 c t.k.size t.v.size (by omega), by first | rfl | go_num, by omega, by omega, by have := HS2.out; show j + 1 ≤ _; omega, by first | exact HB2.out.drew | exact HB2.out⟩
        case measure => simp [intOf] <;> omega
      · go_wp2
        go_ret
        exact ⟨c, rfl, hc, fun h => by omega, HB2.out⟩
    · obtain rfl : j = n := by omega
      go_wp2
      go_ret
      exact ⟨c, rfl, hc, fun h => HS2.out, HB2.out⟩
end Go.Proofs.YtfkdhambbpkmpaaDoor
