/-
  still of the law on ghosts.
-/
import Derived.Test.YtfkdhambbpkmpaaGvV
namespace Go.Proofs.Ytfkdhambbpkmpaa
open Go.RowKit
set_option linter.unusedVariables false

theorem keysOf {w : World} {b : Option Addr} {n c : Nat} {T : Nat → En} (h : EntsIn w b n c T) : KeysOk (firstE T n) := fun e he => by
  obtain ⟨i, hi, h2⟩ := List.getElem_of_mem he
  rw [firstE_len] at hi
  have h3 : (firstE T n)[i]? = some e := by rw [List.getElem?_eq_getElem (by rw [firstE_len]; exact hi), h2]
  rw [firstE_get T hi] at h3
  injection h3 with h3
  rcases h.2.2 with h0 | ⟨g, o, -, -, hc⟩
  · omega
  · rw [← h3]; exact (hc i hi).2
set_option maxHeartbeats 6400000 in
set_option maxRecDepth 100000 in
theorem still19_any (B g n cp : Nat) (b : Option Addr) (cb : Nat) (T : Nat → En) (w : World) (h : w.ownsRow B 31 5 (.slice (some ⟨g, 0, none⟩) (n + 2) cp) (n + 2) (entCells (firstE T n ++ [mkE, bhE]))) (hT : EntsIn w b n cb T) (hn : n ≤ 1073741824) :
    Calls Try.prog 21 #[.slice (some ⟨g, 0, none⟩) (n + 2) cp, .slice b n cb] w fun e w' => e = .returned (.bool true) ∧ Keeps (fun k => k = g) w w' := by
  have hl : (firstE T n ++ [mkE, bhE]).length = n + 2 := by simp [firstE_len]
  have hk : KeysOk (firstE T n ++ [mkE, bhE]) := fun e he => by
    rcases List.mem_append.1 he with h1 | h1
    · exact keysOf hT e h1
    · rcases List.mem_cons.1 h1 with h2 | h2
      · rw [h2]; decide
      · rw [List.mem_singleton.1 h2]; decide
  obtain ⟨hcp, hcm⟩ := row_max h
  have hX : EntsIn w (some ⟨g, 0, none⟩) n cp (nthE (firstE T n ++ [mkE, bhE])) := by
    have h1 := ents_of_row h hk (o := 0) (m := n) (c := cp) (by omega) (by omega) hcm (a := some ⟨g, 0, none⟩) (.inr (by simp))
    simpa using h1
  have hN : firstE (nthE (firstE T n ++ [mkE, bhE])) n = firstE T n := by
    refine List.ext_getElem? (fun i => ?_)
    by_cases hi : i < n
    · rw [firstE_get _ hi, firstE_get _ hi]
      have h1 := nthE_get (l := firstE T n ++ [mkE, bhE]) (i := i) (by omega)
      rw [List.getElem?_append_left (by rw [firstE_len]; exact hi), firstE_get _ hi] at h1
      rw [h1]
    · rw [List.getElem?_eq_none (by rw [firstE_len]; omega), List.getElem?_eq_none (by rw [firstE_len]; omega)]
  have CS := aside (same19_yes (some ⟨g, 0, none⟩) n cp (nthE (firstE T n ++ [mkE, bhE])) b n cb T w hX hT hN)
  have n0 : nthE (firstE T n ++ [mkE, bhE]) n = mkE := by
    have h1 := nthE_get (l := firstE T n ++ [mkE, bhE]) (i := n) (by omega)
    rw [List.getElem?_append_right (by rw [firstE_len]; omega), firstE_len, Nat.sub_self] at h1
    injection h1 with h1
    exact h1.symm
  have n1 : nthE (firstE T n ++ [mkE, bhE]) (n + 1) = bhE := by
    have h1 := nthE_get (l := firstE T n ++ [mkE, bhE]) (i := n + 1) (by omega)
    rw [List.getElem?_append_right (by rw [firstE_len]; omega), firstE_len, show n + 1 - n = 1 from by omega] at h1
    injection h1 with h1
    exact h1.symm
  have HO := aside h
  have r0 := (row_cells h (i := n) (by omega)).1
  have r1 := (row_cells h (i := n + 1) (by omega)).1
  rw [n0] at r0
  rw [n1] at r1
  obtain ⟨m, hm⟩ : ∃ m, n + 2 = m := ⟨_, rfl⟩
  have HM := aside hm
  rw [hm] at HO ⊢
  obtain ⟨l0, hl0⟩ : ∃ l, firstE T n ++ [mkE, bhE] = l := ⟨_, rfl⟩
  rw [hl0] at HO
  have hs1 : (m : Int) - 2 = (n : Int) := by omega
  have hmc : (m : Int) ≤ (cp : Int) := by omega
  have hcx : (cp : Int) ≤ 9223372036854775807 := by unfold maxLen at hcm; omega
  have hn0 : (0 : Int) ≤ (n : Int) := by omega
  have hnc : (n : Int) ≤ (cp : Int) := by omega
  have hnm : (n : Int) < (m : Int) := by omega
  have hnm1 : (n : Int) + 1 < (m : Int) := by omega
  have hmb : (m : Int) ≤ 1073741826 := by omega
  unfold mkE at r0
  unfold bhE at r1
  dsimp only at r0 r1
  clear h hT hl hk hX hN n0 n1 hl0 hm
  go_enter Try.func21, Try.ntmps21
  go_wp2_with fail
  refine CS.out.mono ?_
  rintro r w2 ⟨rfl, b2⟩
  have B2 := aside b2
  have O2 := aside (own_on HO.out b2)
  replace r0 := cell_in r0 b2
  replace r1 := cell_in r1 b2
  clear b2 CS HO
  go_wp2_with fail
  clear r0 r1
  go_loopw [7] (fun i wr => ∃ (k : Nat) (l : List En), i = .int .i64 (k : Int) ∧ k ≤ m ∧ wr.ownsRow B 31 5 (.slice (some ⟨g, 0, none⟩) m cp) m (entCells l) ∧ Keeps (fun j => j = g) w wr) (fun i _ => m - (intOf i).toNat)
  case atStart => exact ⟨0, l0, rfl, Nat.zero_le _, O2.out, Keeps.of_below B2.out _⟩
  case round =>
    obtain ⟨k, l, rfl, hk, hown, hkeep⟩ := hrel
    have HO := aside hown
    have HK := aside hkeep
    clear hown hkeep O2
    by_cases hlt : (k : Int) < (m : Int)
    · have hk0 : (0 : Int) ≤ (k : Int) := by omega
      have HLN := aside (show l.length = m from by have := HO.out.1; rw [entCells_length] at this; omega)
      obtain ⟨c0, c1, c2, c3, c4⟩ := row_cells HO.out (i := k) (by rw [HLN.out]; omega)
      have f0 := row_frozenG HO.out (k * 5)
      have f1 := row_frozenG HO.out (k * 5 + 1)
      have f2 := row_frozenG HO.out (k * 5 + 2)
      have f3 := row_frozenG HO.out (k * 5 + 3)
      have f4 := row_frozenG HO.out (k * 5 + 4)
      have HP := aside (own_put HO.out ⟨⟨#[115, 112, 111, 105, 108, 116]⟩, 0, 0, ⟨#[]⟩, false⟩ (j := k) (by rw [HLN.out]; omega))
      have HPK := aside (HK.out.trans ((put_keeps wr g (k * 5) (.string ⟨#[115, 112, 111, 105, 108, 116]⟩) (.int .i64 0) (.int .i64 0) (.string ⟨#[]⟩) (.bool false)).mono (S' := fun j => j = g) (fun j _ h9 => by injection h9 with h9; exact h9.symm)))
      go_wp2
      go_roundw
      case rel => exact ⟨k + 1, _, by go_num, by omega, HP.out, HPK.out⟩
      case measure => simp [intOf] <;> omega
    · go_wp2
      go_ret
      exact ⟨rfl, HK.out⟩
end Go.Proofs.Ytfkdhambbpkmpaa
