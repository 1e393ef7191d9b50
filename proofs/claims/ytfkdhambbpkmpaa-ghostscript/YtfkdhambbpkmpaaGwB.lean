/-
  lent, spoil and still of the law on ghosts.
-/
import Derived.Test.YtfkdhambbpkmpaaGvU
import Derived.Test.YtfkdhambbpkmpaaGhS
namespace Go.Proofs.Ytfkdhambbpkmpaa
open Go.RowKit
set_option linter.unusedVariables false

theorem row_frozenG {w : World} {B g n cap : Nat} {xs : List Value} (h : w.ownsRow B 31 5 (.slice (some ⟨g, 0, none⟩) n cap) n xs) (j : Nat) : w.frozen? ⟨g, j, none⟩ = false := by
  rcases h.2 with ⟨h1, _⟩ | ⟨g', cap', cur, h1, h2, h3, h4⟩
  · cases h1
  · injection h1 with e1 e2 e3
    injection e1 with e1
    injection e1 with e1
    subst e1
    exact frozen_of_row _ _ j _ _ h3
theorem Keeps.rowS {w wr w2 : World} {g g1 : Option Nat} (h1 : Keeps (fun k => g = some k) w wr) (fr : Fresh w g g1) (h2 : Keeps (fun k => g1 = some k) wr w2) : Keeps (fun k => g = some k) w w2 :=
  ⟨h2.os.trans h1.os, h2.tape.trans h1.tape, h2.output.trans h1.output, Nat.le_trans h1.size h2.size, fun k hk hs =>
    (h2.block k (Nat.lt_of_lt_of_le hk h1.size) (fun e => by
      rcases fr with rfl | ⟨j, rfl, hj⟩
      · exact hs e
      · cases e; omega)).trans (h1.block k hk hs)⟩

/-- An entry stored into a row turns the row's block alone. -/
theorem put_keeps (w : World) (g j : Nat) (u0 u1 u2 u3 u4 : Value) : Keeps (fun k => some g = some k) w (((((w.setCell ⟨g, j, none⟩ u0).setCell ⟨g, j + 1, none⟩ u1).setCell ⟨g, j + 2, none⟩ u2).setCell ⟨g, j + 3, none⟩ u3).setCell ⟨g, j + 4, none⟩ u4) :=
  (((((Keeps.refl (fun k => some g = some k) w).setCell (p := ⟨g, j, none⟩) (fun _ => rfl) u0).setCell (p := ⟨g, j + 1, none⟩) (fun _ => rfl) u1).setCell (p := ⟨g, j + 2, none⟩) (fun _ => rfl) u2).setCell (p := ⟨g, j + 3, none⟩) (fun _ => rfl) u3).setCell (p := ⟨g, j + 4, none⟩) (fun _ => rfl) u4

set_option maxHeartbeats 3200000 in
set_option maxRecDepth 100000 in
theorem spoil19_any (B n : Nat) (v : Value) (l0 : List En) (w : World) (hown0 : w.ownsRow B 31 5 v n (entCells l0)) (hB : B ≤ w.heap.size) (hn : n ≤ 4294967296) :
    Calls Try.prog 22 #[v] w fun e w' => e = .returned (.tuple #[]) ∧ Keeps (fun k => v.ownBlock = some k) w w' := by
  obtain ⟨va, vc, rfl, hvn, hvm, hform⟩ := own_slice hown0
  have HF := aside hform
  have HO0 := aside hown0
  have hnx : (n : Int) ≤ 4294967296 := by omega
  clear hown0 hform hvm
  go_enter Try.func22, Try.ntmps22
  go_wp2
  go_loopw [2] (fun i wr => ∃ (k : Nat) (l : List En), i = .int .i64 (k : Int) ∧ k ≤ n ∧ wr.ownsRow B 31 5 (.slice va n vc) n (entCells l) ∧ Keeps (fun j => (Value.slice va n vc).ownBlock = some j) w wr) (fun i _ => n - (intOf i).toNat)
  case atStart => exact ⟨0, l0, rfl, Nat.zero_le _, HO0.out, Keeps.refl _ _⟩
  case round =>
    obtain ⟨k, l, rfl, hk, hown, hkeep⟩ := hrel
    have HO := aside hown
    have HK := aside hkeep
    clear hown hkeep HO0
    by_cases hlt : (k : Int) < (n : Int)
    · have hk0 : (0 : Int) ≤ (k : Int) := by omega
      rcases HF.out with ⟨_, h0, _⟩ | ⟨g, rfl, hg⟩
      · omega
      have HLN := aside (show l.length = n from by have := HO.out.1; rw [entCells_length] at this; omega)
      obtain ⟨c0, c1, c2, c3, c4⟩ := row_cells HO.out (i := k) (by rw [HLN.out]; omega)
      have f0 := row_frozenG HO.out (k * 5)
      have f1 := row_frozenG HO.out (k * 5 + 1)
      have f2 := row_frozenG HO.out (k * 5 + 2)
      have f3 := row_frozenG HO.out (k * 5 + 3)
      have f4 := row_frozenG HO.out (k * 5 + 4)
      have HP := aside (own_put HO.out ⟨⟨#[115, 112, 111, 105, 108, 116]⟩, 0, 0, ⟨#[]⟩, false⟩ (j := k) (by rw [HLN.out]; omega))
      have HPK := aside (HK.out.trans (put_keeps wr g (k * 5) (.string ⟨#[115, 112, 111, 105, 108, 116]⟩) (.int .i64 0) (.int .i64 0) (.string ⟨#[]⟩) (.bool false)))
      go_wp2
      go_roundw
      case rel => exact ⟨k + 1, _, by go_num, by omega, HP.out, HPK.out⟩
      case measure => simp [intOf]; omega
    · go_wp2
      go_loopw [0, 3] (fun v' i wr' => ∃ (j m : Nat) (l : List En), i = .int .i64 (j : Int) ∧ j ≤ 5 ∧ m ≤ n + j ∧ wr'.ownsRow B 31 5 v' m (entCells l) ∧ Fresh w (Value.slice va n vc).ownBlock v'.ownBlock ∧ Keeps (fun j => (Value.slice va n vc).ownBlock = some j) w wr') (fun _ i _ => 5 - (intOf i).toNat)
      case atStart => exact ⟨0, n, l, rfl, by omega, by omega, HO.out, .inl rfl, HK.out⟩
      case round =>
        obtain ⟨j, m, l, rfl, hj, hm, hown, hfr, hkeep⟩ := hrel
        have HO2 := aside hown
        have HK2 := aside hkeep
        have HF2 := aside hfr
        have hsz := hkeep.size
        clear hown hkeep hfr
        by_cases hlt2 : (j : Int) < 5
        · go_wp2_with (at_builtin; go_loud (refine wpList_plain rfl fun K hK => op_append_ent_at _ _ rfl B m _ l (by rfl) (HO2.out.alloc _) wr.heap.size 1 ⟨⟨#[103, 114, 111, 119, 110]⟩, 0, 0, ⟨#[]⟩, false⟩ (by rfl) (heap_alloc_new wr _) (by omega) (by simp; omega) ?_); intro g1 cp1 w4 own4 gr4 at4; refine hK _ _ ?_; refine Hid.out ?_)
          refine aside ?_
          have O4 := aside own4
          have FR := aside (show Fresh w (Value.slice va n vc).ownBlock (some g1) from by
            rcases at4 with h | h
            · rcases HF2.out with e | ⟨q, e, hq⟩
              · exact .inl (by rw [← e, h])
              · exact .inr ⟨q, by rw [← h, e], hq⟩
            · exact .inr ⟨g1, rfl, by simp at h; omega⟩)
          have KK := aside (HK2.out.rowS HF2.out (((Keeps.refl _ wr).alloc _).grown gr4 (fun x hx _ => hx)))
          clear own4 gr4 at4
          go_wp2
          go_roundw
          case rel => exact ⟨j + 1, m + 1, _, by go_num, by omega, by omega, O4.out, FR.out, KK.out⟩
          case measure => simp [intOf]; omega
        · go_wp2
          go_end0
          exact ⟨rfl, HK2.out⟩
/-- What a spoilt row leaves: what was there below it. -/
theorem spoilt {w0 w w' : World} {v : Value} {n : Nat} {xs : List Value} (b : Below w0.heap.size w0 w) (h : w.ownsRow w0.heap.size 31 5 v n xs) (k : Keeps (fun k => v.ownBlock = some k) w w') : Below w0.heap.size w0 w' :=
  b.trans (k.below b.size (fun j hj e => by have := (h.lt j e).1; omega))

def mkE : En := ⟨⟨#[109, 97, 114, 107]⟩, 0, 0, ⟨#[]⟩, false⟩
def bhE : En := ⟨⟨#[98, 101, 104, 105, 110, 100]⟩, 0, 0, ⟨#[]⟩, false⟩
def twoM : Nat → En := fun i => if i = 0 then mkE else bhE
theorem two_in {w : World} {b : Nat} (h : w.heap[b]? = some (.cells #[.string ⟨#[109, 97, 114, 107]⟩, .int .i64 0, .int .i64 0, .string ⟨#[]⟩, .bool false, .string ⟨#[98, 101, 104, 105, 110, 100]⟩, .int .i64 0, .int .i64 0, .string ⟨#[]⟩, .bool false] 31 (0, 0))) : EntsIn w (some ⟨b, 0, none⟩) 2 2 twoM := by
  have c : ∀ r, w.cell? ⟨b, r, none⟩ = #[Value.string ⟨#[109, 97, 114, 107]⟩, .int .i64 0, .int .i64 0, .string ⟨#[]⟩, .bool false, .string ⟨#[98, 101, 104, 105, 110, 100]⟩, .int .i64 0, .int .i64 0, .string ⟨#[]⟩, .bool false][r]? := fun r => by
    rw [cell_of_row _ _ r _ _ _ h]
  refine ⟨Nat.le_refl _, by decide, .inr ⟨b, 0, rfl, lt_of_blk h, fun i hi => ?_⟩⟩
  match i, hi with
  | 0, _ => exact ⟨⟨c 0, c 1, c 2, c 3, c 4⟩, by decide⟩
  | 1, _ => exact ⟨⟨c 5, c 6, c 7, c 8, c 9⟩, by decide⟩
set_option maxHeartbeats 3200000 in
set_option maxRecDepth 100000 in
theorem lent19_any (a : Option Addr) (n c : Nat) (T : Nat → En) (w : World) (h : EntsIn w a n c T) (hf : (a = none ∧ n = 0 ∧ c = 0) ∨ ∃ y, a = some y) (hn : n ≤ 1073741824) :
    Calls Try.prog 19 #[.slice a n c] w fun e w' => ∃ g cp, e = .returned (.slice (some ⟨g, 0, none⟩) (n + 2) cp) ∧ w'.ownsRow w.heap.size 31 5 (.slice (some ⟨g, 0, none⟩) (n + 2) cp) (n + 2) (entCells (firstE T n ++ [mkE, bhE])) ∧ Below w.heap.size w w' := by
  have HT := aside h
  have HF := aside hf
  have HN := aside hn
  have BE := aside (bnew w (.cells #[] 31))
  have OE := aside (own_emptyE w w.heap.size (Nat.le_refl _))
  clear h hf hn
  go_enter Try.func19, Try.ntmps19
  go_wp2_with (at_builtin; go_loud (refine wpList_plain rfl fun K hK => op_append_entsG _ _ rfl w.heap.size 0 _ [] (by rfl) OE.out a n c n T (by rfl) (HT.out.keep BE.out) HF.out (by omega) (by have := HN.out; omega) BE.out.size ?_); intro a3 c3 w3 own3 gr3; refine hK _ _ ?_; refine Hid.out ?_)
  refine aside ?_
  have B3 := aside (BE.out.grown gr3 BE.out.size (fun k e => (OE.out.lt k e).1))
  have O3 := aside (show w3.ownsRow w.heap.size 31 5 (.slice a3 n c3) n (entCells (firstE T n)) from own3)
  clear own3 gr3 OE BE
  have BN := aside (bthen B3.out (bnew w3 (.cells #[.string ⟨#[109, 97, 114, 107]⟩, .int .i64 0, .int .i64 0, .string ⟨#[]⟩, .bool false, .string ⟨#[98, 101, 104, 105, 110, 100]⟩, .int .i64 0, .int .i64 0, .string ⟨#[]⟩, .bool false] 31)))
  have KN := aside (two_in (heap_alloc_new w3 (.cells #[.string ⟨#[109, 97, 114, 107]⟩, .int .i64 0, .int .i64 0, .string ⟨#[]⟩, .bool false, .string ⟨#[98, 101, 104, 105, 110, 100]⟩, .int .i64 0, .int .i64 0, .string ⟨#[]⟩, .bool false] 31)))
  have ON := aside (own_on O3.out (bnew w3 (.cells #[.string ⟨#[109, 97, 114, 107]⟩, .int .i64 0, .int .i64 0, .string ⟨#[]⟩, .bool false, .string ⟨#[98, 101, 104, 105, 110, 100]⟩, .int .i64 0, .int .i64 0, .string ⟨#[]⟩, .bool false] 31)))
  go_wp2_with (at_builtin; go_loud (refine wpList_plain rfl fun K hK => op_append_entsG _ _ rfl w.heap.size n _ (firstE T n) (by rfl) ON.out (some ⟨w3.heap.size, 0, none⟩) 2 2 (n + 2) twoM (by rfl) KN.out (.inr ⟨_, rfl⟩) rfl (by have := HN.out; omega) BN.out.size ?_); intro a4 c4 w4 own4 gr4; refine hK _ _ ?_; refine Hid.out ?_)
  refine aside ?_
  have B4 := aside (BN.out.grown gr4 BN.out.size (fun k e => (ON.out.lt k e).1))
  have O4 := aside (show w4.ownsRow w.heap.size 31 5 (.slice a4 (n + 2) c4) (n + 2) (entCells (firstE T n ++ [mkE, bhE])) from own4)
  have HA := aside (show ∃ g, a4 = some ⟨g, 0, none⟩ from by
    obtain ⟨a', c', e, -, -, ⟨-, h0, -⟩ | ⟨g, h1, -⟩⟩ := own_slice own4
    · omega
    · injection e with e1 _ e3
      exact ⟨g, by rw [e1, h1]⟩)
  clear own4 gr4 ON BN KN O3 B3
  obtain ⟨g, rfl⟩ := HA.out
  go_wp2
  go_ret
  exact ⟨_, _, rfl, O4.out, B4.out⟩
theorem keysOf {w : World} {b : Option Addr} {n c : Nat} {T : Nat → En} (h : EntsIn w b n c T) : KeysOk (firstE T n) := fun e he => by
  obtain ⟨i, hi, h2⟩ := List.getElem_of_mem he
  rw [firstE_len] at hi
  have h3 : (firstE T n)[i]? = some e := by rw [List.getElem?_eq_getElem (by rw [firstE_len]; exact hi), h2]
  rw [firstE_get T hi] at h3
  injection h3 with h3
  rcases h.2.2 with h0 | ⟨g, o, -, -, hc⟩
  · omega
  · rw [← h3]; exact (hc i hi).2
set_option maxHeartbeats 6400000 in
set_option maxRecDepth 100000 in
theorem still19_any (B g n cp : Nat) (b : Option Addr) (cb : Nat) (T : Nat → En) (w : World) (h : w.ownsRow B 31 5 (.slice (some ⟨g, 0, none⟩) (n + 2) cp) (n + 2) (entCells (firstE T n ++ [mkE, bhE]))) (hT : EntsIn w b n cb T) (hn : n ≤ 1073741824) :
    Calls Try.prog 21 #[.slice (some ⟨g, 0, none⟩) (n + 2) cp, .slice b n cb] w fun e w' => e = .returned (.bool true) ∧ Keeps (fun k => k = g) w w' := by
  have hl : (firstE T n ++ [mkE, bhE]).length = n + 2 := by simp [firstE_len]
  have hk : KeysOk (firstE T n ++ [mkE, bhE]) := fun e he => by
    rcases List.mem_append.1 he with h1 | h1
    · exact keysOf hT e h1
    · rcases List.mem_cons.1 h1 with h2 | h2
      · rw [h2]; decide
      · rw [List.mem_singleton.1 h2]; decide
  obtain ⟨hcp, hcm⟩ := row_max h
  have hX : EntsIn w (some ⟨g, 0, none⟩) n cp (nthE (firstE T n ++ [mkE, bhE])) := by
    have h1 := ents_of_row h hk (o := 0) (m := n) (c := cp) (by omega) (by omega) hcm (a := some ⟨g, 0, none⟩) (.inr (by simp))
    simpa using h1
  have hN : firstE (nthE (firstE T n ++ [mkE, bhE])) n = firstE T n := by
    refine List.ext_getElem? (fun i => ?_)
    by_cases hi : i < n
    · rw [firstE_get _ hi, firstE_get _ hi]
      have h1 := nthE_get (l := firstE T n ++ [mkE, bhE]) (i := i) (by omega)
      rw [List.getElem?_append_left (by rw [firstE_len]; exact hi), firstE_get _ hi] at h1
      rw [h1]
    · rw [List.getElem?_eq_none (by rw [firstE_len]; omega), List.getElem?_eq_none (by rw [firstE_len]; omega)]
  have CS := aside (same19_yes (some ⟨g, 0, none⟩) n cp (nthE (firstE T n ++ [mkE, bhE])) b n cb T w hX hT hN)
  have n0 : nthE (firstE T n ++ [mkE, bhE]) n = mkE := by
    have h1 := nthE_get (l := firstE T n ++ [mkE, bhE]) (i := n) (by omega)
    rw [List.getElem?_append_right (by rw [firstE_len]; omega), firstE_len, Nat.sub_self] at h1
    injection h1 with h1
    exact h1.symm
  have n1 : nthE (firstE T n ++ [mkE, bhE]) (n + 1) = bhE := by
    have h1 := nthE_get (l := firstE T n ++ [mkE, bhE]) (i := n + 1) (by omega)
    rw [List.getElem?_append_right (by rw [firstE_len]; omega), firstE_len, show n + 1 - n = 1 from by omega] at h1
    injection h1 with h1
    exact h1.symm
  have HO := aside h
  have r0 := (row_cells h (i := n) (by omega)).1
  have r1 := (row_cells h (i := n + 1) (by omega)).1
  rw [n0] at r0
  rw [n1] at r1
  obtain ⟨m, hm⟩ : ∃ m, n + 2 = m := ⟨_, rfl⟩
  have HM := aside hm
  rw [hm] at HO ⊢
  obtain ⟨l0, hl0⟩ : ∃ l, firstE T n ++ [mkE, bhE] = l := ⟨_, rfl⟩
  rw [hl0] at HO
  have hs1 : (m : Int) - 2 = (n : Int) := by omega
  have hmc : (m : Int) ≤ (cp : Int) := by omega
  have hcx : (cp : Int) ≤ 9223372036854775807 := by unfold maxLen at hcm; omega
  have hn0 : (0 : Int) ≤ (n : Int) := by omega
  have hnc : (n : Int) ≤ (cp : Int) := by omega
  have hnm : (n : Int) < (m : Int) := by omega
  have hnm1 : (n : Int) + 1 < (m : Int) := by omega
  have hmb : (m : Int) ≤ 1073741826 := by omega
  unfold mkE at r0
  unfold bhE at r1
  dsimp only at r0 r1
  clear h hT hl hk hX hN n0 n1 hl0 hm
  go_enter Try.func21, Try.ntmps21
  go_wp2_with fail
  refine CS.out.mono ?_
  rintro r w2 ⟨rfl, b2⟩
  have B2 := aside b2
  have O2 := aside (own_on HO.out b2)
  replace r0 := cell_in r0 b2
  replace r1 := cell_in r1 b2
  clear b2 CS HO
  go_wp2_with fail
  clear r0 r1
  go_loopw [7] (fun i wr => ∃ (k : Nat) (l : List En), i = .int .i64 (k : Int) ∧ k ≤ m ∧ wr.ownsRow B 31 5 (.slice (some ⟨g, 0, none⟩) m cp) m (entCells l) ∧ Keeps (fun j => j = g) w wr) (fun i _ => m - (intOf i).toNat)
  case atStart => exact ⟨0, l0, rfl, Nat.zero_le _, O2.out, Keeps.of_below B2.out _⟩
  case round =>
    obtain ⟨k, l, rfl, hk, hown, hkeep⟩ := hrel
    have HO := aside hown
    have HK := aside hkeep
    clear hown hkeep O2
    by_cases hlt : (k : Int) < (m : Int)
    · have hk0 : (0 : Int) ≤ (k : Int) := by omega
      have HLN := aside (show l.length = m from by have := HO.out.1; rw [entCells_length] at this; omega)
      obtain ⟨c0, c1, c2, c3, c4⟩ := row_cells HO.out (i := k) (by rw [HLN.out]; omega)
      have f0 := row_frozenG HO.out (k * 5)
      have f1 := row_frozenG HO.out (k * 5 + 1)
      have f2 := row_frozenG HO.out (k * 5 + 2)
      have f3 := row_frozenG HO.out (k * 5 + 3)
      have f4 := row_frozenG HO.out (k * 5 + 4)
      have HP := aside (own_put HO.out ⟨⟨#[115, 112, 111, 105, 108, 116]⟩, 0, 0, ⟨#[]⟩, false⟩ (j := k) (by rw [HLN.out]; omega))
      have HPK := aside (HK.out.trans ((put_keeps wr g (k * 5) (.string ⟨#[115, 112, 111, 105, 108, 116]⟩) (.int .i64 0) (.int .i64 0) (.string ⟨#[]⟩) (.bool false)).mono (S' := fun j => j = g) (fun j _ h9 => by injection h9 with h9; exact h9.symm)))
      go_wp2
      go_roundw
      case rel => exact ⟨k + 1, _, by go_num, by omega, HP.out, HPK.out⟩
      case measure => simp [intOf] <;> omega
    · go_wp2
      go_ret
      exact ⟨rfl, HK.out⟩
end Go.Proofs.Ytfkdhambbpkmpaa
