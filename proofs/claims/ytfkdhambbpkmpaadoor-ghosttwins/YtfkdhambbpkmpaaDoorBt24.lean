/-
  Lists that are lent, with two marks behind them, and looked at when they come back.
-/
import Derived.Test.YtfkdhambbpkmpaaDoorBt23
import Derived.Test.YtfkdhambbpkmpaaDoorBt9
import Derived.Deep.CutBlock
import Derived.Deep.DeepCutAuto
namespace Go.Proofs.YtfkdhambbpkmpaaDoor
open Go.RowKit
set_option linter.unusedVariables false
theorem op_append_entsG {w : World} {o : Oper} {act : Act} {K : Act → World → Prop} {Q : Exit → Act → World → Prop} (s x : Operand)
    (ho : o.op = .call { callee := .builtin .append, args := #[s, x], argTypes := #[22, 22] })
    (B n : Nat) (v : Value) (A : List En) (hs : act.eval s = v) (hown : w.ownsRow B 55 5 v n (entCells A)) (a : Option Addr) (len cap m : Nat) (T : Nat → En) (hx : act.eval x = .slice a len cap) (hE : EntsIn w a len cap T)
    (hform : (a = none ∧ len = 0 ∧ cap = 0) ∨ ∃ y, a = some y) (hm : n + len = m) (hlen : m * 56 ≤ 140737488351232) (hB : B ≤ w.heap.size)
    (h : ∀ a' c' w', w'.ownsRow B 55 5 (.slice a' m c') m (entCells (A ++ firstE T len)) → w.grownBy w' v.ownBlock → K (act.put o.dst (.slice a' m c')) w') : o.wp Tryd.prog act w K Q := by
  obtain ⟨i0, hi, hz0, hz1, hz2⟩ := info_parts infoEnt
  subst hm
  rcases hform with ⟨rfl, rfl, rfl⟩ | ⟨y, rfl⟩
  · have hrun := run_append_owned_none (P := Tryd.prog) (w := w) B 22 o.type 55 i0 5 Tryd.underlying22 hi _ _ _ hown
    obtain ⟨a', c', rfl, -⟩ := own_slice hown
    have h0 : K (act.put o.dst (.slice a' n c')) w := by simpa using h a' c' w (by simpa [firstE] using hown) ⟨rfl, rfl, rfl, Nat.le_refl _, fun _ _ _ => rfl⟩
    unfold Oper.wp
    simp [execOp, ho, resolve, invoke, builtin, hs, hx, hrun, Result.andThen]
    exact h0
  · refine wp_append_own w s x _ ho B 55 i0 _ 5 56 Tryd.underlying22 hi hz0 hz1 hz2 rfl (by decide) _ _ _ hs hown y len cap (entCells (firstE T len)) hx (by rw [entCells_length, firstE_len]) (ents_cells hE) (entCells_one _) (by unfold maxLen; omega) (by omega) hB ?_
    intro v' w' ho' hg _
    rw [← entCells_append] at ho'
    obtain ⟨a', c', rfl, -⟩ := own_slice ho'
    exact h a' c' w' ho' hg
theorem row_frozenG {w : World} {B g n cap : Nat} {xs : List Value} (h : w.ownsRow B 55 5 (.slice (some ⟨g, 0, none⟩) n cap) n xs) (j : Nat) : w.frozen? ⟨g, j, none⟩ = false := by
  rcases h.2 with ⟨h1, _⟩ | ⟨g', cap', cur, h1, h2, h3, h4⟩
  · cases h1
  · injection h1 with e1 e2 e3
    injection e1 with e1
    injection e1 with e1
    subst e1
    exact frozen_of_row _ _ j _ _ h3
/-- An entry stored into a row turns the row's block alone. -/
theorem put_keeps (w : World) (g j : Nat) (u0 u1 u2 u3 u4 : Value) : Keeps (fun k => some g = some k) w (((((w.setCell ⟨g, j, none⟩ u0).setCell ⟨g, j + 1, none⟩ u1).setCell ⟨g, j + 2, none⟩ u2).setCell ⟨g, j + 3, none⟩ u3).setCell ⟨g, j + 4, none⟩ u4) :=
  (((((Keeps.refl (fun k => some g = some k) w).setCell (p := ⟨g, j, none⟩) (fun _ => rfl) u0).setCell (p := ⟨g, j + 1, none⟩) (fun _ => rfl) u1).setCell (p := ⟨g, j + 2, none⟩) (fun _ => rfl) u2).setCell (p := ⟨g, j + 3, none⟩) (fun _ => rfl) u3).setCell (p := ⟨g, j + 4, none⟩) (fun _ => rfl) u4
def mkE : En := ⟨⟨#[109, 97, 114, 107]⟩, 0, 0, ⟨#[]⟩, false⟩
def bhE : En := ⟨⟨#[98, 101, 104, 105, 110, 100]⟩, 0, 0, ⟨#[]⟩, false⟩
def twoM : Nat → En := fun i => if i = 0 then mkE else bhE
theorem two_in {w : World} {b : Nat} (h : w.heap[b]? = some (.cells #[.string ⟨#[109, 97, 114, 107]⟩, .int .i64 0, .int .i64 0, .string ⟨#[]⟩, .bool false, .string ⟨#[98, 101, 104, 105, 110, 100]⟩, .int .i64 0, .int .i64 0, .string ⟨#[]⟩, .bool false] 55 (0, 0))) : EntsIn w (some ⟨b, 0, none⟩) 2 2 twoM := by
  have c : ∀ r, w.cell? ⟨b, r, none⟩ = #[Value.string ⟨#[109, 97, 114, 107]⟩, .int .i64 0, .int .i64 0, .string ⟨#[]⟩, .bool false, .string ⟨#[98, 101, 104, 105, 110, 100]⟩, .int .i64 0, .int .i64 0, .string ⟨#[]⟩, .bool false][r]? := fun r => by
    rw [cell_of_row _ _ r _ _ _ h]
  refine ⟨Nat.le_refl _, by decide, .inr ⟨b, 0, rfl, lt_of_blk h, fun i hi => ?_⟩⟩
  match i, hi with
  | 0, _ => exact ⟨⟨c 0, c 1, c 2, c 3, c 4⟩, by decide⟩
  | 1, _ => exact ⟨⟨c 5, c 6, c 7, c 8, c 9⟩, by decide⟩
set_option maxHeartbeats 3200000 in
set_option maxRecDepth 100000 in
theorem lent19_any (a : Option Addr) (n c : Nat) (T : Nat → En) (w : World) (h : EntsIn w a n c T) (hf : (a = none ∧ n = 0 ∧ c = 0) ∨ ∃ y, a = some y) (hn : n ≤ 1073741824) :
    Calls Tryd.prog 7 #[.slice a n c] w fun e w' => ∃ g cp, e = .returned (.slice (some ⟨g, 0, none⟩) (n + 2) cp) ∧ w'.ownsRow w.heap.size 55 5 (.slice (some ⟨g, 0, none⟩) (n + 2) cp) (n + 2) (entCells (firstE T n ++ [mkE, bhE])) ∧ Below w.heap.size w w' := by
  have HT := aside h
  have HF := aside hf
  have HN := aside hn
  have BE := aside (bnew w (.cells #[] 55))
  have OE := aside (own_emptyE w w.heap.size (Nat.le_refl _))
  clear h hf hn
  go_enter Tryd.func7, Tryd.ntmps7
  go_wp2_with (at_builtin; go_loud (refine wpList_plain rfl fun K hK => op_append_entsG _ _ rfl w.heap.size 0 _ [] (by rfl) OE.out a n c n T (by rfl) (HT.out.keep BE.out) HF.out (by omega) (by have := HN.out; omega) BE.out.size ?_); intro a3 c3 w3 own3 gr3; refine hK _ _ ?_; refine Hid.out ?_)
  refine aside ?_
  have B3 := aside (BE.out.grown gr3 BE.out.size (fun k e => (OE.out.lt k e).1))
  have O3 := aside (show w3.ownsRow w.heap.size 55 5 (.slice a3 n c3) n (entCells (firstE T n)) from own3)
  clear own3 gr3 OE BE
  have BN := aside (bthen B3.out (bnew w3 (.cells #[.string ⟨#[109, 97, 114, 107]⟩, .int .i64 0, .int .i64 0, .string ⟨#[]⟩, .bool false, .string ⟨#[98, 101, 104, 105, 110, 100]⟩, .int .i64 0, .int .i64 0, .string ⟨#[]⟩, .bool false] 55)))
  have KN := aside (two_in (heap_alloc_new w3 (.cells #[.string ⟨#[109, 97, 114, 107]⟩, .int .i64 0, .int .i64 0, .string ⟨#[]⟩, .bool false, .string ⟨#[98, 101, 104, 105, 110, 100]⟩, .int .i64 0, .int .i64 0, .string ⟨#[]⟩, .bool false] 55)))
  have ON := aside (own_on O3.out (bnew w3 (.cells #[.string ⟨#[109, 97, 114, 107]⟩, .int .i64 0, .int .i64 0, .string ⟨#[]⟩, .bool false, .string ⟨#[98, 101, 104, 105, 110, 100]⟩, .int .i64 0, .int .i64 0, .string ⟨#[]⟩, .bool false] 55)))
  go_wp2_with (at_builtin; go_loud (refine wpList_plain rfl fun K hK => op_append_entsG _ _ rfl w.heap.size n _ (firstE T n) (by rfl) ON.out (some ⟨w3.heap.size, 0, none⟩) 2 2 (n + 2) twoM (by rfl) KN.out (.inr ⟨_, rfl⟩) rfl (by have := HN.out; omega) BN.out.size ?_); intro a4 c4 w4 own4 gr4; refine hK _ _ ?_; refine Hid.out ?_)
  refine aside ?_
  have B4 := aside (BN.out.grown gr4 BN.out.size (fun k e => (ON.out.lt k e).1))
  have O4 := aside (show w4.ownsRow w.heap.size 55 5 (.slice a4 (n + 2) c4) (n + 2) (entCells (firstE T n ++ [mkE, bhE])) from own4)
  have HA := aside (show ∃ g, a4 = some ⟨g, 0, none⟩ from by
    obtain ⟨a', c', e, -, -, ⟨-, h0, -⟩ | ⟨g, h1, -⟩⟩ := own_slice own4
    · omega
    · injection e with e1 _ e3
      exact ⟨g, by rw [e1, h1]⟩)
  clear own4 gr4 ON BN KN O3 B3
  obtain ⟨g, rfl⟩ := HA.out
  go_wp2
  go_ret
  exact ⟨_, _, rfl, O4.out, B4.out⟩
theorem keysOf {w : World} {b : Option Addr} {n c : Nat} {T : Nat → En} (h : EntsIn w b n c T) : KeysOk (firstE T n) := fun e he => by
  obtain ⟨i, hi, h2⟩ := List.getElem_of_mem he
  rw [firstE_len] at hi
  have h3 : (firstE T n)[i]? = some e := by rw [List.getElem?_eq_getElem (by rw [firstE_len]; exact hi), h2]
  rw [firstE_get T hi] at h3
  injection h3 with h3
  rcases h.2.2 with h0 | ⟨g, o, -, -, hc⟩
  · omega
  · rw [← h3]; exact (hc i hi).2
set_option maxHeartbeats 6400000 in
set_option maxRecDepth 100000 in
theorem still19_any (B g n cp : Nat) (b : Option Addr) (cb : Nat) (T : Nat → En) (w : World) (h : w.ownsRow B 55 5 (.slice (some ⟨g, 0, none⟩) (n + 2) cp) (n + 2) (entCells (firstE T n ++ [mkE, bhE]))) (hT : EntsIn w b n cb T) (hn : n ≤ 1073741824) :
    Calls Tryd.prog 10 #[.slice (some ⟨g, 0, none⟩) (n + 2) cp, .slice b n cb] w fun e w' => e = .returned (.bool true) ∧ Keeps (fun k => k = g) w w' := by
  have hl : (firstE T n ++ [mkE, bhE]).length = n + 2 := by simp [firstE_len]
  have hk : KeysOk (firstE T n ++ [mkE, bhE]) := fun e he => by
    rcases List.mem_append.1 he with h1 | h1
    · exact keysOf hT e h1
    · rcases List.mem_cons.1 h1 with h2 | h2
      · rw [h2]; decide
      · rw [List.mem_singleton.1 h2]; decide
  obtain ⟨hcp, hcm⟩ := row_max h
  have hX : EntsIn w (some ⟨g, 0, none⟩) n cp (nthE (firstE T n ++ [mkE, bhE])) := by
    have h1 := ents_of_row h hk (o := 0) (m := n) (c := cp) (by omega) (by omega) hcm (a := some ⟨g, 0, none⟩) (.inr (by simp))
    simpa using h1
  have hN : firstE (nthE (firstE T n ++ [mkE, bhE])) n = firstE T n := by
    refine List.ext_getElem? (fun i => ?_)
    by_cases hi : i < n
    · rw [firstE_get _ hi, firstE_get _ hi]
      have h1 := nthE_get (l := firstE T n ++ [mkE, bhE]) (i := i) (by omega)
      rw [List.getElem?_append_left (by rw [firstE_len]; exact hi), firstE_get _ hi] at h1
      rw [h1]
    · rw [List.getElem?_eq_none (by rw [firstE_len]; omega), List.getElem?_eq_none (by rw [firstE_len]; omega)]
  have CS := aside (same19_yes (some ⟨g, 0, none⟩) n cp (nthE (firstE T n ++ [mkE, bhE])) b n cb T w hX hT hN)
  have n0 : nthE (firstE T n ++ [mkE, bhE]) n = mkE := by
    have h1 := nthE_get (l := firstE T n ++ [mkE, bhE]) (i := n) (by omega)
    rw [List.getElem?_append_right (by rw [firstE_len]; omega), firstE_len, Nat.sub_self] at h1
    injection h1 with h1
    exact h1.symm
  have n1 : nthE (firstE T n ++ [mkE, bhE]) (n + 1) = bhE := by
    have h1 := nthE_get (l := firstE T n ++ [mkE, bhE]) (i := n + 1) (by omega)
    rw [List.getElem?_append_right (by rw [firstE_len]; omega), firstE_len, show n + 1 - n = 1 from by omega] at h1
    injection h1 with h1
    exact h1.symm
  have HO := aside h
  have r0 := (row_cells h (i := n) (by omega)).1
  have r1 := (row_cells h (i := n + 1) (by omega)).1
  rw [n0] at r0
  rw [n1] at r1
  obtain ⟨m, hm⟩ : ∃ m, n + 2 = m := ⟨_, rfl⟩
  have HM := aside hm
  rw [hm] at HO ⊢
  obtain ⟨l0, hl0⟩ : ∃ l, firstE T n ++ [mkE, bhE] = l := ⟨_, rfl⟩
  rw [hl0] at HO
  have hs1 : (m : Int) - 2 = (n : Int) := by omega
  have hmc : (m : Int) ≤ (cp : Int) := by omega
  have hcx : (cp : Int) ≤ 9223372036854775807 := by unfold maxLen at hcm; omega
  have hn0 : (0 : Int) ≤ (n : Int) := by omega
  have hnc : (n : Int) ≤ (cp : Int) := by omega
  have hnm : (n : Int) < (m : Int) := by omega
  have hnm1 : (n : Int) + 1 < (m : Int) := by omega
  have hmb : (m : Int) ≤ 1073741826 := by omega
  unfold mkE at r0
  unfold bhE at r1
  dsimp only at r0 r1
  clear h hT hl hk hX hN n0 n1 hl0 hm
  go_enter Tryd.func10, Tryd.ntmps10
  go_wp2_with fail
  refine CS.out.mono ?_
  rintro r w2 ⟨rfl, b2⟩
  have B2 := aside b2
  have O2 := aside (own_on HO.out b2)
  replace r0 := cell_in r0 b2
  replace r1 := cell_in r1 b2
  clear b2 CS HO
  go_wp2_with fail
  clear r0 r1
  go_loopw [7] (fun i wr => ∃ (k : Nat) (l : List En), i = .int .i64 (k : Int) ∧ k ≤ m ∧ wr.ownsRow B 55 5 (.slice (some ⟨g, 0, none⟩) m cp) m (entCells l) ∧ Keeps (fun j => j = g) w wr) (fun i _ => m - (intOf i).toNat)
  case atStart => exact ⟨0, l0, rfl, Nat.zero_le _, O2.out, Keeps.of_below B2.out _⟩
  case round =>
    obtain ⟨k, l, rfl, hk, hown, hkeep⟩ := hrel
    have HO := aside hown
    have HK := aside hkeep
    clear hown hkeep O2
    by_cases hlt : (k : Int) < (m : Int)
    · have hk0 : (0 : Int) ≤ (k : Int) := by omega
      have HLN := aside (show l.length = m from by have := HO.out.1; rw [entCells_length] at this; omega)
      obtain ⟨c0, c1, c2, c3, c4⟩ := row_cells HO.out (i := k) (by rw [HLN.out]; omega)
      have f0 := row_frozenG HO.out (k * 5)
      have f1 := row_frozenG HO.out (k * 5 + 1)
      have f2 := row_frozenG HO.out (k * 5 + 2)
      have f3 := row_frozenG HO.out (k * 5 + 3)
      have f4 := row_frozenG HO.out (k * 5 + 4)
      have HP := aside (own_put HO.out ⟨⟨#[115, 112, 111, 105, 108, 116]⟩, 0, 0, ⟨#[]⟩, false⟩ (j := k) (by rw [HLN.out]; omega))
      have HPK := aside (HK.out.trans ((put_keeps wr g (k * 5) (.string ⟨#[115, 112, 111, 105, 108, 116]⟩) (.int .i64 0) (.int .i64 0) (.string ⟨#[]⟩) (.bool false)).mono (S' := fun j => j = g) (fun j _ h9 => by injection h9 with h9; exact h9.symm)))
      go_wp2
      go_roundw
      case rel => exact ⟨k + 1, _, by go_num, by omega, HP.out, HPK.out⟩
      case measure => simp [intOf] <;> omega
    · go_wp2
      go_ret
      exact ⟨rfl, HK.out⟩
theorem entsIn_congr {w : World} {a : Option Addr} {n c : Nat} {A T : Nat → En} (h : EntsIn w a n c A) (e : ∀ i, i < n → A i = T i) : EntsIn w a n c T := by
  obtain ⟨h1, h2, h3⟩ := h
  refine ⟨h1, h2, ?_⟩
  rcases h3 with h3 | ⟨b, o, h4, h5, h6⟩
  · exact .inl h3
  · exact .inr ⟨b, o, h4, h5, fun i hi => by rw [← e i hi]; exact h6 i hi⟩
theorem lent_front {w : World} {B g n cp c : Nat} {b : Option Addr} {T : Nat → En} (h : w.ownsRow B 55 5 (.slice (some ⟨g, 0, none⟩) (n + 2) cp) (n + 2) (entCells (firstE T n ++ [mkE, bhE]))) (hT : EntsIn w b n c T) : EntsIn w (some ⟨g, 0, none⟩) n cp T := by
  have hl : (firstE T n ++ [mkE, bhE]).length = n + 2 := by simp [firstE_len]
  have hk : KeysOk (firstE T n ++ [mkE, bhE]) := fun e he => by
    rcases List.mem_append.1 he with h1 | h1
    · exact keysOf hT e h1
    · rcases List.mem_cons.1 h1 with h2 | h2
      · rw [h2]; decide
      · rw [List.mem_singleton.1 h2]; decide
  obtain ⟨hcp, hcm⟩ := row_max h
  have h1 := ents_of_row h hk (o := 0) (m := n) (c := cp) (by omega) (by omega) hcm (a := some ⟨g, 0, none⟩) (.inr (by simp))
  refine entsIn_congr h1 (fun i hi => ?_)
  rw [Nat.zero_add]
  have h2 := nthE_get (l := firstE T n ++ [mkE, bhE]) (i := i) (by omega)
  rw [List.getElem?_append_left (by rw [firstE_len]; exact hi), firstE_get _ hi] at h2
  injection h2 with h2
  exact h2.symm
theorem own_keepG {w w' : World} {S : Nat → Prop} {B : Nat} {e : TypeId} {s : Nat} {v : Value} {n : Nat} {xs : List Value} (h : w.ownsRow B e s v n xs) (k : Keeps S w w') (hn : ∀ j, v.ownBlock = some j → ¬ S j) : w'.ownsRow B e s v n xs := by
  refine ⟨h.1, ?_⟩
  rcases h.2 with h5 | ⟨g2, cap, cur, e1, e2, e3, e4⟩
  · exact .inl h5
  · exact .inr ⟨g2, cap, cur, e1, e2, blk_keep e3 k (hn g2 (by rw [e1]; rfl)), e4⟩
set_option maxHeartbeats 1600000 in
theorem rg_neG (lo hi : ByteArray) (op : Bool) (w : World) : (binOp .neq 26 (.agg #[.string lo, .string hi, .bool op]) (.agg #[.string lo, .string hi, .bool op])).run Tryd.prog w = .ok (.bool false) w := by
  have key : ∀ (lo' hi' : ByteArray) (op' : Bool), (binOp .neq 26 (.agg #[.string lo, .string hi, .bool op]) (.agg #[.string lo', .string hi', .bool op'])).run Tryd.prog w = .ok (.bool (!(lo.toList == lo'.toList && (hi.toList == hi'.toList && op == op')))) w := by
    intro lo' hi' op'
    rw [run_neq_struct, show (10000 : Nat) = 9999 + 1 from rfl]
    go_simp
    cases h1 : (lo.toList == lo'.toList) <;> cases h2 : (hi.toList == hi'.toList) <;> cases op <;> cases op' <;> simp_all
  rw [key]; simp
/-- Where a session meets twins, they are. -/
theorem tw_found {b lf : Nat} (hb : 2 ≤ b) (hlf : 1 ≤ lf) {r : Rg} : ∀ (n : Nat) (M T : List En) (L : List Rg), MapL M → MapL T → (∀ s ∈ L, TwOk M T n s) → twGo b lf n M T L = some r → r.may = true ∧ (twBad M T r = true ∨ twBad T M r = true)
  | 0, _, _, _, _, _, _, h => by simp [twGo] at h
  | n + 1, M, T, L, hM, hT, hok, h => by
    by_cases hl : L = []
    · subst hl
      rw [twGo_nil] at h
      cases h
    · cases hf : L.find? (twBad M T) with
      | some s =>
        rw [twGo_bad hf] at h
        injection h with h
        subst h
        exact ⟨(hok _ (List.mem_of_find?_eq_some hf)).may, .inl (List.find?_some hf)⟩
      | none =>
        rw [twGo_on hl hf] at h
        obtain ⟨h1, h2⟩ := tw_found hb hlf n T M _ hT hM (tw_turn hM hb hlf hok) h
        exact ⟨h1, h2.symm⟩
theorem bad_parts {M T : List En} {r : Rg} (h : twBad M T r = true) : talE (inL r M) (inL r T) = true ∧ 0 < (dfP (prs (inL r M) (inL r T))).length := by
  unfold twBad at h
  rw [Bool.and_eq_true] at h
  refine ⟨h.1, ?_⟩
  cases h9 : dfP (prs (inL r M) (inL r T)) with
  | nil => rw [h9] at h; simp at h
  | cons x l => simp
theorem opt_found {qa qb br lf : Int} {A B : Nat → En} {la lb : Nat} {r : Rg} (ha : qa = chkH A la) (hb : qb = chkH B lb) (h : twOpt qa qb (firstE A la) (firstE B lb) br lf = some r) :
    MapL (firstE A la) ∧ MapL (firstE B lb) ∧ la ≤ 256 ∧ lb ≤ 256 ∧ r.may = true ∧ talE (inL r (firstE A la)) (inL r (firstE B lb)) = true ∧ 0 < (dfP (prs (inL r (firstE A la)) (inL r (firstE B lb)))).length := by
  unfold twOpt at h
  by_cases he : twErr qa qb br lf = 0
  · rw [if_pos he] at h
    unfold twErr at he
    by_cases h1 : qa = 0
    · by_cases h2 : qb = 0
      · by_cases h3 : okC br lf
        · have cA := chkH_ok (ha.symm.trans h1)
          have cB := chkH_ok (hb.symm.trans h2)
          have mA := (ck_map la).1 cA.1
          have mB := (ck_map lb).1 cB.1
          unfold twAns at h
          obtain ⟨k1, k2, k3, k4⟩ := h3
          obtain ⟨e1, e2⟩ := tw_found (b := br.toNat) (lf := lf.toNat) (by omega) (by omega) _ _ _ _ mB mA (tw_first mA mB) h
          refine ⟨mA, mB, cA.2, cB.2, e1, ?_⟩
          rcases e2 with e2 | e2
          · obtain ⟨f1, f2⟩ := bad_parts e2
            exact ⟨by rw [talE_turn]; exact f1, by rw [dfP_turn] at f2; exact f2⟩
          · exact bad_parts e2
        · rw [if_neg (by simp [h1]), if_neg (by simp [h2]), if_neg h3] at he
          cases he
      · rw [if_neg (by simp [h1]), if_pos h2] at he
        exact absurd he h2
    · rw [if_pos h1] at he
      exact absurd he h1
  · rw [if_neg he] at h
    cases h
end Go.Proofs.YtfkdhambbpkmpaaDoor
