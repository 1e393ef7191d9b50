/-
  Texts compared; the calls of merge and those of the document by lists, errors too.
-/
import Derived.Test.YtgailbfoicoaiaaMgRlk
import Derived.Test.YtgailbfoicoaiaaMgRdf
import Derived.Test.YtgailbfoicoaiaaMgSpo
import Derived.Test.YtgailbfoicoaiaaMgCall2
namespace Go.Proofs.Ytgailbfoicoaiaa
open Go.RowKit
set_option linter.unusedVariables false

/-- Texts in a row of ours. -/
def TxL (w : World) (a : Option Addr) (n c : Nat) (l : List ByteArray) : Prop := ∃ B, w.ownsRow B 9 1 (.slice a n c) n (strC l)
theorem TxL.keep {w w' : World} {a : Option Addr} {n c : Nat} {l : List ByteArray} (h : TxL w a n c l) (b : Below w.heap.size w w') : TxL w' a n c l := by
  obtain ⟨B, h⟩ := h
  exact ⟨B, own_on h b⟩
theorem TxL.len {w : World} {a : Option Addr} {n c : Nat} {l : List ByteArray} (h : TxL w a n c l) : l.length = n := by
  obtain ⟨B, h⟩ := h
  have := h.1
  simpa [strC] using this
theorem TxL.max {w : World} {a : Option Addr} {n c : Nat} {l : List ByteArray} (h : TxL w a n c l) : n ≤ maxLen := by
  obtain ⟨B, h⟩ := h
  obtain ⟨_, _, e, h1, h2, -⟩ := own_slice h
  omega
theorem TxL.cell {w : World} {a : Option Addr} {n c : Nat} {l : List ByteArray} (h : TxL w a n c l) {k : Nat} (hk : k < n) {s : ByteArray} (hs : l[k]? = some s) : ∃ g, a = some ⟨g, 0, none⟩ ∧ ∀ W, Below w.heap.size w W → W.cell? ⟨g, k, none⟩ = some (.string s) := by
  obtain ⟨B, h⟩ := h
  obtain ⟨_, _, e1, -, -, hf⟩ := own_slice h
  injection e1 with e1 _ e3
  subst e1 e3
  rcases hf with ⟨_, h0, _⟩ | ⟨g, rfl, -⟩
  · omega
  refine ⟨g, rfl, fun W b => ?_⟩
  rw [(own_on h b).cellAt k (by omega)]
  simp [strC, hs]

set_option maxHeartbeats 3200000 in
set_option maxRecDepth 100000 in
theorem sameT {a b : Option Addr} {la ca lb cb : Nat} {l m : List ByteArray} {w : World} (ha : TxL w a la ca l) (hb : TxL w b lb cb m) (h : l = m) :
    Calls Try.prog 24 #[.slice a la ca, .slice b lb cb] w fun e w' => e = .returned (.bool true) ∧ Below w.heap.size w w' := by
  subst h
  obtain rfl : la = lb := by rw [← ha.len, ← hb.len]
  have HA := aside ha
  have HBB := aside hb
  have hmx : (la : Int) ≤ 9223372036854775807 := by have h1 := ha.max; unfold maxLen at h1; omega
  clear ha hb
  go_enter Try.func24, Try.ntmps24
  go_wp2
  go_loopw [5] (fun i wr => ∃ k : Nat, i = .int .i64 (k : Int) ∧ k ≤ la ∧ Below w.heap.size w wr) (fun i _ => la - (intOf i).toNat)
  case atStart => exact ⟨0, rfl, Nat.zero_le _, Below.refl _ _⟩
  case round =>
    obtain ⟨k, rfl, hk, hB⟩ := hrel
    have HB := aside hB
    clear hB
    by_cases hlt : (k : Int) < (la : Int)
    · have hk0 : (0 : Int) ≤ (k : Int) := by omega
      obtain ⟨s, hs⟩ : ∃ s, l[k]? = some s := ⟨_, List.getElem?_eq_getElem (by rw [HA.out.len]; omega)⟩
      obtain ⟨ga, rfl, ca'⟩ := HA.out.cell (show k < la by omega) hs
      obtain ⟨gb, rfl, cb'⟩ := HBB.out.cell (show k < la by omega) hs
      have SC := aside (show wr.drew.cell? ⟨ga, k, none⟩ = some (.string s) ∧ wr.drew.cell? ⟨gb, k, none⟩ = some (.string s) from ⟨ca' _ HB.out.drew, cb' _ HB.out.drew⟩)
      clear ca' cb' hs
      go_wp2_with fail
      refine wp_region_held_drew (S := fun W => Below w.heap.size w W ∧ W.cell? ⟨ga, k, none⟩ = some (.string s) ∧ W.cell? ⟨gb, k, none⟩ = some (.string s)) (by kernel_rfl) ⟨HB.out.drew, SC.out⟩ (fun hHeld => ?_)
      refine wpAnyH_take (i := 0) (v := ?_) rfl (by kernel_rfl) (by kernel_rfl) (by kernel_rfl) (fun _ _ _ h => h) (Or.inl ⟨by rfl, ?_⟩) (by assumption) ?_
      rotate_left
      · intro w hSw
        go_simp
        try with_reducible rfl
      simp only [Act.put, List.getElem_toArray, List.getElem_cons_zero, List.setIfInBounds_toArray, List.set_cons_zero, List.set_cons_succ]
      refine wpAnyH_take (i := 1) (v := ?_) rfl (by kernel_rfl) (by kernel_rfl) (by kernel_rfl) (fun _ _ _ h => h) (Or.inl ⟨by rfl, ?_⟩) (by assumption) ?_
      rotate_left
      · intro w hSw
        go_simp
        try with_reducible rfl
      simp only [Act.put, List.getElem_toArray, List.getElem_cons_zero, List.getElem_cons_succ, List.setIfInBounds_toArray, List.set_cons_zero, List.set_cons_succ]
      refine wpAnyH_take (i := 2) (v := ?_) rfl (by kernel_rfl) (by kernel_rfl) (by kernel_rfl) (fun _ _ _ h => h) (Or.inl ⟨by rfl, ?_⟩) (by assumption) ?_
      rotate_left
      · intro w hSw
        go_simp
        try with_reducible rfl
      simp only [Act.put, List.getElem_toArray, List.getElem_cons_zero, List.getElem_cons_succ, List.setIfInBounds_toArray, List.set_cons_zero, List.set_cons_succ]
      refine wpAnyH_take (i := 3) (v := ?_) rfl (by kernel_rfl) (by kernel_rfl) (by kernel_rfl) (fun _ _ _ h => h) (Or.inl ⟨by rfl, ?_⟩) (by assumption) ?_
      rotate_left
      · intro w hSw
        go_simp
        try with_reducible rfl
      simp only [Act.put, List.getElem_toArray, List.getElem_cons_zero, List.getElem_cons_succ, List.setIfInBounds_toArray, List.set_cons_zero, List.set_cons_succ]
      refine wpAnyH_take (i := 4) (v := ?_) rfl (by kernel_rfl) (by kernel_rfl) (by kernel_rfl) (fun _ _ _ h => h) (Or.inl ⟨by rfl, ?_⟩) (by assumption) ?_
      rotate_left
      · intro w hSw
        go_simp
        try with_reducible rfl
      simp only [Act.put, List.getElem_toArray, List.getElem_cons_zero, List.getElem_cons_succ, List.setIfInBounds_toArray, List.set_cons_zero, List.set_cons_succ]
      refine wpAnyH_take (i := 5) (v := ?_) rfl (by kernel_rfl) (by kernel_rfl) (by kernel_rfl) (fun _ _ _ h => h) (Or.inl ⟨by rfl, ?_⟩) (by assumption) ?_
      rotate_left
      · intro w hSw
        go_simp
        try with_reducible rfl
      simp only [Act.put, List.getElem_toArray, List.getElem_cons_zero, List.getElem_cons_succ, List.setIfInBounds_toArray, List.set_cons_zero, List.set_cons_succ]
      refine wpAnyH_take (i := 6) (v := ?_) rfl (by kernel_rfl) (by kernel_rfl) (by kernel_rfl) (fun _ _ _ h => h) (Or.inl ⟨by rfl, ?_⟩) (by assumption) ?_
      rotate_left
      · intro w hSw
        go_simp
        try with_reducible rfl
      simp only [Act.put, List.getElem_toArray, List.getElem_cons_zero, List.getElem_cons_succ, List.setIfInBounds_toArray, List.set_cons_zero, List.set_cons_succ]
      refine wpAnyH_take (i := 7) (v := ?_) rfl (by kernel_rfl) (by kernel_rfl) (by kernel_rfl) (fun _ _ _ h => h) (Or.inl ⟨by rfl, ?_⟩) (by assumption) ?_
      rotate_left
      · intro w hSw
        go_simp
        try with_reducible rfl
      simp only [Act.put, List.getElem_toArray, List.getElem_cons_zero, List.getElem_cons_succ, List.setIfInBounds_toArray, List.set_cons_zero, List.set_cons_succ]
      refine wpAnyH_take (i := 8) (v := .bool false) rfl (by kernel_rfl) (by kernel_rfl) (by kernel_rfl) (fun _ _ _ h => h) (Or.inl ⟨by rfl, ?_⟩) (by assumption) ?_
      · intro w hSw
        go_simp
      simp only [Act.put, List.getElem_toArray, List.getElem_cons_zero, List.getElem_cons_succ, List.setIfInBounds_toArray, List.set_cons_zero, List.set_cons_succ]
      refine wpAnyH_done (by kernel_rfl) ?_ _
      have HB2 := aside hHeld.1
      clear hHeld SC
      go_wp2
      go_roundw
      case rel => exact ⟨k + 1, by go_num, by omega, HB2.out⟩
      case measure => simp [intOf]; omega
    · go_wp2
      go_ret
      exact ⟨rfl, HB.out⟩

/-- What is wrong first with two lists. -/
def ck2L (a b : List En) : Int := if ckL a ≠ 0 then ckL a else ckL b
theorem ck2_of {A : Nat → En} {la : Nat} {B : Nat → En} {lb : Nat} {a b : List En} (ha : firstE A la = a) (hb : firstE B lb = b) : ck2 A la B lb = ck2L a b := by
  unfold ck2 ck2L
  rw [ck_list_of ha, ck_list_of hb]
theorem mmaxE {a b : Option Addr} {la ca lb cb : Nat} {Ma Mb : List En} {w : World} (ha : Lst w a la ca Ma) (hb : Lst w b lb cb Mb) (hl : la + lb ≤ 2147483648) {q : Int} (hq : ck2L Ma Mb = q) :
    Calls Try.prog 11 #[.slice a la ca, .slice b lb cb] w fun e w' => Says w q (outL q (mxL Ma Mb)) e w' := by
  obtain ⟨A, eA, rA⟩ := ha
  obtain ⟨B, eB, rB⟩ := hb
  have h := mmax_any a la ca A b lb cb B w eA eB hl
  rw [ck2_of rA rB, hq, rA, rB] at h
  exact h
theorem rmaxE {a b : Option Addr} {la ca lb cb : Nat} {Ma Mb : List En} {w : World} (ha : Lst w a la ca Ma) (hb : Lst w b lb cb Mb) (hl : la + lb ≤ 2147483648) {q : Int} (hq : ck2L Ma Mb = q) :
    Calls Try.prog 22 #[.slice a la ca, .slice b lb cb] w fun e w' => Says w q (outL q (mxL Ma Mb)) e w' := by
  obtain ⟨A, eA, rA⟩ := ha
  obtain ⟨B, eB, rB⟩ := hb
  have h := rmax_any a la ca A b lb cb B w eA eB hl
  rw [ck2_of rA rB, hq, rA, rB] at h
  exact h
theorem mlackE {a b : Option Addr} {la ca lb cb : Nat} {Ma Mb : List En} {w : World} (ha : Lst w a la ca Ma) (hb : Lst w b lb cb Mb) (hl : la + lb ≤ 2147483648) {q : Int} (hq : ck2L Ma Mb = q) :
    Calls Try.prog 25 #[.slice a la ca, .slice b lb cb] w fun e w' => Says w q (outL q (lkL Ma Mb)) e w' := by
  obtain ⟨A, eA, rA⟩ := ha
  obtain ⟨B, eB, rB⟩ := hb
  have h := mlack_any a la ca A b lb cb B w eA eB hl
  rw [ck2_of rA rB, hq, rA, rB] at h
  exact h
theorem rlackE {a b : Option Addr} {la ca lb cb : Nat} {Ma Mb : List En} {w : World} (ha : Lst w a la ca Ma) (hb : Lst w b lb cb Mb) (hl : la + lb ≤ 2147483648) {q : Int} (hq : ck2L Ma Mb = q) :
    Calls Try.prog 26 #[.slice a la ca, .slice b lb cb] w fun e w' => Says w q (outL q (lkL Ma Mb)) e w' := by
  obtain ⟨A, eA, rA⟩ := ha
  obtain ⟨B, eB, rB⟩ := hb
  have h := rlack_any a la ca A b lb cb B w eA eB hl
  rw [ck2_of rA rB, hq, rA, rB] at h
  exact h
theorem mdiffE {a b : Option Addr} {la ca lb cb : Nat} {Ma Mb : List En} {w : World} (ha : Lst w a la ca Ma) (hb : Lst w b lb cb Mb) (hl : la + lb ≤ 2147483648) {q : Int} (hq : ck2L Ma Mb = q) :
    Calls Try.prog 14 #[.slice a la ca, .slice b lb cb] w fun e w' => SaysT w q (outL q (dfL Ma Mb)) e w' := by
  obtain ⟨A, eA, rA⟩ := ha
  obtain ⟨B, eB, rB⟩ := hb
  have h := mdiff_any a la ca A b lb cb B w eA eB hl
  rw [ck2_of rA rB, hq, rA, rB, dfP_prs] at h
  exact h
theorem rdiffE {a b : Option Addr} {la ca lb cb : Nat} {Ma Mb : List En} {w : World} (ha : Lst w a la ca Ma) (hb : Lst w b lb cb Mb) (hl : la + lb ≤ 2147483648) {q : Int} (hq : ck2L Ma Mb = q) :
    Calls Try.prog 23 #[.slice a la ca, .slice b lb cb] w fun e w' => SaysT w q (outL q (dfL Ma Mb)) e w' := by
  obtain ⟨A, eA, rA⟩ := ha
  obtain ⟨B, eB, rB⟩ := hb
  have h := rdiff_any a la ca A b lb cb B w eA eB hl
  rw [ck2_of rA rB, hq, rA, rB, dfP_prs] at h
  exact h
theorem maboveE {a b : Option Addr} {la ca lb cb : Nat} {Ma Mb : List En} {w : World} (ha : Lst w a la ca Ma) (hb : Lst w b lb cb Mb) (hl : la + lb ≤ 2147483648) {q : Int} (hq : ck2L Ma Mb = q) :
    Calls Try.prog 13 #[.slice a la ca, .slice b lb cb] w fun e w' => e = .returned (.tuple #[.bool (aboveV q (prs Ma Mb)), .int .i64 q]) ∧ Below w.heap.size w w' := by
  obtain ⟨A, eA, rA⟩ := ha
  obtain ⟨B, eB, rB⟩ := hb
  have h := mabove_any a la ca A b lb cb B w eA eB hl
  rw [ck2_of rA rB, hq, rA, rB] at h
  exact h
theorem raboveE {a b : Option Addr} {la ca lb cb : Nat} {Ma Mb : List En} {w : World} (ha : Lst w a la ca Ma) (hb : Lst w b lb cb Mb) (hl : la + lb ≤ 2147483648) {q : Int} (hq : ck2L Ma Mb = q) :
    Calls Try.prog 27 #[.slice a la ca, .slice b lb cb] w fun e w' => e = .returned (.tuple #[.bool (aboveV q (prs Ma Mb)), .int .i64 q]) ∧ Below w.heap.size w w' := by
  obtain ⟨A, eA, rA⟩ := ha
  obtain ⟨B, eB, rB⟩ := hb
  have h := rabove_any a la ca A b lb cb B w eA eB hl
  rw [ck2_of rA rB, hq, rA, rB] at h
  exact h

theorem out_mem {α : Type} {q : Int} {l : List α} {x : α} (h : x ∈ outL q l) : q = 0 ∧ x ∈ l := by
  unfold outL at h
  split at h
  · exact ⟨by assumption, h⟩
  · simp at h
theorem ck2L_ok {a b : List En} (h : ck2L a b = 0) : MapL a ∧ MapL b := by
  unfold ck2L at h
  split at h
  · omega
  · exact ⟨ck_list.1 (by unfold ckL at *; omega), ck_list.1 h⟩
theorem keys_mx {a b : List En} {q : Int} (hq : ck2L a b = q) : KeysOk (outL q (mxL a b)) := by
  intro e he
  obtain ⟨h0, h1⟩ := out_mem he
  have hm := ck2L_ok (hq.trans h0)
  exact (mx_map hm.1 hm.2).keys e h1
theorem keys_lk {a b : List En} {q : Int} (hq : ck2L a b = q) : KeysOk (outL q (lkL a b)) := by
  intro e he
  obtain ⟨h0, h1⟩ := out_mem he
  have hm := ck2L_ok (hq.trans h0)
  exact (lk_map hm.1 hm.2).keys e h1
theorem len_out {α : Type} (q : Int) (l : List α) : (outL q l).length ≤ l.length := by
  unfold outL
  split
  · exact Nat.le_refl _
  · simp
theorem lk_len (a b : List En) : (lkL a b).length ≤ a.length + b.length := by
  have h1 := lkP_len (prs a b)
  have h2 := prs_len a b
  rw [lkP_prs] at h1
  omega

end Go.Proofs.Ytgailbfoicoaiaa
