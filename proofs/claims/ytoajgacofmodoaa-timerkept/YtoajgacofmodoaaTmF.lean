/-
  Drop, Due of the document's timer.
-/
import Derived.Test.YtoajgacofmodoaaTmE
namespace Go.Proofs.Ytoajgacofmodoaa
open Go.RowKit
set_option linter.unusedVariables false

theorem al_take {w : World} {B e g cap n k : Nat} {M : List Alm} (h : w.ownsRow B e 4 (.slice (some ⟨g, 0, none⟩) n cap) n (alCells M)) : ∀ (j : Nat) (u : Value), (alCells (M.take k))[j]? = some u → w.cell? ((⟨g, 0, none⟩ : Addr).add j) = some u := fun j u hj => h.cells (g := g) rfl j u (alCells_take M k j u hj)
theorem al_drop {w : World} {B e g cap n k : Nat} {M : List Alm} (h : w.ownsRow B e 4 (.slice (some ⟨g, 0, none⟩) n cap) n (alCells M)) : ∀ (j : Nat) (u : Value), (alCells (M.drop k))[j]? = some u → w.cell? ((⟨g, k * 4, none⟩ : Addr).add j) = some u := fun j u hj => by
  rw [← alCells_drop, List.getElem?_drop] at hj
  have h1 := h.cells (g := g) rfl (k * 4 + j) u hj
  have h2 : ((⟨g, k * 4, none⟩ : Addr).add j) = ((⟨g, 0, none⟩ : Addr).add (k * 4 + j)) := by
    unfold Addr.add
    split <;> simp_all
  rw [h2]
  exact h1
theorem row_maxT {w : World} {B g cap n : Nat} {xs : List Value} {e s : Nat} (h : w.ownsRow B e s (.slice (some ⟨g, 0, none⟩) n cap) n xs) : n ≤ cap ∧ cap ≤ maxLen := by
  rcases h.2 with ⟨h, _⟩ | ⟨g', cap', cur, h1, h2, h3, h4, h5, h6⟩
  · cases h
  · injection h1 with e1 e2 e3
    omega
theorem wo_lt {L : List Alm} (h : Gl L) (n : Nam) : (((wo n L).length : Int) < (L.length : Int)) ↔ (lookA n L).isSome = true := by
  cases hl : lookA n L with
  | none => rw [wo_none (lookA_none hl)]; simp
  | some t => have := wo_len h (lookA_mem hl); simp; omega
set_option maxHeartbeats 3200000 in
set_option maxRecDepth 100000 in
theorem rdropT_any {w : World} {p : Nat} {L : List Alm} (o l k9 : Int) (h : DTm w p L) (hg : Gl L) (hl : L.length ≤ 1000000) : Calls Try.prog 22 #[.pointer (some ⟨p, 0, none⟩), .agg #[.int .i64 o, .int .i64 l, .int .i64 k9]] w fun e w' => e = .returned (.bool (lookA (o, l, k9) L).isSome) ∧ DTm w' p (wo (o, l, k9) L) ∧ Keeps (fun x => x = p) w w' := by
  have HH := aside h
  have WL := aside (wo_lt hg (o, l, k9))
  have BV := aside (bnew w (.cells #[.int .i64 o, .int .i64 l, .int .i64 k9] 29))
  have KQ := aside (heap_alloc_new w (.cells #[.int .i64 o, .int .i64 l, .int .i64 k9] 29))
  have CW := aside (rwoT_any o l k9 (h.below BV.out) hl)
  obtain ⟨V, hV⟩ : ∃ V, w.alloc (.cells #[.int .i64 o, .int .i64 l, .int .i64 k9] 29) = V := ⟨_, rfl⟩
  obtain ⟨q, hq⟩ : ∃ q, w.heap.size = q := ⟨_, rfl⟩
  rw [hV] at BV KQ CW
  rw [hq] at KQ
  clear h hg hl
  obtain ⟨z0, z1, z2⟩ := tri3 KQ.out
  go_enter Try.func22, Try.ntmps22
  go_wp2_with fail
  try rw [hV]
  refine CW.out.mono ?_
  rintro e w1 ⟨v, rfl, own1, ⟨x, c, rfl⟩, b1⟩
  have O1 := aside own1
  have B1 := aside (bthen BV.out b1)
  obtain ⟨u, hu, hrow⟩ := HH.out.below B1.out
  obtain ⟨a2, c2, rfl, -⟩ := own_slice hrow
  have HU := aside hu
  have c0 := cell_one hu
  have f0 := frozen_one hu
  obtain ⟨n1, hn1⟩ : ∃ n, (wo (o, l, k9) L).length = n := ⟨_, rfl⟩
  have HN1 := aside hn1
  have KS := aside ((Keeps.of_below B1.out (fun x => x = p)).trans ((Keeps.refl (fun x => x = p) w1).setCell (p := ⟨p, 0, none⟩) (fun _ => rfl) (.slice (some x) n1 c)))
  have DF := aside (show DTm (w1.setCell ⟨p, 0, none⟩ (.slice (some x) n1 c)) p (wo (o, l, k9) L) from ⟨_, set_in 0 (.slice (some x) n1 c) HU.out, by
    rw [hn1] at own1 ⊢
    exact own_keep (own_low own1 (Nat.zero_le _)) ((Keeps.refl (fun x => x = p) w1).setCell (p := ⟨p, 0, none⟩) (fun _ => rfl) _) (fun i cs hi e => by rw [e, HU.out] at hi; simp at hi)⟩)
  rw [hn1] at WL O1
  rw [hn1]
  clear hu hrow own1 b1 z0 z1 z2 hn1
  cases hlk : (lookA (o, l, k9) L).isSome with
  | true =>
    have hlt : (n1 : Int) < (L.length : Int) := WL.out.2 hlk
    have HLK := aside hlk
    clear hlk
    go_wp2
    go_ret
    exact ⟨by rw [HLK.out]; rfl, DF.out, KS.out⟩
  | false =>
    have hlt : ¬ (n1 : Int) < (L.length : Int) := fun h => by have := WL.out.1 h; rw [hlk] at this; cases this
    have HLK := aside hlk
    clear hlk
    go_wp2
    go_ret
    exact ⟨by rw [HLK.out]; exact ret_bool (by first | rfl | (rw [decide_eq_false_iff_not]; omega)), DF.out, KS.out⟩

/-- The alarms that are due. -/
def dueL (z : Int) (L : List Alm) : List Alm := L.takeWhile (fun a => decide (a.2 ≤ z))
theorem dueL_step {z : Int} {L : List Alm} {k : Nat} {a : Alm} (h : L[k]? = some a) : dueL z (L.drop k) = if a.2 ≤ z then a :: dueL z (L.drop (k + 1)) else [] := by
  obtain ⟨hk, e⟩ := List.getElem?_eq_some_iff.1 h
  rw [List.drop_eq_getElem_cons hk, e]
  unfold dueL
  rw [List.takeWhile_cons]
  by_cases h9 : a.2 ≤ z <;> simp [h9]
theorem dueL_le (z : Int) (L : List Alm) : (dueL z L).length ≤ L.length := by
  unfold dueL
  exact (List.takeWhile_sublist _).length_le
set_option maxHeartbeats 6400000 in
set_option maxRecDepth 100000 in
theorem rdueT_any {w : World} {p : Nat} {L : List Alm} (z : Int) (h : DTm w p L) (hl : L.length ≤ 1000000) : Calls Try.prog 18 #[.pointer (some ⟨p, 0, none⟩), .int .i64 z] w fun e w' => ∃ v, e = .returned v ∧ w'.ownsRow w.heap.size 57 4 v (dueL z L).length (alCells (dueL z L)) ∧ Below w.heap.size w w' := by
  have HL := aside hl
  obtain ⟨v, h1, h2⟩ := h
  have H1 := aside h1
  have H2 := aside h2
  obtain ⟨a, c, rfl, hc1, hc2, hac⟩ := own_slice h2
  have hmx : (L.length : Int) ≤ 9223372036854775807 := by unfold maxLen at hc2; omega
  clear h1 h2 hc1 hc2 hl
  have O0 := aside (show (w.alloc (.cells #[] 57)).ownsRow w.heap.size 57 4 (.slice (some ⟨w.heap.size, 0, none⟩) 0 0) 0 (alCells []) from ⟨rfl, .inr ⟨w.heap.size, 0, #[], rfl, Nat.le_refl _, heap_alloc_new w _, Nat.le_refl _, Nat.zero_le _, rfl, rfl⟩⟩)
  have BZ := aside (bnew w (.cells #[] 57))
  go_enter Try.func18, Try.ntmps18
  go_wp2
  go_loopw [5, 6] (fun v i wr => ∃ k : Nat, i = .int .i64 (k : Int) ∧ k ≤ L.length ∧ Hid (dueL z L = L.take k ++ dueL z (L.drop k)) ∧ Hid (wr.ownsRow w.heap.size 57 4 v k (alCells (L.take k))) ∧ Hid (Below w.heap.size w wr)) (fun v i _ => L.length - (intOf i).toNat)
  case atStart => exact ⟨0, rfl, Nat.zero_le _, (show dueL z L = L.take 0 ++ dueL z (L.drop 0) from by simp), O0.out, BZ.out⟩
  case round =>
    clear O0 BZ
    obtain ⟨k, rfl, hk, HD, HO, HB⟩ := hrel
    have c0 := cell_one (blk_on H1.out HB.out)
    by_cases hlk : (k : Int) < (L.length : Int)
    · have hk0 : (0 : Int) ≤ (k : Int) := by omega
      obtain ⟨y, hy⟩ : ∃ y, L[k]? = some y := ⟨L[k]'(by omega), List.getElem?_eq_getElem _⟩
      obtain ⟨⟨yo, yl, yk⟩, yt⟩ := y
      have HY := aside hy
      rcases hac with ⟨-, h0, -⟩ | ⟨g, rfl, -, -⟩
      · omega
      obtain ⟨s0, s1, s2, s3⟩ := al_cells (own_on H2.out HB.out) hy
      have DS := aside (dueL_step (z := z) hy)
      have TS := aside (takeA_snoc hy)
      clear hy
      by_cases hz : yt ≤ z
      · have KN := aside (heap_alloc_new wr (.cells #[.int .i64 yo, .int .i64 yl, .int .i64 yk, .int .i64 yt] 57))
        have B10 := aside (bthen HB.out (bnew wr (.cells #[.int .i64 yo, .int .i64 yl, .int .i64 yk, .int .i64 yt] 57)))
        have O10 := aside (own_on HO.out (bnew wr (.cells #[.int .i64 yo, .int .i64 yl, .int .i64 yk, .int .i64 yt] 57)))
        go_wp2_with (at_builtin; go_loud (refine wpList_plain rfl fun K hK => op_append_al Try.underlying50 infoR _ _ rfl w.heap.size k 1 u5 (L.take k) [((yo, yl, yk), yt)] (by rfl) O10.out ⟨wr.heap.size, 0, none⟩ 1 (by rfl) rfl (al_news KN.out) (by have := HL.out; omega) (B10.out.size) ?_); intro v4 w4 own4 gr4; refine hK _ _ ?_; refine Hid.out ?_)
        refine aside ?_
        have O4 := aside own4
        have B4 := aside (B10.out.grown gr4 B10.out.size (fun j e => (O10.out.lt j e).1))
        clear own4 gr4 s0 s1 s2 s3
        go_wp2
        go_roundw
        case rel => exact ⟨k + 1, by go_num, by omega, by rw [HD.out, DS.out, if_pos hz, TS.out, List.append_assoc]; rfl, by rw [TS.out]; exact O4.out, B4.out⟩
        case measure => simp [intOf] <;> omega
      · have FN := aside (show dueL z L = L.take k from by rw [HD.out, DS.out, if_neg hz, List.append_nil])
        have FL := aside (show (dueL z L).length = k from by rw [FN.out, List.length_take]; omega)
        go_wp2
        go_ret
        exact ⟨_, rfl, by rw [FL.out, FN.out]; exact HO.out, HB.out⟩
    · have FN := aside (show dueL z L = L.take k from by rw [HD.out, List.drop_of_length_le (by omega)]; simp [dueL])
      have FL := aside (show (dueL z L).length = k from by rw [FN.out, List.length_take]; omega)
      go_wp2
      go_ret
      exact ⟨_, rfl, by rw [FL.out, FN.out]; exact HO.out, HB.out⟩

end Go.Proofs.Ytoajgacofmodoaa
