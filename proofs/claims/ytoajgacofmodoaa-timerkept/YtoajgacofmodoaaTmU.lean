/-
  until and Due of the code's timer.
-/
import Derived.Test.YtoajgacofmodoaaTmS
import Derived.Test.YtoajgacofmodoaaTmF
namespace Go.Proofs.Ytoajgacofmodoaa
open Go.RowKit
set_option linter.unusedVariables false

/-- How far until has come. -/
def UI (L : List Alm) (left : Lit → Bool) (z : Int) (l : List Alm) : Prop := l.Nodup ∧ ∀ a, a ∈ l ↔ a ∈ L ∧ left (klN a.1) = false ∧ a.2 ≤ z
theorem struck_iff {L : List Alm} (ho : AlOk L) (hg : Gl L) {x : Alm} (hx : x ∈ L) {left : Lit → Bool} (hl : left (klN x.1) = true) {a : Alm} (ha : a ∈ L) : (left (klN a.1) && !(klN a.1).sameKey (klN x.1)) = false ↔ a = x ∨ left (klN a.1) = false := by
  constructor
  · exact struck ho hg hx ha
  · rintro (h | h)
    · subst h; rw [WideAt.sameKey_self (klN_key (ho a ha).1)]; simp
    · rw [h]; rfl
theorem UI.yes {L : List Alm} (ho : AlOk L) (hg : Gl L) {x : Alm} (hx : x ∈ L) {left : Lit → Bool} (hl : left (klN x.1) = true) {z : Int} {l : List Alm} (h : UI L left z l) (hz : x.2 ≤ z) : UI L (fun k => left k && !k.sameKey (klN x.1)) z (l ++ [x]) := by
  refine ⟨?_, fun a => ?_⟩
  · rw [List.nodup_append]
    refine ⟨h.1, by simp, fun a ha b hb e => ?_⟩
    rw [List.mem_singleton] at hb
    have := ((h.2 a).1 ha).2.1
    rw [e, hb, hl] at this
    cases this
  · rw [List.mem_append, List.mem_singleton, h.2]
    constructor
    · rintro (⟨h1, h2, h3⟩ | rfl)
      · exact ⟨h1, (struck_iff ho hg hx hl h1).2 (.inr h2), h3⟩
      · exact ⟨hx, (struck_iff ho hg hx hl hx).2 (.inl rfl), hz⟩
    · rintro ⟨h1, h2, h3⟩
      rcases (struck_iff ho hg hx hl h1).1 h2 with h4 | h4
      · exact .inr h4
      · exact .inl ⟨h1, h4, h3⟩
theorem UI.no {L : List Alm} (ho : AlOk L) (hg : Gl L) {x : Alm} (hx : x ∈ L) {left : Lit → Bool} (hl : left (klN x.1) = true) {z : Int} {l : List Alm} (h : UI L left z l) (hz : ¬ x.2 ≤ z) : UI L (fun k => left k && !k.sameKey (klN x.1)) z l := by
  refine ⟨h.1, fun a => ?_⟩
  rw [h.2]
  constructor
  · rintro ⟨h1, h2, h3⟩
    exact ⟨h1, (struck_iff ho hg hx hl h1).2 (.inr h2), h3⟩
  · rintro ⟨h1, h2, h3⟩
    rcases (struck_iff ho hg hx hl h1).1 h2 with h4 | h4
    · subst h4; exact absurd h3 hz
    · exact ⟨h1, h4, h3⟩
theorem dueL_mem {L : List Alm} (h : L.Pairwise alt) {z : Int} {a : Alm} : a ∈ dueL z L ↔ a ∈ L ∧ a.2 ≤ z := by
  induction L with
  | nil => simp [dueL]
  | cons b r ih =>
    obtain ⟨h1, h2⟩ := List.pairwise_cons.1 h
    have e : dueL z (b :: r) = if b.2 ≤ z then b :: dueL z r else [] := by
      unfold dueL
      rw [List.takeWhile_cons]
      by_cases h9 : b.2 ≤ z <;> simp [h9]
    rw [e]
    by_cases h9 : b.2 ≤ z
    · rw [if_pos h9, List.mem_cons, List.mem_cons, ih h2]
      constructor
      · rintro (rfl | ⟨h3, h4⟩)
        · exact ⟨.inl rfl, h9⟩
        · exact ⟨.inr h3, h4⟩
      · rintro ⟨rfl | h3, h4⟩
        · exact .inl rfl
        · exact .inr ⟨h3, h4⟩
    · rw [if_neg h9]
      constructor
      · intro h3; simp at h3
      · rintro ⟨h3, h4⟩
        exfalso
        rcases List.mem_cons.1 h3 with rfl | h3
        · exact h9 h4
        · have := (alt_iff b a).1 (h1 a h3)
          omega
theorem dueL_srt {L : List Alm} (h : L.Pairwise alt) (z : Int) : (dueL z L).Pairwise alt := by
  unfold dueL
  exact h.sublist (List.takeWhile_sublist _)
/-- What until has gathered, sorted, is what is due. -/
theorem UI.done {L : List Alm} (hg : Gl L) {left : Lit → Bool} {z : Int} {l l' : List Alm} (h : UI L left z l) (hl : ∀ k, left k = false) (hp : l'.Perm l) (hs : l'.Pairwise alt) : l' = dueL z L :=
  srt_ext hs (dueL_srt hg.srt z) (fun a => by rw [hp.mem_iff, h.2, dueL_mem hg.srt]; simp [hl])
theorem UI.none {L : List Alm} (hg : Gl L) {left : Lit → Bool} {z : Int} (h : UI L left z []) (hl : ∀ k, left k = false) : dueL z L = [] :=
  (UI.done hg h hl (List.Perm.refl []) List.Pairwise.nil).symm
theorem own_blk {w : World} {B : Nat} {e : TypeId} {s : Nat} {v : Value} {n : Nat} {xs : List Value} (h : w.ownsRow B e s v n xs) {j : Nat} (hj : v.ownBlock = some j) : B ≤ j ∧ ∃ cs, w.heap[j]? = some (.cells cs e (0, 0)) := by
  rcases h.2 with ⟨rfl, _⟩ | ⟨g, cap, cur, rfl, hb, hg, _⟩
  · cases hj
  · injection hj with hj
    subst hj
    exact ⟨hb, _, hg⟩
theorem ranges_blk {w : World} {b r n : Nat} {D : DataW Unit} {left : Lit → Bool} {cnt : Nat} (h : w.ranges Try.prog 29 RI b r n D left cnt) {j : Nat} {cs : Array Value} {e : TypeId} (hj : w.heap[j]? = some (.cells cs e (0, 0))) : b ≠ j ∧ r ≠ j := by
  obtain ⟨es, clock, since, seen, c0, h1, F, hs, hD, h2, rest⟩ := h
  refine ⟨fun e => ?_, fun e => ?_⟩
  · rw [← e, h1] at hj; cases hj
  · rw [← e, h2] at hj; cases hj
theorem nodup_le : ∀ {l L : List Alm}, l.Nodup → (∀ a ∈ l, a ∈ L) → l.length ≤ L.length
  | [], _, _, _ => Nat.zero_le _
  | a :: r, L, h, hs => by
    obtain ⟨h1, h2⟩ := List.nodup_cons.1 h
    have ha := hs a (by simp)
    have := nodup_le (L := L.erase a) h2 (fun b hb => (List.mem_erase_of_ne (fun e => h1 (by rw [← e]; exact hb))).2 (hs b (by simp [hb])))
    rw [List.length_erase_of_mem ha] at this
    have hp : 0 < L.length := List.length_pos_of_mem ha
    rw [List.length_cons]
    omega
theorem UI.le {L : List Alm} {left : Lit → Bool} {z : Int} {l : List Alm} (h : UI L left z l) : l.length ≤ L.length := nodup_le h.1 (fun a ha => ((h.2 a).1 ha).1)
theorem al_newsC {w : World} {b : Nat} {o l k t : Int} (h : w.heap[b]? = some (.cells #[.int .i64 o, .int .i64 l, .int .i64 k, .int .i64 t] 62 (0, 0))) : ∀ (j : Nat) (u : Value), (alCells [((o, l, k), t)])[j]? = some u → w.cell? ((⟨b, 0, none⟩ : Addr).add j) = some u :=
  World.news_of_block (cs := #[.int .i64 o, .int .i64 l, .int .i64 k, .int .i64 t]) (t := 62) (fr := (0, 0)) h

theorem AlIn.on {e : TypeId} {w w' : World} {a : Option Addr} {n cap : Nat} {l : List Alm} (h : AlIn e w a n cap l) (k : Below w.heap.size w w') : AlIn e w' a n cap l := by
  obtain ⟨h1, h2, h3, h4⟩ := h
  refine ⟨h1, h2, h3, ?_⟩
  rcases h4 with h4 | ⟨g, cs, rfl, hb, hc⟩
  · exact .inl h4
  · exact .inr ⟨g, cs, rfl, blk_on hb k, fun i x hi => by
      obtain ⟨c0, c1, c2, c3⟩ := hc i x hi
      exact ⟨cell_in c0 k, cell_in c1 k, cell_in c2 k, cell_in c3 k⟩⟩
theorem AlIn.keep {e : TypeId} {S : Nat → Prop} {w w' : World} {a : Option Addr} {n cap : Nat} {l : List Alm} (h : AlIn e w a n cap l) (k : Keeps S w w') (hn : ∀ i cs, w.heap[i]? = some (.cells cs e (0, 0)) → ¬ S i) : AlIn e w' a n cap l := by
  obtain ⟨h1, h2, h3, h4⟩ := h
  refine ⟨h1, h2, h3, ?_⟩
  rcases h4 with h4 | ⟨g, cs, rfl, hb, hc⟩
  · exact .inl h4
  · exact .inr ⟨g, cs, rfl, blk_keep hb k (hn _ _ hb), fun i x hi => by
      obtain ⟨c0, c1, c2, c3⟩ := hc i x hi
      have hl := lt_of_blk hb
      have hs := hn _ _ hb
      exact ⟨by rw [k.cell hl hs]; exact c0, by rw [k.cell hl hs]; exact c1, by rw [k.cell hl hs]; exact c2, by rw [k.cell hl hs]; exact c3⟩⟩
set_option maxHeartbeats 8000000 in
set_option maxRecDepth 100000 in
theorem until_any {w : World} {p b : Nat} {L : List Alm} (z : Int) (h : Tim w p b L) (hl : L.length ≤ 900000) : Calls Try.prog 26 #[.pointer (some ⟨p, 0, none⟩), .int .i64 z] w fun e w' => ∃ a c, e = .returned (.slice a (dueL z L).length c) ∧ AlIn 62 w' a (dueL z L).length c (dueL z L) ∧ (∀ y, a = some y → w.heap.size ≤ y.block) ∧ Below w.heap.size w w' := by
  obtain ⟨h1, hg, ho, D, hm, hr⟩ := h
  have c0 := cell_one h1
  have HG := aside hg
  have HO := aside ho
  have HR := aside hr
  have HL := aside hl
  obtain ⟨r, hrr⟩ : ∃ r, w.heap.size = r := ⟨_, rfl⟩
  have HRR := aside hrr
  go_enter Try.func26, Try.ntmps26
  go_wp2_with (first | (at_range; refine wpList_range_own _ rfl _ 58 rfl 29 3 lawNm Try.underlying58 RI b L.length D rfl hm ?_; intro w0 hrg0 hg0 hs0) | go_in)
  go_frame
  rw [hrr] at hrg0
  try rw [hrr]
  have RG0 := aside hrg0
  have B0 := aside (show Below r w w0 from below_grown (Below.refl r w) hg0 (by omega) (fun j e => by cases e))
  have S0 := aside (show r + 1 ≤ w0.heap.size from by omega)
  have U0 := aside (show UI L (Maps.has D) z [] from ⟨List.nodup_nil, fun a => ⟨fun h => (by simp at h), fun ⟨h3, h4, _⟩ => by rw [(HR.out.has a.1 (HO.out a h3).1).2 ⟨a.2, h3⟩] at h4; cases h4⟩⟩)
  clear hrg0 hg0 hs0 c0 h1 hg ho hm hr hl hrr
  go_loopw [5] (fun v wr => ∃ (left : Lit → Bool) (cnt : Nat) (l : List Alm), Hid (wr.ranges Try.prog 29 RI b r L.length D left cnt) ∧ Hid (UI L left z l) ∧ Hid (wr.ownsRow r 62 4 v l.length (alCells l)) ∧ Hid (l = [] → v = .slice none 0 0) ∧ Hid (Below r w wr) ∧ Hid (r + 1 ≤ wr.heap.size)) (fun _ wr => wr.rangeLeft b r)
  case atStart => exact ⟨_, _, [], RG0.out, U0.out, ⟨rfl, .inl ⟨rfl, rfl⟩⟩, fun _ => rfl, B0.out, S0.out⟩
  case round =>
    clear RG0 B0 S0 U0
    obtain ⟨left, cnt, l, RG, HU, HOW, HE, HB, HS⟩ := hrel
    go_wp2_with (first | (at_next; refine wpList_next_ranges _ rfl _ rfl 29 lawNm RI nmV (Value.int .i64) invKN invVI b r L.length D left cnt rfl RG.out (fun hc hl => Hid.out ?_) (fun x c kl zz w1 cnt1 hkey hlk hv hat hrg1 hlt hgr hsz hen => Hid.out ?_)) | go_in)
    · refine aside ?_
      have HLF := aside hl
      clear hc hl RG
      cases l with
      | nil =>
        have hv := HE.out rfl
        have DN := aside (UI.none HG.out HU.out HLF.out)
        subst hv
        go_wp2_with fail
        refine (sort_none none 0 _).mono ?_
        rintro e w2 ⟨rfl, rfl⟩
        go_wp2
        go_ret
        exact ⟨none, 0, by rw [DN.out]; rfl, by rw [DN.out]; exact ⟨rfl, Nat.le_refl _, Nat.zero_le _, .inl rfl⟩, fun y e => (by cases e), by rw [HRR.out]; exact HB.out⟩
      | cons y l9 =>
        obtain ⟨a9, c9, hv, -, -, ⟨-, h0, -⟩ | ⟨g, rfl, hgb, hgl⟩⟩ := own_slice HOW.out
        · simp at h0
        have HGB := aside hgb
        have LE := aside (show (y :: l9).length ≤ 1000000 from by have := HU.out.le; have := HL.out; omega)
        have HOW2 := aside HOW.out
        rw [hv] at HOW2
        obtain ⟨n9, hn9⟩ : ∃ n, (y :: l9).length = n := ⟨_, rfl⟩
        rw [hn9] at HOW2 hv LE
        have CS := aside (sort_any HOW2.out HU.out.1 LE.out)
        subst hv
        clear hgb hgl
        go_wp2_with fail
        refine CS.out.mono ?_
        rintro e w2 ⟨rfl, l', hp, hs, hal, hk⟩
        have DN := aside (UI.done HG.out HU.out HLF.out hp hs)
        have DL := aside (show (dueL z L).length = n9 from by rw [← DN.out, hp.length_eq]; exact hn9)
        have HAL := aside hal
        have BF := aside (show Below r w w2 from HB.out.trans (hk.below (B := r) (by have := HS.out; omega) (fun k hk e => by have := HGB.out; omega)))
        clear hp hs hal hk CS
        go_wp2
        go_ret
        exact ⟨some ⟨g, 0, none⟩, c9, by rw [DL.out]; rfl, by rw [DL.out, ← DN.out]; exact HAL.out, fun y e => (by injection e with e; subst e; rw [HRR.out]; exact HGB.out), by rw [HRR.out]; exact BF.out⟩
    · refine aside ?_
      obtain ⟨hn, rfl, hxc⟩ := step_al HR.out hkey hv hat
      obtain ⟨xo, xl, xk⟩ := x
      simp only [nmV] at hen
      simp only [nmV]
      have HLK := aside hlk
      have HXC := aside hxc
      have W1 := aside (show w1.ownsRow r 62 4 u5 l.length (alCells l) ∧ r + 1 ≤ w1.heap.size ∧ Below r w w1 from by
        have hne : ∀ i cs, wr.heap[i]? = some (.cells cs 62 (0, 0)) → ¬ i = r := fun i cs hi e => (ranges_blk RG.out hi).2 e.symm
        exact ⟨own_keep HOW.out ((Keeps.refl (fun x => x = r) wr).grown hgr (fun k e _ => by injection e with e; exact e.symm)) hne, by have := HS.out; omega, below_grown HB.out hgr (by have := HS.out; omega) (fun j e => by injection e with e; omega)⟩)
      have LT1 := aside (show cnt1 < wr.rangeLeft b r from by rw [RG.out.left_eq]; exact hlt)
      have RG1 := aside hrg1
      obtain ⟨X1, hX1⟩ : ∃ X, w1.alloc (.cells #[.int .i64 xo, .int .i64 xl, .int .i64 xk] 29) = X := ⟨_, rfl⟩
      obtain ⟨n9, hn9⟩ : ∃ n, w1.heap.size = n := ⟨_, rfl⟩
      have BX := aside (show Below w1.heap.size w1 X1 from by rw [← hX1]; exact bnew w1 _)
      have KX := aside (show X1.heap[n9]? = some (.cells #[.int .i64 xo, .int .i64 xl, .int .i64 xk] 29 (0, 0)) from by rw [← hX1, ← hn9]; exact heap_alloc_new w1 _)
      have OX := aside (own_on W1.out.1 BX.out)
      have RX := aside (ranges_keep RG1.out (Keeps.of_below BX.out (fun _ => False)) (fun h => h) (fun h => h))
      have BWX := aside (show Below r w X1 from W1.out.2.2.trans (BX.out.mono (by have := W1.out.2.1; omega)))
      have SX1 := aside (show r + 1 ≤ X1.heap.size from by have := W1.out.2.1; have := BX.out.size; omega)
      clear hn hxc hkey hv hat hrg1 hlt hgr hsz hlk RG1 BX
      by_cases hcz : c ≤ z
      · have HCZ := aside hcz
        obtain ⟨t0, t1, t2⟩ := tri3 KX.out
        have KN := aside (heap_alloc_new X1 (.cells #[.int .i64 xo, .int .i64 xl, .int .i64 xk, .int .i64 c] 62))
        have BN := aside (bnew X1 (.cells #[.int .i64 xo, .int .i64 xl, .int .i64 xk, .int .i64 c] 62))
        have O2 := aside (own_on OX.out BN.out)
        have R2 := aside (ranges_keep RX.out (Keeps.of_below BN.out (fun _ => False)) (fun h => h) (fun h => h))
        have B2 := aside (show Below r w _ from BWX.out.trans (BN.out.mono (by have := SX1.out; omega)))
        have S2 := aside (show r + 1 ≤ (X1.alloc (.cells #[.int .i64 xo, .int .i64 xl, .int .i64 xk, .int .i64 c] 62)).heap.size from by have := SX1.out; simp; omega)
        have LE := aside (show l.length ≤ 900000 from by have := HU.out.le; have := HL.out; omega)
        go_wp2_with (at_builtin; go_loud (refine wpList_plain rfl fun K hK => op_append_al Try.underlying65 infoC _ _ rfl r l.length 1 u5 l [((xo, xl, xk), c)] (by rfl) O2.out ⟨X1.heap.size, 0, none⟩ 1 (by rfl) rfl (al_newsC KN.out) (by have := LE.out; omega) (by have := S2.out; omega) ?_); intro v4 w4 own4 gr4; refine hK _ _ ?_; refine Hid.out ?_)
        refine aside ?_
        have O4 := aside own4
        have B4 := aside (below_grown B2.out gr4 (by have := S2.out; omega) (fun j e => (own_blk O2.out e).1))
        have R4 := aside (ranges_keep R2.out ((Keeps.refl (fun k => u5.ownBlock = some k) _).grown gr4 (fun k e _ => e)) (fun e => by obtain ⟨-, cs, hj⟩ := own_blk O2.out e; exact (ranges_blk R2.out hj).1 rfl) (fun e => by obtain ⟨-, cs, hj⟩ := own_blk O2.out e; exact (ranges_blk R2.out hj).2 rfl))
        have S4 := aside (show r + 1 ≤ w4.heap.size from by have := S2.out; have := gr4.size; omega)
        clear own4 gr4 t0 t1 t2
        go_wp2
        go_roundw
        case rel => exact ⟨_, cnt1, l ++ [((xo, xl, xk), c)], R4.out, UI.yes HO.out HG.out HXC.out HLK.out HU.out HCZ.out, by rw [List.length_append]; exact O4.out, fun e => (by simp at e), B4.out, S4.out⟩
        case measure => rw [R4.out.left_eq]; exact LT1.out
      · have HCZ := aside hcz
        go_wp2
        go_roundw
        case rel => exact ⟨_, cnt1, l, RX.out, UI.no HO.out HG.out HXC.out HLK.out HU.out HCZ.out, OX.out, HE.out, BWX.out, SX1.out⟩
        case measure => rw [RX.out.left_eq]; exact LT1.out

set_option maxHeartbeats 1600000 in
set_option maxRecDepth 100000 in
/-- Due: the iterator, and the box of what it goes through. -/
theorem due_any {w : World} {p b : Nat} {L : List Alm} (z : Int) (h : Tim w p b L) (hl : L.length ≤ 900000) : Calls Try.prog 17 #[.pointer (some ⟨p, 0, none⟩), .int .i64 z] w fun e w' => ∃ d a c, e = .returned (.func (.func 27) #[] #[.pointer (some ⟨d, 0, none⟩)]) ∧ w'.heap[d]? = some (.cells #[.slice a (dueL z L).length c] 65 (0, 0)) ∧ AlIn 62 w' a (dueL z L).length c (dueL z L) ∧ Below w.heap.size w w' := by
  have CU := aside (until_any z h hl)
  clear h hl
  go_enter Try.func17, Try.ntmps17
  go_wp2_with fail
  refine CU.out.mono ?_
  rintro e w1 ⟨a, c, rfl, hal, -, b1⟩
  have HAL := aside hal
  have B1 := aside b1
  clear hal b1 CU
  go_wp2
  go_ret
  exact ⟨_, a, c, rfl, heap_alloc_new w1 _, AlIn.on HAL.out (bnew w1 _), bthen B1.out (bnew w1 _)⟩

end Go.Proofs.Ytoajgacofmodoaa
