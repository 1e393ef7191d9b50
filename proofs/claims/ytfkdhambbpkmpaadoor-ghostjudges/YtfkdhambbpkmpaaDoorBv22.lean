/-
  Parts of a session in memory; what becomes of a part that is split.
-/
import Derived.Test.YtfkdhambbpkmpaaDoorBv21
namespace Go.Proofs.YtfkdhambbpkmpaaDoor
open Go.RowKit
set_option linter.unusedVariables false
/-- A part: its range, and the slices of what its sender and its hearer hold there. -/
structure GP where
  r : Rg
  sa : Option Addr
  sn : Nat
  sc : Nat
  ha : Option Addr
  hn : Nat
  hc : Nat
/-- Its cells. -/
def ptF (g : GP) : List Value := [.string g.r.lo, .string g.r.hi, .bool g.r.op, .slice g.sa g.sn g.sc, .slice g.ha g.hn g.hc]
theorem ptF_ok : RowF ptF 5 := ⟨fun e => rfl, fun e u hu => by simp [ptF] at hu; rcases hu with rfl | rfl | rfl | rfl | rfl <;> rfl, by omega⟩
/-- What stands in it: the hearer has M, the sender T. -/
structure PtIn (w : World) (M T : List En) (g : GP) : Prop where
  s : LsIn w g.sa g.sn g.sc (inL g.r T)
  h : LsIn w g.ha g.hn g.hc (inL g.r M)
theorem PtIn.on {w w' : World} {M T : List En} {g : GP} (h : PtIn w M T g) (b : Below w.heap.size w w') : PtIn w' M T g := ⟨h.s.on b, h.h.on b⟩
/-- A slice that lies in no block of a row. -/
def FarL (w : World) (a : Option Addr) (ob : Option Nat) : Prop := ∀ x, a = some x → some x.block ≠ ob ∧ x.block < w.heap.size
/-- Parts that stand beside a row of their own. -/
def PtsIn (w : World) (M T : List En) (ob : Option Nat) (G : List GP) : Prop := ∀ g ∈ G, PtIn w M T g ∧ FarL w g.sa ob ∧ FarL w g.ha ob
theorem FarL.on {w w' : World} {a : Option Addr} {ob : Option Nat} (h : FarL w a ob) (b : w.heap.size ≤ w'.heap.size) : FarL w' a ob := fun x hx => ⟨(h x hx).1, Nat.lt_of_lt_of_le (h x hx).2 b⟩
theorem FarL.turn {w : World} {a : Option Addr} {ob ob' : Option Nat} (h : FarL w a ob) (ho : ob' = ob ∨ ob' = some w.heap.size) : FarL w a ob' := fun x hx => by
  refine ⟨?_, (h x hx).2⟩
  rcases ho with rfl | rfl
  · exact (h x hx).1
  · intro e
    injection e with e
    have := (h x hx).2
    omega
theorem PtsIn.on {w w' : World} {M T : List En} {ob : Option Nat} {G : List GP} (h : PtsIn w M T ob G) (b : Below w.heap.size w w') : PtsIn w' M T ob G := fun g hg => ⟨(h g hg).1.on b, (h g hg).2.1.on b.size, (h g hg).2.2.on b.size⟩
theorem grown_keeps {w w' : World} {ob : Option Nat} (hg : w.grownBy w' ob) : Keeps (fun x => some x = ob) w w' := (Keeps.refl _ w).grown hg (fun k hk _ => hk.symm)
theorem PtsIn.grown {w w' : World} {M T : List En} {ob ob' : Option Nat} {G : List GP} (h : PtsIn w M T ob G) (hg : w.grownBy w' ob) (ho : ob' = ob ∨ ob' = some w.heap.size) : PtsIn w' M T ob' G := fun g hm => by
  obtain ⟨⟨h1, h2⟩, h3, h4⟩ := h g hm
  exact ⟨⟨h1.keep (grown_keeps hg) (fun x hx => (h3 x hx).1), h2.keep (grown_keeps hg) (fun x hx => (h4 x hx).1)⟩, (h3.turn ho).on hg.size, (h4.turn ho).on hg.size⟩
theorem PtsIn.snoc {w : World} {M T : List En} {ob : Option Nat} {G : List GP} {g : GP} (h : PtsIn w M T ob G) (h1 : PtIn w M T g) (h2 : FarL w g.sa ob) (h3 : FarL w g.ha ob) : PtsIn w M T ob (G ++ [g]) := fun x hx => by
  rcases List.mem_append.1 hx with hx | hx
  · exact h x hx
  · obtain rfl : x = g := by simpa using hx
    exact ⟨h1, h2, h3⟩
theorem cuts_in {b : Nat} {r s : Rg} {M : List En} (hM : MapL M) (hr : r.may = true) (hs : s ∈ cutsL b r (inL r M)) : s.may = true ∧ ∀ k, s.has k = true → r.has k = true := by
  obtain ⟨j, q, hq, hj, rfl⟩ := cuts_mem hs
  obtain ⟨p, rfl⟩ : ∃ p, q = p + 1 := ⟨q - 1, by omega⟩
  have hpn : p + 1 ≤ (inL r M).length := by omega
  have hk := keysUp_map (in_mapG hM r)
  have ha : ∀ i, i < (inL r M).length → r.has (keyL (inL r M) i) = true := fun i hi => allK_at (allK_in r M) hi
  rw [Nat.add_sub_cancel] at hs ⊢
  exact ⟨rises_may (pieces_up hk ha hpn) hj, fun k hk1 => piece_in hr hk ha hpn hj hk1⟩
theorem PtsIn.app {w : World} {M T : List En} {ob : Option Nat} {G H : List GP} (h : PtsIn w M T ob G) (k : PtsIn w M T ob H) : PtsIn w M T ob (G ++ H) := fun x hx => by
  rcases List.mem_append.1 hx with hx | hx
  · exact h x hx
  · exact k x hx
theorem cuts_at {b : Nat} {r : Rg} {l : List En} {j : Nat} {s : Rg} (h : (cutsL b r l)[j]? = some s) : s ∈ cutsL b r l := List.mem_of_getElem? h
theorem infoPt : (Tryd.prog.info? 81).map (fun i => (i.zero, i.size, i.bytes)) = some (some (.agg #[.string ⟨#[]⟩, .string ⟨#[]⟩, .bool false, .slice none 0 0, .slice none 0 0]), 5, 88) := by kernel_rfl
set_option maxHeartbeats 16000000 in
set_option maxRecDepth 100000 in
theorem split_any (p : GP) (b : Nat) (M T : List En) (w : World) (hP : PtIn w M T p) (mM : MapL M) (mT : MapL T) (lM : M.length ≤ 256) (lT : T.length ≤ 256) (hmay : p.r.may = true) (hb : 2 ≤ b ∧ b ≤ 16) (h1 : 1 ≤ p.hn) :
    Calls Tryd.prog 40 #[.agg #[.string p.r.lo, .string p.r.hi, .bool p.r.op, .slice p.sa p.sn p.sc, .slice p.ha p.hn p.hc], .int .i64 (b : Int)] w fun e w' => ∃ a n c, e = .returned (.slice a n c) ∧ ∃ G, RowIn ptF w' a n c G ∧ G.map (fun g => g.r) = cutsL b p.r (inL p.r M) ∧ (∀ g ∈ G, PtIn w' T M g ∧ (∀ x, g.sa = some x → w.heap.size ≤ x.block ∧ x.block < w'.heap.size) ∧ (∀ x, g.ha = some x → w.heap.size ≤ x.block ∧ x.block < w'.heap.size)) ∧ Below w.heap.size w w' := by
  have N1 := bnew w (.cells #[.string p.r.lo, .string p.r.hi, .bool p.r.op, .slice p.sa p.sn p.sc, .slice p.ha p.hn p.hc] 81)
  have KP0 := heap_alloc_new w (.cells #[.string p.r.lo, .string p.r.hi, .bool p.r.op, .slice p.sa p.sn p.sc, .slice p.ha p.hn p.hc] 81)
  obtain ⟨pb, hpb⟩ : ∃ pb, w.heap.size = pb := ⟨_, rfl⟩
  rw [hpb] at KP0
  obtain ⟨V, hV⟩ : ∃ V, w.alloc (.cells #[.string p.r.lo, .string p.r.hi, .bool p.r.op, .slice p.sa p.sn p.sc, .slice p.ha p.hn p.hc] 81) = V := ⟨_, rfl⟩
  rw [hV] at N1 KP0
  have BV := aside N1
  have HPB := aside hpb
  have MM := aside mM
  have MT := aside mT
  have LMT := aside (And.intro lM lT)
  have HRM := aside hmay
  have HB := aside (And.intro hb h1)
  have PP := aside (hP.on N1)
  obtain ⟨X, hX1, hX2⟩ := PP.out.h
  have hxl : (inL p.r M).length = p.hn := by rw [← hX2, firstE_len]
  have hxn : p.hn ≤ 256 := by have h2 := inL_len p.r M; omega
  have EX := aside hX1
  have FX := aside hX2
  have XL := aside hxl
  have LH := aside hxn
  have hxi : (p.hn : Int) ≤ 256 := by omega
  have CE := aside (show ∀ W, Below V.heap.size V W → W.cell? ⟨pb, 0, none⟩ = some (.string p.r.lo) ∧ W.cell? ⟨pb, 1, none⟩ = some (.string p.r.hi) ∧ W.cell? ⟨pb, 2, none⟩ = some (.bool p.r.op) ∧ W.cell? ⟨pb, 3, none⟩ = some (.slice p.sa p.sn p.sc) ∧ W.cell? ⟨pb, 4, none⟩ = some (.slice p.ha p.hn p.hc) from fun W bb => by
    have h := blk_on KP0 bb
    exact ⟨by rw [cell_of_row _ _ 0 _ _ _ h]; rfl, by rw [cell_of_row _ _ 1 _ _ _ h]; rfl, by rw [cell_of_row _ _ 2 _ _ _ h]; rfl, by rw [cell_of_row _ _ 3 _ _ _ h]; rfl, by rw [cell_of_row _ _ 4 _ _ _ h]; rfl⟩)
  have CK := aside (fun W (bb : Below V.heap.size V W) => keysOf_any p.ha p.hn p.hc X W (EX.out.keep bb) LH.out)
  obtain ⟨e0, e1, e2, e3, e4⟩ := CE.out V (Below.refl _ V)
  clear hP mM mT lM lT hmay hb h1 N1 KP0 hX1 hX2 hxl hxn
  go_enter Tryd.func40, Tryd.ntmps40
  go_upto_region 1 with fail
  clear e0 e1 e2 e3 e4
  refine wp_region_held_drew (S := fun W => Below V.heap.size V W ∧ (W.cell? ⟨pb, 0, none⟩ = some (.string p.r.lo) ∧ W.cell? ⟨pb, 1, none⟩ = some (.string p.r.hi) ∧ W.cell? ⟨pb, 2, none⟩ = some (.bool p.r.op) ∧ W.cell? ⟨pb, 3, none⟩ = some (.slice p.sa p.sn p.sc) ∧ W.cell? ⟨pb, 4, none⟩ = some (.slice p.ha p.hn p.hc))) (by kernel_rfl) ⟨(Below.refl _ V).drew, CE.out _ (Below.refl _ V).drew⟩ (fun hHeld => ?_)
  refine wpAnyH_take (i := 0) (v := ?_) rfl (by kernel_rfl) (by kernel_rfl) (by kernel_rfl) (fun _ _ _ h => h) (Or.inl ⟨by rfl, ?_⟩) (by assumption) ?_
  rotate_left
  · intro w hSw
    go_simp
    try with_reducible rfl
  simp only [Act.put, List.getElem_toArray, List.getElem_cons_zero, List.setIfInBounds_toArray, List.set_cons_zero, List.set_cons_succ]
  refine wpAnyH_take (i := 1) (v := ?_) rfl (by kernel_rfl) (by kernel_rfl) (by kernel_rfl) (fun _ _ _ h => h) (Or.inl ⟨by rfl, ?_⟩) (by assumption) ?_
  rotate_left
  · intro w hSw
    go_simp
    try with_reducible rfl
  simp only [Act.put, List.getElem_toArray, List.getElem_cons_zero, List.getElem_cons_succ, List.setIfInBounds_toArray, List.set_cons_zero, List.set_cons_succ]
  refine wpAnyH_take (i := 2) (v := ?_) rfl (by kernel_rfl) (by kernel_rfl) (by kernel_rfl) (fun _ _ _ h => h) (Or.inl ⟨by rfl, ?_⟩) (by assumption) ?_
  rotate_left
  · intro w hSw
    go_simp
    try with_reducible rfl
  simp only [Act.put, List.getElem_toArray, List.getElem_cons_zero, List.getElem_cons_succ, List.setIfInBounds_toArray, List.set_cons_zero, List.set_cons_succ]
  refine wpAnyH_take (i := 3) (v := ?_) rfl (by kernel_rfl) (by kernel_rfl) (by kernel_rfl) (fun _ _ _ h => h) (Or.inl ⟨by rfl, ?_⟩) (by assumption) ?_
  rotate_left
  · intro w hSw
    go_simp
    try with_reducible rfl
  simp only [Act.put, List.getElem_toArray, List.getElem_cons_zero, List.getElem_cons_succ, List.setIfInBounds_toArray, List.set_cons_zero, List.set_cons_succ]
  refine wpAnyH_take (i := 5) (v := ?_) rfl (by kernel_rfl) (by kernel_rfl) (by kernel_rfl) (fun _ _ _ h => h) (Or.inl ⟨by rfl, ?_⟩) (by assumption) ?_
  rotate_left
  · intro w hSw
    go_simp
    try with_reducible rfl
  simp only [Act.put, List.getElem_toArray, List.getElem_cons_zero, List.getElem_cons_succ, List.setIfInBounds_toArray, List.set_cons_zero, List.set_cons_succ]
  refine wpAnyH_take (i := 6) (v := ?_) rfl (by kernel_rfl) (by kernel_rfl) (by kernel_rfl) (fun _ _ _ h => h) (Or.inl ⟨by rfl, ?_⟩) (by assumption) ?_
  rotate_left
  · intro w hSw
    go_simp
    try with_reducible rfl
  simp only [Act.put, List.getElem_toArray, List.getElem_cons_zero, List.getElem_cons_succ, List.setIfInBounds_toArray, List.set_cons_zero, List.set_cons_succ]
  refine wpAnyH_take (i := 7) (v := ?_) rfl (by kernel_rfl) (by kernel_rfl) (by kernel_rfl) (fun _ _ _ h => h) (Or.inl ⟨by rfl, ?_⟩) (by assumption) ?_
  rotate_left
  · intro w hSw
    go_simp
    try with_reducible rfl
  simp only [Act.put, List.getElem_toArray, List.getElem_cons_zero, List.getElem_cons_succ, List.setIfInBounds_toArray, List.set_cons_zero, List.set_cons_succ]
  refine wpAnyH_take (i := 8) (v := ?_) rfl (by kernel_rfl) (by kernel_rfl) (by kernel_rfl) (fun _ _ _ h => h) (Or.inl ⟨by rfl, ?_⟩) (by assumption) ?_
  rotate_left
  · intro w hSw
    go_simp
    try with_reducible rfl
  simp only [Act.put, List.getElem_toArray, List.getElem_cons_zero, List.getElem_cons_succ, List.setIfInBounds_toArray, List.set_cons_zero, List.set_cons_succ]
  refine wpAnyH_take (i := 9) (v := .int .i64 ((min b p.hn : Nat) : Int)) rfl (by kernel_rfl) (by kernel_rfl) (by kernel_rfl) (fun _ _ _ h => h) (Or.inl ⟨by rfl, ?_⟩) (by assumption) ?_
  · intro w hSw
    go_simp
    try (split <;> omega)
  simp only [Act.put, List.getElem_toArray, List.getElem_cons_zero, List.getElem_cons_succ, List.setIfInBounds_toArray, List.set_cons_zero, List.set_cons_succ]
  refine wpAnyH_ready (rs := [4]) (by kernel_rfl) (by simp) ?_
  refine AllReadyH.cons rfl (fun K hK => ?_) AllReadyH.nil
  go_simp
  refine (CK.out _ hHeld.1).mono ?_
  rintro e w6 ⟨ka, kc, rfl, ko, b6⟩
  refine hK.out _ _ (⟨bthen hHeld.1 b6, CE.out _ (bthen hHeld.1 b6)⟩) (fun hHeld => ?_)
  clear hK K
  rw [FX.out] at ko
  have CC := aside (gcuts_any b p.r ko XL.out LH.out HRM.out MM.out (by have := HB.out; omega))
  have B6 := aside hHeld.1
  clear ko b6
  refine wpAnyH_ready (rs := [10]) (by kernel_rfl) (by simp) ?_
  refine AllReadyH.cons rfl (fun K hK => ?_) AllReadyH.nil
  go_simp
  refine (CC.out).mono ?_
  rintro e w7 ⟨g7, m7, p7, rfl, hr7, hg7, b7⟩
  refine hK.out _ _ (⟨bthen hHeld.1 b7, CE.out _ (bthen hHeld.1 b7)⟩) (fun hHeld => ?_)
  clear hK K
  have H7 := aside hr7
  have B7 := aside (bthen B6.out b7)
  clear hr7 b7 CC B6 hg7
  refine wpAnyH_take (i := 11) (v := ?_) rfl (by kernel_rfl) (by kernel_rfl) (by kernel_rfl) (fun _ _ _ h => h) (Or.inl ⟨by rfl, ?_⟩) (by assumption) ?_
  rotate_left
  · intro w hSw
    go_simp
    try with_reducible rfl
  simp only [Act.put, List.getElem_toArray, List.getElem_cons_zero, List.getElem_cons_succ, List.setIfInBounds_toArray, List.set_cons_zero, List.set_cons_succ]
  refine wpAnyH_take (i := 12) (v := ?_) rfl (by kernel_rfl) (by kernel_rfl) (by kernel_rfl) (fun _ _ _ h => h) (Or.inl ⟨by rfl, ?_⟩) (by assumption) ?_
  rotate_left
  · intro w hSw
    go_simp
    try with_reducible rfl
  simp only [Act.put, List.getElem_toArray, List.getElem_cons_zero, List.getElem_cons_succ, List.setIfInBounds_toArray, List.set_cons_zero, List.set_cons_succ]
  refine wpAnyH_take (i := 13) (v := ?_) rfl (by kernel_rfl) (by kernel_rfl) (by kernel_rfl) (fun _ _ _ h => h) (Or.inl ⟨by rfl, ?_⟩) (by assumption) ?_
  rotate_left
  · intro w hSw
    go_simp
    try with_reducible rfl
  simp only [Act.put, List.getElem_toArray, List.getElem_cons_zero, List.getElem_cons_succ, List.setIfInBounds_toArray, List.set_cons_zero, List.set_cons_succ]
  refine wpAnyH_take (i := 14) (v := ?_) rfl (by kernel_rfl) (by kernel_rfl) (by kernel_rfl) (fun _ _ _ h => h) (Or.inl ⟨by rfl, ?_⟩) (by assumption) ?_
  rotate_left
  · intro w hSw
    go_simp
    try with_reducible rfl
  simp only [Act.put, List.getElem_toArray, List.getElem_cons_zero, List.getElem_cons_succ, List.setIfInBounds_toArray, List.set_cons_zero, List.set_cons_succ]
  refine wpAnyH_take (i := 15) (v := ?_) rfl (by kernel_rfl) (by kernel_rfl) (by kernel_rfl) (fun _ _ _ h => h) (Or.inl ⟨by rfl, ?_⟩) (by assumption) ?_
  rotate_left
  · intro w hSw
    go_simp
    try with_reducible rfl
  simp only [Act.put, List.getElem_toArray, List.getElem_cons_zero, List.getElem_cons_succ, List.setIfInBounds_toArray, List.set_cons_zero, List.set_cons_succ]
  refine wpAnyH_done (by kernel_rfl) ?_ _
  clear hHeld CK
  have hm7 : m7 ≤ 16 := by have h1 := H7.out.1; rw [cuts_len] at h1; have := HB.out; omega
  have hml := H7.out.1
  have HML := aside hml
  obtain ⟨i0, hi, hz0, hz1, hz2⟩ := info_parts infoPt
  obtain ⟨wm, hrun, hown, hgrow⟩ := run_make_own (P := Tryd.prog) w7 w7.heap.size 82 81 i0 _ 5 Tryd.underlying82 hi hz0 hz1 .i64 .i64 m7 (by rw [hz2]; omega) (by unfold maxLen; omega) (Nat.le_refl _)
  have OX := aside (show wm.ownsRow w7.heap.size 81 5 (.slice (some ⟨w7.heap.size, 0, none⟩) 0 m7) 0 (rowC ptF []) from hown)
  have BM := aside ((Below.refl w7.heap.size w7).grown hgrow (Nat.le_refl _) (fun j e => by cases e))
  have hm0 : ¬ (m7 : Int) < 0 := by omega
  have hmi : (m7 : Int) ≤ 16 := by omega
  clear hown hgrow hi hz0 hz1 hz2 hml
  go_wp2_with fail
  clear hrun
  go_loopw [7, 33] (fun v i wr => ∃ (j : Nat) (G : List GP), i = .int .i64 (j : Int) ∧ j ≤ m7 ∧ G.length = j ∧ Hid (wr.ownsRow w7.heap.size 81 5 v j (rowC ptF G)) ∧ Hid (G.map (fun g => g.r) = (cutsL b p.r (inL p.r M)).take j) ∧ Hid (PtsIn wr T M v.ownBlock G) ∧ Hid (∀ g ∈ G, (∀ x, g.sa = some x → w.heap.size ≤ x.block) ∧ (∀ x, g.ha = some x → w.heap.size ≤ x.block)) ∧ Hid (Below w7.heap.size w7 wr)) (fun v i _ => m7 - (intOf i).toNat)
  case atStart => exact ⟨0, [], rfl, Nat.zero_le _, rfl, OX, aside rfl, aside (fun g hg => by cases hg), aside (fun g hg => by cases hg), BM⟩
  case round =>
    clear OX BM
    obtain ⟨j, G, rfl, hj, hGl, HO, HG, HP, HF, HBW⟩ := hrel
    obtain ⟨a9, c9, rfl, -, -, -⟩ := own_slice HO.out
    by_cases hlt : (j : Int) < (m7 : Int)
    · have hj0 : (0 : Int) ≤ (j : Int) := by omega
      have hjm : j < m7 := by omega
      obtain ⟨s, hs⟩ : ∃ s, (cutsL b p.r (inL p.r M))[j]? = some s := ⟨_, List.getElem?_eq_getElem (by rw [HML.out]; exact hjm)⟩
      have HS := aside hs
      have HSI := aside (cuts_in MM.out HRM.out (cuts_at hs))
      have hLw := H7.out.on HBW.out
      have hlcap := hLw.2.1
      have r0 : wr.cell? ⟨g7, 0 + j * 3, none⟩ = some (.string s.lo) := hLw.cellAt rgF_ok (r := 0) hs (by omega) rfl
      have r1 : wr.cell? ⟨g7, 0 + j * 3 + 1, none⟩ = some (.string s.hi) := hLw.cellAt rgF_ok (r := 1) hs (by omega) rfl
      have r2 : wr.cell? ⟨g7, 0 + j * 3 + 2, none⟩ = some (.bool s.op) := hLw.cellAt rgF_ok (r := 2) hs (by omega) rfl
      rw [Nat.zero_add] at r0 r1 r2
      have hwr : IntKind.i64.wrap ((j : Int) + 1) = (((j + 1 : Nat)) : Int) := by rw [IntKind.wrap_i64]; omega
      have NA := bnew wr (.cells #[.string s.lo, .string s.hi, .bool s.op] 26)
      have BVr := bthen B7.out HBW.out
      have BA := aside (bthen BVr NA)
      have NW := aside NA
      obtain ⟨W1, hW1⟩ : ∃ W1, wr.alloc (.cells #[.string s.lo, .string s.hi, .bool s.op] 26) = W1 := ⟨_, rfl⟩
      have HW1 := aside hW1
      rw [hW1] at NW BA
      have KS := aside (show W1.heap[wr.heap.size]? = some (.cells #[.string s.lo, .string s.hi, .bool s.op] 26 (0, 0)) from by rw [← hW1]; exact heap_alloc_new wr (.cells #[.string s.lo, .string s.hi, .bool s.op] 26))
      have CX := aside (gin_any s ((PP.out.on BA.out).h) (in_mapG MM.out p.r) LH.out HSI.out.1)
      have hnl : p.sn ≤ 256 := by have h1 := PP.out.s.len; have h2 := inL_len p.r T; have := LMT.out.2; omega
      have HNL := aside hnl
      clear hs hLw NA BVr hW1 hnl
      go_upto_region 6 with fail
      rw [HW1.out]
      obtain ⟨e0, e1, e2, e3, e4⟩ := CE.out W1 BA.out
      obtain ⟨s0, s1, s2⟩ := box3r KS.out
      clear r0 r1 r2
      go_wp2_with fail
      refine CX.out.mono ?_
      rintro e w8 ⟨a1, n1, c1, rfl, hx, hxf, b8⟩
      have HX := aside hx
      have HXF := aside hxf
      have B8 := aside (bthen BA.out b8)
      have CY := aside (gin_any s ((PP.out.on B8.out).s) (in_mapG MT.out p.r) HNL.out HSI.out.1)
      have NW8 := aside (bthen NW.out b8)
      replace KS := aside (blk_on KS.out b8)
      clear hx hxf CX e0 e1 e2 e3 e4 s0 s1 s2
      obtain ⟨e0, e1, e2, e3, e4⟩ := CE.out w8 B8.out
      obtain ⟨s0, s1, s2⟩ := box3r KS.out
      have BX8 := aside b8
      clear b8
      go_wp2_with fail
      refine CY.out.mono ?_
      rintro e w9 ⟨a2, n2, c2, rfl, hy, hyf, b9⟩
      obtain ⟨s0', s1', s2'⟩ := box3r (blk_on KS.out b9)
      have NG := bnew w9 (.cells #[.string s.lo, .string s.hi, .bool s.op, .slice a1 n1 c1, .slice a2 n2 c2] 81)
      have NW9 := aside (bthen NW8.out b9)
      have NWG := aside (bthen (bthen NW8.out b9) NG)
      have hsz1 : wr.heap.size ≤ W1.heap.size := NW.out.size
      have hsz2 : W1.heap.size ≤ w8.heap.size := BX8.out.size
      have hsz3 : w8.heap.size ≤ w9.heap.size := b9.size
      have hsz4 : w7.heap.size ≤ wr.heap.size := HBW.out.size
      have hsz5 : V.heap.size ≤ w7.heap.size := B7.out.size
      have hsz6 : w.heap.size ≤ V.heap.size := BV.out.size
      have hG : PtIn (w9.alloc (.cells #[.string s.lo, .string s.hi, .bool s.op, .slice a1 n1 c1, .slice a2 n2 c2] 81)) T M ⟨s, a1, n1, c1, a2, n2, c2⟩ := ⟨by
        have h1 := (HX.out.on b9).on NG
        rwa [inL_in HSI.out.2] at h1, by
        have h1 := hy.on NG
        rwa [inL_in HSI.out.2] at h1⟩
      have hF1 : FarL (w9.alloc (.cells #[.string s.lo, .string s.hi, .bool s.op, .slice a1 n1 c1, .slice a2 n2 c2] 81)) a1 (Value.slice a9 j c9).ownBlock := fun x hx => by
        have h1 := HXF.out x hx
        refine ⟨fun e => ?_, by rw [World.size_alloc]; omega⟩
        have h2 := (HO.out.lt _ e.symm).2
        omega
      have hF2 : FarL (w9.alloc (.cells #[.string s.lo, .string s.hi, .bool s.op, .slice a1 n1 c1, .slice a2 n2 c2] 81)) a2 (Value.slice a9 j c9).ownBlock := fun x hx => by
        have h1 := hyf x hx
        refine ⟨fun e => ?_, by rw [World.size_alloc]; omega⟩
        have h2 := (HO.out.lt _ e.symm).2
        omega
      have HP2 := aside ((HP.out.on NWG.out).snoc hG hF1 hF2)
      have HF2 := aside (show ∀ g ∈ G ++ [⟨s, a1, n1, c1, a2, n2, c2⟩], (∀ x, g.sa = some x → w.heap.size ≤ x.block) ∧ (∀ x, g.ha = some x → w.heap.size ≤ x.block) from fun g hg => by
        rcases List.mem_append.1 hg with hg | hg
        · exact HF.out g hg
        · obtain rfl : g = ⟨s, a1, n1, c1, a2, n2, c2⟩ := by simpa using hg
          exact ⟨fun x hx => by have := (HXF.out x hx).1; omega, fun x hx => by have := (hyf x hx).1; omega⟩)
      have HG2 := aside (show (G ++ [(⟨s, a1, n1, c1, a2, n2, c2⟩ : GP)]).map (fun g => g.r) = (cutsL b p.r (inL p.r M)).take (j + 1) from by
        rw [List.map_append, HG.out, List.take_add_one, HS.out]
        rfl)
      have O9 := aside (own_on HO.out NWG.out)
      have KG0 := heap_alloc_new w9 (.cells #[.string s.lo, .string s.hi, .bool s.op, .slice a1 n1 c1, .slice a2 n2 c2] 81)
      have KG := aside (show RowIn ptF (w9.alloc (.cells #[.string s.lo, .string s.hi, .bool s.op, .slice a1 n1 c1, .slice a2 n2 c2] 81)) (some ⟨w9.heap.size, 0, none⟩) 1 1 [⟨s, a1, n1, c1, a2, n2, c2⟩] from
        ⟨rfl, Nat.le_refl _, by unfold maxLen; omega, .inr ⟨w9.heap.size, 0, rfl, by rw [World.size_alloc]; omega, fun i u hi => by
          have hu : (#[.string s.lo, .string s.hi, .bool s.op, .slice a1 n1 c1, .slice a2 n2 c2] : Array Value)[i]? = some u := by simpa [rowC, ptF] using hi
          rw [Nat.zero_add, cell_of_row _ _ i _ _ _ KG0]
          exact hu⟩⟩)
      have HSZ := aside (show w7.heap.size ≤ (w9.alloc (.cells #[.string s.lo, .string s.hi, .bool s.op, .slice a1 n1 c1, .slice a2 n2 c2] 81)).heap.size from by rw [World.size_alloc]; omega)
      have BW9 := aside (bthen HBW.out NWG.out)
      clear hy hyf b9 CY e0 e1 e2 e3 e4 s0 s1 s2 NG hsz1 hsz2 hsz3 hsz4 hsz5 hsz6 hG hF1 hF2 KG0 HX HXF NW NW8 NW9 KS BA B8 BX8 HP HF HG HO HW1
      go_wp2_with (at_builtin; go_loud (refine wpList_plain rfl fun K hK => op_append_rowC ptF_ok Tryd.underlying82 infoPt rfl _ _ rfl w7.heap.size j 1 _ G _ (by rfl) O9.out _ 1 (by rfl) KG.out (by omega) (by unfold maxLen; omega) HSZ.out ?_); intro v8 w10 own8 gr8 hv8; refine hK _ _ ?_; refine Hid.out ?_)
      refine aside ?_
      have B10 := aside (BW9.out.grown gr8 HSZ.out (fun k e => (O9.out.lt k e).1))
      have P10 := aside (HP2.out.grown gr8 hv8)
      have O10 := aside own8
      clear own8 gr8 hv8 O9 KG HSZ BW9 HP2 s0' s1' s2'
      go_wp2
      go_roundw
      case rel => exact ⟨j + 1, _, by go_num, by omega, by rw [List.length_append, hGl]; rfl, O10, HG2, P10, HF2, B10⟩
      case measure => simp [intOf]; omega
    · obtain rfl : j = m7 := by omega
      have RX := aside (RowIn.of_own ptF_ok HO.out)
      have HMAP := aside (show G.map (fun g => g.r) = cutsL b p.r (inL p.r M) from by rw [HG.out, List.take_of_length_le (by rw [HML.out]; exact Nat.le_refl _)])
      have HALL := aside (show ∀ g ∈ G, PtIn wr T M g ∧ (∀ x, g.sa = some x → w.heap.size ≤ x.block ∧ x.block < wr.heap.size) ∧ (∀ x, g.ha = some x → w.heap.size ≤ x.block ∧ x.block < wr.heap.size) from fun g hg =>
        ⟨(HP.out g hg).1, fun x hx => ⟨(HF.out g hg).1 x hx, ((HP.out g hg).2.1 x hx).2⟩, fun x hx => ⟨(HF.out g hg).2 x hx, ((HP.out g hg).2.2 x hx).2⟩⟩)
      have BF := aside (bthen (bthen BV.out B7.out) HBW.out)
      clear HO HG HP HF
      go_wp2
      go_ret
      exact ⟨a9, j, c9, rfl, G, RX.out, HMAP.out, (by have h := HALL.out; rw [HPB.out] at h; exact h), (by have h := BF.out; rw [HPB.out] at h; exact h)⟩
end Go.Proofs.YtfkdhambbpkmpaaDoor
