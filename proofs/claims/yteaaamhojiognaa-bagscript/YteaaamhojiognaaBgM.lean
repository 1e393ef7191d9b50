/-
  Take, Drop, Double and Same of the document's bag.
-/
import Derived.Test.YteaaamhojiognaaBgL
namespace Go.Proofs.Yteaaamhojiognaa
open Go.RowKit
set_option linter.unusedVariables false

set_option maxHeartbeats 3200000 in
theorem rtake_no {w : World} {B b : Nat} {v : Value} {room last lost : Nat} {l : List Pk} (h : RBag w B b v room last lost l) (i : Int) (hi : i < 0 ∨ (l.length : Int) ≤ i) : Calls Try.prog 14 #[.pointer (some ⟨b, 0, none⟩), .int .i64 i] w fun e w' => e = .returned (.tuple #[pk0, .int .i64 161]) ∧ Below w.heap.size w w' := by
  have b1 := bnew w (.cells #[.int .i64 0, .int .i64 0, .int .i64 0, .slice none 0 0] 39)
  have k1 := heap_alloc_new w (.cells #[.int .i64 0, .int .i64 0, .int .i64 0, .slice none 0 0] 39)
  have B1 := aside b1
  obtain ⟨x0, x1, x2, x3⟩ := (h.on b1).cells
  obtain ⟨a, c, rfl, -⟩ := own_slice h.row
  obtain ⟨d0, d1, d2, d3⟩ := fourB k1
  have f0 := frozen_of_row _ w.heap.size 0 _ _ k1
  have f1 := frozen_of_row _ w.heap.size 1 _ _ k1
  have f2 := frozen_of_row _ w.heap.size 2 _ _ k1
  have f3 := frozen_of_row _ w.heap.size 3 _ _ k1
  obtain ⟨n, hn⟩ : ∃ n, l.length = n := ⟨_, rfl⟩
  rw [hn] at x3 hi
  unfold pk0
  clear h hn b1 k1 x0 x1 x2
  by_cases h0 : i < 0
  · clear hi
    go_enter Try.func14, Try.ntmps14
    go_wp2
    try simp only [Exit.inBlock, Exit.then]
    exact bodyPost_ret (v := .tuple #[.agg #[.int .i64 0, .int .i64 0, .int .i64 0, .slice none 0 0], .int .i64 161]) (by simp [results, Try.results14, go_sem]) rfl ⟨rfl, B1.out⟩
  · have h1 : i ≥ (n : Int) := by rcases hi with h | h; exact absurd h h0; exact h
    clear hi
    go_enter Try.func14, Try.ntmps14
    go_wp2
    try simp only [Exit.inBlock, Exit.then]
    exact bodyPost_ret (v := .tuple #[.agg #[.int .i64 0, .int .i64 0, .int .i64 0, .slice none 0 0], .int .i64 161]) (by simp [results, Try.results14, go_sem]) rfl ⟨rfl, B1.out⟩

theorem RBag.at {w : World} {B b : Nat} {v : Value} {room last lost : Nat} {l : List Pk} (h : RBag w B b v room last lost l) {i : Nat} {p : Pk} (hp : l[i]? = some p) : ∃ g c, v = .slice (some ⟨g, 0, none⟩) l.length c ∧ w.cell? ⟨g, i * 4, none⟩ = some (.int .i64 p.num) ∧ w.cell? ⟨g, i * 4 + 1, none⟩ = some (.int .i64 p.frm) ∧ w.cell? ⟨g, i * 4 + 2, none⟩ = some (.int .i64 p.dst) ∧ w.cell? ⟨g, i * 4 + 3, none⟩ = some (.slice p.da p.dl p.dc) := by
  have hi : i < l.length := (List.getElem?_eq_some_iff.1 hp).1
  obtain ⟨a, c, rfl, h1, h2, ⟨h3, h4, h5⟩ | ⟨g, rfl, hb, hg⟩⟩ := own_slice h.row
  · omega
  · have := (PkIn.of_own h.row).at hp
    simp only [Nat.zero_add] at this
    exact ⟨g, c, rfl, this⟩
/-- What Take and Drop leave. -/
def RemR (w : World) (B b : Nat) (v : Value) (room last lost : Nat) (l : List Pk) (i : Nat) (w' : World) : Prop := ∃ v', RBag w' B b v' room last lost (l.take i ++ l.drop (i + 1)) ∧ Keeps (BgS b v) w w' ∧ ∀ j, v'.ownBlock = some j → w.heap.size ≤ j
set_option maxHeartbeats 6400000 in
set_option maxRecDepth 100000 in
theorem rtake_yes {w : World} {B b : Nat} {v : Value} {room last lost : Nat} {l : List Pk} (h : RBag w B b v room last lost l) (i : Nat) (p : Pk) (hp : l[i]? = some p) (hB : B ≤ w.heap.size) : Calls Try.prog 14 #[.pointer (some ⟨b, 0, none⟩), .int .i64 (i : Int)] w fun e w' => e = .returned (.tuple #[Pk.v p, .int .i64 0]) ∧ DatR B w' p ∧ RemR w B b v room last lost l i w' := by
  have hi : i < l.length := (List.getElem?_eq_some_iff.1 hp).1
  have hpm := List.mem_of_getElem? hp
  have HB := aside h
  have HBS := aside hB
  have HI := aside hi
  have HD := aside (h.dat _ hpm)
  obtain ⟨num, frm, dst, da, dl, dc, L⟩ := p
  unfold Pk.v
  obtain ⟨g, c, rfl, y0, y1, y2, y3⟩ := h.at hp
  dsimp only at y0 y1 y2 y3 ⊢
  obtain ⟨k, hk⟩ : ∃ k, i + 1 = k := ⟨_, rfl⟩
  have HK := aside hk
  obtain ⟨aT, cT, sl, hT⟩ := pk_tail h.row (k := k) (by omega)
  have HT := aside hT
  have HH := aside (show PkIn w (some ⟨g, 0, none⟩) i c (l.take i) from by
    obtain ⟨p1, p2, p3, p4⟩ := PkIn.of_own h.row
    refine ⟨by rw [List.length_take]; omega, by omega, p3, ?_⟩
    rcases p4 with ⟨q1, q2, q3⟩ | ⟨b', o', q1, q2, q3⟩
    · cases q1
    · exact .inr ⟨b', o', q1, q2, fun j u hj => q3 j u (pkCells_take l i j u hj)⟩)
  have HC := aside (show l.length ≤ c ∧ c ≤ maxLen from by obtain ⟨p1, p2, p3, p4⟩ := PkIn.of_own h.row; exact ⟨p2, p3⟩)
  obtain ⟨n, hn⟩ : ∃ n, l.length = n := ⟨_, rfl⟩
  have HN := aside hn
  have h9 := h.r2
  have h8 := h.le
  have HMX := aside (show n ≤ 512 from by omega)
  have hw : IntKind.i64.wrap ((i : Int) + 1) = (k : Int) := by simp only [IntKind.wrap_i64]; omega
  obtain ⟨m, hm⟩ : ∃ m, n - k = m := ⟨_, rfl⟩
  rw [hn] at sl HT HC
  rw [hm] at sl HT
  have HM := aside (show i + m + 1 = n from by omega)
  obtain ⟨V, hV⟩ : ∃ V, w.alloc (.cells #[.int .i64 0, .int .i64 0, .int .i64 0, .slice none 0 0] 39) = V := ⟨_, rfl⟩
  obtain ⟨q4, hq4⟩ : ∃ q, w.heap.size = q := ⟨_, rfl⟩
  have b1 := bnew w (.cells #[.int .i64 0, .int .i64 0, .int .i64 0, .slice none 0 0] 39)
  have k1 := heap_alloc_new w (.cells #[.int .i64 0, .int .i64 0, .int .i64 0, .slice none 0 0] 39)
  rw [hV] at b1 k1
  rw [hq4] at k1
  have HQ4 := aside hq4
  have hi0 : (0 : Int) ≤ (i : Int) := by omega
  have hi1 : (i : Int) < (n : Int) := by omega
  have hi2 : ¬ (i : Int) < 0 := by omega
  have hi3 : ¬ (i : Int) ≥ (n : Int) := by omega
  have hi4 : (i : Int) ≤ (c : Int) := by have := HC.out.1; omega
  have hmx : c ≤ 9223372036854775807 := by have := HC.out.2; unfold maxLen at this; omega
  replace y0 := cell_inB y0 b1
  replace y1 := cell_inB y1 b1
  replace y2 := cell_inB y2 b1
  replace y3 := cell_inB y3 b1
  obtain ⟨x0, x1, x2, x3⟩ := (h.on b1).cells
  rw [hn] at x3
  obtain ⟨X, hX⟩ : ∃ X, V.alloc (.cells #[.int .i64 num, .int .i64 frm, .int .i64 dst, .slice da dl dc] 39) = X := ⟨_, rfl⟩
  obtain ⟨q6, hq6⟩ : ∃ q, V.heap.size = q := ⟨_, rfl⟩
  have b3 := bnew V (.cells #[.int .i64 num, .int .i64 frm, .int .i64 dst, .slice da dl dc] 39)
  have k3 := heap_alloc_new V (.cells #[.int .i64 num, .int .i64 frm, .int .i64 dst, .slice da dl dc] 39)
  rw [hX] at b3 k3
  rw [hq6] at k3
  have B3 := aside (bthen b1 b3)
  have K3 := aside k3
  have K4 := aside (blk_on k1 b3)
  have K40 := aside (blk_on k1 b3)
  have HQ6 := aside (show q4 < q6 from by rw [← hq6]; exact lt_of_blk k1)
  have HH3 := aside (HH.out.on B3.out)
  have HT3 := aside (HT.out.on B3.out)
  have X3 := aside (((HB.out.on B3.out).cells).2.2.2)
  rw [hn] at X3
  clear h hp hpm hB hi hn b1 k1 b3 k3 hk hT h8 h9 hm x0 x1 x2 HH HT
  go_enter Try.func14, Try.ntmps14
  go_upto_region 5 with fail
  try rw [hX]
  clear hX hq6 hV hq4 y0 y1 y2 y3 x3
  have x3 := X3.out
  go_wp2_with (at_builtin; refine wpList_plain rfl fun K hK => op_append_pks _ _ rfl w.heap.size 0 i (.slice none 0 0) [] (l.take i) (by rfl) ⟨rfl, .inl ⟨rfl, rfl⟩⟩ _ _ (by rfl) HH3.out (by have h1 := HMX.out; have h2 := HM.out; omega) B3.out.size ?_; intro v5 w5 own5 g5 at5; refine hK _ _ ?_; refine Hid.out ?_)
  refine aside ?_
  rw [Nat.zero_add, List.nil_append] at own5
  obtain ⟨a5, c5, rfl, -⟩ := own_slice own5
  have O5 := aside own5
  have b5 : Below X.heap.size X w5 := (Below.refl _ X).grown g5 (Nat.le_refl _) (fun k e => by cases e)
  have H5 := aside (show ∀ j, (Value.slice a5 i c5).ownBlock = some j → X.heap.size ≤ j from fun j hj => by
    rcases at5 with h | h
    · rw [hj] at h; cases h
    · rw [hj] at h; injection h with h; omega)
  have B5 := aside b5
  replace HT3 := aside (HT3.out.on b5)
  replace x3 := cell_inB x3 b5
  clear own5 g5 at5 b5 X3 HH3
  go_wp2_with (at_builtin; refine wpList_plain rfl fun K hK => op_append_pks _ _ rfl w.heap.size i m (.slice a5 i c5) (l.take i) (l.drop k) (by rfl) O5.out _ _ (by rfl) HT3.out (by have h1 := HMX.out; have h2 := HM.out; omega) (by have h1 := B3.out.size; have h2 := B5.out.size; omega) ?_; intro v6 w6 own6 g6 at6; refine hK _ _ ?_; refine Hid.out ?_)
  refine aside ?_
  obtain ⟨a6, c6, rfl, -⟩ := own_slice own6
  have O6 := aside own6
  have b6 : Below X.heap.size X w6 := B5.out.grown g6 B5.out.size (fun k e => H5.out k e)
  have BB := aside (bthen B3.out b6)
  have HB6 := aside (HB.out.on (bthen B3.out b6))
  replace K3 := aside (blk_on K3.out b6)
  replace K4 := aside (blk_on K4.out b6)
  have HD6 := aside (HD.out.on (bthen B3.out b6))
  have NR := aside (show ∀ j, (Value.slice a6 (i + m) c6).ownBlock = some j → j ≠ q4 from fun j hj e => by
    have h3 := lt_of_blk K40.out
    rcases at6 with h | h
    · rw [hj] at h; have h4 := H5.out j h.symm; omega
    · rw [hj] at h; injection h with h; have h4 := B5.out.size; omega)
  clear own6 g6 at6 b6 B5 H5 O5 HT3 x3 K40
  have fb := HB6.out.frozen 3
  obtain ⟨x0, x1, x2, x3⟩ := HB6.out.cells
  have hb4 : b ≠ q4 := fun e => by have h1 := lt_of_blk HB.out.bx; have h2 := HQ4.out; omega
  have hb6 : b ≠ q6 := fun e => by have h1 := lt_of_blk HB.out.bx; have h2 := HQ4.out; have h3 := HQ6.out; omega
  have h46 : q4 ≠ q6 := fun e => by have h3 := HQ6.out; omega
  obtain ⟨Y1, hY1⟩ : ∃ Y, w6.setCell ⟨b, 3, none⟩ (.slice a6 (i + m) c6) = Y := ⟨_, rfl⟩
  obtain ⟨Y2, hY2⟩ : ∃ Y, (((Y1.setCell ⟨q4, 0, none⟩ (.int .i64 num)).setCell ⟨q4, 1, none⟩ (.int .i64 frm)).setCell ⟨q4, 2, none⟩ (.int .i64 dst)).setCell ⟨q4, 3, none⟩ (.slice da dl dc) = Y := ⟨_, rfl⟩
  have k0 : Keeps (fun x => x = b) w6 Y1 := by rw [← hY1]; exact (Keeps.refl (fun x => x = b) w6).setCell (p := ⟨b, 3, none⟩) (fun _ => rfl) _
  have kz : Keeps (fun x => x = q4) Y1 Y2 := by rw [← hY2]; exact setFour_keeps Y1 q4 _ _ _ _
  have k2 := blk_keep K4.out k0 (fun e => hb4 e.symm)
  have k4 : Y2.heap[q4]? = some (.cells #[.int .i64 num, .int .i64 frm, .int .i64 dst, .slice da dl dc] 39 (0, 0)) := by rw [← hY2]; exact set_fourB k2 _ _ _ _
  have FIN := aside (show DatR B Y2 ⟨num, frm, dst, da, dl, dc, L⟩ ∧ RemR w B b (.slice (some ⟨g, 0, none⟩) l.length c) room last lost l i Y2 from by
    have h0 := HB6.out
    have e0 : (l.take i ++ l.drop (i + 1)).length = i + m := by
      rw [List.length_append, List.length_take, List.length_drop]
      have h1 := HM.out; have h3 := HN.out
      omega
    have hx : ∀ j, (Value.slice a6 (i + m) c6).ownBlock = some j → w.heap.size ≤ j := fun j hj => (O6.out.lt j hj).1
    have hsz := HBS.out
    have r1 : RBag Y1 B b (.slice a6 (i + m) c6) room last lost (l.take i ++ l.drop (i + 1)) := by
      refine ⟨?_, h0.ge, ?_, fun p hp => ?_, ?_, h0.r1, h0.r2⟩
      · rw [← hY1]
        have := bag_set (k := 3) h0.bx (.slice a6 (i + m) c6)
        simpa using this
      · have h9 := ownsRow_keep O6.out k0 (fun j hj e => by subst e; exact own_typed O6.out h0.bx (by decide) hj)
        rw [e0, HK.out]
        exact own_low h9 hsz
      · have hp2 : p ∈ l := by
          rcases List.mem_append.1 hp with hp | hp
          · exact List.mem_of_mem_take hp
          · exact List.mem_of_mem_drop hp
        exact (h0.dat p hp2).keep k0 (fun x hx => (h0.dat p hp2).typed h0.bx (by decide) x hx)
      · rw [e0]
        have h1 := h0.le
        have h2 := HM.out; have h4 := HN.out
        omega
    refine ⟨(HD6.out.keep k0 (fun x hx => HD6.out.typed h0.bx (by decide) x hx)).keep kz (fun x hx => (HD6.out.keep k0 (fun x hx => HD6.out.typed h0.bx (by decide) x hx)).typed k2 (by decide) x hx), _, r1.keep kz hb4 (fun j hj e => ?_) (fun p hp x hx => (r1.dat p hp).typed k2 (by decide) x hx), ?_, hx⟩
    · have h1 := (O6.out.lt j hj).1
      rcases O6.out.2 with ⟨h2, _⟩ | ⟨g2, cap, cur, h2, h3, h4, h5⟩
      · rw [h2] at hj; cases hj
      · injection h2 with e1 _ _
        subst e1
        have e2 : g2 = j := by simpa [Value.ownBlock] using hj
        exact NR.out j hj e
    · refine ⟨kz.os.trans (k0.os.trans BB.out.os), kz.tape.trans (k0.tape.trans BB.out.tape), kz.output.trans (k0.output.trans BB.out.output), Nat.le_trans BB.out.size (Nat.le_trans k0.size kz.size), fun x hx hs => ?_⟩
      have h1 := BB.out.size
      have h2 := k0.size
      rw [kz.block x (by omega) (fun e => by have h3 := HQ4.out; omega), k0.block x (by omega) (fun e => hs (.inl e))]
      exact BB.out.block x hx)
  obtain ⟨r0, r1, r2, r3⟩ := fourB k4
  obtain ⟨y0, y1, y2, y3⟩ := fourB (blk_keep K3.out k0 (fun e => hb6 e.symm))
  obtain ⟨z0, z1, z2, z3⟩ := fourB k2
  have f0 := frozen_of_row Y1 q4 0 _ _ k2
  have f1 := frozen_of_row Y1 q4 1 _ _ k2
  have f2 := frozen_of_row Y1 q4 2 _ _ k2
  have f3 := frozen_of_row Y1 q4 3 _ _ k2
  clear k0 kz k2 k4 HB6 K3 K4 HD6 O6 BB
  go_wp2
  try rw [hY1]
  try rw [hY2]
  try simp only [Exit.inBlock, Exit.then]
  exact bodyPost_ret (v := .tuple #[.agg #[.int .i64 num, .int .i64 frm, .int .i64 dst, .slice da dl dc], .int .i64 0]) (by simp [results, Try.results14, go_sem, r0, r1, r2, r3]) rfl ⟨rfl, FIN.out.1, FIN.out.2⟩
end Go.Proofs.Yteaaamhojiognaa
