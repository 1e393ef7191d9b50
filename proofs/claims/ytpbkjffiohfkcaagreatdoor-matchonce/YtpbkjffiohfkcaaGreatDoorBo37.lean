/-
  replyTo.
  exchange.
  Parts that may be: plain.
  Parts that may be have entries that are maps.
-/
import Derived.Test.YtpbkjffiohfkcaaGreatDoorBo30
import Derived.Test.YtpbkjffiohfkcaaGreatDoorBo36
import Derived.Test.YtpbkjffiohfkcaaGreatDoorBo28
import Derived.Test.YtpbkjffiohfkcaaGreatDoorBo19
namespace Go.Proofs.YtpbkjffiohfkcaaGreatDoor
open Go.RowKit
set_option linter.unusedVariables false
/-- What a part of entries is answered with. -/
def rpL (p : Pm) (Ls : List En) : List En := if p.kind = 2 then lkL (thruL p.lo p.hi p.op true Ls) (firstE p.T p.el) else []
/-- The answer in memory: none, or one Reply. -/
def RpAt (B : Nat) (p : Pm) (m : List En) (v : Value) (w : World) : Prop := (m = [] ∧ v = .slice none 0 0) ∨ (m ≠ [] ∧ ∃ g a c, v = .slice (some ⟨g, 0, none⟩) 1 1 ∧ B ≤ g ∧ w.heap[g]? = some (.cells #[.int .i64 3, .string p.lo, .string p.hi, .bool p.op, .int .i64 0, .int .u64 0, .int .u64 0, .slice a m.length c] 47 (0, 0)) ∧ w.ownsRow B 77 5 (.slice a m.length c) m.length (entCells m))
theorem RpAt.below {B : Nat} {p : Pm} {m : List En} {v : Value} {w w' : World} (h : RpAt B p m v w) (b : Below w.heap.size w w') : RpAt B p m v w' := by
  rcases h with h | ⟨h0, g, a, c, h1, h2, h3, h4⟩
  · exact .inl h
  · exact .inr ⟨h0, g, a, c, h1, h2, blk_on h3 b, own_on h4 b⟩
theorem RpAt.low {B B' : Nat} {p : Pm} {m : List En} {v : Value} {w : World} (h : RpAt B p m v w) (b : B' ≤ B) : RpAt B' p m v w := by
  rcases h with h | ⟨h0, g, a, c, h1, h2, h3, h4⟩
  · exact .inl h
  · exact .inr ⟨h0, g, a, c, h1, by omega, h3, own_low h4 b⟩
theorem RpAt.keepS {B : Nat} {p : Pm} {m : List En} {v : Value} {w w' : World} {sb g tb : Nat} {nd ck : Int} {Ls : List En} (h : RpAt B p m v w) (hs : Sto w sb g tb nd ck Ls) (k : Keeps (Of sb g tb) w w') : RpAt B p m v w' := by
  rcases h with h | ⟨h0, g, a, c, h1, h2, h3, h4⟩
  · exact .inl h
  · refine .inr ⟨h0, g, a, c, h1, h2, blk_keep h3 k (hs.not h3 (by decide) (by decide) (by decide)), h4.1, ?_⟩
    rcases h4.2 with h5 | ⟨g2, cap, cur, e1, e2, e3, e4⟩
    · exact .inl h5
    · exact .inr ⟨g2, cap, cur, e1, e2, blk_keep e3 k (hs.not e3 (by decide) (by decide) (by decide)), e4⟩
theorem RpAt.set {B : Nat} {p : Pm} {m : List En} {v : Value} {w : World} (h : RpAt B p m v w) {b : Nat} (hb : b < B) (k : Nat) (u : Value) : RpAt B p m v (w.setCell ⟨b, k, none⟩ u) := by
  rcases h with h | ⟨h0, g, a, c, h1, h2, h3, h4⟩
  · exact .inl h
  · exact .inr ⟨h0, g, a, c, h1, h2, by rw [heap_setCell_other _ _ _ _ (by simp; omega)]; exact h3, own_set h4 hb k u⟩
theorem thru_map {lo hi : ByteArray} {op : Bool} {l : List En} (h : MapL l) : MapL (thruL lo hi op true l) := by
  unfold thruL
  exact mapL_sub h ((List.filter_sublist).trans (List.filter_sublist))
theorem thru_len (lo hi : ByteArray) (op : Bool) (l : List En) : (thruL lo hi op true l).length ≤ l.length := by
  unfold thruL
  exact Nat.le_trans (List.length_filter_le _ _) (List.length_filter_le _ _)
theorem lk_len {a b : List En} (ha : MapL a) (hb : MapL b) : (lkL a b).length ≤ a.length := (lk_sub a b ha hb).length_le
set_option maxHeartbeats 6400000 in
set_option maxRecDepth 100000 in
theorem replyTo_any (p : Pm) {w : World} {sb g tb : Nat} {nd ck : Int} {Ls : List En} (h : Sto w sb g tb nd ck Ls) (hm : MapL Ls) (hl : Ls.length ≤ 256) (hP : p.In w) (hpm : MapL (firstE p.T p.el)) (hpl : p.el ≤ 256) (hc : p.rg.chk = 0) :
    Calls Tryz.prog 61 #[.pointer (some ⟨sb, 0, none⟩), .agg #[.int .i64 p.kind, .string p.lo, .string p.hi, .bool p.op, .int .i64 p.cnt, .int .u64 p.s0, .int .u64 p.s1, .slice p.ea p.el p.ec]] w fun r w' => ∃ v, r = .returned v ∧ RpAt w.heap.size p (rpL p Ls) v w' ∧ Below w.heap.size w w' := by
  have BX := aside (bnew w (.cells #[.int .i64 p.kind, .string p.lo, .string p.hi, .bool p.op, .int .i64 p.cnt, .int .u64 p.s0, .int .u64 p.s1, .slice p.ea p.el p.ec] 47))
  have KX := aside (heap_alloc_new w (.cells #[.int .i64 p.kind, .string p.lo, .string p.hi, .bool p.op, .int .i64 p.cnt, .int .u64 p.s0, .int .u64 p.s1, .slice p.ea p.el p.ec] 47))
  obtain ⟨pb, hpb⟩ : ∃ pb, w.heap.size = pb := ⟨_, rfl⟩
  rw [hpb] at KX
  obtain ⟨X, hX⟩ : ∃ X, w.alloc (.cells #[.int .i64 p.kind, .string p.lo, .string p.hi, .bool p.op, .int .i64 p.cnt, .int .u64 p.s0, .int .u64 p.s1, .slice p.ea p.el p.ec] 47) = X := ⟨_, rfl⟩
  rw [hX] at BX KX
  have CH := aside (fun W (b : Below X.heap.size X W) => heldIn_any p.lo p.hi p.op ((h.below BX.out).below b) (by omega) hc)
  have HMT := aside (thru_map (lo := p.lo) (hi := p.hi) (op := p.op) hm)
  have HLT := aside (show (thruL p.lo p.hi p.op true Ls).length ≤ 256 from Nat.le_trans (thru_len _ _ _ _) hl)
  have HPI := aside (hP.keep BX.out)
  have HPM := aside hpm
  have HPL := aside hpl
  have HRP := aside (show rpL p Ls = if p.kind = 2 then lkL (thruL p.lo p.hi p.op true Ls) (firstE p.T p.el) else [] from rfl)
  clear h hm hl hP hpm hpl hc
  obtain ⟨p0, p1, p2, p3, -, -, -, p7⟩ := oct KX.out
  by_cases hk : p.kind = 2
  rotate_left
  · have hkb : (p.kind == 2) = false := by simpa using hk
    rw [show rpL p Ls = [] from by rw [HRP.out, if_neg hk]]
    clear hk
    go_enter Tryz.func61, Tryz.ntmps61
    go_wp2
    go_ret
    exact ⟨_, rfl, .inl ⟨rfl, rfl⟩, BX.out⟩
  · have hkb : (p.kind == 2) = true := by simpa using hk
    rw [show rpL p Ls = lkL (thruL p.lo p.hi p.op true Ls) (firstE p.T p.el) from by rw [HRP.out, if_pos hk]]
    clear hk
    generalize thruL p.lo p.hi p.op true Ls = hl at *
    obtain ⟨m, hmm⟩ : ∃ m, lkL hl (firstE p.T p.el) = m := ⟨_, rfl⟩
    have HM := aside hmm
    have HML := aside (show m.length ≤ 256 from by rw [← hmm]; exact Nat.le_trans (lk_len HMT.out HPM.out) HLT.out)
    rw [hmm]
    clear hmm HRP
    go_enter Tryz.func61, Tryz.ntmps61
    go_wp2_with fail
    clear hkb p0
    refine wp_region_held_drew (S := fun W => Below X.heap.size X W ∧ W.cell? ⟨pb, 1, none⟩ = some (.string p.lo) ∧ W.cell? ⟨pb, 2, none⟩ = some (.string p.hi) ∧ W.cell? ⟨pb, 3, none⟩ = some (.bool p.op) ∧ W.cell? ⟨pb, 7, none⟩ = some (.slice p.ea p.el p.ec)) (by kernel_rfl) ⟨(Below.refl _ X).drew, p1, p2, p3, p7⟩ (fun hHeld => ?_)
    refine wpAnyH_take (i := 0) (v := ?_) rfl (by kernel_rfl) (by kernel_rfl) (by kernel_rfl) (fun _ _ _ h => h) (Or.inl ⟨by rfl, ?_⟩) (by assumption) ?_
    rotate_left
    · intro w hSw
      go_simp
      try with_reducible rfl
    simp only [Act.put, List.getElem_toArray, List.getElem_cons_zero, List.setIfInBounds_toArray, List.set_cons_zero, List.set_cons_succ]
    refine wpAnyH_take (i := 1) (v := ?_) rfl (by kernel_rfl) (by kernel_rfl) (by kernel_rfl) (fun _ _ _ h => h) (Or.inl ⟨by rfl, ?_⟩) (by assumption) ?_
    rotate_left
    · intro w hSw
      go_simp
      try with_reducible rfl
    simp only [Act.put, List.getElem_toArray, List.getElem_cons_zero, List.getElem_cons_succ, List.setIfInBounds_toArray, List.set_cons_zero, List.set_cons_succ]
    refine wpAnyH_take (i := 2) (v := ?_) rfl (by kernel_rfl) (by kernel_rfl) (by kernel_rfl) (fun _ _ _ h => h) (Or.inl ⟨by rfl, ?_⟩) (by assumption) ?_
    rotate_left
    · intro w hSw
      go_simp
      try with_reducible rfl
    simp only [Act.put, List.getElem_toArray, List.getElem_cons_zero, List.getElem_cons_succ, List.setIfInBounds_toArray, List.set_cons_zero, List.set_cons_succ]
    refine wpAnyH_take (i := 4) (v := ?_) rfl (by kernel_rfl) (by kernel_rfl) (by kernel_rfl) (fun _ _ _ h => h) (Or.inl ⟨by rfl, ?_⟩) (by assumption) ?_
    rotate_left
    · intro w hSw
      go_simp
      try with_reducible rfl
    simp only [Act.put, List.getElem_toArray, List.getElem_cons_zero, List.getElem_cons_succ, List.setIfInBounds_toArray, List.set_cons_zero, List.set_cons_succ]
    refine wpAnyH_take (i := 5) (v := ?_) rfl (by kernel_rfl) (by kernel_rfl) (by kernel_rfl) (fun _ _ _ h => h) (Or.inl ⟨by rfl, ?_⟩) (by assumption) ?_
    rotate_left
    · intro w hSw
      go_simp
      try with_reducible rfl
    simp only [Act.put, List.getElem_toArray, List.getElem_cons_zero, List.getElem_cons_succ, List.setIfInBounds_toArray, List.set_cons_zero, List.set_cons_succ]
    refine wpAnyH_ready (rs := [3]) (by kernel_rfl) (by simp) ?_
    refine AllReadyH.cons rfl (fun K hK => ?_) AllReadyH.nil
    go_simp
    refine (CH.out _ hHeld.1).mono ?_
    rintro e w9 ⟨v1, rfl, o1, b9⟩
    refine hK.out _ _ (⟨hHeld.1.trans (b9.mono hHeld.1.size), cell_in hHeld.2.1 b9, cell_in hHeld.2.2.1 b9, cell_in hHeld.2.2.2.1 b9, cell_in hHeld.2.2.2.2 b9⟩) (fun hHeld => ?_)
    clear hK K 
    obtain ⟨a1, c1, rfl, hE1⟩ := own_ents o1 (fun e he => key_small (HMT.out.chk e he))
    have hck : ck2 (nthE hl) hl.length p.T p.el = 0 := ck2_ok.2 ⟨by rw [firstE_nth]; exact HMT.out, HPM.out⟩
    have CL := mlack_any a1 hl.length c1 (nthE hl) p.ea p.el p.ec p.T w9 hE1 (HPI.out.keep hHeld.1) (by have h1 := HLT.out; have h2 := HPL.out; omega)
    rw [hck, outL_ok _ rfl, firstE_nth, lkP_prs, HM.out] at CL
    have CLH := aside CL
    have HS9 := aside (Nat.le_trans BX.out.size hHeld.1.size)
    clear o1 hE1 CL CH hck b9
    refine wpAnyH_ready (rs := [6]) (by kernel_rfl) (by simp) ?_
    refine AllReadyH.cons rfl (fun K hK => ?_) AllReadyH.nil
    go_simp
    refine (CLH.out).mono ?_
    rintro e w10 ⟨v2, rfl, o2, b10⟩
    refine hK.out _ _ (⟨hHeld.1.trans (b10.mono hHeld.1.size), cell_in hHeld.2.1 b10, cell_in hHeld.2.2.1 b10, cell_in hHeld.2.2.2.1 b10, cell_in hHeld.2.2.2.2 b10⟩) (fun hHeld => ?_)
    clear hK K 
    obtain ⟨a2, c2, rfl, -, -, -⟩ := own_slice o2
    have O2 := aside (own_low o2 HS9.out)
    clear o2 b10 CLH
    refine wpAnyH_take (i := 7) (v := ?_) rfl (by kernel_rfl) (by kernel_rfl) (by kernel_rfl) (fun _ _ _ h => h) (Or.inl ⟨by rfl, ?_⟩) (by assumption) ?_
    rotate_left
    · intro w hSw
      go_simp
      try with_reducible rfl
    simp only [Act.put, List.getElem_toArray, List.getElem_cons_zero, List.getElem_cons_succ, List.setIfInBounds_toArray, List.set_cons_zero, List.set_cons_succ]
    refine wpAnyH_take (i := 8) (v := ?_) rfl (by kernel_rfl) (by kernel_rfl) (by kernel_rfl) (fun _ _ _ h => h) (Or.inl ⟨by rfl, ?_⟩) (by assumption) ?_
    rotate_left
    · intro w hSw
      go_simp
      try with_reducible rfl
    simp only [Act.put, List.getElem_toArray, List.getElem_cons_zero, List.getElem_cons_succ, List.setIfInBounds_toArray, List.set_cons_zero, List.set_cons_succ]
    refine wpAnyH_take (i := 9) (v := ?_) rfl (by kernel_rfl) (by kernel_rfl) (by kernel_rfl) (fun _ _ _ h => h) (Or.inl ⟨by rfl, ?_⟩) (by assumption) ?_
    rotate_left
    · intro w hSw
      go_simp
      try with_reducible rfl
    simp only [Act.put, List.getElem_toArray, List.getElem_cons_zero, List.getElem_cons_succ, List.setIfInBounds_toArray, List.set_cons_zero, List.set_cons_succ]
    refine wpAnyH_take (i := 10) (v := ?_) rfl (by kernel_rfl) (by kernel_rfl) (by kernel_rfl) (fun _ _ _ h => h) (Or.inl ⟨by rfl, ?_⟩) (by assumption) ?_
    rotate_left
    · intro w hSw
      go_simp
      try with_reducible rfl
    simp only [Act.put, List.getElem_toArray, List.getElem_cons_zero, List.getElem_cons_succ, List.setIfInBounds_toArray, List.set_cons_zero, List.set_cons_succ]
    refine wpAnyH_take (i := 11) (v := ?_) rfl (by kernel_rfl) (by kernel_rfl) (by kernel_rfl) (fun _ _ _ h => h) (Or.inl ⟨by rfl, ?_⟩) (by assumption) ?_
    rotate_left
    · intro w hSw
      go_simp
      try with_reducible rfl
    simp only [Act.put, List.getElem_toArray, List.getElem_cons_zero, List.getElem_cons_succ, List.setIfInBounds_toArray, List.set_cons_zero, List.set_cons_succ]
    refine wpAnyH_done (by kernel_rfl) ?_ _
    have B10 := aside (BX.out.trans (hHeld.1.mono BX.out.size))
    have K10 := aside (blk_on KX.out hHeld.1)
    clear hHeld p1 p2 p3 p7
    cases hml : m with
    | nil =>
      subst hml
      go_wp2
      go_ret
      exact ⟨_, rfl, .inl ⟨rfl, rfl⟩, B10.out⟩
    | cons x r =>
      have hne : ((m.length : Int) == 0) = false := by rw [hml]; simp; omega
      rw [← hml]
      have HNE := aside (show m ≠ [] from by rw [hml]; simp)
      clear hml
      obtain ⟨p0, p1, p2, p3, -, -, -, -⟩ := oct K10.out
      go_wp2
      go_ret
      exact ⟨_, rfl, .inr ⟨HNE.out, w10.heap.size, a2, c2, rfl, B10.out.size, heap_alloc_new w10 _, own_on O2.out (bnew w10 _)⟩, B10.out.alloc B10.out.size _⟩
end Go.Proofs.YtpbkjffiohfkcaaGreatDoor
namespace Go.Proofs.YtpbkjffiohfkcaaGreatDoor
open Go.RowKit
set_option linter.unusedVariables false
set_option maxHeartbeats 6400000 in
set_option maxRecDepth 100000 in
theorem exch_any (p : Pm) {w : World} {sb g tb : Nat} {nd ck : Int} {Ls : List En} (h : Sto w sb g tb nd ck Ls) (hm : MapL Ls) (hl : Ls.length ≤ 256) (hP : p.In w) (hpm : MapL (firstE p.T p.el)) (hpl : p.el ≤ 256) (hc : p.rg.chk = 0) (L : Lanes w) :
    Calls Tryz.prog 33 #[.pointer (some ⟨sb, 0, none⟩), .agg #[.int .i64 p.kind, .string p.lo, .string p.hi, .bool p.op, .int .i64 p.cnt, .int .u64 p.s0, .int .u64 p.s1, .slice p.ea p.el p.ec]] w fun r w' => ∃ v, r = .returned (.tuple #[v, .agg #[.int .i64 ((tkAll ⟨Ls, ck, 0, 0⟩ (firstE p.T p.el)).n : Int), .int .i64 ((tkAll ⟨Ls, ck, 0, 0⟩ (firstE p.T p.el)).f : Int)]]) ∧ RpAt (w.heap.size + 2) p (rpL p Ls) v w' ∧ Sto w' sb g tb nd (tkAll ⟨Ls, ck, 0, 0⟩ (firstE p.T p.el)).c (tkAll ⟨Ls, ck, 0, 0⟩ (firstE p.T p.el)).l ∧ Keeps (Of sb g tb) w w' ∧ Lanes w' := by
  have BX := aside (bthen (bnew w (.cells #[.int .i64 p.kind, .string p.lo, .string p.hi, .bool p.op, .int .i64 p.cnt, .int .u64 p.s0, .int .u64 p.s1, .slice p.ea p.el p.ec] 47)) (bnew _ (.cells #[.int .i64 0, .int .i64 0] 33)))
  have KX := aside (blk_on (heap_alloc_new w (.cells #[.int .i64 p.kind, .string p.lo, .string p.hi, .bool p.op, .int .i64 p.cnt, .int .u64 p.s0, .int .u64 p.s1, .slice p.ea p.el p.ec] 47)) (bnew _ (.cells #[.int .i64 0, .int .i64 0] 33)))
  have KZ := aside (heap_alloc_new (w.alloc (.cells #[.int .i64 p.kind, .string p.lo, .string p.hi, .bool p.op, .int .i64 p.cnt, .int .u64 p.s0, .int .u64 p.s1, .slice p.ea p.el p.ec] 47)) (.cells #[.int .i64 0, .int .i64 0] 33))
  rw [World.size_alloc] at KZ
  obtain ⟨pb, hpb⟩ : ∃ pb, w.heap.size = pb := ⟨_, rfl⟩
  rw [hpb] at KX KZ ⊢
  have ZX := aside (show ((w.alloc (.cells #[.int .i64 p.kind, .string p.lo, .string p.hi, .bool p.op, .int .i64 p.cnt, .int .u64 p.s0, .int .u64 p.s1, .slice p.ea p.el p.ec] 47)).alloc (.cells #[.int .i64 0, .int .i64 0] 33)).heap.size = pb + 2 from by rw [World.size_alloc, World.size_alloc, hpb])
  have HNL := aside (show w.heap.size ≤ pb ∧ pb + 1 < pb + 2 from by omega)
  obtain ⟨X, hX⟩ : ∃ X, (w.alloc (.cells #[.int .i64 p.kind, .string p.lo, .string p.hi, .bool p.op, .int .i64 p.cnt, .int .u64 p.s0, .int .u64 p.s1, .slice p.ea p.el p.ec] 47)).alloc (.cells #[.int .i64 0, .int .i64 0] 33) = X := ⟨_, rfl⟩
  rw [hX] at BX KX KZ ZX
  have HX := aside (h.below BX.out)
  have CR := aside (replyTo_any p HX.out hm hl (hP.keep BX.out) hpm hpl hc)
  have HPI := aside (hP.keep BX.out)
  have CT := aside (fun W (hs : Sto W sb g tb nd ck Ls) (hL : Lanes W) (hE : p.In W) => takeAll_any p.ea p.el p.ec p.T hs hL hl hE (by omega))
  have LX := aside (L.keep BX.out)
  obtain ⟨s, hs⟩ : ∃ s, (tkAll ⟨Ls, ck, 0, 0⟩ (firstE p.T p.el)) = s := ⟨_, rfl⟩
  rw [hs] at CT ⊢
  obtain ⟨Lj, cj, n, f⟩ := s
  dsimp only at CT ⊢
  clear h hm hl hP hpm hpl hc L hs
  obtain ⟨p0, p1, p2, p3, p4, p5, p6, p7⟩ := oct KX.out
  go_enter Tryz.func33, Tryz.ntmps33
  go_wp2_with fail
  refine CR.out.mono ?_
  rintro e w1 ⟨v, rfl, rp, b1⟩
  rw [ZX.out] at rp
  have RP := aside rp
  have K1 := aside (blk_on KX.out b1)
  have KZ1 := aside (blk_on KZ.out b1)
  have S1 := aside (HX.out.below b1)
  have L1 := aside (LX.out.keep b1)
  have B1 := aside (bthen BX.out b1)
  have P1 := aside (HPI.out.keep b1)
  clear rp b1 CR HX LX BX HPI KX KZ p0 p1 p2 p3 p4 p5 p6 p7 hX ZX
  obtain ⟨-, -, -, -, -, -, -, p7⟩ := oct K1.out
  go_wp2_with fail
  refine (CT.out _ S1.out L1.out P1.out).mono ?_
  rintro e w2 ⟨rfl, s2, k2, l2⟩
  have SA := aside s2
  have LA := aside l2
  have KA := aside ((Keeps.of_below B1.out _).trans k2)
  have KZ2 := aside (blk_keep KZ1.out k2 (S1.out.not KZ1.out (by decide) (by decide) (by decide)))
  have RP2 := aside (RP.out.keepS S1.out k2)
  clear s2 l2 k2 S1 L1 P1 K1 KZ1 CT RP B1 p7
  obtain ⟨z0, z1⟩ := two_h KZ2.out
  have y0 := frozen_of_row _ _ 0 _ _ KZ2.out
  have y1 := frozen_of_row _ _ 1 _ _ KZ2.out
  have KF := aside (((Keeps.refl (fun x => x = pb + 1) w2).setCell (p := ⟨pb + 1, 0, none⟩) (fun _ => rfl) (.int .i64 (n : Int))).setCell (p := ⟨pb + 1, 1, none⟩) (fun _ => rfl) (.int .i64 (f : Int)))
  have SF := aside (SA.out.set KZ2.out (by decide) (by decide) (by decide) (by decide) KF.out)
  have LF := aside (LA.out.keeps KF.out (fun (e : 0 = pb + 1) => by omega))
  have KW := aside ((KA.out.setCell (p := ⟨pb + 1, 0, none⟩) (fun hh => absurd hh (by have h9 := HNL.out; simp; omega)) (.int .i64 (n : Int))).setCell (p := ⟨pb + 1, 1, none⟩) (fun hh => absurd hh (by have h9 := HNL.out; simp; omega)) (.int .i64 (f : Int)))
  have KR := set_in 1 (.int .i64 (f : Int)) (set_in 0 (.int .i64 (n : Int)) KZ2.out)
  simp only [List.setIfInBounds_toArray, List.set_cons_zero, List.set_cons_succ] at KR
  have HKR := aside KR
  clear KR KF
  have RF := aside ((RP2.out.set (b := pb + 1) (by have h9 := HNL.out; omega) 0 (.int .i64 (n : Int))).set (b := pb + 1) (by have h9 := HNL.out; omega) 1 (.int .i64 (f : Int)))
  go_wp2
  obtain ⟨r0, r1⟩ := two_h HKR.out
  exact bodyPost_ret (v := .tuple #[v, .agg #[.int .i64 (n : Int), .int .i64 (f : Int)]]) (by simp [results, Tryz.results33, go_sem, r0, r1]) rfl ⟨v, rfl, RF.out, SF.out, KW.out, LF.out⟩
end Go.Proofs.YtpbkjffiohfkcaaGreatDoor
namespace Go.Proofs.YtpbkjffiohfkcaaGreatDoor
open Go.RowKit
set_option linter.unusedVariables false
theorem ptN_all {P : Nat → Pm} : ∀ {n : Nat}, ptN P n = 0 → ∀ i, i < n → ptAt P i = 0 := by
  intro n
  induction n with
  | zero => intro _ i hi; omega
  | succ n ih =>
    intro h i hi
    have h0 : ptN P n = 0 := by
      by_cases g : ptN P n = 0
      · exact g
      · rw [ptN_stay g (n + 1) (by omega)] at h; exact absurd h g
    rcases Nat.lt_or_ge i n with g | g
    · exact ih h0 i g
    · obtain rfl : i = n := by omega
      rw [← ptN_step h0]; exact h
theorem itN_all {r : Rg} {T : Nat → En} : ∀ {n : Nat}, itN r T n = 0 → ∀ i, i < n → itAt r T i = 0 := by
  intro n
  induction n with
  | zero => intro _ i hi; omega
  | succ n ih =>
    intro h i hi
    have h0 : itN r T n = 0 := by
      by_cases g : itN r T n = 0
      · exact g
      · rw [itN_stay g (n + 1) (by omega)] at h; exact absurd h g
    rcases Nat.lt_or_ge i n with g | g
    · exact ih h0 i g
    · obtain rfl : i = n := by omega
      rw [← itN_step h0]; exact h
theorem itAt_zero {r : Rg} {T : Nat → En} {i : Nat} (h : itAt r T i = 0) : r.has (T i).k = true ∧ (0 < i → kLt (T (i - 1)).k (T i).k = true) := by
  unfold itAt at h
  by_cases g : (T i).chk = 0
  · rw [if_neg (by simp [g])] at h
    by_cases g2 : r.has (T i).k = false ∨ (0 < i ∧ kLt (T (i - 1)).k (T i).k = false)
    · rw [if_pos g2] at h; cases h
    · refine ⟨?_, fun hi => ?_⟩
      · cases e : r.has (T i).k
        · exact absurd (.inl e) g2
        · rfl
      · cases e : kLt (T (i - 1)).k (T i).k
        · exact absurd (.inr ⟨hi, e⟩) g2
        · rfl
  · rw [if_pos g] at h; exact absurd h g
/-- A part that may be, behind those ahead of it. -/
structure GoodP (P : Nat → Pm) (i : Nat) : Prop where
  chk : (P i).rg.chk = 0
  emp : (P i).rg.emp = false
  op : ahOp P i = false
  lo : kLt (P i).lo (ahHi P i) = false
  its : ∀ k, k < (P i).el → itAt (P i).rg (P i).T k = 0
theorem good_of {P : Nat → Pm} {i : Nat} (h : ptAt P i = 0) : GoodP P i := by
  unfold ptAt Pm.chk at h
  cases h1 : (P i).alone
  · rw [if_pos h1] at h; cases h
  · rw [if_neg (by simp [h1])] at h
    by_cases h2 : (P i).rg.chk = 0
    · rw [if_neg (by simp [h2])] at h
      by_cases h3 : (P i).rg.emp = true ∨ ahOp P i = true ∨ kLt (P i).lo (ahHi P i) = true
      · rw [if_pos h3] at h; cases h
      · rw [if_neg h3] at h
        refine ⟨h2, ?_, ?_, ?_, ?_⟩
        · cases e : (P i).rg.emp
          · rfl
          · exact absurd (.inl e) h3
        · cases e : ahOp P i
          · rfl
          · exact absurd (.inr (.inl e)) h3
        · cases e : kLt (P i).lo (ahHi P i)
          · rfl
          · exact absurd (.inr (.inr e)) h3
        · by_cases h4 : (P i).kind = 1
          · unfold Pm.alone at h1
            rw [if_pos h4] at h1
            intro k hk
            have : (P i).el = 0 := by simpa using h1
            omega
          · rw [if_neg h4] at h
            unfold Pm.its at h
            by_cases h5 : itN (P i).rg (P i).T (P i).el = 0
            · exact fun k hk => itN_all h5 k hk
            · rw [if_pos h5] at h; exact absurd h h5
    · rw [if_pos h2] at h; exact absurd h h2
theorem goods {P : Nat → Pm} {n : Nat} (h : psChk P n = 0) : n ≤ 768 ∧ totE P n ≤ 256 ∧ ∀ i, i < n → GoodP P i := by
  unfold psChk at h
  by_cases g : 768 < n ∨ 256 < totE P n
  · rw [if_pos g] at h; cases h
  · rw [if_neg g] at h
    exact ⟨by omega, by omega, fun i hi => good_of (ptN_all h i hi)⟩
end Go.Proofs.YtpbkjffiohfkcaaGreatDoor
namespace Go.Proofs.YtpbkjffiohfkcaaGreatDoor
open Go.RowKit
set_option linter.unusedVariables false
theorem good_map {P : Nat → Pm} {i : Nat} (h : GoodP P i) : MapL (firstE (P i).T (P i).el) := by
  have hc : ∀ n, n ≤ (P i).el → ckN (P i).T n = 0 := by
    intro n
    induction n with
    | zero => intro _; rfl
    | succ n ih =>
      intro hn
      have h0 := h.its n (by omega)
      have h1 := itAt_zero h0
      have h2 : ((P i).T n).chk = 0 := by
        unfold itAt at h0
        by_cases g : ((P i).T n).chk = 0
        · exact g
        · rw [if_pos g] at h0; exact absurd h0 g
      rw [ckN_step (ih (by omega)), ckAt_ok h2 (fun g => by rw [h1.2 g.1] at g; cases g.2)]
  exact (ck_map _).1 (hc _ (Nat.le_refl _))
/-- What is wrong with a part that is to be exchanged. -/
def xErr (p : Pm) : Int := if psChk (fun _ => p) 1 ≠ 0 then psChk (fun _ => p) 1 else if p.kind = 1 then 114 else 0
theorem xErr_ok {p : Pm} (h : xErr p = 0) : psChk (fun _ => p) 1 = 0 ∧ p.kind ≠ 1 ∧ MapL (firstE p.T p.el) ∧ p.el ≤ 256 ∧ p.rg.chk = 0 := by
  unfold xErr at h
  by_cases h1 : psChk (fun _ => p) 1 = 0
  · rw [if_neg (by simp [h1])] at h
    by_cases h2 : p.kind = 1
    · rw [if_pos h2] at h; cases h
    · obtain ⟨-, g2, g3⟩ := goods h1
      have g := g3 0 (by omega)
      simp only [totE] at g2
      exact ⟨h1, h2, good_map g, by omega, g.chk⟩
  · rw [if_pos h1] at h; exact absurd h h1
end Go.Proofs.YtpbkjffiohfkcaaGreatDoor
