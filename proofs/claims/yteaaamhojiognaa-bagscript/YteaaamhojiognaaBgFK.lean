/-
  remove of the code's bag, and what lies in the row that it leaves.
-/
import Derived.Test.YteaaamhojiognaaBgDK
namespace Go.Proofs.Yteaaamhojiognaa
open Go.RowKit
set_option linter.unusedVariables false

def RemSayK (w : World) (B b : Nat) (v : Value) (room last lost : Nat) (l : List Pk) (i : Nat) (w' : World) : Prop := ∃ v', BagAt w' B b v' room last lost (l.take i ++ l.drop (i + 1)) ∧ Keeps (fun x => x = b) w w' ∧ ∀ j, v'.ownBlock = some j → w.heap.size ≤ j
set_option maxHeartbeats 6400000 in
set_option maxRecDepth 100000 in
theorem bremove_keep {w : World} {B b : Nat} {v : Value} {room last lost : Nat} {l : List Pk} (h : BagAt w B b v room last lost l) (i : Nat) (hi : i < l.length) (hB : B ≤ w.heap.size) :
    Calls Try.prog 32 #[.pointer (some ⟨b, 0, none⟩), .int .i64 (i : Int)] w fun e w' => (∃ x, e = .returned x) ∧ RemSayK w B b v room last lost l i w' := by
  have HB := aside h
  have HBS := aside hB
  have CF := aside (fun (W : World) (k : Below w.heap.size w W) => bfront_any (h.on k) i (by omega))
  obtain ⟨a, c, rfl, -⟩ := own_slice h.row
  obtain ⟨k, hk⟩ : ∃ k, i + 1 = k := ⟨_, rfl⟩
  have HK := aside hk
  obtain ⟨aT, cT, sl, hT⟩ := pk_tail h.row (k := k) (by omega)
  have HT := aside hT
  obtain ⟨n, hn⟩ : ∃ n, l.length = n := ⟨_, rfl⟩
  have HN := aside hn
  have HI := aside hi
  have h9 := h.r2
  have h8 := h.le
  have HMX := aside (show n ≤ 512 from by omega)
  have hw : IntKind.i64.wrap ((i : Int) + 1) = (k : Int) := by simp only [IntKind.wrap_i64]; omega
  have hw64 : wrap64 ((i : Int) + 1) = (k : Int) := by simp only [wrap64]; omega
  rw [hn] at CF sl HT
  obtain ⟨m, hm⟩ : ∃ m, n - k = m := ⟨_, rfl⟩
  rw [hm] at sl HT
  have HM := aside hm
  have SX := aside (fun (W : World) (bb : Below w.heap.size w W) => (show W.cell? ⟨b, 1, none⟩ = some (.slice a n c) from by
    rw [← hn]; exact ((HB.out.on bb).cells).2.1))
  clear h hi hB hk hT hn hm h8 h9
  go_enter Try.func32, Try.ntmps32
  go_upto_region 0 with fail
  refine wp_region_until (S := fun W => W.cell? ⟨b, 1, none⟩ = some (.slice a n c)) (z := 15) (by kernel_rfl) (SX.out _ (Below.refl _ w).drew) (fun hHeld => ?_)
  refine Until.take (i := 0) (v := ?_) [15] rfl (by kernel_rfl) (by kernel_rfl) (by kernel_rfl) (by kernel_rfl) (by rfl) (by rfl) (by kernel_rfl) (fun _ _ _ h => h) (Or.inl ⟨by rfl, ?_⟩) (by assumption) ?_
  rotate_left
  · intro w hSw
    go_simp
    try with_reducible rfl
  simp only [Act.put, List.getElem_toArray, List.getElem_cons_zero, List.setIfInBounds_toArray, List.set_cons_zero, List.set_cons_succ]
  refine Until.take (i := 1) (v := ?_) [15] rfl (by kernel_rfl) (by kernel_rfl) (by kernel_rfl) (by kernel_rfl) (by rfl) (by rfl) (by kernel_rfl) (fun _ _ _ h => h) (Or.inl ⟨by rfl, ?_⟩) (by assumption) ?_
  rotate_left
  · intro w hSw
    go_simp
    try with_reducible rfl
  simp only [Act.put, List.getElem_toArray, List.getElem_cons_zero, List.getElem_cons_succ, List.setIfInBounds_toArray, List.set_cons_zero, List.set_cons_succ]
  refine Until.take (i := 2) (v := ?_) [15] rfl (by kernel_rfl) (by kernel_rfl) (by kernel_rfl) (by kernel_rfl) (by rfl) (by rfl) (by kernel_rfl) (fun _ _ _ h => h) (Or.inl ⟨by rfl, ?_⟩) (by assumption) ?_
  rotate_left
  · intro w hSw
    go_simp
    try with_reducible rfl
  simp only [Act.put, List.getElem_toArray, List.getElem_cons_zero, List.getElem_cons_succ, List.setIfInBounds_toArray, List.set_cons_zero, List.set_cons_succ]
  refine Until.take (i := 4) (v := ?_) [15] rfl (by kernel_rfl) (by kernel_rfl) (by kernel_rfl) (by kernel_rfl) (by rfl) (by rfl) (by kernel_rfl) (fun _ _ _ h => h) (Or.inl ⟨by rfl, ?_⟩) (by assumption) ?_
  rotate_left
  · intro w hSw
    go_simp
    try with_reducible rfl
  simp only [Act.put, List.getElem_toArray, List.getElem_cons_zero, List.getElem_cons_succ, List.setIfInBounds_toArray, List.set_cons_zero, List.set_cons_succ]
  refine Until.take (i := 5) (v := ?_) [15] rfl (by kernel_rfl) (by kernel_rfl) (by kernel_rfl) (by kernel_rfl) (by rfl) (by rfl) (by kernel_rfl) (fun _ _ _ h => h) (Or.inl ⟨by rfl, ?_⟩) (by assumption) ?_
  rotate_left
  · intro w hSw
    go_simp
    try with_reducible rfl
  simp only [Act.put, List.getElem_toArray, List.getElem_cons_zero, List.getElem_cons_succ, List.setIfInBounds_toArray, List.set_cons_zero, List.set_cons_succ]
  refine Until.take (i := 6) (v := ?_) [15] rfl (by kernel_rfl) (by kernel_rfl) (by kernel_rfl) (by kernel_rfl) (by rfl) (by rfl) (by kernel_rfl) (fun _ _ _ h => h) (Or.inl ⟨by rfl, ?_⟩) (by assumption) ?_
  rotate_left
  · intro w hSw
    go_simp
    try with_reducible rfl
  simp only [Act.put, List.getElem_toArray, List.getElem_cons_zero, List.getElem_cons_succ, List.setIfInBounds_toArray, List.set_cons_zero, List.set_cons_succ]
  refine Until.take (i := 7) (v := ?_) [15] rfl (by kernel_rfl) (by kernel_rfl) (by kernel_rfl) (by kernel_rfl) (by rfl) (by rfl) (by kernel_rfl) (fun _ _ _ h => h) (Or.inl ⟨by rfl, ?_⟩) (by assumption) ?_
  rotate_left
  · intro w hSw
    go_simp
    try with_reducible rfl
  simp only [Act.put, List.getElem_toArray, List.getElem_cons_zero, List.getElem_cons_succ, List.setIfInBounds_toArray, List.set_cons_zero, List.set_cons_succ]
  refine Until.take (i := 8) (v := ?_) [15] rfl (by kernel_rfl) (by kernel_rfl) (by kernel_rfl) (by kernel_rfl) (by rfl) (by rfl) (by kernel_rfl) (fun _ _ _ h => h) (Or.inl ⟨by rfl, ?_⟩) (by assumption) ?_
  rotate_left
  · intro w hSw
    go_simp
    try with_reducible rfl
  simp only [Act.put, List.getElem_toArray, List.getElem_cons_zero, List.getElem_cons_succ, List.setIfInBounds_toArray, List.set_cons_zero, List.set_cons_succ]
  refine Until.take (i := 9) (v := ?_) [15] rfl (by kernel_rfl) (by kernel_rfl) (by kernel_rfl) (by kernel_rfl) (by rfl) (by rfl) (by kernel_rfl) (fun _ _ _ h => h) (Or.inl ⟨by rfl, ?_⟩) (by assumption) ?_
  rotate_left
  · intro w hSw
    go_simp
    try with_reducible rfl
  simp only [Act.put, List.getElem_toArray, List.getElem_cons_zero, List.getElem_cons_succ, List.setIfInBounds_toArray, List.set_cons_zero, List.set_cons_succ]
  refine Until.take (i := 10) (v := ?_) [15] rfl (by kernel_rfl) (by kernel_rfl) (by kernel_rfl) (by kernel_rfl) (by rfl) (by rfl) (by kernel_rfl) (fun _ _ _ h => h) (Or.inl ⟨by rfl, ?_⟩) (by assumption) ?_
  rotate_left
  · intro w hSw
    go_simp
    try with_reducible rfl
  simp only [Act.put, List.getElem_toArray, List.getElem_cons_zero, List.getElem_cons_succ, List.setIfInBounds_toArray, List.set_cons_zero, List.set_cons_succ]
  have BD := aside (show Below w.heap.size w w.drew from (Below.refl _ w).drew)
  refine Until.step (i := 3) (by kernel_rfl) rfl (by rfl) (fun K' hK' => ?_)
  go_simp
  refine (CF.out w.drew BD.out).mono ?_
  rintro e w9 ⟨⟨a', c', ev, rfl, hp⟩, rfl⟩
  injection ev with e1 e2 e3
  subst e1 e3
  refine hK'.out _ _ (SX.out _ BD.out) (fun hHeld => ?_)
  clear hK' K'
  have HP := aside hp
  have b1 := bnew w.drew (.cells #[.slice a i i, .slice aT m cT] 48)
  have k1 := heap_alloc_new w.drew (.cells #[.slice a i i, .slice aT m cT] 48)
  obtain ⟨q, hq⟩ : ∃ q, w.drew.heap.size = q := ⟨_, rfl⟩
  obtain ⟨X, hX⟩ : ∃ X, w.drew.alloc (.cells #[.slice a i i, .slice aT m cT] 48) = X := ⟨_, rfl⟩
  rw [hX] at b1 k1
  rw [hq] at k1
  have B1 := aside (bthen BD.out b1)
  have K1 := aside k1
  have HP1 := aside (hp.on b1)
  have HT1 := aside (HT.out.on B1.out)
  clear hp
  refine Until.step (i := 11) (by kernel_rfl) rfl (by rfl) (fun K' hK' => ?_)
  go_simp
  try rw [hX]
  try rw [hq]
  refine hK'.out _ _ (SX.out _ B1.out) (fun hHeld => ?_)
  clear hK' K' b1 k1 hX hq
  refine Until.step (i := 12) (by kernel_rfl) rfl (by rfl) (fun K' hK' => ?_)
  go_simp
  refine (concat_any q a i i (l.take i) aT m cT (l.drop k) X K1.out HP1.out HT1.out (by have h1 := HM.out; have h2 := HMX.out; have h3 := HI.out; have h4 := HN.out; omega)).mono ?_
  rintro e X2 ⟨v2, rfl, own2, b2⟩
  obtain ⟨a2, c2, rfl, -⟩ := own_slice own2
  have O2 := aside own2
  have B2 := aside (bthen B1.out b2)
  refine hK'.out _ _ (SX.out _ B2.out) (fun hHeld => ?_)
  clear hK' K' own2 b2
  refine Until.take (i := 13) (v := ?_) [14, 15] rfl (by kernel_rfl) (by kernel_rfl) (by kernel_rfl) (by kernel_rfl) (by rfl) (by rfl) (by kernel_rfl) (fun _ _ _ h => h) (Or.inl ⟨by rfl, ?_⟩) (by assumption) ?_
  rotate_left
  · intro w hSw
    go_simp
    try with_reducible rfl
  simp only [Act.put, List.getElem_toArray, List.getElem_cons_zero, List.getElem_cons_succ, List.setIfInBounds_toArray, List.set_cons_zero, List.set_cons_succ]
  refine Until.take (i := 14) (v := ?_) [15] rfl (by kernel_rfl) (by kernel_rfl) (by kernel_rfl) (by kernel_rfl) (by rfl) (by rfl) (by kernel_rfl) (fun _ _ _ h => h) (Or.inl ⟨by rfl, ?_⟩) (by assumption) ?_
  rotate_left
  · intro w hSw
    go_simp
    try with_reducible rfl
  simp only [Act.put, List.getElem_toArray, List.getElem_cons_zero, List.getElem_cons_succ, List.setIfInBounds_toArray, List.set_cons_zero, List.set_cons_succ]
  have HB2 := aside (HB.out.on B2.out)
  have FIN := aside (show RemSayK w B b (.slice a l.length c) room last lost l i (X2.setCell ⟨b, 1, none⟩ (.slice a2 (i + m) c2)) from by
    have k0 : Keeps (fun x => x = b) X2 (X2.setCell ⟨b, 1, none⟩ (.slice a2 (i + m) c2)) := (Keeps.refl (fun x => x = b) X2).setCell (p := ⟨b, 1, none⟩) (fun _ => rfl) _
    have h0 := HB2.out
    have e0 : (l.take i ++ l.drop (i + 1)).length = i + m := by
      rw [List.length_append, List.length_take, List.length_drop]
      have h1 := HM.out; have h2 := HK.out; have h3 := HN.out; have h4 := HI.out
      omega
    have hx : ∀ j, (Value.slice a2 (i + m) c2).ownBlock = some j → w.heap.size ≤ j := fun j hj => by
      have h5 := (O2.out.lt j hj).1
      have h6 := B1.out.size
      omega
    have hsz := HBS.out
    refine ⟨.slice a2 (i + m) c2, ⟨?_, h0.ge, ?_, fun p hp => ?_, ?_, h0.r1, h0.r2⟩, (Keeps.of_below B2.out (fun x => x = b)).setCell (p := ⟨b, 1, none⟩) (fun _ => rfl) _, hx⟩
    · have := bag_set (k := 1) h0.bx (.slice a2 (i + m) c2)
      simpa using this
    · have h9 := ownsRow_keep O2.out k0 (fun j hj e => by subst e; exact own_typed O2.out h0.bx (by decide) hj)
      rw [e0]
      rw [HK.out]
      exact own_low h9 (by have h6 := B1.out.size; omega)
    · have hp2 : p ∈ l := by
        rcases List.mem_append.1 hp with hp | hp
        · exact List.mem_of_mem_take hp
        · exact List.mem_of_mem_drop hp
      exact (h0.dat p hp2).keep k0 (fun j hj e => by subst e; exact own_typed (h0.dat p hp2).1 h0.bx (by decide) hj)
    · rw [e0]
      have h1 := h0.le
      have h2 := HM.out; have h3 := HK.out; have h4 := HN.out; have h5 := HI.out
      omega)
  have f1 := HB2.out.frozen 1
  refine Until.last (by kernel_rfl) rfl (fun K' hK' => ?_)
  rw [if_pos (by kernel_rfl)]
  go_simp
  refine hK'.out _ _ ?_
  clear hK' K'
  refine wpAny_of_held (S := fun _ => True) _ _ _ _ ?_
  have hHeld : True := trivial
  refine wpAnyH_done (by kernel_rfl) ?_ _
  clear f1 hHeld SX
  generalize X2.setCell ⟨b, 1, none⟩ (.slice a2 (i + m) c2) = X3 at FIN ⊢
  go_wp2
  go_end0
  exact ⟨⟨_, rfl⟩, FIN.out⟩
end Go.Proofs.Yteaaamhojiognaa
