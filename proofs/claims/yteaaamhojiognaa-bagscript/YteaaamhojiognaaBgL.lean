/-
  lay and Send of the document's bag.
-/
import Derived.Test.YteaaamhojiognaaBgK
namespace Go.Proofs.Yteaaamhojiognaa
open Go.RowKit
set_option linter.unusedVariables false

/-- What lay does: no room, or one packet more. -/
def LaySay (w : World) (B b : Nat) (v : Value) (room last lost : Nat) (l : List Pk) (frm dst : Int) (L : List UInt8) (e : Ending) (w' : World) : Prop :=
  (l.length = room ∧ e = .returned (.int .i64 0) ∧ RBag w' B b v room last (lost + 1) l) ∨
  (l.length < room ∧ e = .returned (.int .i64 ((last : Int) + 1)) ∧ ∃ v' p', Pk.pl p' = ⟨(last : Int) + 1, frm, dst, L⟩ ∧ DatR w.heap.size w' p' ∧ RBag w' B b v' room (last + 1) lost (l ++ [p']) ∧ Where w v v')
theorem LaySay.ret {w : World} {B b : Nat} {v : Value} {room last lost : Nat} {l : List Pk} {frm dst : Int} {L : List UInt8} {e : Ending} {w' : World} (h : LaySay w B b v room last lost l frm dst L e w') : ∃ n, e = .returned (.int .i64 n) := by
  rcases h with ⟨-, h, -⟩ | ⟨-, h, -⟩
  · exact ⟨_, h⟩
  · exact ⟨_, h⟩

set_option maxHeartbeats 6400000 in
set_option maxRecDepth 100000 in
theorem rlay_any {w : World} {B b : Nat} {v : Value} {room last lost : Nat} {l : List Pk} (h : RBag w B b v room last lost l) (frm dst : Int) (L : List UInt8) (hl : L.length ≤ 65536) (h2 : last ≤ 4611686018427387904) (h3 : lost ≤ 4611686018427387904) (hB : B ≤ w.heap.size) :
    Calls Try.prog 29 #[.pointer (some ⟨b, 0, none⟩), .int .i64 frm, .int .i64 dst, .string ⟨L.toArray⟩] w fun e w' => Keeps (BgS b v) w w' ∧ LaySay w B b v room last lost l frm dst L e w' := by
  have HL := aside hl
  have HX := aside h2
  have HY := aside h3
  have HBS := aside hB
  have HB := aside h
  obtain ⟨a, c, rfl, -⟩ := own_slice h.row
  have SX := aside (fun (W : World) (bb : Below w.heap.size w W) => (show W.cell? ⟨b, 3, none⟩ = some (.slice a l.length c) ∧ W.cell? ⟨b, 0, none⟩ = some (.int .i64 (room : Int)) from by
    obtain ⟨x0, x1, x2, x3⟩ := (HB.out.on bb).cells
    exact ⟨x3, x0⟩))
  obtain ⟨n, hn⟩ : ∃ n, l.length = n := ⟨_, rfl⟩
  have HN := aside hn
  rw [hn] at SX
  obtain ⟨s, hs⟩ : ∃ s : ByteArray, (⟨L.toArray⟩ : ByteArray) = s := ⟨_, rfl⟩
  have HS := aside hs
  rw [hs]
  clear h hl hB h2 h3 hs
  have hle := HB.out.le
  rw [hn] at hle
  by_cases hful : n = room
  · subst hful
    go_enter Try.func29, Try.ntmps29
    go_upto_region 1 with fail
    refine wp_region_held_drew (S := fun W => W.cell? ⟨b, 3, none⟩ = some (.slice a n c) ∧ W.cell? ⟨b, 0, none⟩ = some (.int .i64 (n : Int))) (by kernel_rfl) (SX.out _ (Below.refl _ w).drew) (fun hHeld => ?_)
    refine wpAnyH_take (i := 0) (v := ?_) rfl (by kernel_rfl) (by kernel_rfl) (by kernel_rfl) (fun _ _ _ h => h) (Or.inl ⟨by rfl, ?_⟩) (by assumption) ?_
    rotate_left
    · intro w hSw
      go_simp
      try with_reducible rfl
    simp only [Act.put, List.getElem_toArray, List.getElem_cons_zero, List.setIfInBounds_toArray, List.set_cons_zero, List.set_cons_succ]
    refine wpAnyH_take (i := 1) (v := ?_) rfl (by kernel_rfl) (by kernel_rfl) (by kernel_rfl) (fun _ _ _ h => h) (Or.inl ⟨by rfl, ?_⟩) (by assumption) ?_
    rotate_left
    · intro w hSw
      go_simp
      try with_reducible rfl
    simp only [Act.put, List.getElem_toArray, List.getElem_cons_zero, List.getElem_cons_succ, List.setIfInBounds_toArray, List.set_cons_zero, List.set_cons_succ]
    refine wpAnyH_take (i := 2) (v := ?_) rfl (by kernel_rfl) (by kernel_rfl) (by kernel_rfl) (fun _ _ _ h => h) (Or.inl ⟨by rfl, ?_⟩) (by assumption) ?_
    rotate_left
    · intro w hSw
      go_simp
      try with_reducible rfl
    simp only [Act.put, List.getElem_toArray, List.getElem_cons_zero, List.getElem_cons_succ, List.setIfInBounds_toArray, List.set_cons_zero, List.set_cons_succ]
    refine wpAnyH_take (i := 3) (v := ?_) rfl (by kernel_rfl) (by kernel_rfl) (by kernel_rfl) (fun _ _ _ h => h) (Or.inl ⟨by rfl, ?_⟩) (by assumption) ?_
    rotate_left
    · intro w hSw
      go_simp
      try with_reducible rfl
    simp only [Act.put, List.getElem_toArray, List.getElem_cons_zero, List.getElem_cons_succ, List.setIfInBounds_toArray, List.set_cons_zero, List.set_cons_succ]
    refine wpAnyH_take (i := 4) (v := ?_) rfl (by kernel_rfl) (by kernel_rfl) (by kernel_rfl) (fun _ _ _ h => h) (Or.inl ⟨by rfl, ?_⟩) (by assumption) ?_
    rotate_left
    · intro w hSw
      go_simp
      try with_reducible rfl
    simp only [Act.put, List.getElem_toArray, List.getElem_cons_zero, List.getElem_cons_succ, List.setIfInBounds_toArray, List.set_cons_zero, List.set_cons_succ]
    refine wpAnyH_take (i := 5) (v := ?_) rfl (by kernel_rfl) (by kernel_rfl) (by kernel_rfl) (fun _ _ _ h => h) (Or.inl ⟨by rfl, ?_⟩) (by assumption) ?_
    rotate_left
    · intro w hSw
      go_simp
      try with_reducible rfl
    simp only [Act.put, List.getElem_toArray, List.getElem_cons_zero, List.getElem_cons_succ, List.setIfInBounds_toArray, List.set_cons_zero, List.set_cons_succ]
    refine wpAnyH_take (i := 6) (v := ?_) rfl (by kernel_rfl) (by kernel_rfl) (by kernel_rfl) (fun _ _ _ h => h) (Or.inl ⟨by rfl, ?_⟩) (by assumption) ?_
    rotate_left
    · intro w hSw
      go_simp
      try with_reducible rfl
    simp only [Act.put, List.getElem_toArray, List.getElem_cons_zero, List.getElem_cons_succ, List.setIfInBounds_toArray, List.set_cons_zero, List.set_cons_succ]
    refine wpAnyH_take (i := 7) (v := ?_) rfl (by kernel_rfl) (by kernel_rfl) (by kernel_rfl) (fun _ _ _ h => h) (Or.inl ⟨by rfl, ?_⟩) (by assumption) ?_
    rotate_left
    · intro w hSw
      go_simp
      try with_reducible rfl
    simp only [Act.put, List.getElem_toArray, List.getElem_cons_zero, List.getElem_cons_succ, List.setIfInBounds_toArray, List.set_cons_zero, List.set_cons_succ]
    refine wpAnyH_take (i := 8) (v := ?_) rfl (by kernel_rfl) (by kernel_rfl) (by kernel_rfl) (fun _ _ _ h => h) (Or.inl ⟨by rfl, ?_⟩) (by assumption) ?_
    rotate_left
    · intro w hSw
      go_simp
      try with_reducible rfl
    simp only [Act.put, List.getElem_toArray, List.getElem_cons_zero, List.getElem_cons_succ, List.setIfInBounds_toArray, List.set_cons_zero, List.set_cons_succ]
    refine wpAnyH_take (i := 9) (v := .bool true) rfl (by kernel_rfl) (by kernel_rfl) (by kernel_rfl) (fun _ _ _ h => h) (Or.inl ⟨by rfl, ?_⟩) (by assumption) ?_
    · intro w hSw
      go_simp
      try first | with_reducible rfl | omega
    simp only [Act.put, List.getElem_toArray, List.getElem_cons_zero, List.getElem_cons_succ, List.setIfInBounds_toArray, List.set_cons_zero, List.set_cons_succ]
    refine wpAnyH_done (by kernel_rfl) ?_ _
    have HB2 := aside (HB.out.on (Below.refl _ w).drew)
    have B2 := aside (show Below w.heap.size w w.drew from (Below.refl _ w).drew)
    generalize w.drew = X at HB2 B2 hHeld ⊢
    obtain ⟨x0, x1, x2, x3⟩ := HB2.out.cells
    have f2 := HB2.out.frozen 2
    have hw : IntKind.i64.wrap ((lost : Int) + 1) = (lost : Int) + 1 := by have := HY.out; simp only [IntKind.wrap_i64]; omega
    have FIN := aside (show RBag (X.setCell ⟨b, 2, none⟩ (.int .i64 ((lost : Int) + 1))) B b (.slice a n c) n last (lost + 1) l from by
      have k0 : Keeps (fun x => x = b) X (X.setCell ⟨b, 2, none⟩ (.int .i64 ((lost : Int) + 1))) := (Keeps.refl (fun x => x = b) X).setCell (p := ⟨b, 2, none⟩) (fun _ => rfl) _
      have h0 := HB2.out
      have e0 := HN.out
      refine ⟨?_, h0.ge, ?_, fun p hp => (h0.dat p hp).keep k0 (fun x hx => (h0.dat p hp).typed h0.bx (by decide) x hx), h0.le, h0.r1, h0.r2⟩
      · have := bag_set (k := 2) h0.bx (.int .i64 ((lost : Int) + 1))
        rw [e0] at this
        simpa using this
      · have h9 := ownsRow_keep h0.row k0 (fun j hj e => by subst e; exact h0.row_not hj)
        rw [e0] at h9 ⊢
        exact h9)
    have KK := aside (show Keeps (BgS b (.slice a n c)) w (X.setCell ⟨b, 2, none⟩ (.int .i64 ((lost : Int) + 1))) from (Keeps.of_below B2.out _).setCell (p := ⟨b, 2, none⟩) (fun _ => .inl rfl) _)
    clear HB2 hHeld
    go_wp2
    go_ret
    exact ⟨by rw [HN.out]; exact KK.out, .inl ⟨HN.out, rfl, by rw [HN.out]; exact FIN.out⟩⟩
  · have HF := aside hful
    have hlt : ¬ ((room : Int) ≤ (n : Int)) := by omega
    clear hful
    go_enter Try.func29, Try.ntmps29
    go_upto_region 1 with fail
    refine wp_region_held_drew (S := fun W => W.cell? ⟨b, 3, none⟩ = some (.slice a n c) ∧ W.cell? ⟨b, 0, none⟩ = some (.int .i64 (room : Int))) (by kernel_rfl) (SX.out _ (Below.refl _ w).drew) (fun hHeld => ?_)
    refine wpAnyH_take (i := 0) (v := ?_) rfl (by kernel_rfl) (by kernel_rfl) (by kernel_rfl) (fun _ _ _ h => h) (Or.inl ⟨by rfl, ?_⟩) (by assumption) ?_
    rotate_left
    · intro w hSw
      go_simp
      try with_reducible rfl
    simp only [Act.put, List.getElem_toArray, List.getElem_cons_zero, List.setIfInBounds_toArray, List.set_cons_zero, List.set_cons_succ]
    refine wpAnyH_take (i := 1) (v := ?_) rfl (by kernel_rfl) (by kernel_rfl) (by kernel_rfl) (fun _ _ _ h => h) (Or.inl ⟨by rfl, ?_⟩) (by assumption) ?_
    rotate_left
    · intro w hSw
      go_simp
      try with_reducible rfl
    simp only [Act.put, List.getElem_toArray, List.getElem_cons_zero, List.getElem_cons_succ, List.setIfInBounds_toArray, List.set_cons_zero, List.set_cons_succ]
    refine wpAnyH_take (i := 2) (v := ?_) rfl (by kernel_rfl) (by kernel_rfl) (by kernel_rfl) (fun _ _ _ h => h) (Or.inl ⟨by rfl, ?_⟩) (by assumption) ?_
    rotate_left
    · intro w hSw
      go_simp
      try with_reducible rfl
    simp only [Act.put, List.getElem_toArray, List.getElem_cons_zero, List.getElem_cons_succ, List.setIfInBounds_toArray, List.set_cons_zero, List.set_cons_succ]
    refine wpAnyH_take (i := 3) (v := ?_) rfl (by kernel_rfl) (by kernel_rfl) (by kernel_rfl) (fun _ _ _ h => h) (Or.inl ⟨by rfl, ?_⟩) (by assumption) ?_
    rotate_left
    · intro w hSw
      go_simp
      try with_reducible rfl
    simp only [Act.put, List.getElem_toArray, List.getElem_cons_zero, List.getElem_cons_succ, List.setIfInBounds_toArray, List.set_cons_zero, List.set_cons_succ]
    refine wpAnyH_take (i := 4) (v := ?_) rfl (by kernel_rfl) (by kernel_rfl) (by kernel_rfl) (fun _ _ _ h => h) (Or.inl ⟨by rfl, ?_⟩) (by assumption) ?_
    rotate_left
    · intro w hSw
      go_simp
      try with_reducible rfl
    simp only [Act.put, List.getElem_toArray, List.getElem_cons_zero, List.getElem_cons_succ, List.setIfInBounds_toArray, List.set_cons_zero, List.set_cons_succ]
    refine wpAnyH_take (i := 5) (v := ?_) rfl (by kernel_rfl) (by kernel_rfl) (by kernel_rfl) (fun _ _ _ h => h) (Or.inl ⟨by rfl, ?_⟩) (by assumption) ?_
    rotate_left
    · intro w hSw
      go_simp
      try with_reducible rfl
    simp only [Act.put, List.getElem_toArray, List.getElem_cons_zero, List.getElem_cons_succ, List.setIfInBounds_toArray, List.set_cons_zero, List.set_cons_succ]
    refine wpAnyH_take (i := 6) (v := ?_) rfl (by kernel_rfl) (by kernel_rfl) (by kernel_rfl) (fun _ _ _ h => h) (Or.inl ⟨by rfl, ?_⟩) (by assumption) ?_
    rotate_left
    · intro w hSw
      go_simp
      try with_reducible rfl
    simp only [Act.put, List.getElem_toArray, List.getElem_cons_zero, List.getElem_cons_succ, List.setIfInBounds_toArray, List.set_cons_zero, List.set_cons_succ]
    refine wpAnyH_take (i := 7) (v := ?_) rfl (by kernel_rfl) (by kernel_rfl) (by kernel_rfl) (fun _ _ _ h => h) (Or.inl ⟨by rfl, ?_⟩) (by assumption) ?_
    rotate_left
    · intro w hSw
      go_simp
      try with_reducible rfl
    simp only [Act.put, List.getElem_toArray, List.getElem_cons_zero, List.getElem_cons_succ, List.setIfInBounds_toArray, List.set_cons_zero, List.set_cons_succ]
    refine wpAnyH_take (i := 8) (v := ?_) rfl (by kernel_rfl) (by kernel_rfl) (by kernel_rfl) (fun _ _ _ h => h) (Or.inl ⟨by rfl, ?_⟩) (by assumption) ?_
    rotate_left
    · intro w hSw
      go_simp
      try with_reducible rfl
    simp only [Act.put, List.getElem_toArray, List.getElem_cons_zero, List.getElem_cons_succ, List.setIfInBounds_toArray, List.set_cons_zero, List.set_cons_succ]
    refine wpAnyH_take (i := 9) (v := .bool false) rfl (by kernel_rfl) (by kernel_rfl) (by kernel_rfl) (fun _ _ _ h => h) (Or.inl ⟨by rfl, ?_⟩) (by assumption) ?_
    · intro w hSw
      go_simp
      try first | with_reducible rfl | omega
    simp only [Act.put, List.getElem_toArray, List.getElem_cons_zero, List.getElem_cons_succ, List.setIfInBounds_toArray, List.set_cons_zero, List.set_cons_succ]
    refine wpAnyH_done (by kernel_rfl) ?_ _
    have HB2 := aside (HB.out.on (Below.refl _ w).drew)
    have B2 := aside (show Below w.heap.size w w.drew from (Below.refl _ w).drew)
    clear SX
    generalize w.drew = X at HB2 B2 hHeld ⊢
    obtain ⟨x0, x1, x2, x3⟩ := HB2.out.cells
    have f1 := HB2.out.frozen 1
    have hw : IntKind.i64.wrap ((last : Int) + 1) = (last : Int) + 1 := by have := HX.out; simp only [IntKind.wrap_i64]; omega
    obtain ⟨Y, hY⟩ : ∃ Y, X.setCell ⟨b, 1, none⟩ (.int .i64 ((last : Int) + 1)) = Y := ⟨_, rfl⟩
    have KY := aside (show Keeps (fun x => x = b) X Y from by rw [← hY]; exact (Keeps.refl (fun x => x = b) X).setCell (p := ⟨b, 1, none⟩) (fun _ => rfl) _)
    have HBY := aside (show RBag Y B b (.slice a n c) room (last + 1) lost l from by
      have h0 := HB2.out
      have e0 := HN.out
      have k0 := KY.out
      refine ⟨?_, h0.ge, ?_, fun p hp => (h0.dat p hp).keep k0 (fun x hx => (h0.dat p hp).typed h0.bx (by decide) x hx), h0.le, h0.r1, h0.r2⟩
      · rw [← hY]
        have := bag_set (k := 1) h0.bx (.int .i64 ((last : Int) + 1))
        rw [e0] at this
        simpa using this
      · have h9 := ownsRow_keep h0.row k0 (fun j hj e => by subst e; exact h0.row_not hj)
        rw [e0] at h9 ⊢
        exact h9)
    have BY := aside (show Keeps (BgS b (.slice a n c)) w Y from (Keeps.of_below B2.out _).trans (KY.out.mono (fun k _ e => .inl e)))
    clear hHeld
    go_upto_region 5 with fail
    try rw [hY]
    clear hY x0 x1 x2 x3 f1 HB2 KY hw
    have SX := aside (fun (W : World) (bb : Below Y.heap.size Y W) => (show W.cell? ⟨b, 3, none⟩ = some (.slice a n c) ∧ W.cell? ⟨b, 1, none⟩ = some (.int .i64 ((last : Int) + 1)) from by
      obtain ⟨x0, x1, x2, x3⟩ := (HBY.out.on bb).cells
      exact ⟨x3, x1⟩))
    refine wp_region_until (S := fun W => W.cell? ⟨b, 3, none⟩ = some (.slice a n c) ∧ W.cell? ⟨b, 1, none⟩ = some (.int .i64 ((last : Int) + 1))) (z := 18) (by kernel_rfl) (SX.out _ (Below.refl _ Y).drew) (fun hHeld => ?_)
    refine Until.take (i := 0) (v := ?_) [18] rfl (by kernel_rfl) (by kernel_rfl) (by kernel_rfl) (by kernel_rfl) (by rfl) (by rfl) (by kernel_rfl) (fun _ _ _ h => h) (Or.inl ⟨by rfl, ?_⟩) (by assumption) ?_
    rotate_left
    · intro w hSw
      go_simp
      try with_reducible rfl
    simp only [Act.put, List.getElem_toArray, List.getElem_cons_zero, List.setIfInBounds_toArray, List.set_cons_zero, List.set_cons_succ]
    refine Until.take (i := 1) (v := ?_) [18] rfl (by kernel_rfl) (by kernel_rfl) (by kernel_rfl) (by kernel_rfl) (by rfl) (by rfl) (by kernel_rfl) (fun _ _ _ h => h) (Or.inl ⟨by rfl, ?_⟩) (by assumption) ?_
    rotate_left
    · intro w hSw
      go_simp
      try with_reducible rfl
    simp only [Act.put, List.getElem_toArray, List.getElem_cons_zero, List.getElem_cons_succ, List.setIfInBounds_toArray, List.set_cons_zero, List.set_cons_succ]
    refine Until.take (i := 2) (v := ?_) [18] rfl (by kernel_rfl) (by kernel_rfl) (by kernel_rfl) (by kernel_rfl) (by rfl) (by rfl) (by kernel_rfl) (fun _ _ _ h => h) (Or.inl ⟨by rfl, ?_⟩) (by assumption) ?_
    rotate_left
    · intro w hSw
      go_simp
      try with_reducible rfl
    simp only [Act.put, List.getElem_toArray, List.getElem_cons_zero, List.getElem_cons_succ, List.setIfInBounds_toArray, List.set_cons_zero, List.set_cons_succ]
    refine Until.take (i := 3) (v := ?_) [18] rfl (by kernel_rfl) (by kernel_rfl) (by kernel_rfl) (by kernel_rfl) (by rfl) (by rfl) (by kernel_rfl) (fun _ _ _ h => h) (Or.inl ⟨by rfl, ?_⟩) (by assumption) ?_
    rotate_left
    · intro w hSw
      go_simp
      try with_reducible rfl
    simp only [Act.put, List.getElem_toArray, List.getElem_cons_zero, List.getElem_cons_succ, List.setIfInBounds_toArray, List.set_cons_zero, List.set_cons_succ]
    refine Until.take (i := 4) (v := ?_) [18] rfl (by kernel_rfl) (by kernel_rfl) (by kernel_rfl) (by kernel_rfl) (by rfl) (by rfl) (by kernel_rfl) (fun _ _ _ h => h) (Or.inl ⟨by rfl, ?_⟩) (by assumption) ?_
    rotate_left
    · intro w hSw
      go_simp
      try with_reducible rfl
    simp only [Act.put, List.getElem_toArray, List.getElem_cons_zero, List.getElem_cons_succ, List.setIfInBounds_toArray, List.set_cons_zero, List.set_cons_succ]
    refine Until.take (i := 5) (v := ?_) [18] rfl (by kernel_rfl) (by kernel_rfl) (by kernel_rfl) (by kernel_rfl) (by rfl) (by rfl) (by kernel_rfl) (fun _ _ _ h => h) (Or.inl ⟨by rfl, ?_⟩) (by assumption) ?_
    rotate_left
    · intro w hSw
      go_simp
      try with_reducible rfl
    simp only [Act.put, List.getElem_toArray, List.getElem_cons_zero, List.getElem_cons_succ, List.setIfInBounds_toArray, List.set_cons_zero, List.set_cons_succ]
    refine Until.take (i := 6) (v := ?_) [18] rfl (by kernel_rfl) (by kernel_rfl) (by kernel_rfl) (by kernel_rfl) (by rfl) (by rfl) (by kernel_rfl) (fun _ _ _ h => h) (Or.inl ⟨by rfl, ?_⟩) (by assumption) ?_
    rotate_left
    · intro w hSw
      go_simp
      try with_reducible rfl
    simp only [Act.put, List.getElem_toArray, List.getElem_cons_zero, List.getElem_cons_succ, List.setIfInBounds_toArray, List.set_cons_zero, List.set_cons_succ]
    refine Until.take (i := 7) (v := ?_) [18] rfl (by kernel_rfl) (by kernel_rfl) (by kernel_rfl) (by kernel_rfl) (by rfl) (by rfl) (by kernel_rfl) (fun _ _ _ h => h) (Or.inl ⟨by rfl, ?_⟩) (by assumption) ?_
    rotate_left
    · intro w hSw
      go_simp
      try with_reducible rfl
    simp only [Act.put, List.getElem_toArray, List.getElem_cons_zero, List.getElem_cons_succ, List.setIfInBounds_toArray, List.set_cons_zero, List.set_cons_succ]
    refine Until.take (i := 8) (v := ?_) [18] rfl (by kernel_rfl) (by kernel_rfl) (by kernel_rfl) (by kernel_rfl) (by rfl) (by rfl) (by kernel_rfl) (fun _ _ _ h => h) (Or.inl ⟨by rfl, ?_⟩) (by assumption) ?_
    rotate_left
    · intro w hSw
      go_simp
      try with_reducible rfl
    simp only [Act.put, List.getElem_toArray, List.getElem_cons_zero, List.getElem_cons_succ, List.setIfInBounds_toArray, List.set_cons_zero, List.set_cons_succ]
    refine Until.take (i := 9) (v := ?_) [18] rfl (by kernel_rfl) (by kernel_rfl) (by kernel_rfl) (by kernel_rfl) (by rfl) (by rfl) (by kernel_rfl) (fun _ _ _ h => h) (Or.inl ⟨by rfl, ?_⟩) (by assumption) ?_
    rotate_left
    · intro w hSw
      go_simp
      try with_reducible rfl
    simp only [Act.put, List.getElem_toArray, List.getElem_cons_zero, List.getElem_cons_succ, List.setIfInBounds_toArray, List.set_cons_zero, List.set_cons_succ]
    refine Until.take (i := 10) (v := ?_) [18] rfl (by kernel_rfl) (by kernel_rfl) (by kernel_rfl) (by kernel_rfl) (by rfl) (by rfl) (by kernel_rfl) (fun _ _ _ h => h) (Or.inl ⟨by rfl, ?_⟩) (by assumption) ?_
    rotate_left
    · intro w hSw
      go_simp
      try with_reducible rfl
    simp only [Act.put, List.getElem_toArray, List.getElem_cons_zero, List.getElem_cons_succ, List.setIfInBounds_toArray, List.set_cons_zero, List.set_cons_succ]
    refine Until.take (i := 11) (v := ?_) [18] rfl (by kernel_rfl) (by kernel_rfl) (by kernel_rfl) (by kernel_rfl) (by rfl) (by rfl) (by kernel_rfl) (fun _ _ _ h => h) (Or.inl ⟨by rfl, ?_⟩) (by assumption) ?_
    rotate_left
    · intro w hSw
      go_simp
      try with_reducible rfl
    simp only [Act.put, List.getElem_toArray, List.getElem_cons_zero, List.getElem_cons_succ, List.setIfInBounds_toArray, List.set_cons_zero, List.set_cons_succ]
    have B3 := aside (show Below Y.heap.size Y Y.drew from (Below.refl _ Y).drew)
    generalize Y.drew = Y1 at B3 hHeld ⊢
    obtain ⟨mb, bb, cur, fr, hcur⟩ := byIn_made Y1 L HL.out
    have hcv := Lib.run_convert_string_bytes (P := Try.prog) Y1 9 32 5 ⟨L.toArray⟩ (u := .string) Try.underlying9 Try.underlying32 Try.underlying5
    rw [show ByteArray.size ⟨L.toArray⟩ = L.length from by show (L.toArray).size = _; simp] at hcv
    obtain ⟨X1, hX1⟩ : ∃ X, Lib.bytesWorld Y1 5 ⟨L.toArray⟩ = X := ⟨_, rfl⟩
    obtain ⟨cp, hcp⟩ : ∃ y, grownCap Y1 L.length 0 5 = y := ⟨_, rfl⟩
    obtain ⟨q1, hq1⟩ : ∃ y, Y1.heap.size = y := ⟨_, rfl⟩
    obtain ⟨dl, hdl⟩ : ∃ y, L.length = y := ⟨_, rfl⟩
    have HQ1 := aside hq1
    rw [hX1, hcp, hq1, hdl] at hcv mb
    rw [hX1, hq1] at hcur
    rw [hX1] at bb
    rw [HS.out] at hcv
    have B4 := aside (bthen B3.out bb)
    have D4 := aside (show DatR Y1.heap.size X1 ⟨(last : Int) + 1, frm, dst, some ⟨q1, 0, none⟩, dl, cp, L⟩ from ⟨mb, by have := HL.out; dsimp only; omega, q1, cur, fr, rfl, Nat.le_of_eq HQ1.out, hcur⟩)
    clear mb bb hcur hX1 hcp hq1 hdl
    refine Until.step (i := 12) (by kernel_rfl) rfl (by rfl) (fun K' hK' => ?_)
    go_simp
    refine hK'.out _ _ (SX.out _ B4.out) (fun hHeld => ?_)
    clear hK' K' hcv
    refine Until.take (i := 13) (v := ?_) [18] rfl (by kernel_rfl) (by kernel_rfl) (by kernel_rfl) (by kernel_rfl) (by rfl) (by rfl) (by kernel_rfl) (fun _ _ _ h => h) (Or.inl ⟨by rfl, ?_⟩) (by assumption) ?_
    rotate_left
    · intro w hSw
      go_simp
      try with_reducible rfl
    simp only [Act.put, List.getElem_toArray, List.getElem_cons_zero, List.getElem_cons_succ, List.setIfInBounds_toArray, List.set_cons_zero, List.set_cons_succ]
    obtain ⟨X2, hX2⟩ : ∃ X, X1.alloc (.cells #[.int .i64 ((last : Int) + 1), .int .i64 frm, .int .i64 dst, .slice (some ⟨q1, 0, none⟩) dl cp] 39) = X := ⟨_, rfl⟩
    obtain ⟨q2, hq2⟩ : ∃ q, X1.heap.size = q := ⟨_, rfl⟩
    have b3 := bnew X1 (.cells #[.int .i64 ((last : Int) + 1), .int .i64 frm, .int .i64 dst, .slice (some ⟨q1, 0, none⟩) dl cp] 39)
    have k3 := heap_alloc_new X1 (.cells #[.int .i64 ((last : Int) + 1), .int .i64 frm, .int .i64 dst, .slice (some ⟨q1, 0, none⟩) dl cp] 39)
    rw [hX2] at b3 k3
    rw [hq2] at k3
    have K5 := aside k3
    have B5 := aside (bthen B4.out b3)
    have D5 := aside (D4.out.on b3)
    refine Until.step (i := 14) (by kernel_rfl) rfl (by rfl) (fun K' hK' => ?_)
    go_simp
    try rw [hX2]
    try rw [hq2]
    refine hK'.out _ _ (SX.out _ B5.out) (fun hHeld => ?_)
    clear hK' K' b3 k3 hX2 hq2
    have HB4 := aside (HBY.out.on B5.out)
    have HSZ := aside (show B ≤ X2.heap.size from by have h1 := B5.out.size; have h2 := BY.out.size; have h3 := HBS.out; omega)
    refine Until.step (i := 15) (by kernel_rfl) rfl (by rfl) (fun K' hK' => ?_)
    rw [if_pos (by kernel_rfl)]
    refine op_append_pk _ _ rfl B n 1 (.slice a n c) l [⟨(last : Int) + 1, frm, dst, some ⟨q1, 0, none⟩, dl, cp, L⟩] (by rfl) (by have h9 := HB4.out.row; rw [HN.out] at h9; exact h9) ⟨q2, 0, none⟩ 1 (by rfl) rfl (fun j u hj => by
      rw [Addr.add_lit, Nat.zero_add, cell_of_row _ _ j _ _ _ K5.out]
      rw [pkCells_single] at hj
      simpa using hj) (by have h1 := HB4.out.le; have h2 := HB4.out.r2; have h3 := HN.out; omega) HSZ.out ?_
    intro V9 X5 own5 gr5 at5
    obtain ⟨a5, c5, rfl, -⟩ := own_slice own5
    have k5 : Keeps (fun x => (Value.slice a n c).ownBlock = some x) X2 X5 := (Keeps.refl _ _).grown gr5 (fun k hk _ => hk)
    have hb5 : X5.heap[b]? = some (.cells #[.int .i64 (room : Int), .int .i64 ((last : Int) + 1), .int .i64 (lost : Int), .slice a n c] 62 (0, 0)) := blk_keep HB4.out.bx k5 HB4.out.row_not
    have D6 := aside (show DatR w.heap.size X5 ⟨(last : Int) + 1, frm, dst, some ⟨q1, 0, none⟩, dl, cp, L⟩ from (D5.out.keep k5 (fun x hx e => D5.out.row HB4.out.row (by decide) x hx e)).low (by have h1 := BY.out.size; have h2 := B3.out.size; omega))
    have DD5 := aside (show ∀ p ∈ l, DatR B X5 p from fun p hp => (HB4.out.dat p hp).keep k5 (fun x hx e => (HB4.out.dat p hp).row HB4.out.row (by decide) x hx e))
    have B6 := aside (show Keeps (BgS b (.slice a n c)) w X5 from (BY.out.trans (Keeps.of_below B5.out _)).trans (k5.mono (fun k _ e => .inr e)))
    have W5 := aside (show Where w (.slice a n c) (.slice a5 (n + 1) c5) from at5.imp id (fun e => ⟨_, e, by have h1 := BY.out.size; have h2 := B5.out.size; omega⟩))
    have HB5 := aside hb5
    have O5 := aside own5
    obtain ⟨x0, x1, x2, x3⟩ := fourB hb5
    refine hK'.out _ _ ⟨x3, x1⟩ (fun hHeld => ?_)
    clear hK' K' x0 x1 x2 x3 k5 gr5 at5 own5 hb5
    refine Until.take (i := 16) (v := ?_) [17, 18] rfl (by kernel_rfl) (by kernel_rfl) (by kernel_rfl) (by kernel_rfl) (by rfl) (by rfl) (by kernel_rfl) (fun _ _ _ h => h) (Or.inl ⟨by rfl, ?_⟩) (by assumption) ?_
    rotate_left
    · intro w hSw
      go_simp
      try with_reducible rfl
    simp only [Act.put, List.getElem_toArray, List.getElem_cons_zero, List.getElem_cons_succ, List.setIfInBounds_toArray, List.set_cons_zero, List.set_cons_succ]
    refine Until.take (i := 17) (v := ?_) [18] rfl (by kernel_rfl) (by kernel_rfl) (by kernel_rfl) (by kernel_rfl) (by rfl) (by rfl) (by kernel_rfl) (fun _ _ _ h => h) (Or.inl ⟨by rfl, ?_⟩) (by assumption) ?_
    rotate_left
    · intro w hSw
      go_simp
      try with_reducible rfl
    simp only [Act.put, List.getElem_toArray, List.getElem_cons_zero, List.getElem_cons_succ, List.setIfInBounds_toArray, List.set_cons_zero, List.set_cons_succ]
    have f1 := frozen_of_row X5 b 3 _ _ HB5.out
    have FIN := aside (show RBag (X5.setCell ⟨b, 3, none⟩ (.slice a5 (n + 1) c5)) B b (.slice a5 (n + 1) c5) room (last + 1) lost (l ++ [⟨(last : Int) + 1, frm, dst, some ⟨q1, 0, none⟩, dl, cp, L⟩]) from by
      have k0 : Keeps (fun x => x = b) X5 (X5.setCell ⟨b, 3, none⟩ (.slice a5 (n + 1) c5)) := (Keeps.refl (fun x => x = b) X5).setCell (p := ⟨b, 3, none⟩) (fun _ => rfl) _
      have h0 := HB4.out
      have e0 := HN.out
      refine ⟨?_, h0.ge, ?_, fun p hp => ?_, ?_, h0.r1, h0.r2⟩
      · have := bag_set (k := 3) HB5.out (.slice a5 (n + 1) c5)
        simpa using this
      · have h9 := ownsRow_keep O5.out k0 (fun j hj e => by subst e; exact own_typed O5.out HB5.out (by decide) hj)
        rw [List.length_append, e0]
        exact h9
      · rcases List.mem_append.1 hp with hp | hp
        · exact (DD5.out p hp).keep k0 (fun x hx => (DD5.out p hp).typed HB5.out (by decide) x hx)
        · rcases List.mem_singleton.1 hp with rfl
          exact (D6.out.keep k0 (fun x hx => D6.out.typed HB5.out (by decide) x hx)).low HBS.out
      · have h1 := h0.le; have h2 := HF.out
        rw [List.length_append, List.length_singleton]; omega)
    have D7 := aside (show DatR w.heap.size (X5.setCell ⟨b, 3, none⟩ (.slice a5 (n + 1) c5)) ⟨(last : Int) + 1, frm, dst, some ⟨q1, 0, none⟩, dl, cp, L⟩ from D6.out.keep ((Keeps.refl (fun x => x = b) X5).setCell (p := ⟨b, 3, none⟩) (fun _ => rfl) _) (fun x hx => D6.out.typed HB5.out (by decide) x hx))
    have KK := aside (show Keeps (BgS b (.slice a n c)) w (X5.setCell ⟨b, 3, none⟩ (.slice a5 (n + 1) c5)) from B6.out.setCell (p := ⟨b, 3, none⟩) (fun _ => .inl rfl) _)
    refine Until.last (by kernel_rfl) rfl (fun K' hK' => ?_)
    rw [if_pos (by kernel_rfl)]
    obtain ⟨x3, -⟩ := hHeld
    go_simp
    refine hK'.out _ _ ?_
    clear hK' K'
    refine wpAny_of_held (S := fun _ => True) _ _ _ _ ?_
    have hHeld : True := trivial
    refine wpAnyH_done (by kernel_rfl) ?_ _
    clear x3 f1 hHeld SX
    generalize X5.setCell ⟨b, 3, none⟩ (.slice a5 (n + 1) c5) = X6 at FIN D7 KK ⊢
    obtain ⟨z0, z1, z2, z3⟩ := FIN.out.cells
    rw [show ((last + 1 : Nat) : Int) = (last : Int) + 1 from by omega] at z1
    go_wp2
    go_ret
    exact ⟨KK.out, .inr ⟨by have h2 := HF.out; have h3 := HN.out; omega, rfl, _, _, rfl, D7.out, FIN.out, W5.out⟩⟩

set_option maxHeartbeats 3200000 in
theorem rsend_arg (b : Nat) (f t : Int) (a : Option Addr) (len cap : Nat) (h : ¬ NodeOk f t) (w : World) : Calls Try.prog 12 #[.pointer (some ⟨b, 0, none⟩), .int .i64 f, .int .i64 t, .slice a len cap] w fun e w' => e = .returned (.tuple #[.int .i64 0, .int .i64 1]) ∧ w' = w := by
  unfold NodeOk at h
  by_cases h1 : f < 0
  · clear h
    go_enter Try.func12, Try.ntmps12
    go_wp2
    go_ret2
    exact ⟨rfl, rfl⟩
  · by_cases h2 : f ≥ 8
    · clear h
      go_enter Try.func12, Try.ntmps12
      go_wp2
      go_ret2
      exact ⟨rfl, rfl⟩
    · by_cases h3 : t < 0
      · clear h
        go_enter Try.func12, Try.ntmps12
        go_wp2
        go_ret2
        exact ⟨rfl, rfl⟩
      · by_cases h4 : t ≥ 8
        · clear h
          go_enter Try.func12, Try.ntmps12
          go_wp2
          go_ret2
          exact ⟨rfl, rfl⟩
        · obtain rfl : f = t := by
            by_cases e : f = t
            · exact e
            · exact absurd ⟨by omega, by omega, e⟩ h
          clear h
          go_enter Try.func12, Try.ntmps12
          go_wp2
          go_ret2
          exact ⟨rfl, rfl⟩
set_option maxHeartbeats 3200000 in
theorem rsend_big (b : Nat) (f t : Int) (a : Option Addr) (len cap : Nat) (h : NodeOk f t) (hl : 65536 < len) (w : World) : Calls Try.prog 12 #[.pointer (some ⟨b, 0, none⟩), .int .i64 f, .int .i64 t, .slice a len cap] w fun e w' => e = .returned (.tuple #[.int .i64 0, .int .i64 120]) ∧ w' = w := by
  obtain ⟨⟨h0, h1⟩, ⟨h2, h3⟩, h6⟩ := h
  have h4 : (f == t) = false := by simpa using h6
  have h5 : (65536 : Int) < (len : Int) := by omega
  have g0 : ¬ f < 0 := by omega
  have g1 : ¬ f ≥ 8 := by omega
  have g2 : ¬ t < 0 := by omega
  have g3 : ¬ t ≥ 8 := by omega
  clear h0 h1 h2 h3 h6 hl
  go_enter Try.func12, Try.ntmps12
  go_wp2
  go_ret2
  exact ⟨rfl, rfl⟩
set_option maxHeartbeats 6400000 in
set_option maxRecDepth 100000 in
theorem rsend_ok {w : World} {B b : Nat} {v : Value} {room last lost : Nat} {l : List Pk} (hb : RBag w B b v room last lost l) (f t : Int) (a : Option Addr) (len cap : Nat) (L : List UInt8) (h : NodeOk f t) (hl : len ≤ 65536) (hi : ByIn w a len cap L) (h2 : last ≤ 4611686018427387904) (h3 : lost ≤ 4611686018427387904) (hB : B ≤ w.heap.size) : Calls Try.prog 12 #[.pointer (some ⟨b, 0, none⟩), .int .i64 f, .int .i64 t, .slice a len cap] w fun e w' => ∃ n, e = .returned (.tuple #[.int .i64 n, .int .i64 0]) ∧ Keeps (BgS b v) w w' ∧ LaySay w B b v room last lost l f t L (.returned (.int .i64 n)) w' := by
  have HD := aside (rlay_any hb f t L (by have := hi.1; omega) h2 h3 hB)
  have cv := byIn_conv hi
  obtain ⟨⟨h0, h1⟩, ⟨h2, h3⟩, h6⟩ := h
  have h4 : (f == t) = false := by simpa using h6
  have h5 : ¬ ((65536 : Int) < (len : Int)) := by omega
  have g0 : ¬ f < 0 := by omega
  have g1 : ¬ f ≥ 8 := by omega
  have g2 : ¬ t < 0 := by omega
  have g3 : ¬ t ≥ 8 := by omega
  clear h0 h1 h2 h3 h6 hl hi hb hB
  go_enter Try.func12, Try.ntmps12
  go_wp2_with fail
  refine HD.out.mono ?_
  rintro e X ⟨kk, hs⟩
  obtain ⟨m, rfl⟩ := hs.ret
  have KK := aside kk
  have HS := aside hs
  clear kk hs
  go_wp2
  go_ret2
  exact ⟨m, rfl, KK.out, HS.out⟩
end Go.Proofs.Yteaaamhojiognaa
