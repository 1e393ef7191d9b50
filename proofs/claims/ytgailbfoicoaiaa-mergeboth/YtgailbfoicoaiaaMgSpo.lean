/-
  spoil: it turns the entries of its list, and lets it grow: nothing else that was there turns.
-/
import Derived.Test.YtgailbfoicoaiaaMgKept
namespace Go.Proofs.Ytgailbfoicoaiaa
open Go.RowKit
set_option linter.unusedVariables false

theorem Keeps.rowS {w wr w2 : World} {g g1 : Option Nat} (h1 : Keeps (fun k => g = some k) w wr) (fr : Fresh w g g1) (h2 : Keeps (fun k => g1 = some k) wr w2) : Keeps (fun k => g = some k) w w2 :=
  ⟨h2.os.trans h1.os, h2.tape.trans h1.tape, h2.output.trans h1.output, Nat.le_trans h1.size h2.size, fun k hk hs =>
    (h2.block k (Nat.lt_of_lt_of_le hk h1.size) (fun e => by
      rcases fr with rfl | ⟨j, rfl, hj⟩
      · exact hs e
      · cases e; omega)).trans (h1.block k hk hs)⟩

/-- An entry stored into a row turns the row's block alone. -/
theorem put_keeps (w : World) (g j : Nat) (u0 u1 u2 u3 u4 : Value) : Keeps (fun k => some g = some k) w (((((w.setCell ⟨g, j, none⟩ u0).setCell ⟨g, j + 1, none⟩ u1).setCell ⟨g, j + 2, none⟩ u2).setCell ⟨g, j + 3, none⟩ u3).setCell ⟨g, j + 4, none⟩ u4) :=
  (((((Keeps.refl (fun k => some g = some k) w).setCell (p := ⟨g, j, none⟩) (fun _ => rfl) u0).setCell (p := ⟨g, j + 1, none⟩) (fun _ => rfl) u1).setCell (p := ⟨g, j + 2, none⟩) (fun _ => rfl) u2).setCell (p := ⟨g, j + 3, none⟩) (fun _ => rfl) u3).setCell (p := ⟨g, j + 4, none⟩) (fun _ => rfl) u4

set_option maxHeartbeats 3200000 in
set_option maxRecDepth 100000 in
theorem espoil_any (B n : Nat) (v : Value) (l0 : List En) (w : World) (hown0 : w.ownsRow B 29 5 v n (entCells l0)) (hB : B ≤ w.heap.size) (hn : n ≤ 4294967296) :
    Calls Try.prog 21 #[v] w fun e w' => e = .returned (.tuple #[]) ∧ Keeps (fun k => v.ownBlock = some k) w w' := by
  obtain ⟨va, vc, rfl, hvn, hvm, hform⟩ := own_slice hown0
  have HF := aside hform
  have HO0 := aside hown0
  have hnx : (n : Int) ≤ 4294967296 := by omega
  clear hown0 hform hvm
  go_enter Try.func21, Try.ntmps21
  go_wp2
  go_loopw [2] (fun i wr => ∃ (k : Nat) (l : List En), i = .int .i64 (k : Int) ∧ k ≤ n ∧ wr.ownsRow B 29 5 (.slice va n vc) n (entCells l) ∧ Keeps (fun j => (Value.slice va n vc).ownBlock = some j) w wr) (fun i _ => n - (intOf i).toNat)
  case atStart => exact ⟨0, l0, rfl, Nat.zero_le _, HO0.out, Keeps.refl _ _⟩
  case round =>
    obtain ⟨k, l, rfl, hk, hown, hkeep⟩ := hrel
    have HO := aside hown
    have HK := aside hkeep
    clear hown hkeep HO0
    by_cases hlt : (k : Int) < (n : Int)
    · have hk0 : (0 : Int) ≤ (k : Int) := by omega
      rcases HF.out with ⟨_, h0, _⟩ | ⟨g, rfl, hg⟩
      · omega
      have HLN := aside (show l.length = n from by have := HO.out.1; rw [entCells_length] at this; omega)
      obtain ⟨c0, c1, c2, c3, c4⟩ := row_cells HO.out (i := k) (by rw [HLN.out]; omega)
      have f0 := row_frozen HO.out (k * 5)
      have f1 := row_frozen HO.out (k * 5 + 1)
      have f2 := row_frozen HO.out (k * 5 + 2)
      have f3 := row_frozen HO.out (k * 5 + 3)
      have f4 := row_frozen HO.out (k * 5 + 4)
      have HP := aside (own_put HO.out ⟨⟨#[115, 112, 111, 105, 108, 116]⟩, 0, 0, ⟨#[]⟩, false⟩ (j := k) (by rw [HLN.out]; omega))
      have HPK := aside (HK.out.trans (put_keeps wr g (k * 5) (.string ⟨#[115, 112, 111, 105, 108, 116]⟩) (.int .i64 0) (.int .i64 0) (.string ⟨#[]⟩) (.bool false)))
      go_wp2
      go_roundw
      case rel => exact ⟨k + 1, _, by go_num, by omega, HP.out, HPK.out⟩
      case measure => simp [intOf]; omega
    · go_wp2
      go_loopw [0, 3] (fun v' i wr' => ∃ (j m : Nat) (l : List En), i = .int .i64 (j : Int) ∧ j ≤ 12 ∧ m ≤ n + j ∧ wr'.ownsRow B 29 5 v' m (entCells l) ∧ Fresh w (Value.slice va n vc).ownBlock v'.ownBlock ∧ Keeps (fun j => (Value.slice va n vc).ownBlock = some j) w wr') (fun _ i _ => 12 - (intOf i).toNat)
      case atStart => exact ⟨0, n, l, rfl, by omega, by omega, HO.out, .inl rfl, HK.out⟩
      case round =>
        obtain ⟨j, m, l, rfl, hj, hm, hown, hfr, hkeep⟩ := hrel
        have HO2 := aside hown
        have HK2 := aside hkeep
        have HF2 := aside hfr
        have hsz := hkeep.size
        clear hown hkeep hfr
        by_cases hlt2 : (j : Int) < 12
        · go_wp2_with (at_builtin; go_loud (refine wpList_plain rfl fun K hK => op_append_ent_at _ _ rfl B m _ l (by rfl) (HO2.out.alloc _) wr.heap.size 1 ⟨⟨#[103, 114, 111, 119, 110]⟩, 0, 0, ⟨#[]⟩, false⟩ (by rfl) (heap_alloc_new wr _) (by omega) (by simp; omega) ?_); intro g1 cp1 w4 own4 gr4 at4; refine hK _ _ ?_; refine Hid.out ?_)
          refine aside ?_
          have O4 := aside own4
          have FR := aside (show Fresh w (Value.slice va n vc).ownBlock (some g1) from by
            rcases at4 with h | h
            · rcases HF2.out with e | ⟨q, e, hq⟩
              · exact .inl (by rw [← e, h])
              · exact .inr ⟨q, by rw [← h, e], hq⟩
            · exact .inr ⟨g1, rfl, by simp at h; omega⟩)
          have KK := aside (HK2.out.rowS HF2.out (((Keeps.refl _ wr).alloc _).grown gr4 (fun x hx _ => hx)))
          clear own4 gr4 at4
          go_wp2
          go_roundw
          case rel => exact ⟨j + 1, m + 1, _, by go_num, by omega, by omega, O4.out, FR.out, KK.out⟩
          case measure => simp [intOf]; omega
        · go_wp2
          go_end0
          exact ⟨rfl, HK2.out⟩

/-- What a spoilt row leaves: what was there below it. -/
theorem spoilt {w0 w w' : World} {v : Value} {n : Nat} {xs : List Value} (b : Below w0.heap.size w0 w) (h : w.ownsRow w0.heap.size 29 5 v n xs) (k : Keeps (fun k => v.ownBlock = some k) w w') : Below w0.heap.size w0 w' :=
  b.trans (k.below b.size (fun j hj e => by have := (h.lt j e).1; omega))

/-- Some answer. -/
def AnyB (w : World) (e : Ending) (w' : World) : Prop := ∃ q, e = .returned (.bool q) ∧ Below w.heap.size w w'
set_option maxHeartbeats 1600000 in
theorem longr_any (lo hi : ByteArray) (op : Bool) (w : World) :
    Calls Try.prog 28 #[.agg #[.string lo, .string hi, .bool op]] w fun e w' => AnyB w e w' := by
  by_cases h1 : (1073741824 : Int) < (lo.size : Int)
  · go_enter Try.func28, Try.ntmps28
    go_wp2
    go_ret
    exact ⟨_, rfl, bnew _ _⟩
  · by_cases h2 : (1073741824 : Int) < (hi.size : Int)
    · go_enter Try.func28, Try.ntmps28
      go_wp2
      go_ret
      exact ⟨_, rfl, bnew _ _⟩
    · go_enter Try.func28, Try.ntmps28
      go_wp2
      go_ret
      exact ⟨_, rfl, bnew _ _⟩

end Go.Proofs.Ytgailbfoicoaiaa
