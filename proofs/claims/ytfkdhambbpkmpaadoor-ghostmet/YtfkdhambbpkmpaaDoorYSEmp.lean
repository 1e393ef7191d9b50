/-
  Empty and Holds, the code's and the document's own: each returns what the plain function gives, and writes nothing that was there.
-/
import Derived.Test.YtfkdhambbpkmpaaDoorYSChk
namespace Go.Proofs.YtfkdhambbpkmpaaDoor
open Go.RowKit
/-- What lies in a box that was laid last stays there. -/
theorem box3 {w w1 : World} {a b c : Value} {t : TypeId} (h : Below (w.alloc (.cells #[a, b, c] t)).heap.size (w.alloc (.cells #[a, b, c] t)) w1) :
    w1.cell? ⟨w.heap.size, 0, none⟩ = some a ∧ w1.cell? ⟨w.heap.size, 1, none⟩ = some b ∧ w1.cell? ⟨w.heap.size, 2, none⟩ = some c := by
  have e : ∀ j, (w.alloc (.cells #[a, b, c] t)).cell? ⟨w.heap.size, j, none⟩ = #[a, b, c][j]? := fun j => World.cell?_alloc_mark w #[a, b, c] t (0, 0) j
  refine ⟨?_, ?_, ?_⟩
  · rw [h.cell (p := ⟨w.heap.size, 0, none⟩) (by simp), e]; rfl
  · rw [h.cell (p := ⟨w.heap.size, 1, none⟩) (by simp), e]; rfl
  · rw [h.cell (p := ⟨w.heap.size, 2, none⟩) (by simp), e]; rfl

theorem mayBe_at {lo hi : ByteArray} {op m : Bool} (h : Rg.may ⟨lo, hi, op⟩ = m) (w : World) :
    Calls Tryd.prog 48 #[.agg #[.string lo, .string hi, .bool op]] w fun e w' => e = .returned (.bool m) ∧ Below w.heap.size w w' := by
  subst h; exact mayBe_any lo hi op w

theorem check_at {lo hi : ByteArray} {op : Bool} {c : Int} (h : Rg.chk ⟨lo, hi, op⟩ = c) (w : World) :
    Calls Tryd.prog 26 #[.agg #[.string lo, .string hi, .bool op]] w fun e w' => e = .returned (.int .i64 c) ∧ Below w.heap.size w w' := by
  subst h; exact check_any lo hi op w

theorem checkRef_at {lo hi : ByteArray} {op : Bool} {c : Int} (h : Rg.chk ⟨lo, hi, op⟩ = c) (w : World) :
    Calls Tryd.prog 60 #[.agg #[.string lo, .string hi, .bool op]] w fun e w' => e = .returned (.int .i64 c) ∧ Below w.heap.size w w' := by
  subst h; exact checkRef_any lo hi op w

theorem may_chk {r : Rg} (h : r.may = true) : r.chk = 0 := by simpa [Rg.may] using h

theorem may_not {r : Rg} (h : r.may = false) : ∃ c, r.chk = c ∧ (c != 0) = true ∧ ¬ c = 0 := ⟨_, rfl, by simpa [Rg.may] using h, by simpa [Rg.may] using h⟩

set_option maxHeartbeats 1600000 in
theorem empty_any (lo hi : ByteArray) (op : Bool) (w : World) :
    Calls Tryd.prog 90 #[.agg #[.string lo, .string hi, .bool op]] w fun e w' => e = .returned (.bool (Rg.emp ⟨lo, hi, op⟩)) ∧ Below w.heap.size w w' := by
  cases hm : Rg.may ⟨lo, hi, op⟩
  · rw [show Rg.emp ⟨lo, hi, op⟩ = true from by simp [Rg.emp, hm]]
    have C := aside (fun w => mayBe_at hm w)
    clear hm
    go_enter Tryd.func90, Tryd.ntmps90
    go_wp2_with (go_at_call 48; refine (C.out _).mono ?_; rintro e w1 ⟨rfl, b1⟩; obtain ⟨q0, q1, q2⟩ := box3 b1)
    go_ret
    exact ⟨rfl, bthen (bnew w _) b1⟩
  · have C := aside (fun w => mayBe_at hm w)
    rw [show Rg.emp ⟨lo, hi, op⟩ = (!op && (lo.toList == hi.toList)) from by simp [Rg.emp, hm]]
    clear hm
    cases op
    · cases h5 : (lo.toList == hi.toList)
      all_goals
        go_enter Tryd.func90, Tryd.ntmps90
        go_wp2_with (go_at_call 48; refine (C.out _).mono ?_; rintro e w1 ⟨rfl, b1⟩; obtain ⟨q0, q1, q2⟩ := box3 b1)
        go_ret
        exact ⟨rfl, bthen (bnew w _) b1⟩
    · go_enter Tryd.func90, Tryd.ntmps90
      go_wp2_with (go_at_call 48; refine (C.out _).mono ?_; rintro e w1 ⟨rfl, b1⟩; obtain ⟨q0, q1, q2⟩ := box3 b1)
      go_ret
      exact ⟨rfl, bthen (bnew w _) b1⟩


set_option maxHeartbeats 1600000 in
theorem holds_any (lo hi : ByteArray) (op : Bool) (k : ByteArray) (w : World) :
    Calls Tryd.prog 27 #[.agg #[.string lo, .string hi, .bool op], .string k] w fun e w' => e = .returned (.bool (Rg.has ⟨lo, hi, op⟩ k)) ∧ Below w.heap.size w w' := by
  cases hm : Rg.may ⟨lo, hi, op⟩
  · rw [show Rg.has ⟨lo, hi, op⟩ k = false from by simp [Rg.has, hm]]
    have C := aside (fun w => mayBe_at hm w)
    clear hm
    go_enter Tryd.func27, Tryd.ntmps27
    go_wp2_with (go_at_call 48; refine (C.out _).mono ?_; rintro e w1 ⟨rfl, b1⟩; obtain ⟨q0, q1, q2⟩ := box3 b1)
    go_ret
    exact ⟨rfl, bthen (bnew w _) b1⟩
  · have C := aside (fun w => mayBe_at hm w)
    rw [show Rg.has ⟨lo, hi, op⟩ k = (decide ((k.size : Int) ≤ 16) && !Op.bytesLess k.toList lo.toList && (op || Op.bytesLess k.toList hi.toList)) from by simp [Rg.has, hm]]
    clear hm
    by_cases h1 : (k.size : Int) ≤ 16
    · rw [decide_eq_true h1]
      cases h2 : Op.bytesLess k.toList lo.toList
      · cases op
        · cases h5 : Op.bytesLess k.toList hi.toList
          all_goals
            go_enter Tryd.func27, Tryd.ntmps27
            go_wp2_with (go_at_call 48; refine (C.out _).mono ?_; rintro e w1 ⟨rfl, b1⟩; obtain ⟨q0, q1, q2⟩ := box3 b1)
            go_ret
            exact ⟨rfl, bthen (bnew w _) b1⟩
        · go_enter Tryd.func27, Tryd.ntmps27
          go_wp2_with (go_at_call 48; refine (C.out _).mono ?_; rintro e w1 ⟨rfl, b1⟩; obtain ⟨q0, q1, q2⟩ := box3 b1)
          go_ret
          exact ⟨rfl, bthen (bnew w _) b1⟩
      · go_enter Tryd.func27, Tryd.ntmps27
        go_wp2_with (go_at_call 48; refine (C.out _).mono ?_; rintro e w1 ⟨rfl, b1⟩; obtain ⟨q0, q1, q2⟩ := box3 b1)
        go_ret
        exact ⟨rfl, bthen (bnew w _) b1⟩
    · rw [decide_eq_false h1]
      go_enter Tryd.func27, Tryd.ntmps27
      go_wp2_with (go_at_call 48; refine (C.out _).mono ?_; rintro e w1 ⟨rfl, b1⟩; obtain ⟨q0, q1, q2⟩ := box3 b1)
      go_ret
      exact ⟨rfl, bthen (bnew w _) b1⟩

set_option maxHeartbeats 1600000 in
theorem holdsRef_any (lo hi : ByteArray) (op : Bool) (k : ByteArray) (w : World) :
    Calls Tryd.prog 62 #[.agg #[.string lo, .string hi, .bool op], .string k] w fun e w' => e = .returned (.bool (Rg.has ⟨lo, hi, op⟩ k)) ∧ Below w.heap.size w w' := by
  cases hm : Rg.may ⟨lo, hi, op⟩
  · rw [show Rg.has ⟨lo, hi, op⟩ k = false from by simp [Rg.has, hm]]
    obtain ⟨c, hc, hne, hnz⟩ := may_not hm
    have C := aside (fun w => checkRef_at hc w)
    clear hm hc
    go_enter Tryd.func62, Tryd.ntmps62
    go_wp2_with (go_at_call 60; refine (C.out _).mono ?_; rintro e w1 ⟨rfl, b1⟩; obtain ⟨q0, q1, q2⟩ := box3 b1)
    go_ret
    exact ⟨rfl, bthen (bnew w _) b1⟩
  · have C := aside (fun w => checkRef_at (may_chk hm) w)
    rw [show Rg.has ⟨lo, hi, op⟩ k = (decide ((k.size : Int) ≤ 16) && !Op.bytesLess k.toList lo.toList && (op || Op.bytesLess k.toList hi.toList)) from by simp [Rg.has, hm]]
    clear hm
    by_cases h1 : (k.size : Int) ≤ 16
    · rw [decide_eq_true h1]
      cases h2 : Op.bytesLess k.toList lo.toList
      · cases op
        · cases h5 : Op.bytesLess k.toList hi.toList
          all_goals
            go_enter Tryd.func62, Tryd.ntmps62
            go_wp2_with (go_at_call 60; refine (C.out _).mono ?_; rintro e w1 ⟨rfl, b1⟩; obtain ⟨q0, q1, q2⟩ := box3 b1)
            go_ret
            exact ⟨rfl, bthen (bnew w _) b1⟩
        · go_enter Tryd.func62, Tryd.ntmps62
          go_wp2_with (go_at_call 60; refine (C.out _).mono ?_; rintro e w1 ⟨rfl, b1⟩; obtain ⟨q0, q1, q2⟩ := box3 b1)
          go_ret
          exact ⟨rfl, bthen (bnew w _) b1⟩
      · go_enter Tryd.func62, Tryd.ntmps62
        go_wp2_with (go_at_call 60; refine (C.out _).mono ?_; rintro e w1 ⟨rfl, b1⟩; obtain ⟨q0, q1, q2⟩ := box3 b1)
        go_ret
        exact ⟨rfl, bthen (bnew w _) b1⟩
    · rw [decide_eq_false h1]
      go_enter Tryd.func62, Tryd.ntmps62
      go_wp2_with (go_at_call 60; refine (C.out _).mono ?_; rintro e w1 ⟨rfl, b1⟩; obtain ⟨q0, q1, q2⟩ := box3 b1)
      go_ret
      exact ⟨rfl, bthen (bnew w _) b1⟩

end Go.Proofs.YtfkdhambbpkmpaaDoor
