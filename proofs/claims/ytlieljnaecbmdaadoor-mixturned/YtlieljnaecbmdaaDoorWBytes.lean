/-
  A new writer; the bytes that a writer tells, in new memory (the code's, by slices.Clone); two rows of bytes compared.
-/
import Derived.Test.YtlieljnaecbmdaaDoorRd
namespace Go.Proofs.YtlieljnaecbmdaaDoor
open Go.RowKit
set_option linter.unusedVariables false

set_option maxHeartbeats 400000 in
theorem newWriter_any (w : World) :
    Calls Tryd.prog 27 #[] w fun e w' => e = .returned (.pointer (some ⟨w.heap.size, 0, none⟩)) ∧ w' = w.alloc (.cells #[.slice none 0 0] 67) := by
  go_enter Tryd.func27, Tryd.ntmps27
  go_wp2
  go_ret
  exact ⟨rfl, rfl⟩

theorem isW_new (T B : Nat) (w : World) (hB : B ≤ w.heap.size) : IsW T B w.heap.size none [] (w.alloc (.cells #[.slice none 0 0] T)) :=
  ⟨hB, by simp, .slice none 0 0, heap_alloc_new w _, rfl, World.ownsRow_nil _ _ _ _⟩

set_option maxHeartbeats 1600000 in
set_option maxRecDepth 100000 in
theorem clone_any (B : Nat) (v : Value) (l : List UInt8) (w : World) (hown : w.ownsRow B 5 1 v l.length (Lib.byteCells l)) (hl : l.length ≤ 70368744177664) :
    Calls Tryd.prog 34 #[v] w fun e w' => ∃ v', e = .returned v' ∧ w'.ownsRow w.heap.size 5 1 v' l.length (Lib.byteCells l) ∧ Keeps (fun _ => False) w w' := by
  obtain ⟨i0, hi, hz0, hz1, hz2⟩ := info_parts info8
  have hkeep := hown
  rcases hown.2 with ⟨rfl, h0⟩ | ⟨g, cap, cur, rfl, hb, hh, hr⟩
  · have hl0 : l = [] := List.length_eq_zero_iff.1 h0
    subst hl0
    have hnil := fun w => Lib.run_eql_slice_nil (P := Tryd.prog) w 59 5 none 0 0 0 0 Tryd.underlying59
    go_enter Tryd.func34, Tryd.ntmps34
    go_wp2
    go_ret
    exact ⟨_, rfl, World.ownsRow_nil _ _ _ _, Keeps.refl _ _⟩
  · have hnil := fun w => Lib.run_eql_slice_nil (P := Tryd.prog) w 59 5 (some ⟨g, 0, none⟩) l.length cap 0 0 Tryd.underlying59
    have hown0 : (w.alloc (.cells #[] 5)).ownsRow w.heap.size 5 1 (.slice (some ⟨w.heap.size, 0, none⟩) 0 0) 0 [] := World.ownsRow_made w #[] 0 (Nat.le_refl _) (Nat.zero_le _) rfl
    have hcells : ∀ j u, (Lib.byteCells l)[j]? = some u → (w.alloc (.cells #[] 5)).cell? ((⟨g, 0, none⟩ : Addr).add j) = some u := (hkeep.alloc _).cells rfl
    go_enter Tryd.func34, Tryd.ntmps34
    go_wp2_with (at_builtin; refine wpList_append_own _ rfl _ _ _ rfl w.heap.size 5 i0 (.int .u8 0) 1 1 Tryd.underlying59 hi hz0 hz1 hz2 rfl (by decide) _ _ _ (by rfl) hown0 ⟨g, 0, none⟩ l.length cap (Lib.byteCells l) (by rfl) (by simp [Lib.byteCells]) hcells (by intro u hu; simp only [Lib.byteCells, List.mem_map] at hu; obtain ⟨x, _, rfl⟩ := hu; rfl) (by unfold maxLen; omega) (by omega) (by simp) ?_; intro v' w1 hown1 hgrow _; refine Hid.out ?_)
    refine aside ?_
    rw [Nat.zero_add, List.nil_append] at hown1
    have HO := aside hown1
    have HK : Keeps (fun _ => False) w w1 := ((Keeps.refl _ w).alloc _).grown hgrow (fun k hk hlt => by simp [Value.ownBlock] at hk; omega)
    clear hown1 hgrow
    go_wp2
    go_ret
    exact ⟨_, rfl, HO.out, HK⟩

set_option maxHeartbeats 400000 in
theorem bytes_any (B b : Nat) (g : Option Nat) (l : List UInt8) (w : World) (hW : IsW 67 B b g l w) (hl : l.length ≤ 70368744177664) :
    Calls Tryd.prog 30 #[.pointer (some ⟨b, 0, none⟩)] w fun e w' => ∃ v', e = .returned v' ∧ w'.ownsRow w.heap.size 5 1 v' l.length (Lib.byteCells l) ∧ Keeps (fun _ => False) w w' := by
  obtain ⟨hBb, hgb, v, hh, rfl, hown⟩ := hW
  have hc := cell_one hh
  go_enter Tryd.func30, Tryd.ntmps30
  go_wp2_with (go_at_call 34; refine (clone_any B v l _ hown hl).mono ?_; rintro e w' ⟨v', rfl, ho, hk⟩)
  go_ret
  exact ⟨_, rfl, ho, hk⟩


end Go.Proofs.YtlieljnaecbmdaaDoor
