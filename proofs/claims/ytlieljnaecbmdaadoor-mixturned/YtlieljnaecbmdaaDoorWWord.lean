/-
  Word of the code's writer: eight bytes, the highest first; nothing turned but the writer.
-/
import Derived.Test.YtlieljnaecbmdaaDoorMem
import Derived.Deep.RegionHeld3
import Derived.Deep.RegionLaw
namespace Go.Proofs.YtlieljnaecbmdaaDoor
open Go.RowKit
set_option linter.unusedVariables false

/-- The bytes of a word from the place i on, n of them. -/
def wordFrom (u : Nat) : Nat → Nat → List UInt8
  | _, 0 => []
  | i, n + 1 => UInt8.ofNat (u / 2 ^ (8 * (7 - i))) :: wordFrom u (i + 1) n

def wordB (u : Nat) : List UInt8 := wordFrom u 0 8

def WordRel (T B b : Nat) (g : Option Nat) (l : List UInt8) (u : Nat) (w : World) (i : Value) (wr : World) : Prop :=
  ∃ (k : Nat) (pre : List UInt8) (g' : Option Nat), i = .int .i64 (k : Int) ∧ k ≤ 8 ∧ pre.length = k ∧ pre ++ wordFrom u k (8 - k) = wordB u ∧ IsW T B b g' (l ++ pre) wr ∧ Fresh w g g' ∧ Keeps (fun j => j = b ∨ g = some j) w wr

/-- One byte of a word, in the walk's own spelling. -/
theorem word_cell (u k : Nat) (hk : (k : Int) < 8) : Lib.byteCells [UInt8.ofNat (u / 2 ^ (8 * (7 - k)))] = [.int .u8 (IntKind.u8.wrap ((u : Int) / 2 ^ (8 * (7 - (k : Int))).toNat))] := by
  rw [show (8 * (7 - (k : Int))).toNat = 8 * (7 - k) from by omega, IntKind.wrap_u8]
  simp only [Lib.byteCells, List.map_cons, List.map_nil, UInt8.toNat_ofNat']
  congr 2

theorem wordFrom_step (u k : Nat) (hk : k < 8) : wordFrom u k (8 - k) = UInt8.ofNat (u / 2 ^ (8 * (7 - k))) :: wordFrom u (k + 1) (8 - (k + 1)) := by
  rw [show 8 - k = (8 - (k + 1)) + 1 from by omega]; rfl

theorem undrew {x w1 : World} {r : Option Nat} (h : x.drew.grownBy w1 r) : x.grownBy w1 r := ⟨h.os, h.tape, h.output, h.size, h.block⟩

set_option maxHeartbeats 3200000 in
set_option maxRecDepth 100000 in
theorem wword_any (B b : Nat) (g : Option Nat) (l : List UInt8) (u : Nat) (w : World) (hW : IsW 67 B b g l w) (hB : B ≤ w.heap.size) (hu : u < 18446744073709551616) (hl : l.length ≤ 35184372088832) :
    Calls Tryd.prog 28 #[.pointer (some ⟨b, 0, none⟩), .int .u64 (u : Int)] w fun e w' => e = .returned (.tuple #[]) ∧
      ∃ g', IsW 67 B b g' (l ++ wordB u) w' ∧ Fresh w g g' ∧ Keeps (fun k => k = b ∨ g = some k) w w' := by
  obtain ⟨i0, hi, hz0, hz1, hz2⟩ := info_parts info8
  have HU := aside hu
  clear hu
  go_enter Tryd.func28, Tryd.ntmps28
  go_wp2
  go_loopw [5] (fun i wr => WordRel 67 B b g l u w i wr) (fun i _ => 8 - (intOf i).toNat)
  case atStart => exact ⟨0, [], g, rfl, by omega, rfl, rfl, by simpa using hW, .inl rfl, Keeps.refl _ _⟩
  case round =>
    obtain ⟨k, pre, g', rfl, hk8, hpk, hpre, ⟨hBb, hgb, v, hh, rfl, hown⟩, hfr, hk⟩ := hrel
    have HP := aside hpre
    have HPK := aside hpk
    have hll : (l ++ pre).length ≤ l.length + 8 := by rw [List.length_append]; omega
    generalize hL : l ++ pre = L at *
    have HL := aside hL
    have hsz := hk.size
    have hk8' : (k : Int) ≤ 8 := by omega
    clear hpre hpk hL hk8
    have hc := cell_one hh
    have hf := frozen_one hh
    by_cases hlt : (k : Int) < 8
    · have hw1 : IntKind.i64.wrap (7 - (k : Int)) = 7 - (k : Int) := by rw [IntKind.wrap_i64]; omega
      have hw2 : IntKind.i64.wrap (8 * (7 - (k : Int))) = 8 * (7 - (k : Int)) := by rw [IntKind.wrap_i64]; omega
      have hblt := World.block_lt_of_cell? wr _ hc
      have hne := World.new_ne wr ⟨b, 0, none⟩ hc
      go_wp2_with fail
      have hca : ∀ o, (wr.alloc o).cell? ⟨b, 0, none⟩ = some v := fun o => (World.cell?_alloc_past _ _ _ hblt).trans hc
      go_region_law (refine step_append_lies _ (by rfl) _ _ _ (by rfl) B 5 i0 (.int .u8 0) 1 1 Tryd.underlying59 hi hz0 hz1 hz2 rfl (by decide) _ _ _ (by rfl) ((hown.alloc _).drew) ⟨wr.heap.size, 0, none⟩ 1 1 [.int .u8 (IntKind.u8.wrap ((u : Int) / 2 ^ (8 * (7 - (k : Int))).toNat))] (by rfl) (by rfl) (World.news_of_block (cs := #[.int .u8 (IntKind.u8.wrap ((u : Int) / 2 ^ (8 * (7 - (k : Int))).toNat))]) (t := 5) (fr := (0, 0)) (heap_alloc_new wr _)) (by simp [Value.oneCell']) (by omega) (by unfold maxLen; omega) (by omega) (by simp; omega) (wr.heap.size + 1) (by simp) ?_; intro g1 cap w1 hown1 hgrow hat hlt1; have hb1 := block_grown hh hgb (undrew hgrow); have hc1 := cell_one hb1; have hf1 := frozen_one hb1)
      all_goals
        have R := app_done (l := L) (n := L.length + 1) (news := [UInt8.ofNat (u / 2 ^ (8 * (7 - k)))]) hBb hh hgb rfl (undrew hgrow) (by rw [word_cell u k hlt]; exact hown1) hat
        have HR := aside R
        clear hown hown1 hgrow hat R hc hf hh hca hw1 hw2
        go_wp2
        go_roundw
        case rel => exact ⟨k + 1, pre ++ [UInt8.ofNat (u / 2 ^ (8 * (7 - k)))], _, by go_num, by omega, by rw [List.length_append, HPK.out]; rfl, by rw [← HP.out, wordFrom_step u k (by omega)]; simp, HR.out.1.of_len (by rw [← HL.out, List.append_assoc]), hfr.trans HR.out.2.1 hsz, hk.step hfr HR.out.2.2⟩
        case measure => simp [intOf]; omega
    · have hk8e : k = 8 := by omega
      have hfin : l ++ wordB u = L := by rw [← HP.out, hk8e]; simpa [wordFrom] using HL.out
      have HW : Hid (IsW 67 B b v.ownBlock L wr) := ⟨hBb, hgb, v, hh, rfl, hown⟩
      have HFN := aside hfin
      clear hk8e hfin hh hown hc hf
      go_wp2
      go_end0
      exact ⟨rfl, _, HW.out.of_len HFN.out.symm, hfr, hk⟩

end Go.Proofs.YtlieljnaecbmdaaDoor
