/-
  Text and Flag of the code's writer: the number of its bytes and they, one byte for a flag; nothing turned but the writer.
-/
import Derived.Test.YtnjbglnkhgholaaAppStr
import Derived.Test.YtnjbglnkhgholaaWNum
namespace Go.Proofs.Ytnjbglnkhgholaa
open Go.RowKit
set_option linter.unusedVariables false

set_option maxHeartbeats 1600000 in
set_option maxRecDepth 100000 in
theorem wtext_any (B b : Nat) (g : Option Nat) (l : List UInt8) (s : ByteArray) (w : World) (hW : IsW 64 B b g l w) (hB : B ≤ w.heap.size) (hl : l.length ≤ 35184372088832) (hs : s.size ≤ 35184372088832) :
    Calls Try.prog 42 #[.pointer (some ⟨b, 0, none⟩), .string s] w fun e w' => e = .returned (.tuple #[]) ∧
      ∃ g', IsW 64 B b g' (l ++ (Nm.enc 8 s.size ++ s.data.toList)) w' ∧ Fresh w g g' ∧ Keeps (fun k => k = b ∨ g = some k) w w' := by
  have hs' : (s.size : Int) ≤ 35184372088832 := by omega
  have hlen : s.data.toList.length = s.size := by show s.data.toList.length = s.data.size; simp
  go_enter Try.func42, Try.ntmps42
  go_wp2_with fail
  refine (wnum_any B b g l (s.size : Int) _ hW hB (by omega) (by omega) (by omega)).mono ?_
  rintro e w1 ⟨rfl, g1, W1, fr1, k1⟩
  have sz1 := k1.size
  obtain ⟨hBb, hgb, v, hh, rfl, hown⟩ := W1
  rw [show up (s.size : Int) = s.size from by unfold up; omega] at hown
  have hll : (l ++ Nm.enc 8 s.size).length ≤ l.length + 9 := by have := Nm.enc_length 8 s.size; rw [List.length_append]; omega
  generalize hL : l ++ Nm.enc 8 s.size = L at *
  have HL := aside hL
  clear hL
  have hc := cell_one hh
  have hf := frozen_one hh
  go_wp2_with (at_builtin; refine wpList_append_string rfl _ _ rfl B _ _ _ (by rfl) hown s (by rfl) (by omega) (by omega) ?_; intro v' w2 hown2 hgrow fr2; obtain ⟨va, vn, vc, rfl⟩ := own_form hown2; have hb1 := block_kept hh hgb hgrow; have hc1 := cell_one hb1; have hf1 := frozen_one hb1; refine Hid.out ?_)
  refine aside ?_
  have R := app_text (l := L) (news := s.data.toList) hBb hh hgb (by rw [List.length_append, hlen]) hgrow hown2 fr2
  have HR := aside R
  clear hown hown2 hgrow R hc hf hh
  go_wp2
  go_end0
  refine ⟨rfl, _, HR.out.1.of_len ?_, fr1.trans fr2 sz1, k1.step fr1 HR.out.2⟩
  rw [← HL.out, List.append_assoc]

/-- A flag laid down. -/
def flagB (is : Bool) : List UInt8 := [if is then 1 else 0]

set_option maxHeartbeats 1600000 in
set_option maxRecDepth 100000 in
theorem wflag_any (B b : Nat) (g : Option Nat) (l : List UInt8) (is : Bool) (w : World) (hW : IsW 64 B b g l w) (hB : B ≤ w.heap.size) (hl : l.length ≤ 35184372088832) :
    Calls Try.prog 44 #[.pointer (some ⟨b, 0, none⟩), .bool is] w fun e w' => e = .returned (.tuple #[]) ∧
      ∃ g', IsW 64 B b g' (l ++ flagB is) w' ∧ Fresh w g g' ∧ Keeps (fun k => k = b ∨ g = some k) w w' := by
  obtain ⟨i0, hi, hz0, hz1, hz2⟩ := info_parts info8
  obtain ⟨hBb, hgb, v, hh, rfl, hown⟩ := hW
  have hc := cell_one hh
  have hf := frozen_one hh
  cases is
  all_goals
    go_enter Try.func44, Try.ntmps44
  · go_wp2_with (at_builtin; refine wpList_append_lies _ rfl _ _ _ rfl B 5 i0 (.int .u8 0) 1 1 Try.underlying40 hi hz0 hz1 hz2 rfl (by decide) _ _ _ (by rfl) (hown.alloc _) ⟨w.heap.size, 0, none⟩ 1 1 [.int .u8 0] (by rfl) (by rfl) (World.news_of_block (cs := #[.int .u8 0]) (t := 5) (fr := (0, 0)) (heap_alloc_new w _)) (by simp [Value.oneCell']) (by omega) (by unfold maxLen; omega) (by omega) (by simp; omega) (w.heap.size + 1) (by simp) ?_; intro g1 cap w1 hown1 hgrow hat hlt1; have hb1 := block_grown hh hgb hgrow; have hc1 := cell_one hb1; have hf1 := frozen_one hb1; refine Hid.out ?_)
    refine aside ?_
    have R := app_done (l := l) (n := l.length + 1) (news := [0]) hBb hh hgb rfl hgrow (by exact hown1) hat
    have HR := aside R
    clear hown hown1 hgrow hat R hc hf hh
    go_wp2
    go_end0
    exact ⟨rfl, _, HR.out.1, HR.out.2.1, HR.out.2.2⟩
  · go_wp2_with (at_builtin; refine wpList_append_lies _ rfl _ _ _ rfl B 5 i0 (.int .u8 0) 1 1 Try.underlying40 hi hz0 hz1 hz2 rfl (by decide) _ _ _ (by rfl) (hown.alloc _) ⟨w.heap.size, 0, none⟩ 1 1 [.int .u8 1] (by rfl) (by rfl) (World.news_of_block (cs := #[.int .u8 1]) (t := 5) (fr := (0, 0)) (heap_alloc_new w _)) (by simp [Value.oneCell']) (by omega) (by unfold maxLen; omega) (by omega) (by simp; omega) (w.heap.size + 1) (by simp) ?_; intro g1 cap w1 hown1 hgrow hat hlt1; have hb1 := block_grown hh hgb hgrow; have hc1 := cell_one hb1; have hf1 := frozen_one hb1; refine Hid.out ?_)
    refine aside ?_
    have R := app_done (l := l) (n := l.length + 1) (news := [1]) hBb hh hgb rfl hgrow (by exact hown1) hat
    have HR := aside R
    clear hown hown1 hgrow hat R hc hf hh
    go_wp2
    go_end0
    exact ⟨rfl, _, HR.out.1, HR.out.2.1, HR.out.2.2⟩

end Go.Proofs.Ytnjbglnkhgholaa
