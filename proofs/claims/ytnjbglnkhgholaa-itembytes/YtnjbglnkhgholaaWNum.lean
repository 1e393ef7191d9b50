/-
  A number laid down by a writer, the code's and the document's own: both lay down the same bytes (Nm.enc), and turn nothing but the writer.
-/
import Derived.Test.YtnjbglnkhgholaaMem
import Derived.Test.YtnjbglnkhgholaaNumPlain
namespace Go.Proofs.Ytnjbglnkhgholaa
open Go.RowKit

theorem enc_stop (f m : Nat) (h : m < 128) : Nm.enc f m = [UInt8.ofNat m] := by cases f <;> simp [Nm.enc, h]

theorem enc_more (f m : Nat) (h : ¬ m < 128) : Nm.enc (f + 1) m = UInt8.ofNat (m % 128 + 128) :: Nm.enc f (m / 128) := by simp [Nm.enc, h]

theorem cells_one (z : Int) (n : Nat) (h : z = (n : Int)) (hn : n < 256) : Lib.byteCells [UInt8.ofNat n] = [.int .u8 z] := by
  subst h
  simp only [Lib.byteCells, List.map_cons, List.map_nil, UInt8.toNat_ofNat', Nat.mod_eq_of_lt (show n < 2 ^ 8 from hn)]

/-- The number that is laid down for n. -/
def up (n : Int) : Nat := (max n 0).toNat

/-- What holds at every round's head: f rounds may follow, the number m is left, the bytes pre are laid down. -/
def NumRel (T B b : Nat) (g : Option Nat) (l : List UInt8) (n0 : Nat) (w : World) (i : Value) (wr : World) : Prop :=
  ∃ (f m : Nat) (pre : List UInt8) (g' : Option Nat), i = .int .i64 (m : Int) ∧ m < 128 ^ (f + 1) ∧ m < 9223372036854775808 ∧ pre.length + f = 8 ∧ pre ++ Nm.enc f m = Nm.enc 8 n0 ∧ IsW T B b g' (l ++ pre) wr ∧ Fresh w g g' ∧ Keeps (fun k => k = b ∨ g = some k) w wr

theorem numRel_start {T B b : Nat} {g : Option Nat} {l : List UInt8} {w : World} {n0 : Nat} (hn : n0 < 9223372036854775808) (hW : IsW T B b g l w) (i : Value) (h : i = .int .i64 (n0 : Int)) : NumRel T B b g l n0 w i w :=
  ⟨8, n0, [], g, h, by omega, hn, rfl, rfl, by simpa using hW, .inl rfl, Keeps.refl _ _⟩

set_option maxHeartbeats 1600000 in
set_option maxRecDepth 100000 in
theorem wnum_any (B b : Nat) (g : Option Nat) (l : List UInt8) (n : Int) (w : World) (hW : IsW 64 B b g l w) (hB : B ≤ w.heap.size) (hn : n ≤ 9223372036854775807) (hn0 : -9223372036854775808 ≤ n) (hl : l.length ≤ 70368744177664) :
    Calls Try.prog 43 #[.pointer (some ⟨b, 0, none⟩), .int .i64 n] w fun e w' => e = .returned (.tuple #[]) ∧
      ∃ g', IsW 64 B b g' (l ++ Nm.enc 8 (up n)) w' ∧ Fresh w g g' ∧ Keeps (fun k => k = b ∨ g = some k) w w' := by
  obtain ⟨i0, hi, hz0, hz1, hz2⟩ := info_parts info8
  have hup : up n < 9223372036854775808 := by unfold up; omega
  have e1 : n < 0 → (up n : Int) = 0 := by unfold up; omega
  have e2 : 0 ≤ n → (up n : Int) = n := by unfold up; omega
  have E1 := aside e1; have E2 := aside e2
  clear e1 e2
  go_enter Try.func43, Try.ntmps43
  go_wp2
  all_goals
    go_loopw [1] (fun i wr => NumRel 64 B b g l (up n) w i wr) (fun i _ => (intOf i).toNat)
    case atStart => exact numRel_start hup hW _ (by first | rw [E1.out (by omega)]; done | rw [E2.out (by omega)])
    case round =>
      obtain ⟨f, m, pre, g', rfl, hm, hm63, hpf, hpre, ⟨hBb, hgb, v, hh, rfl, hown⟩, hfr, hk⟩ := hrel
      have HP := aside hpre
      have HPF := aside hpf
      have hll : (l ++ pre).length ≤ l.length + 8 := by rw [List.length_append]; omega
      have hm' : (m : Int) < 9223372036854775808 := by omega
      generalize hL : l ++ pre = L at *
      have HL := aside hL
      have HM := aside hm
      clear hpre hpf hL hm hm63
      have hsz := hk.size
      have hc := cell_one hh
      have hf := frozen_one hh
      by_cases hlt : m < 128
      · have hlt' : (m : Int) < 128 := by omega
        have HLT := aside hlt
        clear hlt hm'
        go_wp2_with (at_builtin; refine wpList_append_lies _ rfl _ _ _ rfl B 5 i0 (.int .u8 0) 1 1 Try.underlying40 hi hz0 hz1 hz2 rfl (by decide) _ _ _ (by rfl) (hown.alloc _) ⟨wr.heap.size, 0, none⟩ 1 1 [.int .u8 (m : Int)] (by rfl) (by rfl) (World.news_of_block (cs := #[.int .u8 (m : Int)]) (t := 5) (fr := (0, 0)) (heap_alloc_new wr _)) (by simp [Value.oneCell']) (by omega) (by unfold maxLen; omega) (by omega) (by simp; omega) (wr.heap.size + 1) (by simp) ?_; intro g1 cap w1 hown1 hgrow hat hlt1; have hb1 := block_grown hh hgb hgrow; have hc1 := cell_one hb1; have hf1 := frozen_one hb1; refine Hid.out ?_)
        refine aside ?_
        have R := app_done (l := L) (n := L.length + 1) (news := [UInt8.ofNat m]) hBb hh hgb rfl hgrow (by rw [cells_one (m : Int) m rfl (by omega)]; exact hown1) hat
        have HR := aside R
        clear hown hown1 hgrow hat R hc hf hh
        go_wp2
        go_end0
        refine ⟨rfl, _, (HR.out.1).of_len ?_, hfr.trans HR.out.2.1 hsz, hk.step hfr HR.out.2.2⟩
        rw [← HP.out, enc_stop f m HLT.out, ← HL.out, List.append_assoc]
      · have hge : (128 : Int) ≤ (m : Int) := by omega
        go_wp2_with (at_builtin; refine wpList_append_lies _ rfl _ _ _ rfl B 5 i0 (.int .u8 0) 1 1 Try.underlying40 hi hz0 hz1 hz2 rfl (by decide) _ _ _ (by rfl) (hown.alloc _) ⟨wr.heap.size, 0, none⟩ 1 1 [.int .u8 ((m : Int) % 128 + 128)] (by rfl) (by rfl) (World.news_of_block (cs := #[.int .u8 ((m : Int) % 128 + 128)]) (t := 5) (fr := (0, 0)) (heap_alloc_new wr _)) (by simp [Value.oneCell']) (by omega) (by unfold maxLen; omega) (by omega) (by simp; omega) (wr.heap.size + 1) (by simp) ?_; intro g1 cap w1 hown1 hgrow hat hlt1; have hb1 := block_grown hh hgb hgrow; have hc1 := cell_one hb1; have hf1 := frozen_one hb1; refine Hid.out ?_)
        refine aside ?_
        have R := app_done (l := L) (n := L.length + 1) (news := [UInt8.ofNat (m % 128 + 128)]) hBb hh hgb rfl hgrow (by rw [cells_one ((m : Int) % 128 + 128) (m % 128 + 128) (by omega) (by omega)]; exact hown1) hat
        have HR := aside R
        clear hown hown1 hgrow hat R hc hf hh
        go_wp2
        obtain ⟨f', hf'⟩ : ∃ f', f = f' + 1 := by
          cases f with
          | zero => have := HM.out; simp at this; omega
          | succ f' => exact ⟨f', rfl⟩
        go_roundw
        case rel => exact ⟨f', m / 128, pre ++ [UInt8.ofNat (m % 128 + 128)], _, by go_num, by have hm := HM.out; subst hf'; rw [Nat.pow_succ] at hm; omega, by omega, by have := HPF.out; rw [List.length_append]; simp; omega, by rw [← HP.out, hf', enc_more f' m hlt]; simp, HR.out.1.of_len (by rw [← HL.out, List.append_assoc]), hfr.trans HR.out.2.1 hsz, hk.step hfr HR.out.2.2⟩
        case measure => simp [intOf]; omega

end Go.Proofs.Ytnjbglnkhgholaa
