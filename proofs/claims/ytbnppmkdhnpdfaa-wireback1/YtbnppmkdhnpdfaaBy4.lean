/-
  A number laid down by a writer, the code's and the document's own: both lay down the same bytes (Nm.enc), and turn nothing but the writer.
  Text and Flag of the code's writer: the number of its bytes and they, one byte for a flag; nothing turned but the writer.
  A number laid down by the document's own writer: the bytes Nm.enc, and nothing turned but the writer.
  Text and Flag of the document's own writer: the number of its bytes and they, one byte for a flag; nothing turned but the writer.
  Put, the code's and the document's own: an entry that may be lays its bytes down, another one nothing; nothing turned but the writer.
  There and back, plain: what Put lays down Get reads, and what Get reads was laid down so.
  Frames as bytes, plain: what a reader says of ranges, tallies, entries, parts, frames.
-/
import Derived.Test.YtbnppmkdhnpdfaaBy1
import Derived.Test.YtbnppmkdhnpdfaaBy2
import Derived.Test.YtbnppmkdhnpdfaaBy3
namespace Go.Proofs.Ytbnppmkdhnpdfaa
open Go.RowKit
theorem enc_stop (f m : Nat) (h : m < 128) : Nm.enc f m = [UInt8.ofNat m] := by cases f <;> simp [Nm.enc, h]
theorem enc_more (f m : Nat) (h : ¬ m < 128) : Nm.enc (f + 1) m = UInt8.ofNat (m % 128 + 128) :: Nm.enc f (m / 128) := by simp [Nm.enc, h]
theorem cells_one (z : Int) (n : Nat) (h : z = (n : Int)) (hn : n < 256) : Lib.byteCells [UInt8.ofNat n] = [.int .u8 z] := by
  subst h
  simp only [Lib.byteCells, List.map_cons, List.map_nil, UInt8.toNat_ofNat', Nat.mod_eq_of_lt (show n < 2 ^ 8 from hn)]
/-- The number that is laid down for n. -/
def up (n : Int) : Nat := (max n 0).toNat
/-- What holds at every round's head: f rounds may follow, the number m is left, the bytes pre are laid down. -/
def NumRel (T B b : Nat) (g : Option Nat) (l : List UInt8) (n0 : Nat) (w : World) (i : Value) (wr : World) : Prop :=
  ∃ (f m : Nat) (pre : List UInt8) (g' : Option Nat), i = .int .i64 (m : Int) ∧ m < 128 ^ (f + 1) ∧ m < 9223372036854775808 ∧ pre.length + f = 8 ∧ pre ++ Nm.enc f m = Nm.enc 8 n0 ∧ IsW T B b g' (l ++ pre) wr ∧ Fresh w g g' ∧ Keeps (fun k => k = b ∨ g = some k) w wr
theorem numRel_start {T B b : Nat} {g : Option Nat} {l : List UInt8} {w : World} {n0 : Nat} (hn : n0 < 9223372036854775808) (hW : IsW T B b g l w) (i : Value) (h : i = .int .i64 (n0 : Int)) : NumRel T B b g l n0 w i w :=
  ⟨8, n0, [], g, h, by omega, hn, rfl, rfl, by simpa using hW, .inl rfl, Keeps.refl _ _⟩
set_option maxHeartbeats 1600000 in
set_option maxRecDepth 100000 in
theorem wnum_any (B b : Nat) (g : Option Nat) (l : List UInt8) (n : Int) (w : World) (hW : IsW 86 B b g l w) (hB : B ≤ w.heap.size) (hn : n ≤ 9223372036854775807) (hn0 : -9223372036854775808 ≤ n) (hl : l.length ≤ 70368744177664) :
    Calls Try.prog 23 #[.pointer (some ⟨b, 0, none⟩), .int .i64 n] w fun e w' => e = .returned (.tuple #[]) ∧
      ∃ g', IsW 86 B b g' (l ++ Nm.enc 8 (up n)) w' ∧ Fresh w g g' ∧ Keeps (fun k => k = b ∨ g = some k) w w' := by
  obtain ⟨i0, hi, hz0, hz1, hz2⟩ := info_parts info8
  have hup : up n < 9223372036854775808 := by unfold up; omega
  have e1 : n < 0 → (up n : Int) = 0 := by unfold up; omega
  have e2 : 0 ≤ n → (up n : Int) = n := by unfold up; omega
  have E1 := aside e1; have E2 := aside e2
  clear e1 e2
  go_enter Try.func23, Try.ntmps23
  go_wp2
  all_goals
    go_loopw [1] (fun i wr => NumRel 86 B b g l (up n) w i wr) (fun i _ => (intOf i).toNat)
    case atStart => exact numRel_start hup hW _ (by first | rw [E1.out (by omega)]; done | rw [E2.out (by omega)])
    case round =>
      obtain ⟨f, m, pre, g', rfl, hm, hm63, hpf, hpre, ⟨hBb, hgb, v, hh, rfl, hown⟩, hfr, hk⟩ := hrel
      have HP := aside hpre
      have HPF := aside hpf
      have hll : (l ++ pre).length ≤ l.length + 8 := by rw [List.length_append]; omega
      have hm' : (m : Int) < 9223372036854775808 := by omega
      generalize hL : l ++ pre = L at *
      have HL := aside hL
      have HM := aside hm
      clear hpre hpf hL hm hm63
      have hsz := hk.size
      have hc := cell_one hh
      have hf := frozen_one hh
      by_cases hlt : m < 128
      · have hlt' : (m : Int) < 128 := by omega
        have HLT := aside hlt
        clear hlt hm'
        go_wp2_with (at_builtin; refine wpList_append_lies _ rfl _ _ _ rfl B 5 i0 (.int .u8 0) 1 1 Try.underlying30 hi hz0 hz1 hz2 rfl (by decide) _ _ _ (by rfl) (hown.alloc _) ⟨wr.heap.size, 0, none⟩ 1 1 [.int .u8 (m : Int)] (by rfl) (by rfl) (World.news_of_block (cs := #[.int .u8 (m : Int)]) (t := 5) (fr := (0, 0)) (heap_alloc_new wr _)) (by simp [Value.oneCell']) (by omega) (by unfold maxLen; omega) (by omega) (by simp; omega) (wr.heap.size + 1) (by simp) ?_; intro g1 cap w1 hown1 hgrow hat hlt1; have hb1 := block_grown hh hgb hgrow; have hc1 := cell_one hb1; have hf1 := frozen_one hb1; refine Hid.out ?_)
        refine aside ?_
        have R := app_done (l := L) (n := L.length + 1) (news := [UInt8.ofNat m]) hBb hh hgb rfl hgrow (by rw [cells_one (m : Int) m rfl (by omega)]; exact hown1) hat
        have HR := aside R
        clear hown hown1 hgrow hat R hc hf hh
        go_wp2
        go_end0
        refine ⟨rfl, _, (HR.out.1).of_len ?_, hfr.trans HR.out.2.1 hsz, hk.step hfr HR.out.2.2⟩
        rw [← HP.out, enc_stop f m HLT.out, ← HL.out, List.append_assoc]
      · have hge : (128 : Int) ≤ (m : Int) := by omega
        go_wp2_with (at_builtin; refine wpList_append_lies _ rfl _ _ _ rfl B 5 i0 (.int .u8 0) 1 1 Try.underlying30 hi hz0 hz1 hz2 rfl (by decide) _ _ _ (by rfl) (hown.alloc _) ⟨wr.heap.size, 0, none⟩ 1 1 [.int .u8 ((m : Int) % 128 + 128)] (by rfl) (by rfl) (World.news_of_block (cs := #[.int .u8 ((m : Int) % 128 + 128)]) (t := 5) (fr := (0, 0)) (heap_alloc_new wr _)) (by simp [Value.oneCell']) (by omega) (by unfold maxLen; omega) (by omega) (by simp; omega) (wr.heap.size + 1) (by simp) ?_; intro g1 cap w1 hown1 hgrow hat hlt1; have hb1 := block_grown hh hgb hgrow; have hc1 := cell_one hb1; have hf1 := frozen_one hb1; refine Hid.out ?_)
        refine aside ?_
        have R := app_done (l := L) (n := L.length + 1) (news := [UInt8.ofNat (m % 128 + 128)]) hBb hh hgb rfl hgrow (by rw [cells_one ((m : Int) % 128 + 128) (m % 128 + 128) (by omega) (by omega)]; exact hown1) hat
        have HR := aside R
        clear hown hown1 hgrow hat R hc hf hh
        go_wp2
        obtain ⟨f', hf'⟩ : ∃ f', f = f' + 1 := by
          cases f with
          | zero => have := HM.out; simp at this; omega
          | succ f' => exact ⟨f', rfl⟩
        go_roundw
        case rel => exact ⟨f', m / 128, pre ++ [UInt8.ofNat (m % 128 + 128)], _, by go_num, by have hm := HM.out; subst hf'; rw [Nat.pow_succ] at hm; omega, by omega, by have := HPF.out; rw [List.length_append]; simp; omega, by rw [← HP.out, hf', enc_more f' m hlt]; simp, HR.out.1.of_len (by rw [← HL.out, List.append_assoc]), hfr.trans HR.out.2.1 hsz, hk.step hfr HR.out.2.2⟩
        case measure => simp [intOf]; omega
end Go.Proofs.Ytbnppmkdhnpdfaa
namespace Go.Proofs.Ytbnppmkdhnpdfaa
open Go.RowKit
set_option linter.unusedVariables false
set_option maxHeartbeats 1600000 in
set_option maxRecDepth 100000 in
theorem wtext_any (B b : Nat) (g : Option Nat) (l : List UInt8) (s : ByteArray) (w : World) (hW : IsW 86 B b g l w) (hB : B ≤ w.heap.size) (hl : l.length ≤ 35184372088832) (hs : s.size ≤ 35184372088832) :
    Calls Try.prog 71 #[.pointer (some ⟨b, 0, none⟩), .string s] w fun e w' => e = .returned (.tuple #[]) ∧
      ∃ g', IsW 86 B b g' (l ++ (Nm.enc 8 s.size ++ s.data.toList)) w' ∧ Fresh w g g' ∧ Keeps (fun k => k = b ∨ g = some k) w w' := by
  have hs' : (s.size : Int) ≤ 35184372088832 := by omega
  have hlen : s.data.toList.length = s.size := by show s.data.toList.length = s.data.size; simp
  go_enter Try.func71, Try.ntmps71
  go_wp2_with fail
  refine (wnum_any B b g l (s.size : Int) _ hW hB (by omega) (by omega) (by omega)).mono ?_
  rintro e w1 ⟨rfl, g1, W1, fr1, k1⟩
  have sz1 := k1.size
  obtain ⟨hBb, hgb, v, hh, rfl, hown⟩ := W1
  rw [show up (s.size : Int) = s.size from by unfold up; omega] at hown
  have hll : (l ++ Nm.enc 8 s.size).length ≤ l.length + 9 := by have := Nm.enc_length 8 s.size; rw [List.length_append]; omega
  generalize hL : l ++ Nm.enc 8 s.size = L at *
  have HL := aside hL
  clear hL
  have hc := cell_one hh
  have hf := frozen_one hh
  go_wp2_with (at_builtin; refine wpList_append_string rfl _ _ rfl B _ _ _ (by rfl) hown s (by rfl) (by omega) (by omega) ?_; intro v' w2 hown2 hgrow fr2; obtain ⟨va, vn, vc, rfl⟩ := own_form hown2; have hb1 := block_kept hh hgb hgrow; have hc1 := cell_one hb1; have hf1 := frozen_one hb1; refine Hid.out ?_)
  refine aside ?_
  have R := app_text (l := L) (news := s.data.toList) hBb hh hgb (by rw [List.length_append, hlen]) hgrow hown2 fr2
  have HR := aside R
  clear hown hown2 hgrow R hc hf hh
  go_wp2
  go_end0
  refine ⟨rfl, _, HR.out.1.of_len ?_, fr1.trans fr2 sz1, k1.step fr1 HR.out.2⟩
  rw [← HL.out, List.append_assoc]
/-- A flag laid down. -/
def flagB (is : Bool) : List UInt8 := [if is then 1 else 0]
set_option maxHeartbeats 1600000 in
set_option maxRecDepth 100000 in
theorem wflag_any (B b : Nat) (g : Option Nat) (l : List UInt8) (is : Bool) (w : World) (hW : IsW 86 B b g l w) (hB : B ≤ w.heap.size) (hl : l.length ≤ 35184372088832) :
    Calls Try.prog 72 #[.pointer (some ⟨b, 0, none⟩), .bool is] w fun e w' => e = .returned (.tuple #[]) ∧
      ∃ g', IsW 86 B b g' (l ++ flagB is) w' ∧ Fresh w g g' ∧ Keeps (fun k => k = b ∨ g = some k) w w' := by
  obtain ⟨i0, hi, hz0, hz1, hz2⟩ := info_parts info8
  obtain ⟨hBb, hgb, v, hh, rfl, hown⟩ := hW
  have hc := cell_one hh
  have hf := frozen_one hh
  cases is
  all_goals
    go_enter Try.func72, Try.ntmps72
  · go_wp2_with (at_builtin; refine wpList_append_lies _ rfl _ _ _ rfl B 5 i0 (.int .u8 0) 1 1 Try.underlying30 hi hz0 hz1 hz2 rfl (by decide) _ _ _ (by rfl) (hown.alloc _) ⟨w.heap.size, 0, none⟩ 1 1 [.int .u8 0] (by rfl) (by rfl) (World.news_of_block (cs := #[.int .u8 0]) (t := 5) (fr := (0, 0)) (heap_alloc_new w _)) (by simp [Value.oneCell']) (by omega) (by unfold maxLen; omega) (by omega) (by simp; omega) (w.heap.size + 1) (by simp) ?_; intro g1 cap w1 hown1 hgrow hat hlt1; have hb1 := block_grown hh hgb hgrow; have hc1 := cell_one hb1; have hf1 := frozen_one hb1; refine Hid.out ?_)
    refine aside ?_
    have R := app_done (l := l) (n := l.length + 1) (news := [0]) hBb hh hgb rfl hgrow (by exact hown1) hat
    have HR := aside R
    clear hown hown1 hgrow hat R hc hf hh
    go_wp2
    go_end0
    exact ⟨rfl, _, HR.out.1, HR.out.2.1, HR.out.2.2⟩
  · go_wp2_with (at_builtin; refine wpList_append_lies _ rfl _ _ _ rfl B 5 i0 (.int .u8 0) 1 1 Try.underlying30 hi hz0 hz1 hz2 rfl (by decide) _ _ _ (by rfl) (hown.alloc _) ⟨w.heap.size, 0, none⟩ 1 1 [.int .u8 1] (by rfl) (by rfl) (World.news_of_block (cs := #[.int .u8 1]) (t := 5) (fr := (0, 0)) (heap_alloc_new w _)) (by simp [Value.oneCell']) (by omega) (by unfold maxLen; omega) (by omega) (by simp; omega) (w.heap.size + 1) (by simp) ?_; intro g1 cap w1 hown1 hgrow hat hlt1; have hb1 := block_grown hh hgb hgrow; have hc1 := cell_one hb1; have hf1 := frozen_one hb1; refine Hid.out ?_)
    refine aside ?_
    have R := app_done (l := l) (n := l.length + 1) (news := [1]) hBb hh hgb rfl hgrow (by exact hown1) hat
    have HR := aside R
    clear hown hown1 hgrow hat R hc hf hh
    go_wp2
    go_end0
    exact ⟨rfl, _, HR.out.1, HR.out.2.1, HR.out.2.2⟩
end Go.Proofs.Ytbnppmkdhnpdfaa
namespace Go.Proofs.Ytbnppmkdhnpdfaa
open Go.RowKit
end Go.Proofs.Ytbnppmkdhnpdfaa
namespace Go.Proofs.Ytbnppmkdhnpdfaa
open Go.RowKit
set_option linter.unusedVariables false
end Go.Proofs.Ytbnppmkdhnpdfaa
namespace Go.Proofs.Ytbnppmkdhnpdfaa
open Go.RowKit
set_option linter.unusedVariables false
/-- An entry's bytes. -/
def entB (e : En) : List UInt8 := Nm.enc 8 e.k.size ++ e.k.data.toList ++ Nm.enc 8 (up e.c) ++ Nm.enc 8 (up e.n) ++ flagB e.d ++ (bif e.d then [] else Nm.enc 8 e.v.size ++ e.v.data.toList)
/-- What Put lays down. -/
def putB (e : En) : List UInt8 := if e.chk = 0 then entB e else []
theorem putB_yes {e : En} (h : e.chk = 0) : putB e = entB e := if_pos h
theorem putB_no {e : En} (h : e.chk ≠ 0) : putB e = [] := if_neg h
theorem En.ok_parts {k : ByteArray} {c n : Int} {v : ByteArray} {d : Bool} (h : En.chk ⟨k, c, n, v, d⟩ = 0) : k.size ≤ 16 ∧ 1 ≤ c ∧ c ≤ 1099511627776 ∧ 0 ≤ n ∧ n ≤ 7 ∧ v.size ≤ 32 := by
  unfold En.chk at h
  simp only at h
  split at h
  · omega
  · split at h
    · omega
    · rename_i h1 h2
      split at h
      · omega
      · rename_i h3
        have hc : Vs.chk c n = 0 := Classical.byContradiction h2
        unfold Vs.chk at hc
        split at hc
        · omega
        · rename_i h4
          omega
theorem notrow {w w1 : World} {g g' : Option Nat} (fr : Fresh w1 g g') (hg : ∀ j, g = some j → j < w.heap.size) (hlt : w.heap.size < w1.heap.size) (h : g' = some w.heap.size) : False := by
  rcases fr with rfl | ⟨k, hk, hle⟩
  · have := hg _ h; omega
  · rw [h] at hk; cases hk; omega
theorem Fresh.later {w w1 : World} {g g' : Option Nat} (fr : Fresh w1 g g') (h : w.heap.size ≤ w1.heap.size) : Fresh w g g' := by
  rcases fr with rfl | ⟨k, hk, hle⟩
  · exact .inl rfl
  · exact .inr ⟨k, hk, Nat.le_trans h hle⟩
set_option maxRecDepth 100000 in
set_option maxHeartbeats 3200000 in
theorem put_no (B b : Nat) (g : Option Nat) (l : List UInt8) (k : ByteArray) (c n : Int) (v : ByteArray) (d : Bool) (w : World) (hW : IsW 86 B b g l w) (q : Int) (hq : En.chk ⟨k, c, n, v, d⟩ = q) (hne : q ≠ 0) :
    Calls Try.prog 53 #[.pointer (some ⟨b, 0, none⟩), .agg #[.string k, .int .i64 c, .int .i64 n, .string v, .bool d]] w fun e w' => e = .returned (.tuple #[]) ∧ IsW 86 B b g l w' ∧ Below w.heap.size w w' := by
  have C := aside (fun w => check_is hq w)
  have he : (q != 0) = true := by simp [hne]
  have HW := aside hW
  clear hq hne hW
  go_enter Try.func53, Try.ntmps53
  go_wp2_with fail
  refine (C.out _).mono ?_
  rintro e w1 ⟨rfl, b1⟩
  have b0 := bthen (bnew w _) b1
  clear b1
  go_wp2
  refine bodyPost_ret (results_none rfl _ _ _) rfl ?_
  exact ⟨rfl, HW.out.keep (Keeps.of_below b0 (fun _ => False)) (fun h => h) (fun _ _ h => h), b0⟩
set_option maxRecDepth 100000 in
set_option maxHeartbeats 6400000 in
theorem put_yes (B b : Nat) (g : Option Nat) (l : List UInt8) (k : ByteArray) (c n : Int) (v : ByteArray) (d : Bool) (w : World) (hW : IsW 86 B b g l w) (hB : B ≤ w.heap.size) (hl : l.length ≤ 17592186044416) (hq : En.chk ⟨k, c, n, v, d⟩ = 0) :
    Calls Try.prog 53 #[.pointer (some ⟨b, 0, none⟩), .agg #[.string k, .int .i64 c, .int .i64 n, .string v, .bool d]] w fun e w' => e = .returned (.tuple #[]) ∧
      ∃ g', IsW 86 B b g' (l ++ entB ⟨k, c, n, v, d⟩) w' ∧ Fresh w g g' ∧ Keeps (fun k => k = b ∨ g = some k) w w' := by
  have C := aside (fun w => check_is hq w)
  obtain ⟨hk16, hc1, hc2, hn1, hn2, hv32⟩ := En.ok_parts hq
  have HW := aside hW
  have hbw := hW.lt
  have hgw := fun j (h : g = some j) => (hW.row j h).2
  have HG := aside hgw
  have HK := aside hk16
  have HV := aside hv32
  have HC := aside (And.intro hc1 (And.intro hc2 (And.intro hn1 hn2)))
  have HL := aside hl
  have HBW := aside hbw
  clear hq hW hgw hk16 hv32 hc1 hc2 hn1 hn2 hl hbw
  go_enter Try.func53, Try.ntmps53
  go_wp2_with fail
  refine (C.out _).mono ?_
  rintro e w1 ⟨rfl, b1⟩
  have kA := blk_on (heap_alloc_new w (.cells #[.string k, .int .i64 c, .int .i64 n, .string v, .bool d] 50)) b1
  have b01 := bthen (bnew w _) b1
  have W1 := HW.out.keep (Keeps.of_below b01 (fun _ => False)) (fun h => h) (fun _ _ h => h)
  have k01 : Keeps (fun k => k = b ∨ g = some k) w w1 := Keeps.of_below b01 _
  have K01 := aside k01
  have hlt : w.heap.size < w1.heap.size := (Array.getElem?_eq_some_iff.1 kA).1
  have HLT := aside hlt
  have hB1 : B ≤ w1.heap.size := Nat.le_trans hB b01.size
  obtain ⟨⟨r0, r1, r2, r3, r4⟩, -⟩ := quintF kA
  have KA := aside kA
  have WW := aside W1
  have F0 := aside (show Fresh w1 g g from .inl rfl)
  have KK := aside (Keeps.refl (fun k => k = b ∨ g = some k) w1)
  clear b1 kA b01 W1 k01 HW C hlt
  go_wp2_with fail
  refine (wtext_any B b g l k _ WW.out hB1 (by have := HL.out; omega) (by have := HK.out; omega)).mono ?_
  rintro e w2 ⟨rfl, g1, W2, fr2, k2⟩
  have kA := (k2.block w.heap.size (Array.getElem?_eq_some_iff.1 KA.out).1 (fun h => h.elim (fun h => by have := HBW.out; omega) (fun h => notrow F0.out HG.out HLT.out h))).trans KA.out
  have kk := KK.out.step F0.out k2
  have ff := F0.out.trans fr2 KK.out.size
  have hB2 : B ≤ w2.heap.size := Nat.le_trans hB1 k2.size
  obtain ⟨l1, hl1⟩ : ∃ m, l ++ (Nm.enc 8 k.size ++ k.data.toList) = m := ⟨_, rfl⟩
  rw [hl1] at W2
  have LL1 : Hid (l1.length ≤ l.length + 41) := by
    show l1.length ≤ l.length + 41
    rw [← hl1]
    simp only [List.length_append]
    have e1 := Nm.enc_length 8 k.size
    have e2 := HK.out
    have e3 : k.data.toList.length = k.size := by show k.data.toList.length = k.data.size; simp
    omega
  have HL1 := aside hl1
  clear r0 r1 r2 r3 r4 KA WW F0 KK hB1 hl1 fr2 k2
  obtain ⟨⟨r0, r1, r2, r3, r4⟩, -⟩ := quintF kA
  have KA := aside kA
  have WW := aside W2
  have F0 := aside ff
  have KK := aside kk
  have hB1 := hB2
  clear kA W2 ff kk hB2
  go_wp2_with fail
  refine (wnum_any B b g1 l1 c _ WW.out hB1 (by have := HC.out; omega) (by have := HC.out; omega) (by have := HL.out; have := LL1.out; omega)).mono ?_
  rintro e w3 ⟨rfl, g2, W3, fr3, k3⟩
  have kA := (k3.block w.heap.size (Array.getElem?_eq_some_iff.1 KA.out).1 (fun h => h.elim (fun h => by have := HBW.out; omega) (fun h => notrow F0.out HG.out HLT.out h))).trans KA.out
  have kk := KK.out.step F0.out k3
  have ff := F0.out.trans fr3 KK.out.size
  have hB2 : B ≤ w3.heap.size := Nat.le_trans hB1 k3.size
  obtain ⟨l2, hl2⟩ : ∃ m, l1 ++ Nm.enc 8 (up c) = m := ⟨_, rfl⟩
  rw [hl2] at W3
  have LL2 : Hid (l2.length ≤ l.length + 51) := by
    show l2.length ≤ l.length + 51
    rw [← hl2]
    simp only [List.length_append]
    have := Nm.enc_length 8 (up c)
    have := LL1.out; omega
  have HL2 := aside hl2
  clear r0 r1 r2 r3 r4 KA WW F0 KK hB1 hl2 fr3 k3
  obtain ⟨⟨r0, r1, r2, r3, r4⟩, -⟩ := quintF kA
  have KA := aside kA
  have WW := aside W3
  have F0 := aside ff
  have KK := aside kk
  have hB1 := hB2
  clear kA W3 ff kk hB2
  go_wp2_with fail
  refine (wnum_any B b g2 l2 n _ WW.out hB1 (by have := HC.out; omega) (by have := HC.out; omega) (by have := HL.out; have := LL2.out; omega)).mono ?_
  rintro e w4 ⟨rfl, g3, W4, fr4, k4⟩
  have kA := (k4.block w.heap.size (Array.getElem?_eq_some_iff.1 KA.out).1 (fun h => h.elim (fun h => by have := HBW.out; omega) (fun h => notrow F0.out HG.out HLT.out h))).trans KA.out
  have kk := KK.out.step F0.out k4
  have ff := F0.out.trans fr4 KK.out.size
  have hB2 : B ≤ w4.heap.size := Nat.le_trans hB1 k4.size
  obtain ⟨l3, hl3⟩ : ∃ m, l2 ++ Nm.enc 8 (up n) = m := ⟨_, rfl⟩
  rw [hl3] at W4
  have LL3 : Hid (l3.length ≤ l.length + 61) := by
    show l3.length ≤ l.length + 61
    rw [← hl3]
    simp only [List.length_append]
    have := Nm.enc_length 8 (up n)
    have := LL2.out; omega
  have HL3 := aside hl3
  clear r0 r1 r2 r3 r4 KA WW F0 KK hB1 hl3 fr4 k4
  obtain ⟨⟨r0, r1, r2, r3, r4⟩, -⟩ := quintF kA
  have KA := aside kA
  have WW := aside W4
  have F0 := aside ff
  have KK := aside kk
  have hB1 := hB2
  clear kA W4 ff kk hB2
  go_wp2_with fail
  refine (wflag_any B b g3 l3 d _ WW.out hB1 (by have := HL.out; have := LL3.out; omega)).mono ?_
  rintro e w5 ⟨rfl, g4, W5, fr5, k5⟩
  have kA := (k5.block w.heap.size (Array.getElem?_eq_some_iff.1 KA.out).1 (fun h => h.elim (fun h => by have := HBW.out; omega) (fun h => notrow F0.out HG.out HLT.out h))).trans KA.out
  have kk := KK.out.step F0.out k5
  have ff := F0.out.trans fr5 KK.out.size
  have hB2 : B ≤ w5.heap.size := Nat.le_trans hB1 k5.size
  obtain ⟨l4, hl4⟩ : ∃ m, l3 ++ flagB d = m := ⟨_, rfl⟩
  rw [hl4] at W5
  have LL4 : Hid (l4.length ≤ l.length + 62) := by
    show l4.length ≤ l.length + 62
    rw [← hl4]
    simp only [List.length_append]
    have : (flagB d).length = 1 := rfl
    have := LL3.out; omega
  have HL4 := aside hl4
  clear r0 r1 r2 r3 r4 KA WW F0 KK hB1 hl4 fr5 k5
  obtain ⟨⟨r0, r1, r2, r3, r4⟩, -⟩ := quintF kA
  have KA := aside kA
  have WW := aside W5
  have F0 := aside ff
  have KK := aside kk
  have hB1 := hB2
  clear kA W5 ff kk hB2
  cases d
  · go_wp2_with fail
    refine (wtext_any B b g4 l4 v _ WW.out hB1 (by have := HL.out; have := LL4.out; omega) (by have := HV.out; omega)).mono ?_
    rintro e w6 ⟨rfl, g5, W6, fr6, k6⟩
    have kk := KK.out.step F0.out k6
    have ff := F0.out.trans fr6 KK.out.size
    clear r0 r1 r2 r3 r4 KA F0 KK k6 fr6
    go_wp2
    go_end0
    refine ⟨rfl, _, W6.of_len ?_, ff.later K01.out.size, K01.out.trans kk⟩
    rw [← HL4.out, ← HL3.out, ← HL2.out, ← HL1.out]
    simp [entB, List.append_assoc]
  · go_wp2
    go_end0
    refine ⟨rfl, _, WW.out.of_len ?_, F0.out.later K01.out.size, K01.out.trans KK.out⟩
    rw [← HL4.out, ← HL3.out, ← HL2.out, ← HL1.out]
    simp [entB, List.append_assoc]
theorem put_any (B b : Nat) (g : Option Nat) (l : List UInt8) (k : ByteArray) (c n : Int) (v : ByteArray) (d : Bool) (w : World) (hW : IsW 86 B b g l w) (hB : B ≤ w.heap.size) (hl : l.length ≤ 17592186044416) :
    Calls Try.prog 53 #[.pointer (some ⟨b, 0, none⟩), .agg #[.string k, .int .i64 c, .int .i64 n, .string v, .bool d]] w fun e w' => e = .returned (.tuple #[]) ∧
      ∃ g', IsW 86 B b g' (l ++ putB ⟨k, c, n, v, d⟩) w' ∧ Fresh w g g' ∧ Keeps (fun k => k = b ∨ g = some k) w w' := by
  by_cases hq : En.chk ⟨k, c, n, v, d⟩ = 0
  · rw [putB_yes hq]
    exact put_yes B b g l k c n v d w hW hB hl hq
  · rw [putB_no hq, List.append_nil]
    exact (put_no B b g l k c n v d w hW _ rfl hq).mono (by rintro e w' ⟨rfl, h1, h2⟩; exact ⟨rfl, g, h1, .inl rfl, Keeps.of_below h2 _⟩)
end Go.Proofs.Ytbnppmkdhnpdfaa
namespace Go.Proofs.Ytbnppmkdhnpdfaa
open Go.RowKit
set_option linter.unusedVariables false
theorem first_put (n : Nat) (most : Int) (hn : n < 9223372036854775808) (hm : (n : Int) ≤ most) (rest : List UInt8) : Nm.first (Nm.enc 8 n ++ rest) most = ((n : Int), ((Nm.enc 8 n).length : Int), 0) :=
  Nm.first_ok (Nm.dec_enc 8 n rest (by omega)) (by omega)
theorem drop_more {l x rest : List UInt8} {p : Nat} (h : l.drop p = x ++ rest) : l.drop (p + x.length) = rest := by rw [← List.drop_drop, h, List.drop_left]
theorem num_put {l rest : List UInt8} {p n : Nat} {most : Int} (hd : l.drop p = Nm.enc 8 n ++ rest) (hn : n < 9223372036854775808) (hm : (n : Int) ≤ most) : numSt l p 0 most = ((n : Int), p + (Nm.enc 8 n).length, 0) := by
  simp [numSt, hd, first_put n most hn hm rest]
theorem text_put {l rest s : List UInt8} {p : Nat} {most : Int} (hd : l.drop p = (Nm.enc 8 s.length ++ s) ++ rest) (hs : s.length < 9223372036854775808) (hm : (s.length : Int) ≤ most) : textSt l p 0 most = (s, p + (Nm.enc 8 s.length ++ s).length, 0) := by
  have hd' : l.drop p = Nm.enc 8 s.length ++ (s ++ rest) := by rw [hd, List.append_assoc]
  have hf := first_put s.length most hs hm (s ++ rest)
  rw [← hd'] at hf
  have hlen : (l.drop p).length = (Nm.enc 8 s.length).length + (s.length + rest.length) := by rw [hd']; simp
  have ht := textOf_ok hf (by rw [hlen]; omega)
  have hx : (l.drop p).drop (Nm.enc 8 s.length).length = s ++ rest := by rw [hd', List.drop_left]
  simp only [textSt, ne_eq, not_true_eq_false, if_false, ht]
  rw [show (((Nm.enc 8 s.length).length : Int)).toNat = (Nm.enc 8 s.length).length from by omega, show ((s.length : Int)).toNat = s.length from by omega, hx, List.take_left]
  rw [List.length_append]
  simp only [Prod.mk.injEq, true_and, and_true]
  omega
theorem flag_put {l rest : List UInt8} {p : Nat} {d : Bool} (hd : l.drop p = flagB d ++ rest) : flagSt l p 0 = (d, p + 1, 0) := by
  have hp : p < l.length := by
    have : (l.drop p).length = (flagB d ++ rest).length := by rw [hd]
    simp [flagB] at this
    omega
  have hc : l[p] = if d then 1 else 0 := by
    have h1 : flagB d ++ rest = l[p] :: l.drop (p + 1) := by rw [← hd]; exact List.drop_eq_getElem_cons hp
    simp only [flagB, List.cons_append, List.cons.injEq] at h1
    exact h1.1.symm
  unfold flagSt
  rw [if_neg (by simp), dif_pos hp, hc]
  cases d <;> simp
theorem num_err {l : List UInt8} {p p' : Nat} {e n most : Int} (h : numSt l p e most = (n, p', 0)) : e = 0 := by
  unfold numSt at h
  split at h
  · simp only [Prod.mk.injEq] at h; exact h.2.2
  · rename_i he; exact Classical.byContradiction he
theorem text_err {l t : List UInt8} {p p' : Nat} {e most : Int} (h : textSt l p e most = (t, p', 0)) : e = 0 := by
  unfold textSt at h
  split at h
  · simp only [Prod.mk.injEq] at h; exact h.2.2
  · rename_i he; exact Classical.byContradiction he
theorem flag_err {l : List UInt8} {p p' : Nat} {e : Int} {d : Bool} (h : flagSt l p e = (d, p', 0)) : e = 0 := by
  unfold flagSt at h
  split at h
  · simp only [Prod.mk.injEq] at h; exact h.2.2
  · rename_i he; exact Classical.byContradiction he
theorem first_inv {l : List UInt8} {most n k : Int} (h : Nm.first l most = (n, k, 0)) : ∃ m j : Nat, n = (m : Int) ∧ k = (j : Int) ∧ (m : Int) ≤ most ∧ l.take j = Nm.enc 8 m ∧ j ≤ l.length ∧ 1 ≤ j := by
  rcases hD : Nm.dec 8 l with ⟨m, j, e⟩
  simp only [Nm.first, hD] at h
  split at h
  · rename_i he
    simp only [Prod.mk.injEq] at h
    omega
  · rename_i he
    split at h
    · simp only [Prod.mk.injEq] at h
      omega
    · rename_i hm
      simp only [Prod.mk.injEq] at h
      have he0 : e = 0 := by omega
      subst he0
      obtain ⟨h1, h2, h3, _⟩ := Nm.enc_dec 8 l m j hD
      exact ⟨m, j, h.1.symm, h.2.1.symm, by omega, h1.symm, h3, h2⟩
theorem num_inv {l : List UInt8} {p p' : Nat} {n most : Int} (hp : p ≤ l.length) (h : numSt l p 0 most = (n, p', 0)) : ∃ m : Nat, n = (m : Int) ∧ (m : Int) ≤ most ∧ l.drop p = Nm.enc 8 m ++ l.drop p' ∧ p' ≤ l.length := by
  simp only [numSt, ne_eq, not_true_eq_false, if_false] at h
  simp only [Prod.mk.injEq] at h
  obtain ⟨h1, h2, h3⟩ := h
  obtain ⟨m, j, e1, e2, e3, e4, e5, e6⟩ := first_inv (show Nm.first (l.drop p) most = (n, (Nm.first (l.drop p) most).2.1, 0) from by rw [← h1, ← h3])
  rw [e2] at h2
  rw [List.length_drop] at e5
  refine ⟨m, e1, e3, ?_, by omega⟩
  rw [← e4, ← h2, show ((j : Int)).toNat = j from by omega, ← List.drop_drop, List.take_append_drop]
theorem text_inv {l t : List UInt8} {p p' : Nat} {most : Int} (hp : p ≤ l.length) (h : textSt l p 0 most = (t, p', 0)) : l.drop p = (Nm.enc 8 t.length ++ t) ++ l.drop p' ∧ (t.length : Int) ≤ most ∧ p' ≤ l.length := by
  rcases textSt_cases l p most hp with ⟨e, he, _, hS⟩ | ⟨n, k, _, _, _, _, hS⟩ | ⟨n, k, hF, hk, hle, hS⟩
  · rw [hS] at h; simp only [Prod.mk.injEq] at h; omega
  · rw [hS] at h; simp only [Prod.mk.injEq] at h; omega
  · rw [hS] at h
    simp only [Prod.mk.injEq] at h
    obtain ⟨h1, h2, _⟩ := h
    obtain ⟨m, j, e1, e2, e3, e4, e5, e6⟩ := first_inv hF
    have hmn : m = n := by omega
    have hjk : j = k := by omega
    subst hmn hjk
    have hlt : t.length = m := by rw [← h1, List.length_take, List.length_drop]; omega
    refine ⟨?_, by omega, by omega⟩
    rw [hlt, ← e4, ← h1, ← h2, List.append_assoc]
    rw [show l.drop (p + j + m) = (l.drop (p + j)).drop m from by rw [List.drop_drop], List.take_append_drop, ← List.drop_drop, List.take_append_drop]
theorem flag_inv {l : List UInt8} {p p' : Nat} {d : Bool} (h : flagSt l p 0 = (d, p', 0)) : l.drop p = flagB d ++ l.drop p' ∧ p' ≤ l.length := by
  unfold flagSt at h
  rw [if_neg (by simp)] at h
  split at h
  · rename_i hp
    split at h
    · simp only [Prod.mk.injEq] at h; omega
    · rename_i h1
      simp only [Prod.mk.injEq] at h
      obtain ⟨hd, hp', _⟩ := h
      subst hp'
      refine ⟨?_, hp⟩
      rw [List.drop_eq_getElem_cons hp]
      have hb : l[p] = if d then 1 else 0 := by
        have hcase : l[p].toNat = 0 ∨ l[p].toNat = 1 := by omega
        rcases hcase with hc | hc
        · have e0 : l[p] = 0 := by apply UInt8.toNat_inj.1; simpa using hc
          rw [← hd, hc]; simpa using e0
        · have e0 : l[p] = 1 := by apply UInt8.toNat_inj.1; simpa using hc
          rw [← hd, hc]; simpa using e0
      rw [hb]
      rfl
  · simp only [Prod.mk.injEq] at h; omega
end Go.Proofs.Ytbnppmkdhnpdfaa
namespace Go.Proofs.Ytbnppmkdhnpdfaa
open Go.RowKit
set_option linter.unusedVariables false
/-- A part, plain. -/
structure PV where
  kind : Int
  lo : ByteArray
  hi : ByteArray
  op : Bool
  cnt : Int
  s0 : Nat
  s1 : Nat
  es : List En
def keysSt (l : List UInt8) (p : Nat) (e : Int) : (ByteArray × ByteArray × Bool) × Nat × Int :=
  match textSt l p e 16 with
  | (a, p1, e1) => match flagSt l p1 e1 with
    | (true, p2, e2) => ((⟨a.toArray⟩, ⟨#[]⟩, true), p2, e2)
    | (false, p2, e2) => match textSt l p2 e2 16 with
      | (b, p3, e3) => ((⟨a.toArray⟩, ⟨b.toArray⟩, false), p3, e3)
def tallySt (l : List UInt8) (p : Nat) (e : Int) : (Int × Nat × Nat) × Nat × Int :=
  match numSt l p e 256 with
  | (c, p1, e1) => match wordSt l p1 e1 with
    | (a, p2, e2) => match wordSt l p2 e2 with
      | (b, p3, e3) => ((c, a, b), p3, e3)
/-- n entries, one behind the other; none where the reader breaks. -/
def entsSt (l : List UInt8) : Nat → Nat → Int → List En → List En × Nat × Int
  | 0, p, e, acc => (acc, p, e)
  | n + 1, p, e, acc => match getSt l p e with
    | (x, p1, e1) => if e1 = 0 then entsSt l n p1 0 (acc ++ [x]) else ([], p1, e1)
def entriesSt (l : List UInt8) (p : Nat) (e : Int) : List En × Nat × Int :=
  match numSt l p e 256 with
  | (n, p1, e1) => entsSt l n.toNat p1 e1 []
def partSt (l : List UInt8) (p : Nat) (e : Int) : PV × Nat × Int :=
  match numSt l p e 3 with
  | (k, p1, e1) => match keysSt l p1 e1 with
    | ((lo, hi, op), p2, e2) =>
      if k = 1 then
        match tallySt l p2 e2 with
        | ((c, a, b), p3, e3) => (⟨1, lo, hi, op, c, a, b, []⟩, p3, e3)
      else if k = 2 ∨ k = 3 then
        match entriesSt l p2 e2 with
        | (es, p3, e3) => (⟨k, lo, hi, op, 0, 0, 0, es⟩, p3, e3)
      else (⟨k, lo, hi, op, 0, 0, 0, []⟩, p2, failOf e2 114)
def partsSt (l : List UInt8) : Nat → Nat → Int → List PV → List PV × Nat × Int
  | 0, p, e, acc => (acc, p, e)
  | n + 1, p, e, acc => match partSt l p e with
    | (x, p1, e1) => if e1 = 0 then partsSt l n p1 0 (acc ++ [x]) else ([], p1, e1)
def listSt (l : List UInt8) (p : Nat) (e : Int) : List PV × Nat × Int :=
  match numSt l p e 768 with
  | (n, p1, e1) => partsSt l n.toNat p1 e1 []
/-- A frame, plain. -/
structure FV where
  fr : Int
  tz : Int
  o : Int
  l : Int
  n : Int
  tn : Int
  ps : List PV
def frameSt (l : List UInt8) : FV × Nat × Int :=
  match numSt l 0 0 7 with
  | (a, p1, e1) => match numSt l p1 e1 7 with
    | (b, p2, e2) => match numSt l p2 e2 7 with
      | (c, p3, e3) => match numSt l p3 e3 1048576 with
        | (d, p4, e4) => match numSt l p4 e4 1048576 with
          | (f, p5, e5) => match numSt l p5 e5 63 with
            | (g, p6, e6) => match listSt l p6 e6 with
              | (ps, p7, e7) => (⟨a, b, c, d, f, g, ps⟩, p7, e7)
theorem keysSt_open {l : List UInt8} {p p1 p2 : Nat} {e e1 e2 : Int} {a : List UInt8} (h1 : textSt l p e 16 = (a, p1, e1)) (h2 : flagSt l p1 e1 = (true, p2, e2)) : keysSt l p e = ((⟨a.toArray⟩, ⟨#[]⟩, true), p2, e2) := by
  unfold keysSt; rw [h1]; dsimp only; rw [h2]
theorem keysSt_shut {l : List UInt8} {p p1 p2 p3 : Nat} {e e1 e2 e3 : Int} {a b : List UInt8} (h1 : textSt l p e 16 = (a, p1, e1)) (h2 : flagSt l p1 e1 = (false, p2, e2)) (h3 : textSt l p2 e2 16 = (b, p3, e3)) : keysSt l p e = ((⟨a.toArray⟩, ⟨b.toArray⟩, false), p3, e3) := by
  unfold keysSt; rw [h1]; dsimp only; rw [h2]; dsimp only; rw [h3]
theorem tallySt_eq {l : List UInt8} {p p1 p2 p3 a b : Nat} {e e1 e2 e3 c : Int} (h1 : numSt l p e 256 = (c, p1, e1)) (h2 : wordSt l p1 e1 = (a, p2, e2)) (h3 : wordSt l p2 e2 = (b, p3, e3)) : tallySt l p e = ((c, a, b), p3, e3) := by
  unfold tallySt; rw [h1]; dsimp only; rw [h2]; dsimp only; rw [h3]
theorem entsSt_step {l : List UInt8} {n p p1 : Nat} {e : Int} {acc : List En} {x : En} (h : getSt l p e = (x, p1, 0)) : entsSt l (n + 1) p e acc = entsSt l n p1 0 (acc ++ [x]) := by
  conv => lhs; unfold entsSt
  rw [h]; rfl
theorem entsSt_stop {l : List UInt8} {n p p1 : Nat} {e e1 : Int} {acc : List En} {x : En} (h : getSt l p e = (x, p1, e1)) (he : e1 ≠ 0) : entsSt l (n + 1) p e acc = ([], p1, e1) := by
  unfold entsSt; rw [h]; dsimp only; rw [if_neg he]
theorem partsSt_step {l : List UInt8} {n p p1 : Nat} {e : Int} {acc : List PV} {x : PV} (h : partSt l p e = (x, p1, 0)) : partsSt l (n + 1) p e acc = partsSt l n p1 0 (acc ++ [x]) := by
  conv => lhs; unfold partsSt
  rw [h]; rfl
theorem partsSt_stop {l : List UInt8} {n p p1 : Nat} {e e1 : Int} {acc : List PV} {x : PV} (h : partSt l p e = (x, p1, e1)) (he : e1 ≠ 0) : partsSt l (n + 1) p e acc = ([], p1, e1) := by
  unfold partsSt; rw [h]; dsimp only; rw [if_neg he]
theorem numSt_nn (l : List UInt8) (p : Nat) (e most : Int) : 0 ≤ (numSt l p e most).1 := by
  unfold numSt
  split
  · exact Int.le_refl _
  · exact (first_parts _ _).2.2.2.1
theorem numSt_most {l : List UInt8} {p p' : Nat} {e e' n most : Int} (hm : 0 ≤ most) (hp : p ≤ l.length) (h : numSt l p e most = (n, p', e')) : 0 ≤ n ∧ n ≤ most := by
  have h0 := numSt_nn l p e most
  rw [h] at h0
  refine ⟨h0, ?_⟩
  by_cases he : e = 0
  · subst he
    by_cases he' : e' = 0
    · subst he'
      obtain ⟨m, rfl, h2, -⟩ := num_inv hp h
      exact h2
    · unfold numSt at h
      rw [if_neg (by simp)] at h
      simp only [Prod.mk.injEq] at h
      have := (first_parts (l.drop p) most).2.2.2.2.2 (by rw [h.2.2]; exact he')
      omega
  · unfold numSt at h
    rw [if_pos he] at h
    simp only [Prod.mk.injEq] at h
    omega
theorem partSt_print {l : List UInt8} {p p1 p2 p3 a b : Nat} {e e1 e2 e3 c : Int} {lo hi : ByteArray} {op : Bool} (h1 : numSt l p e 3 = (1, p1, e1)) (h2 : keysSt l p1 e1 = ((lo, hi, op), p2, e2)) (h3 : tallySt l p2 e2 = ((c, a, b), p3, e3)) : partSt l p e = (⟨1, lo, hi, op, c, a, b, []⟩, p3, e3) := by
  unfold partSt; rw [h1]; dsimp only; rw [h2]; dsimp only; rw [if_pos rfl, h3]
theorem partSt_items {l : List UInt8} {p p1 p2 p3 : Nat} {e e1 e2 e3 k : Int} {lo hi : ByteArray} {op : Bool} {es : List En} (h1 : numSt l p e 3 = (k, p1, e1)) (h2 : keysSt l p1 e1 = ((lo, hi, op), p2, e2)) (hk : k = 2 ∨ k = 3) (h3 : entriesSt l p2 e2 = (es, p3, e3)) : partSt l p e = (⟨k, lo, hi, op, 0, 0, 0, es⟩, p3, e3) := by
  unfold partSt; rw [h1]; dsimp only; rw [h2]; dsimp only; rw [if_neg (by omega), if_pos hk, h3]
theorem partSt_none {l : List UInt8} {p p1 p2 : Nat} {e e1 e2 k : Int} {lo hi : ByteArray} {op : Bool} (h1 : numSt l p e 3 = (k, p1, e1)) (h2 : keysSt l p1 e1 = ((lo, hi, op), p2, e2)) (hk1 : k ≠ 1) (hk : ¬ (k = 2 ∨ k = 3)) : partSt l p e = (⟨k, lo, hi, op, 0, 0, 0, []⟩, p2, failOf e2 114) := by
  unfold partSt; rw [h1]; dsimp only; rw [h2]; dsimp only; rw [if_neg hk1, if_neg hk]
end Go.Proofs.Ytbnppmkdhnpdfaa
