/-
  Get, the document's own.
  Get as one plain function of the bytes, the place and the error: both keep to it.
  A number laid down by a writer, the code's and the document's own: both lay down the same bytes (Nm.enc), and turn nothing but the writer.
  Text and Flag of the code's writer: the number of its bytes and they, one byte for a flag; nothing turned but the writer.
  A number laid down by the document's own writer: the bytes Nm.enc, and nothing turned but the writer.
  Text and Flag of the document's own writer: the number of its bytes and they, one byte for a flag; nothing turned but the writer.
  Put, the code's and the document's own: an entry that may be lays its bytes down, another one nothing; nothing turned but the writer.
  There and back, plain: what Put lays down Get reads, and what Get reads was laid down so.
  Frames as bytes, plain: what a reader says of ranges, tallies, entries, parts, frames.
  Word of the code's writer: eight bytes, the highest first; nothing turned but the writer.
  Frames as bytes, plain: written and read again.
-/
import Derived.Test.YtlbkcndmljlnmaaDoorBx4
import Derived.Test.YtlbkcndmljlnmaaDoorBx1
import Derived.Test.YtlbkcndmljlnmaaDoorBx2
import Derived.Test.YtlbkcndmljlnmaaDoorBx3
import Derived.Deep.RegionHeld3
import Derived.Deep.RegionLaw
namespace Go.Proofs.YtlbkcndmljlnmaaDoor
open Go.RowKit
set_option linter.unusedVariables false
end Go.Proofs.YtlbkcndmljlnmaaDoor
namespace Go.Proofs.YtlbkcndmljlnmaaDoor
open Go.RowKit
set_option linter.unusedVariables false
/-- The end of Get: the value's text, the Counter's error, the answer. -/
def getFin (l : List UInt8) (tk : List UInt8) (c n : Int) (d : Bool) (p4 : Nat) (e4 : Int) : En × Nat × Int :=
  match d with
  | true => if c = 0 then (⟨⟨#[]⟩, 0, 0, ⟨#[]⟩, false⟩, p4, failOf e4 30) else if e4 = 0 then (⟨⟨tk.toArray⟩, c, n, ⟨#[]⟩, true⟩, p4, 0) else (⟨⟨#[]⟩, 0, 0, ⟨#[]⟩, false⟩, p4, e4)
  | false =>
    match textSt l p4 e4 32 with
    | (tv, p5, e5) => if c = 0 then (⟨⟨#[]⟩, 0, 0, ⟨#[]⟩, false⟩, p5, failOf e5 30) else if e5 = 0 then (⟨⟨tk.toArray⟩, c, n, ⟨tv.toArray⟩, false⟩, p5, 0) else (⟨⟨#[]⟩, 0, 0, ⟨#[]⟩, false⟩, p5, e5)
/-- Get. -/
def getSt (l : List UInt8) (p : Nat) (e : Int) : En × Nat × Int :=
  match textSt l p e 16 with
  | (tk, p1, e1) =>
    match numSt l p1 e1 1099511627776 with
    | (c, p2, e2) =>
      match numSt l p2 e2 7 with
      | (n, p3, e3) =>
        match flagSt l p3 e3 with
        | (d, p4, e4) => getFin l tk c n d p4 e4
theorem failOf_ne (e : Int) : (failOf e 30 != 0) = true := by
  unfold failOf; split
  · rfl
  · rename_i h; simp [h]
theorem getSt_eq {l : List UInt8} {p p1 p2 p3 p4 : Nat} {e e1 e2 e3 e4 : Int} {tk : List UInt8} {c n : Int} {d : Bool} (h1 : textSt l p e 16 = (tk, p1, e1)) (h2 : numSt l p1 e1 1099511627776 = (c, p2, e2)) (h3 : numSt l p2 e2 7 = (n, p3, e3)) (h4 : flagSt l p3 e3 = (d, p4, e4)) :
    getSt l p e = getFin l tk c n d p4 e4 := by
  unfold getSt; rw [h1]; simp only; rw [h2]; simp only; rw [h3]; simp only; rw [h4]
set_option maxHeartbeats 1000000 in
theorem get_at {br : Nat} {s : ByteArray} {l : List UInt8} {p p' : Nat} {e e' : Int} {R : En} {w : World} (h : OneR br s l p e w) (hg : getSt l p e = (R, p', e')) :
    Calls Tryd.prog 96 #[.pointer (some ⟨br, 0, none⟩)] w fun r w' => r = .returned (.agg #[.string R.k, .int .i64 R.c, .int .i64 R.n, .string R.v, .bool R.d]) ∧ OneR br s l p' e' w' ∧ Keeps (fun x => x = br) w w' := by
  rcases h1 : textSt l p e 16 with ⟨tk, p1, e1⟩
  rcases h2 : numSt l p1 e1 1099511627776 with ⟨c, p2, e2⟩
  rcases h3 : numSt l p2 e2 7 with ⟨n, p3, e3⟩
  rcases h4 : flagSt l p3 e3 with ⟨d, p4, e4⟩
  rw [getSt_eq h1 h2 h3 h4] at hg
  cases d
  · rcases h5 : textSt l p4 e4 32 with ⟨tv, p5, e5⟩
    simp only [getFin] at hg
    rw [h5] at hg
    simp only at hg
    by_cases hc : c = 0
    · rw [if_pos hc] at hg
      cases hg
      exact get_011 br s l p e _ tk c n false ⟨tv.toArray⟩ tv p1 p2 p3 p4 p' e1 e2 e3 e4 e5 _ w h rfl h1 h2 h3 h4 rfl h5 hc rfl (failOf_ne e5)
    · rw [if_neg hc] at hg
      by_cases he : e5 = 0
      · rw [if_pos he] at hg
        cases hg
        have := get_000 br s l p e _ tk c n false ⟨tv.toArray⟩ tv p1 p2 p3 p4 p' e1 e2 e3 e4 e5 0 w h rfl h1 h2 h3 h4 rfl h5 (by simp [hc]) he
        rw [he] at this
        exact this
      · rw [if_neg he] at hg
        cases hg
        exact get_001 br s l p e _ tk c n false ⟨tv.toArray⟩ tv p1 p2 p3 p4 p' e1 e2 e3 e4 e' 0 w h rfl h1 h2 h3 h4 rfl h5 (by simp [hc]) (by simp [he])
  · simp only [getFin] at hg
    by_cases hc : c = 0
    · rw [if_pos hc] at hg
      cases hg
      exact get_111 br s l p e _ tk c n true ⟨#[]⟩ [] p1 p2 p3 p' 0 e1 e2 e3 e4 0 _ w h rfl h1 h2 h3 h4 hc rfl (failOf_ne e4)
    · rw [if_neg hc] at hg
      by_cases he : e4 = 0
      · rw [if_pos he] at hg
        cases hg
        have := get_100 br s l p e _ tk c n true ⟨#[]⟩ [] p1 p2 p3 p' 0 e1 e2 e3 e4 0 0 w h rfl h1 h2 h3 h4 (by simp [hc]) he
        rw [he] at this
        exact this
      · rw [if_neg he] at hg
        cases hg
        exact get_101 br s l p e _ tk c n true ⟨#[]⟩ [] p1 p2 p3 p' 0 e1 e2 e3 e' 0 0 w h rfl h1 h2 h3 h4 (by simp [hc]) (by simp [he])
end Go.Proofs.YtlbkcndmljlnmaaDoor
namespace Go.Proofs.YtlbkcndmljlnmaaDoor
open Go.RowKit
theorem enc_stop (f m : Nat) (h : m < 128) : Nm.enc f m = [UInt8.ofNat m] := by cases f <;> simp [Nm.enc, h]
theorem enc_more (f m : Nat) (h : ¬ m < 128) : Nm.enc (f + 1) m = UInt8.ofNat (m % 128 + 128) :: Nm.enc f (m / 128) := by simp [Nm.enc, h]
theorem cells_one (z : Int) (n : Nat) (h : z = (n : Int)) (hn : n < 256) : Lib.byteCells [UInt8.ofNat n] = [.int .u8 z] := by
  subst h
  simp only [Lib.byteCells, List.map_cons, List.map_nil, UInt8.toNat_ofNat', Nat.mod_eq_of_lt (show n < 2 ^ 8 from hn)]
/-- The number that is laid down for n. -/
def up (n : Int) : Nat := (max n 0).toNat
/-- What holds at every round's head: f rounds may follow, the number m is left, the bytes pre are laid down. -/
def NumRel (T B b : Nat) (g : Option Nat) (l : List UInt8) (n0 : Nat) (w : World) (i : Value) (wr : World) : Prop :=
  ∃ (f m : Nat) (pre : List UInt8) (g' : Option Nat), i = .int .i64 (m : Int) ∧ m < 128 ^ (f + 1) ∧ m < 9223372036854775808 ∧ pre.length + f = 8 ∧ pre ++ Nm.enc f m = Nm.enc 8 n0 ∧ IsW T B b g' (l ++ pre) wr ∧ Fresh w g g' ∧ Keeps (fun k => k = b ∨ g = some k) w wr
theorem numRel_start {T B b : Nat} {g : Option Nat} {l : List UInt8} {w : World} {n0 : Nat} (hn : n0 < 9223372036854775808) (hW : IsW T B b g l w) (i : Value) (h : i = .int .i64 (n0 : Int)) : NumRel T B b g l n0 w i w :=
  ⟨8, n0, [], g, h, by omega, hn, rfl, rfl, by simpa using hW, .inl rfl, Keeps.refl _ _⟩
set_option maxHeartbeats 1600000 in
set_option maxRecDepth 100000 in
theorem wnum_any (B b : Nat) (g : Option Nat) (l : List UInt8) (n : Int) (w : World) (hW : IsW 119 B b g l w) (hB : B ≤ w.heap.size) (hn : n ≤ 9223372036854775807) (hn0 : -9223372036854775808 ≤ n) (hl : l.length ≤ 70368744177664) :
    Calls Tryd.prog 35 #[.pointer (some ⟨b, 0, none⟩), .int .i64 n] w fun e w' => e = .returned (.tuple #[]) ∧
      ∃ g', IsW 119 B b g' (l ++ Nm.enc 8 (up n)) w' ∧ Fresh w g g' ∧ Keeps (fun k => k = b ∨ g = some k) w w' := by
  obtain ⟨i0, hi, hz0, hz1, hz2⟩ := info_parts info8
  have hup : up n < 9223372036854775808 := by unfold up; omega
  have e1 : n < 0 → (up n : Int) = 0 := by unfold up; omega
  have e2 : 0 ≤ n → (up n : Int) = n := by unfold up; omega
  have E1 := aside e1; have E2 := aside e2
  clear e1 e2
  go_enter Tryd.func35, Tryd.ntmps35
  go_wp2
  all_goals
    go_loopw [1] (fun i wr => NumRel 119 B b g l (up n) w i wr) (fun i _ => (intOf i).toNat)
    case atStart => exact numRel_start hup hW _ (by first | rw [E1.out (by omega)]; done | rw [E2.out (by omega)])
    case round =>
      obtain ⟨f, m, pre, g', rfl, hm, hm63, hpf, hpre, ⟨hBb, hgb, v, hh, rfl, hown⟩, hfr, hk⟩ := hrel
      have HP := aside hpre
      have HPF := aside hpf
      have hll : (l ++ pre).length ≤ l.length + 8 := by rw [List.length_append]; omega
      have hm' : (m : Int) < 9223372036854775808 := by omega
      generalize hL : l ++ pre = L at *
      have HL := aside hL
      have HM := aside hm
      clear hpre hpf hL hm hm63
      have hsz := hk.size
      have hc := cell_one hh
      have hf := frozen_one hh
      by_cases hlt : m < 128
      · have hlt' : (m : Int) < 128 := by omega
        have HLT := aside hlt
        clear hlt hm'
        go_wp2_with (at_builtin; refine wpList_append_lies _ rfl _ _ _ rfl B 5 i0 (.int .u8 0) 1 1 Tryd.underlying31 hi hz0 hz1 hz2 rfl (by decide) _ _ _ (by rfl) (hown.alloc _) ⟨wr.heap.size, 0, none⟩ 1 1 [.int .u8 (m : Int)] (by rfl) (by rfl) (World.news_of_block (cs := #[.int .u8 (m : Int)]) (t := 5) (fr := (0, 0)) (heap_alloc_new wr _)) (by simp [Value.oneCell']) (by omega) (by unfold maxLen; omega) (by omega) (by simp; omega) (wr.heap.size + 1) (by simp) ?_; intro g1 cap w1 hown1 hgrow hat hlt1; have hb1 := block_grown hh hgb hgrow; have hc1 := cell_one hb1; have hf1 := frozen_one hb1; refine Hid.out ?_)
        refine aside ?_
        have R := app_done (l := L) (n := L.length + 1) (news := [UInt8.ofNat m]) hBb hh hgb rfl hgrow (by rw [cells_one (m : Int) m rfl (by omega)]; exact hown1) hat
        have HR := aside R
        clear hown hown1 hgrow hat R hc hf hh
        go_wp2
        go_end0
        refine ⟨rfl, _, (HR.out.1).of_len ?_, hfr.trans HR.out.2.1 hsz, hk.step hfr HR.out.2.2⟩
        rw [← HP.out, enc_stop f m HLT.out, ← HL.out, List.append_assoc]
      · have hge : (128 : Int) ≤ (m : Int) := by omega
        go_wp2_with (at_builtin; refine wpList_append_lies _ rfl _ _ _ rfl B 5 i0 (.int .u8 0) 1 1 Tryd.underlying31 hi hz0 hz1 hz2 rfl (by decide) _ _ _ (by rfl) (hown.alloc _) ⟨wr.heap.size, 0, none⟩ 1 1 [.int .u8 ((m : Int) % 128 + 128)] (by rfl) (by rfl) (World.news_of_block (cs := #[.int .u8 ((m : Int) % 128 + 128)]) (t := 5) (fr := (0, 0)) (heap_alloc_new wr _)) (by simp [Value.oneCell']) (by omega) (by unfold maxLen; omega) (by omega) (by simp; omega) (wr.heap.size + 1) (by simp) ?_; intro g1 cap w1 hown1 hgrow hat hlt1; have hb1 := block_grown hh hgb hgrow; have hc1 := cell_one hb1; have hf1 := frozen_one hb1; refine Hid.out ?_)
        refine aside ?_
        have R := app_done (l := L) (n := L.length + 1) (news := [UInt8.ofNat (m % 128 + 128)]) hBb hh hgb rfl hgrow (by rw [cells_one ((m : Int) % 128 + 128) (m % 128 + 128) (by omega) (by omega)]; exact hown1) hat
        have HR := aside R
        clear hown hown1 hgrow hat R hc hf hh
        go_wp2
        obtain ⟨f', hf'⟩ : ∃ f', f = f' + 1 := by
          cases f with
          | zero => have := HM.out; simp at this; omega
          | succ f' => exact ⟨f', rfl⟩
        go_roundw
        case rel => exact ⟨f', m / 128, pre ++ [UInt8.ofNat (m % 128 + 128)], _, by go_num, by have hm := HM.out; subst hf'; rw [Nat.pow_succ] at hm; omega, by omega, by have := HPF.out; rw [List.length_append]; simp; omega, by rw [← HP.out, hf', enc_more f' m hlt]; simp, HR.out.1.of_len (by rw [← HL.out, List.append_assoc]), hfr.trans HR.out.2.1 hsz, hk.step hfr HR.out.2.2⟩
        case measure => simp [intOf]; omega
end Go.Proofs.YtlbkcndmljlnmaaDoor
namespace Go.Proofs.YtlbkcndmljlnmaaDoor
open Go.RowKit
set_option linter.unusedVariables false
set_option maxHeartbeats 1600000 in
set_option maxRecDepth 100000 in
theorem wtext_any (B b : Nat) (g : Option Nat) (l : List UInt8) (s : ByteArray) (w : World) (hW : IsW 119 B b g l w) (hB : B ≤ w.heap.size) (hl : l.length ≤ 35184372088832) (hs : s.size ≤ 35184372088832) :
    Calls Tryd.prog 34 #[.pointer (some ⟨b, 0, none⟩), .string s] w fun e w' => e = .returned (.tuple #[]) ∧
      ∃ g', IsW 119 B b g' (l ++ (Nm.enc 8 s.size ++ s.data.toList)) w' ∧ Fresh w g g' ∧ Keeps (fun k => k = b ∨ g = some k) w w' := by
  have hs' : (s.size : Int) ≤ 35184372088832 := by omega
  have hlen : s.data.toList.length = s.size := by show s.data.toList.length = s.data.size; simp
  go_enter Tryd.func34, Tryd.ntmps34
  go_wp2_with fail
  refine (wnum_any B b g l (s.size : Int) _ hW hB (by omega) (by omega) (by omega)).mono ?_
  rintro e w1 ⟨rfl, g1, W1, fr1, k1⟩
  have sz1 := k1.size
  obtain ⟨hBb, hgb, v, hh, rfl, hown⟩ := W1
  rw [show up (s.size : Int) = s.size from by unfold up; omega] at hown
  have hll : (l ++ Nm.enc 8 s.size).length ≤ l.length + 9 := by have := Nm.enc_length 8 s.size; rw [List.length_append]; omega
  generalize hL : l ++ Nm.enc 8 s.size = L at *
  have HL := aside hL
  clear hL
  have hc := cell_one hh
  have hf := frozen_one hh
  go_wp2_with (at_builtin; refine wpList_append_string rfl _ _ rfl B _ _ _ (by rfl) hown s (by rfl) (by omega) (by omega) ?_; intro v' w2 hown2 hgrow fr2; obtain ⟨va, vn, vc, rfl⟩ := own_form hown2; have hb1 := block_kept hh hgb hgrow; have hc1 := cell_one hb1; have hf1 := frozen_one hb1; refine Hid.out ?_)
  refine aside ?_
  have R := app_text (l := L) (news := s.data.toList) hBb hh hgb (by rw [List.length_append, hlen]) hgrow hown2 fr2
  have HR := aside R
  clear hown hown2 hgrow R hc hf hh
  go_wp2
  go_end0
  refine ⟨rfl, _, HR.out.1.of_len ?_, fr1.trans fr2 sz1, k1.step fr1 HR.out.2⟩
  rw [← HL.out, List.append_assoc]
/-- A flag laid down. -/
def flagB (is : Bool) : List UInt8 := [if is then 1 else 0]
set_option maxHeartbeats 1600000 in
set_option maxRecDepth 100000 in
theorem wflag_any (B b : Nat) (g : Option Nat) (l : List UInt8) (is : Bool) (w : World) (hW : IsW 119 B b g l w) (hB : B ≤ w.heap.size) (hl : l.length ≤ 35184372088832) :
    Calls Tryd.prog 65 #[.pointer (some ⟨b, 0, none⟩), .bool is] w fun e w' => e = .returned (.tuple #[]) ∧
      ∃ g', IsW 119 B b g' (l ++ flagB is) w' ∧ Fresh w g g' ∧ Keeps (fun k => k = b ∨ g = some k) w w' := by
  obtain ⟨i0, hi, hz0, hz1, hz2⟩ := info_parts info8
  obtain ⟨hBb, hgb, v, hh, rfl, hown⟩ := hW
  have hc := cell_one hh
  have hf := frozen_one hh
  cases is
  all_goals
    go_enter Tryd.func65, Tryd.ntmps65
  · go_wp2_with (at_builtin; refine wpList_append_lies _ rfl _ _ _ rfl B 5 i0 (.int .u8 0) 1 1 Tryd.underlying31 hi hz0 hz1 hz2 rfl (by decide) _ _ _ (by rfl) (hown.alloc _) ⟨w.heap.size, 0, none⟩ 1 1 [.int .u8 0] (by rfl) (by rfl) (World.news_of_block (cs := #[.int .u8 0]) (t := 5) (fr := (0, 0)) (heap_alloc_new w _)) (by simp [Value.oneCell']) (by omega) (by unfold maxLen; omega) (by omega) (by simp; omega) (w.heap.size + 1) (by simp) ?_; intro g1 cap w1 hown1 hgrow hat hlt1; have hb1 := block_grown hh hgb hgrow; have hc1 := cell_one hb1; have hf1 := frozen_one hb1; refine Hid.out ?_)
    refine aside ?_
    have R := app_done (l := l) (n := l.length + 1) (news := [0]) hBb hh hgb rfl hgrow (by exact hown1) hat
    have HR := aside R
    clear hown hown1 hgrow hat R hc hf hh
    go_wp2
    go_end0
    exact ⟨rfl, _, HR.out.1, HR.out.2.1, HR.out.2.2⟩
  · go_wp2_with (at_builtin; refine wpList_append_lies _ rfl _ _ _ rfl B 5 i0 (.int .u8 0) 1 1 Tryd.underlying31 hi hz0 hz1 hz2 rfl (by decide) _ _ _ (by rfl) (hown.alloc _) ⟨w.heap.size, 0, none⟩ 1 1 [.int .u8 1] (by rfl) (by rfl) (World.news_of_block (cs := #[.int .u8 1]) (t := 5) (fr := (0, 0)) (heap_alloc_new w _)) (by simp [Value.oneCell']) (by omega) (by unfold maxLen; omega) (by omega) (by simp; omega) (w.heap.size + 1) (by simp) ?_; intro g1 cap w1 hown1 hgrow hat hlt1; have hb1 := block_grown hh hgb hgrow; have hc1 := cell_one hb1; have hf1 := frozen_one hb1; refine Hid.out ?_)
    refine aside ?_
    have R := app_done (l := l) (n := l.length + 1) (news := [1]) hBb hh hgb rfl hgrow (by exact hown1) hat
    have HR := aside R
    clear hown hown1 hgrow hat R hc hf hh
    go_wp2
    go_end0
    exact ⟨rfl, _, HR.out.1, HR.out.2.1, HR.out.2.2⟩
end Go.Proofs.YtlbkcndmljlnmaaDoor
namespace Go.Proofs.YtlbkcndmljlnmaaDoor
open Go.RowKit
end Go.Proofs.YtlbkcndmljlnmaaDoor
namespace Go.Proofs.YtlbkcndmljlnmaaDoor
open Go.RowKit
set_option linter.unusedVariables false
end Go.Proofs.YtlbkcndmljlnmaaDoor
namespace Go.Proofs.YtlbkcndmljlnmaaDoor
open Go.RowKit
set_option linter.unusedVariables false
/-- An entry's bytes. -/
def entB (e : En) : List UInt8 := Nm.enc 8 e.k.size ++ e.k.data.toList ++ Nm.enc 8 (up e.c) ++ Nm.enc 8 (up e.n) ++ flagB e.d ++ (bif e.d then [] else Nm.enc 8 e.v.size ++ e.v.data.toList)
/-- What Put lays down. -/
def putB (e : En) : List UInt8 := if e.chk = 0 then entB e else []
theorem putB_yes {e : En} (h : e.chk = 0) : putB e = entB e := if_pos h
theorem putB_no {e : En} (h : e.chk ≠ 0) : putB e = [] := if_neg h
theorem En.ok_parts {k : ByteArray} {c n : Int} {v : ByteArray} {d : Bool} (h : En.chk ⟨k, c, n, v, d⟩ = 0) : k.size ≤ 16 ∧ 1 ≤ c ∧ c ≤ 1099511627776 ∧ 0 ≤ n ∧ n ≤ 7 ∧ v.size ≤ 32 := by
  unfold En.chk at h
  simp only at h
  split at h
  · omega
  · split at h
    · omega
    · rename_i h1 h2
      split at h
      · omega
      · rename_i h3
        have hc : Vs.chk c n = 0 := Classical.byContradiction h2
        unfold Vs.chk at hc
        split at hc
        · omega
        · rename_i h4
          omega
theorem notrow {w w1 : World} {g g' : Option Nat} (fr : Fresh w1 g g') (hg : ∀ j, g = some j → j < w.heap.size) (hlt : w.heap.size < w1.heap.size) (h : g' = some w.heap.size) : False := by
  rcases fr with rfl | ⟨k, hk, hle⟩
  · have := hg _ h; omega
  · rw [h] at hk; cases hk; omega
theorem Fresh.later {w w1 : World} {g g' : Option Nat} (fr : Fresh w1 g g') (h : w.heap.size ≤ w1.heap.size) : Fresh w g g' := by
  rcases fr with rfl | ⟨k, hk, hle⟩
  · exact .inl rfl
  · exact .inr ⟨k, hk, Nat.le_trans h hle⟩
set_option maxRecDepth 100000 in
set_option maxHeartbeats 3200000 in
theorem put_no (B b : Nat) (g : Option Nat) (l : List UInt8) (k : ByteArray) (c n : Int) (v : ByteArray) (d : Bool) (w : World) (hW : IsW 119 B b g l w) (q : Int) (hq : En.chk ⟨k, c, n, v, d⟩ = q) (hne : q ≠ 0) :
    Calls Tryd.prog 38 #[.pointer (some ⟨b, 0, none⟩), .agg #[.string k, .int .i64 c, .int .i64 n, .string v, .bool d]] w fun e w' => e = .returned (.tuple #[]) ∧ IsW 119 B b g l w' ∧ Below w.heap.size w w' := by
  have C := aside (fun w => check_is hq w)
  have he : (q != 0) = true := by simp [hne]
  have HW := aside hW
  clear hq hne hW
  go_enter Tryd.func38, Tryd.ntmps38
  go_wp2_with fail
  refine (C.out _).mono ?_
  rintro e w1 ⟨rfl, b1⟩
  have b0 := bthen (bnew w _) b1
  clear b1
  go_wp2
  refine bodyPost_ret (results_none rfl _ _ _) rfl ?_
  exact ⟨rfl, HW.out.keep (Keeps.of_below b0 (fun _ => False)) (fun h => h) (fun _ _ h => h), b0⟩
set_option maxRecDepth 100000 in
set_option maxHeartbeats 6400000 in
theorem put_yes (B b : Nat) (g : Option Nat) (l : List UInt8) (k : ByteArray) (c n : Int) (v : ByteArray) (d : Bool) (w : World) (hW : IsW 119 B b g l w) (hB : B ≤ w.heap.size) (hl : l.length ≤ 17592186044416) (hq : En.chk ⟨k, c, n, v, d⟩ = 0) :
    Calls Tryd.prog 38 #[.pointer (some ⟨b, 0, none⟩), .agg #[.string k, .int .i64 c, .int .i64 n, .string v, .bool d]] w fun e w' => e = .returned (.tuple #[]) ∧
      ∃ g', IsW 119 B b g' (l ++ entB ⟨k, c, n, v, d⟩) w' ∧ Fresh w g g' ∧ Keeps (fun k => k = b ∨ g = some k) w w' := by
  have C := aside (fun w => check_is hq w)
  obtain ⟨hk16, hc1, hc2, hn1, hn2, hv32⟩ := En.ok_parts hq
  have HW := aside hW
  have hbw := hW.lt
  have hgw := fun j (h : g = some j) => (hW.row j h).2
  have HG := aside hgw
  have HK := aside hk16
  have HV := aside hv32
  have HC := aside (And.intro hc1 (And.intro hc2 (And.intro hn1 hn2)))
  have HL := aside hl
  have HBW := aside hbw
  clear hq hW hgw hk16 hv32 hc1 hc2 hn1 hn2 hl hbw
  go_enter Tryd.func38, Tryd.ntmps38
  go_wp2_with fail
  refine (C.out _).mono ?_
  rintro e w1 ⟨rfl, b1⟩
  have kA := blk_on (heap_alloc_new w (.cells #[.string k, .int .i64 c, .int .i64 n, .string v, .bool d] 44)) b1
  have b01 := bthen (bnew w _) b1
  have W1 := HW.out.keep (Keeps.of_below b01 (fun _ => False)) (fun h => h) (fun _ _ h => h)
  have k01 : Keeps (fun k => k = b ∨ g = some k) w w1 := Keeps.of_below b01 _
  have K01 := aside k01
  have hlt : w.heap.size < w1.heap.size := (Array.getElem?_eq_some_iff.1 kA).1
  have HLT := aside hlt
  have hB1 : B ≤ w1.heap.size := Nat.le_trans hB b01.size
  obtain ⟨⟨r0, r1, r2, r3, r4⟩, -⟩ := quintF kA
  have KA := aside kA
  have WW := aside W1
  have F0 := aside (show Fresh w1 g g from .inl rfl)
  have KK := aside (Keeps.refl (fun k => k = b ∨ g = some k) w1)
  clear b1 kA b01 W1 k01 HW C hlt
  go_wp2_with fail
  refine (wtext_any B b g l k _ WW.out hB1 (by have := HL.out; omega) (by have := HK.out; omega)).mono ?_
  rintro e w2 ⟨rfl, g1, W2, fr2, k2⟩
  have kA := (k2.block w.heap.size (Array.getElem?_eq_some_iff.1 KA.out).1 (fun h => h.elim (fun h => by have := HBW.out; omega) (fun h => notrow F0.out HG.out HLT.out h))).trans KA.out
  have kk := KK.out.step F0.out k2
  have ff := F0.out.trans fr2 KK.out.size
  have hB2 : B ≤ w2.heap.size := Nat.le_trans hB1 k2.size
  obtain ⟨l1, hl1⟩ : ∃ m, l ++ (Nm.enc 8 k.size ++ k.data.toList) = m := ⟨_, rfl⟩
  rw [hl1] at W2
  have LL1 : Hid (l1.length ≤ l.length + 41) := by
    show l1.length ≤ l.length + 41
    rw [← hl1]
    simp only [List.length_append]
    have e1 := Nm.enc_length 8 k.size
    have e2 := HK.out
    have e3 : k.data.toList.length = k.size := by show k.data.toList.length = k.data.size; simp
    omega
  have HL1 := aside hl1
  clear r0 r1 r2 r3 r4 KA WW F0 KK hB1 hl1 fr2 k2
  obtain ⟨⟨r0, r1, r2, r3, r4⟩, -⟩ := quintF kA
  have KA := aside kA
  have WW := aside W2
  have F0 := aside ff
  have KK := aside kk
  have hB1 := hB2
  clear kA W2 ff kk hB2
  go_wp2_with fail
  refine (wnum_any B b g1 l1 c _ WW.out hB1 (by have := HC.out; omega) (by have := HC.out; omega) (by have := HL.out; have := LL1.out; omega)).mono ?_
  rintro e w3 ⟨rfl, g2, W3, fr3, k3⟩
  have kA := (k3.block w.heap.size (Array.getElem?_eq_some_iff.1 KA.out).1 (fun h => h.elim (fun h => by have := HBW.out; omega) (fun h => notrow F0.out HG.out HLT.out h))).trans KA.out
  have kk := KK.out.step F0.out k3
  have ff := F0.out.trans fr3 KK.out.size
  have hB2 : B ≤ w3.heap.size := Nat.le_trans hB1 k3.size
  obtain ⟨l2, hl2⟩ : ∃ m, l1 ++ Nm.enc 8 (up c) = m := ⟨_, rfl⟩
  rw [hl2] at W3
  have LL2 : Hid (l2.length ≤ l.length + 51) := by
    show l2.length ≤ l.length + 51
    rw [← hl2]
    simp only [List.length_append]
    have := Nm.enc_length 8 (up c)
    have := LL1.out; omega
  have HL2 := aside hl2
  clear r0 r1 r2 r3 r4 KA WW F0 KK hB1 hl2 fr3 k3
  obtain ⟨⟨r0, r1, r2, r3, r4⟩, -⟩ := quintF kA
  have KA := aside kA
  have WW := aside W3
  have F0 := aside ff
  have KK := aside kk
  have hB1 := hB2
  clear kA W3 ff kk hB2
  go_wp2_with fail
  refine (wnum_any B b g2 l2 n _ WW.out hB1 (by have := HC.out; omega) (by have := HC.out; omega) (by have := HL.out; have := LL2.out; omega)).mono ?_
  rintro e w4 ⟨rfl, g3, W4, fr4, k4⟩
  have kA := (k4.block w.heap.size (Array.getElem?_eq_some_iff.1 KA.out).1 (fun h => h.elim (fun h => by have := HBW.out; omega) (fun h => notrow F0.out HG.out HLT.out h))).trans KA.out
  have kk := KK.out.step F0.out k4
  have ff := F0.out.trans fr4 KK.out.size
  have hB2 : B ≤ w4.heap.size := Nat.le_trans hB1 k4.size
  obtain ⟨l3, hl3⟩ : ∃ m, l2 ++ Nm.enc 8 (up n) = m := ⟨_, rfl⟩
  rw [hl3] at W4
  have LL3 : Hid (l3.length ≤ l.length + 61) := by
    show l3.length ≤ l.length + 61
    rw [← hl3]
    simp only [List.length_append]
    have := Nm.enc_length 8 (up n)
    have := LL2.out; omega
  have HL3 := aside hl3
  clear r0 r1 r2 r3 r4 KA WW F0 KK hB1 hl3 fr4 k4
  obtain ⟨⟨r0, r1, r2, r3, r4⟩, -⟩ := quintF kA
  have KA := aside kA
  have WW := aside W4
  have F0 := aside ff
  have KK := aside kk
  have hB1 := hB2
  clear kA W4 ff kk hB2
  go_wp2_with fail
  refine (wflag_any B b g3 l3 d _ WW.out hB1 (by have := HL.out; have := LL3.out; omega)).mono ?_
  rintro e w5 ⟨rfl, g4, W5, fr5, k5⟩
  have kA := (k5.block w.heap.size (Array.getElem?_eq_some_iff.1 KA.out).1 (fun h => h.elim (fun h => by have := HBW.out; omega) (fun h => notrow F0.out HG.out HLT.out h))).trans KA.out
  have kk := KK.out.step F0.out k5
  have ff := F0.out.trans fr5 KK.out.size
  have hB2 : B ≤ w5.heap.size := Nat.le_trans hB1 k5.size
  obtain ⟨l4, hl4⟩ : ∃ m, l3 ++ flagB d = m := ⟨_, rfl⟩
  rw [hl4] at W5
  have LL4 : Hid (l4.length ≤ l.length + 62) := by
    show l4.length ≤ l.length + 62
    rw [← hl4]
    simp only [List.length_append]
    have : (flagB d).length = 1 := rfl
    have := LL3.out; omega
  have HL4 := aside hl4
  clear r0 r1 r2 r3 r4 KA WW F0 KK hB1 hl4 fr5 k5
  obtain ⟨⟨r0, r1, r2, r3, r4⟩, -⟩ := quintF kA
  have KA := aside kA
  have WW := aside W5
  have F0 := aside ff
  have KK := aside kk
  have hB1 := hB2
  clear kA W5 ff kk hB2
  cases d
  · go_wp2_with fail
    refine (wtext_any B b g4 l4 v _ WW.out hB1 (by have := HL.out; have := LL4.out; omega) (by have := HV.out; omega)).mono ?_
    rintro e w6 ⟨rfl, g5, W6, fr6, k6⟩
    have kk := KK.out.step F0.out k6
    have ff := F0.out.trans fr6 KK.out.size
    clear r0 r1 r2 r3 r4 KA F0 KK k6 fr6
    go_wp2
    go_end0
    refine ⟨rfl, _, W6.of_len ?_, ff.later K01.out.size, K01.out.trans kk⟩
    rw [← HL4.out, ← HL3.out, ← HL2.out, ← HL1.out]
    simp [entB, List.append_assoc]
  · go_wp2
    go_end0
    refine ⟨rfl, _, WW.out.of_len ?_, F0.out.later K01.out.size, K01.out.trans KK.out⟩
    rw [← HL4.out, ← HL3.out, ← HL2.out, ← HL1.out]
    simp [entB, List.append_assoc]
theorem put_any (B b : Nat) (g : Option Nat) (l : List UInt8) (k : ByteArray) (c n : Int) (v : ByteArray) (d : Bool) (w : World) (hW : IsW 119 B b g l w) (hB : B ≤ w.heap.size) (hl : l.length ≤ 17592186044416) :
    Calls Tryd.prog 38 #[.pointer (some ⟨b, 0, none⟩), .agg #[.string k, .int .i64 c, .int .i64 n, .string v, .bool d]] w fun e w' => e = .returned (.tuple #[]) ∧
      ∃ g', IsW 119 B b g' (l ++ putB ⟨k, c, n, v, d⟩) w' ∧ Fresh w g g' ∧ Keeps (fun k => k = b ∨ g = some k) w w' := by
  by_cases hq : En.chk ⟨k, c, n, v, d⟩ = 0
  · rw [putB_yes hq]
    exact put_yes B b g l k c n v d w hW hB hl hq
  · rw [putB_no hq, List.append_nil]
    exact (put_no B b g l k c n v d w hW _ rfl hq).mono (by rintro e w' ⟨rfl, h1, h2⟩; exact ⟨rfl, g, h1, .inl rfl, Keeps.of_below h2 _⟩)
end Go.Proofs.YtlbkcndmljlnmaaDoor
namespace Go.Proofs.YtlbkcndmljlnmaaDoor
open Go.RowKit
set_option linter.unusedVariables false
theorem first_put (n : Nat) (most : Int) (hn : n < 9223372036854775808) (hm : (n : Int) ≤ most) (rest : List UInt8) : Nm.first (Nm.enc 8 n ++ rest) most = ((n : Int), ((Nm.enc 8 n).length : Int), 0) :=
  Nm.first_ok (Nm.dec_enc 8 n rest (by omega)) (by omega)
theorem drop_more {l x rest : List UInt8} {p : Nat} (h : l.drop p = x ++ rest) : l.drop (p + x.length) = rest := by rw [← List.drop_drop, h, List.drop_left]
theorem num_put {l rest : List UInt8} {p n : Nat} {most : Int} (hd : l.drop p = Nm.enc 8 n ++ rest) (hn : n < 9223372036854775808) (hm : (n : Int) ≤ most) : numSt l p 0 most = ((n : Int), p + (Nm.enc 8 n).length, 0) := by
  simp [numSt, hd, first_put n most hn hm rest]
theorem text_put {l rest s : List UInt8} {p : Nat} {most : Int} (hd : l.drop p = (Nm.enc 8 s.length ++ s) ++ rest) (hs : s.length < 9223372036854775808) (hm : (s.length : Int) ≤ most) : textSt l p 0 most = (s, p + (Nm.enc 8 s.length ++ s).length, 0) := by
  have hd' : l.drop p = Nm.enc 8 s.length ++ (s ++ rest) := by rw [hd, List.append_assoc]
  have hf := first_put s.length most hs hm (s ++ rest)
  rw [← hd'] at hf
  have hlen : (l.drop p).length = (Nm.enc 8 s.length).length + (s.length + rest.length) := by rw [hd']; simp
  have ht := textOf_ok hf (by rw [hlen]; omega)
  have hx : (l.drop p).drop (Nm.enc 8 s.length).length = s ++ rest := by rw [hd', List.drop_left]
  simp only [textSt, ne_eq, not_true_eq_false, if_false, ht]
  rw [show (((Nm.enc 8 s.length).length : Int)).toNat = (Nm.enc 8 s.length).length from by omega, show ((s.length : Int)).toNat = s.length from by omega, hx, List.take_left]
  rw [List.length_append]
  simp only [Prod.mk.injEq, true_and, and_true]
  omega
theorem flag_put {l rest : List UInt8} {p : Nat} {d : Bool} (hd : l.drop p = flagB d ++ rest) : flagSt l p 0 = (d, p + 1, 0) := by
  have hp : p < l.length := by
    have : (l.drop p).length = (flagB d ++ rest).length := by rw [hd]
    simp [flagB] at this
    omega
  have hc : l[p] = if d then 1 else 0 := by
    have h1 : flagB d ++ rest = l[p] :: l.drop (p + 1) := by rw [← hd]; exact List.drop_eq_getElem_cons hp
    simp only [flagB, List.cons_append, List.cons.injEq] at h1
    exact h1.1.symm
  unfold flagSt
  rw [if_neg (by simp), dif_pos hp, hc]
  cases d <;> simp
theorem num_err {l : List UInt8} {p p' : Nat} {e n most : Int} (h : numSt l p e most = (n, p', 0)) : e = 0 := by
  unfold numSt at h
  split at h
  · simp only [Prod.mk.injEq] at h; exact h.2.2
  · rename_i he; exact Classical.byContradiction he
theorem text_err {l t : List UInt8} {p p' : Nat} {e most : Int} (h : textSt l p e most = (t, p', 0)) : e = 0 := by
  unfold textSt at h
  split at h
  · simp only [Prod.mk.injEq] at h; exact h.2.2
  · rename_i he; exact Classical.byContradiction he
theorem flag_err {l : List UInt8} {p p' : Nat} {e : Int} {d : Bool} (h : flagSt l p e = (d, p', 0)) : e = 0 := by
  unfold flagSt at h
  split at h
  · simp only [Prod.mk.injEq] at h; exact h.2.2
  · rename_i he; exact Classical.byContradiction he
theorem first_inv {l : List UInt8} {most n k : Int} (h : Nm.first l most = (n, k, 0)) : ∃ m j : Nat, n = (m : Int) ∧ k = (j : Int) ∧ (m : Int) ≤ most ∧ l.take j = Nm.enc 8 m ∧ j ≤ l.length ∧ 1 ≤ j := by
  rcases hD : Nm.dec 8 l with ⟨m, j, e⟩
  simp only [Nm.first, hD] at h
  split at h
  · rename_i he
    simp only [Prod.mk.injEq] at h
    omega
  · rename_i he
    split at h
    · simp only [Prod.mk.injEq] at h
      omega
    · rename_i hm
      simp only [Prod.mk.injEq] at h
      have he0 : e = 0 := by omega
      subst he0
      obtain ⟨h1, h2, h3, _⟩ := Nm.enc_dec 8 l m j hD
      exact ⟨m, j, h.1.symm, h.2.1.symm, by omega, h1.symm, h3, h2⟩
theorem num_inv {l : List UInt8} {p p' : Nat} {n most : Int} (hp : p ≤ l.length) (h : numSt l p 0 most = (n, p', 0)) : ∃ m : Nat, n = (m : Int) ∧ (m : Int) ≤ most ∧ l.drop p = Nm.enc 8 m ++ l.drop p' ∧ p' ≤ l.length := by
  simp only [numSt, ne_eq, not_true_eq_false, if_false] at h
  simp only [Prod.mk.injEq] at h
  obtain ⟨h1, h2, h3⟩ := h
  obtain ⟨m, j, e1, e2, e3, e4, e5, e6⟩ := first_inv (show Nm.first (l.drop p) most = (n, (Nm.first (l.drop p) most).2.1, 0) from by rw [← h1, ← h3])
  rw [e2] at h2
  rw [List.length_drop] at e5
  refine ⟨m, e1, e3, ?_, by omega⟩
  rw [← e4, ← h2, show ((j : Int)).toNat = j from by omega, ← List.drop_drop, List.take_append_drop]
theorem text_inv {l t : List UInt8} {p p' : Nat} {most : Int} (hp : p ≤ l.length) (h : textSt l p 0 most = (t, p', 0)) : l.drop p = (Nm.enc 8 t.length ++ t) ++ l.drop p' ∧ (t.length : Int) ≤ most ∧ p' ≤ l.length := by
  rcases textSt_cases l p most hp with ⟨e, he, _, hS⟩ | ⟨n, k, _, _, _, _, hS⟩ | ⟨n, k, hF, hk, hle, hS⟩
  · rw [hS] at h; simp only [Prod.mk.injEq] at h; omega
  · rw [hS] at h; simp only [Prod.mk.injEq] at h; omega
  · rw [hS] at h
    simp only [Prod.mk.injEq] at h
    obtain ⟨h1, h2, _⟩ := h
    obtain ⟨m, j, e1, e2, e3, e4, e5, e6⟩ := first_inv hF
    have hmn : m = n := by omega
    have hjk : j = k := by omega
    subst hmn hjk
    have hlt : t.length = m := by rw [← h1, List.length_take, List.length_drop]; omega
    refine ⟨?_, by omega, by omega⟩
    rw [hlt, ← e4, ← h1, ← h2, List.append_assoc]
    rw [show l.drop (p + j + m) = (l.drop (p + j)).drop m from by rw [List.drop_drop], List.take_append_drop, ← List.drop_drop, List.take_append_drop]
theorem flag_inv {l : List UInt8} {p p' : Nat} {d : Bool} (h : flagSt l p 0 = (d, p', 0)) : l.drop p = flagB d ++ l.drop p' ∧ p' ≤ l.length := by
  unfold flagSt at h
  rw [if_neg (by simp)] at h
  split at h
  · rename_i hp
    split at h
    · simp only [Prod.mk.injEq] at h; omega
    · rename_i h1
      simp only [Prod.mk.injEq] at h
      obtain ⟨hd, hp', _⟩ := h
      subst hp'
      refine ⟨?_, hp⟩
      rw [List.drop_eq_getElem_cons hp]
      have hb : l[p] = if d then 1 else 0 := by
        have hcase : l[p].toNat = 0 ∨ l[p].toNat = 1 := by omega
        rcases hcase with hc | hc
        · have e0 : l[p] = 0 := by apply UInt8.toNat_inj.1; simpa using hc
          rw [← hd, hc]; simpa using e0
        · have e0 : l[p] = 1 := by apply UInt8.toNat_inj.1; simpa using hc
          rw [← hd, hc]; simpa using e0
      rw [hb]
      rfl
  · simp only [Prod.mk.injEq] at h; omega
end Go.Proofs.YtlbkcndmljlnmaaDoor
namespace Go.Proofs.YtlbkcndmljlnmaaDoor
open Go.RowKit
set_option linter.unusedVariables false
/-- n entries, one behind the other; none where the reader breaks. -/
def entsSt (l : List UInt8) : Nat → Nat → Int → List En → List En × Nat × Int
  | 0, p, e, acc => (acc, p, e)
  | n + 1, p, e, acc => match getSt l p e with
    | (x, p1, e1) => if e1 = 0 then entsSt l n p1 0 (acc ++ [x]) else ([], p1, e1)
def entriesSt (l : List UInt8) (p : Nat) (e : Int) : List En × Nat × Int :=
  match numSt l p e 256 with
  | (n, p1, e1) => entsSt l n.toNat p1 e1 []
theorem entsSt_step {l : List UInt8} {n p p1 : Nat} {e : Int} {acc : List En} {x : En} (h : getSt l p e = (x, p1, 0)) : entsSt l (n + 1) p e acc = entsSt l n p1 0 (acc ++ [x]) := by
  conv => lhs; unfold entsSt
  rw [h]; rfl
theorem entsSt_stop {l : List UInt8} {n p p1 : Nat} {e e1 : Int} {acc : List En} {x : En} (h : getSt l p e = (x, p1, e1)) (he : e1 ≠ 0) : entsSt l (n + 1) p e acc = ([], p1, e1) := by
  unfold entsSt; rw [h]; dsimp only; rw [if_neg he]
theorem numSt_nn (l : List UInt8) (p : Nat) (e most : Int) : 0 ≤ (numSt l p e most).1 := by
  unfold numSt
  split
  · exact Int.le_refl _
  · exact (first_parts _ _).2.2.2.1
theorem numSt_most {l : List UInt8} {p p' : Nat} {e e' n most : Int} (hm : 0 ≤ most) (hp : p ≤ l.length) (h : numSt l p e most = (n, p', e')) : 0 ≤ n ∧ n ≤ most := by
  have h0 := numSt_nn l p e most
  rw [h] at h0
  refine ⟨h0, ?_⟩
  by_cases he : e = 0
  · subst he
    by_cases he' : e' = 0
    · subst he'
      obtain ⟨m, rfl, h2, -⟩ := num_inv hp h
      exact h2
    · unfold numSt at h
      rw [if_neg (by simp)] at h
      simp only [Prod.mk.injEq] at h
      have := (first_parts (l.drop p) most).2.2.2.2.2 (by rw [h.2.2]; exact he')
      omega
  · unfold numSt at h
    rw [if_pos he] at h
    simp only [Prod.mk.injEq] at h
    omega
end Go.Proofs.YtlbkcndmljlnmaaDoor
namespace Go.Proofs.YtlbkcndmljlnmaaDoor
open Go.RowKit
set_option linter.unusedVariables false
end Go.Proofs.YtlbkcndmljlnmaaDoor
namespace Go.Proofs.YtlbkcndmljlnmaaDoor
open Go.RowKit
set_option linter.unusedVariables false
def strB (s : ByteArray) : List UInt8 := Nm.enc 8 s.size ++ s.data.toList
def esB : List En → List UInt8
  | [] => []
  | e :: r => entB e ++ esB r
theorem bback (k : ByteArray) : (⟨k.data.toList.toArray⟩ : ByteArray) = k := by cases k; simp
theorem blen (k : ByteArray) : k.data.toList.length = k.size := by show k.data.toList.length = k.data.size; simp
theorem upN (m : Nat) : up (m : Int) = m := by unfold up; omega
theorem upI {n : Int} (h : 0 ≤ n) : ((up n : Nat) : Int) = n := by unfold up; omega
theorem get_inv_at {l : List UInt8} {R : En} {p0 p : Nat} (hp0 : p0 ≤ l.length) (h : getSt l p0 0 = (R, p, 0)) : R.chk = 0 ∧ l.drop p0 = entB R ++ l.drop p ∧ p ≤ l.length := by
  rcases h1 : textSt l p0 0 16 with ⟨tk, p1, e1⟩
  rcases h2 : numSt l p1 e1 1099511627776 with ⟨c, p2, e2⟩
  rcases h3 : numSt l p2 e2 7 with ⟨n, p3, e3⟩
  rcases h4 : flagSt l p3 e3 with ⟨d, p4, e4⟩
  rw [getSt_eq h1 h2 h3 h4] at h
  have key : ∀ (e4z : e4 = 0), ∃ cm nm : Nat, c = (cm : Int) ∧ n = (nm : Int) ∧ (cm : Int) ≤ 1099511627776 ∧ (nm : Int) ≤ 7 ∧ (tk.length : Int) ≤ 16 ∧ p4 ≤ l.length ∧
      l.drop p0 = (Nm.enc 8 tk.length ++ tk) ++ (Nm.enc 8 cm ++ (Nm.enc 8 nm ++ (flagB d ++ l.drop p4))) := by
    intro e4z
    subst e4z
    obtain rfl := flag_err h4
    obtain rfl := num_err h3
    obtain rfl := num_err h2
    obtain ⟨a1, a2, a3⟩ := text_inv hp0 h1
    obtain ⟨cm, b1, b2, b3, b4⟩ := num_inv a3 h2
    obtain ⟨nm, c1, c2, c3, c4⟩ := num_inv b4 h3
    obtain ⟨d1, d2⟩ := flag_inv h4
    refine ⟨cm, nm, b1, c1, b2, c2, a2, d2, ?_⟩
    rw [← d1, ← c3, ← b3, ← a1]
  have hkt : ∀ t : List UInt8, (⟨t.toArray⟩ : ByteArray).size = t.length := fun t => by show t.toArray.size = t.length; simp
  have hkd : ∀ t : List UInt8, (⟨t.toArray⟩ : ByteArray).data.toList = t := fun t => by simp
  cases d
  · rcases h5 : textSt l p4 e4 32 with ⟨tv, p5, e5⟩
    simp only [getFin] at h
    rw [h5] at h
    simp only at h
    by_cases hc : c = 0
    · rw [if_pos hc] at h
      simp only [Prod.mk.injEq] at h
      have := failOf_ne e5
      rw [h.2.2] at this
      simp at this
    · rw [if_neg hc] at h
      by_cases he : e5 = 0
      · rw [if_pos he] at h
        subst he
        obtain rfl := text_err h5
        obtain ⟨cm, nm, r1, r2, r3, r4, r5, r6, r7⟩ := key rfl
        obtain ⟨v1, v2, v3⟩ := text_inv r6 h5
        simp only [Prod.mk.injEq] at h
        obtain ⟨rfl, rfl, _⟩ := h
        refine ⟨?_, ?_, v3⟩
        · rw [En.chk_rest false (by rw [hkt]; omega) (chk_ok (by omega) (by omega) (by omega) (by omega)) (by rw [hkt]; omega)]
          rfl
        · simp only [entB, cond, hkt]
          rw [show up c = cm from by rw [r1]; unfold up; omega, show up n = nm from by rw [r2]; unfold up; omega]
          have e0 := r7
          rw [v1] at e0
          rw [List.append_assoc, List.append_assoc, List.append_assoc, List.append_assoc]
          simpa [List.append_assoc] using e0
      · rw [if_neg he] at h
        simp only [Prod.mk.injEq] at h
        exact absurd h.2.2 he
  · simp only [getFin] at h
    by_cases hc : c = 0
    · rw [if_pos hc] at h
      simp only [Prod.mk.injEq] at h
      have := failOf_ne e4
      rw [h.2.2] at this
      simp at this
    · rw [if_neg hc] at h
      by_cases he : e4 = 0
      · rw [if_pos he] at h
        obtain ⟨cm, nm, r1, r2, r3, r4, r5, r6, r7⟩ := key he
        simp only [Prod.mk.injEq] at h
        obtain ⟨rfl, rfl, _⟩ := h
        refine ⟨?_, ?_, r6⟩
        · rw [En.chk_rest true (by rw [hkt]; omega) (chk_ok (by omega) (by omega) (by omega) (by omega)) (by decide)]
          rw [show (⟨#[]⟩ : ByteArray).toList = [] from ByteArray.toList_mk []]
          rfl
        · simp only [entB, cond, hkt]
          rw [show up c = cm from by rw [r1]; unfold up; omega, show up n = nm from by rw [r2]; unfold up; omega]
          simpa [List.append_assoc] using r7
      · rw [if_neg he] at h
        simp only [Prod.mk.injEq] at h
        exact absurd h.2.2 he
theorem get_put_at {l rest : List UInt8} {p : Nat} (e : En) (h : e.chk = 0) (hd : l.drop p = entB e ++ rest) : getSt l p 0 = (e, p + (entB e).length, 0) := by
  obtain ⟨k, c, n, v, d⟩ := e
  obtain ⟨hk, hc1, hc2, hn1, hn2, hv⟩ := En.ok_parts h
  have hkl := blen k
  have hvl := blen v
  have hcu : ((up c : Nat) : Int) = c := by unfold up; omega
  have hnu : ((up n : Nat) : Int) = n := by unfold up; omega
  obtain ⟨X, hX⟩ : ∃ X, X = (bif d then [] else Nm.enc 8 v.size ++ v.data.toList) := ⟨_, rfl⟩
  have hE : entB ⟨k, c, n, v, d⟩ = (Nm.enc 8 k.data.toList.length ++ k.data.toList) ++ (Nm.enc 8 (up c) ++ (Nm.enc 8 (up n) ++ (flagB d ++ X))) := by
    rw [hX, hkl]; simp [entB, List.append_assoc]
  have h0 : l.drop p = (Nm.enc 8 k.data.toList.length ++ k.data.toList) ++ (Nm.enc 8 (up c) ++ (Nm.enc 8 (up n) ++ (flagB d ++ (X ++ rest)))) := by
    rw [hd, hE]; simp [List.append_assoc]
  have t1 := text_put (most := 16) h0 (by omega) (by omega)
  have h1 := drop_more h0
  have t2 := num_put (most := 1099511627776) h1 (by omega) (by omega)
  have h2 := drop_more h1
  have t3 := num_put (most := 7) h2 (by omega) (by omega)
  have h3 := drop_more h2
  have t4 := flag_put h3
  have h4 := drop_more h3
  rw [show (flagB d).length = 1 from rfl] at h4
  have ek := bback k
  have hL : (entB ⟨k, c, n, v, d⟩).length = (Nm.enc 8 k.data.toList.length ++ k.data.toList).length + (Nm.enc 8 (up c)).length + (Nm.enc 8 (up n)).length + 1 + X.length := by
    rw [hE]; simp only [List.length_append, show (flagB d).length = 1 from rfl]; omega
  rw [getSt_eq t1 t2 t3 t4, hcu, hnu]
  have hc0 : ¬ c = 0 := by omega
  cases d
  · simp only [cond] at hX
    have h4' := h4.trans (show X ++ rest = (Nm.enc 8 v.data.toList.length ++ v.data.toList) ++ rest from by rw [hvl, hX])
    have t5 := text_put (most := 32) h4' (by omega) (by omega)
    have h5' : (Nm.enc 8 v.data.toList.length ++ v.data.toList).length = X.length := by rw [hX, hvl]
    simp only [getFin]
    rw [t5]
    simp only
    rw [if_neg hc0, ek, bback v]
    simp only [if_true, Prod.mk.injEq, true_and, and_true]
    omega
  · simp only [cond] at hX
    have hv0 : v = ⟨#[]⟩ := by
      have hh := h
      rw [En.chk_rest true (by omega) (chk_ok (by omega) (by omega) (by omega) (by omega)) (by omega)] at hh
      have : v.toList.isEmpty = true := by
        cases hE : v.toList.isEmpty
        · rw [hE] at hh; simp at hh
        · rfl
      rw [ByteArray.toList_eq] at this
      obtain ⟨⟨x⟩⟩ := v
      simp at this
      rw [this]
    subst hv0
    rw [hX] at hL
    simp only [List.length_nil] at hL
    simp only [getFin]
    rw [if_neg hc0, ek]
    simp only [if_true, Prod.mk.injEq, true_and, and_true]
    omega
/-! Words. -/
end Go.Proofs.YtlbkcndmljlnmaaDoor
