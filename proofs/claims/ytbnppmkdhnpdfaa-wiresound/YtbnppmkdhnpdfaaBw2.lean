/-
  A slice of bytes that came in as an argument: what it reads as, now and in every later world in which old memory stands.
  A text appended to the bytes of a writer: what is owned then, and where the new row lies; the same for one byte, in one form.
  A slice of bytes that came in: appended, read; the document's new reader of it.
  The code's reader alone: what Num, Text and Flag answer and leave, as the same plain functions.
  Get, the code's and the document's own: what it answers and leaves.
  Get, the document's own.
  Get as one plain function of the bytes, the place and the error: both keep to it.
  A number laid down by a writer, the code's and the document's own: both lay down the same bytes (Nm.enc), and turn nothing but the writer.
  Text and Flag of the code's writer: the number of its bytes and they, one byte for a flag; nothing turned but the writer.
  A number laid down by the document's own writer: the bytes Nm.enc, and nothing turned but the writer.
  Text and Flag of the document's own writer: the number of its bytes and they, one byte for a flag; nothing turned but the writer.
-/
import Derived.Test.YtbnppmkdhnpdfaaBw1
import Derived.Lib.AppendStr
import Derived.Laws.AppendOwnNone
namespace Go.Proofs.Ytbnppmkdhnpdfaa
open Go.RowKit
set_option linter.unusedVariables false
/-- What the walk is told of a slice of bytes that came in: it is nil; or it leads to a row of 'cap' cells, the numbers 'zs', the first 'len' its elements. -/
def IsRow (w : World) (a : Option Addr) (len cap : Nat) (zs : List Int) : Prop :=
  (a = none ∧ len = 0 ∧ cap = 0 ∧ zs = []) ∨
  ∃ x, a = some x ∧ len ≤ cap ∧ cap ≤ maxLen ∧ zs.length = cap ∧ (∀ i, i < zs.length → w.cell? (x.add i) = some (.int .u8 (zs.getD i 0))) ∧ ∀ n ∈ zs, (Lit.int .u8 n).wf = true
/-- The bytes of such numbers. -/
def bytesOf (zs : List Int) : List UInt8 := zs.map fun z => UInt8.ofNat z.toNat
theorem bytesOf_length (zs : List Int) : (bytesOf zs).length = zs.length := by simp [bytesOf]
theorem wf_u8 {z : Int} (h : (Lit.int .u8 z).wf = true) : 0 ≤ z ∧ z ≤ 255 := by
  simp [Lit.wf] at h
  first | exact h | omega
theorem reads_nil (w : World) : Reads w (.slice none 0 0) [] := by
  intro m
  exact conv_own (w.drewN m) 0 (.slice none 0 0) [] (World.ownsRow_nil _ _ _ _)
end Go.Proofs.Ytbnppmkdhnpdfaa
namespace Go.Proofs.Ytbnppmkdhnpdfaa
open Go.RowKit
set_option linter.unusedVariables false
theorem append_string_at (w : World) (ty : TypeId) (B : Nat) (v : Value) (n : Nat) (xs : List Value) (hown : w.ownsRow B 5 1 v n xs) (s : ByteArray) (hb : n + s.size ≤ 140737488355328) (hB : B ≤ w.heap.size) :
    ∃ v' w', (Builtin.append_ #[30, 9] ty #[v, .string s]).run Try.prog w = .ok v' w' ∧ w'.ownsRow B 5 1 v' (n + s.size) (xs ++ Lib.byteCells s.data.toList) ∧ w.grownBy w' v.ownBlock ∧ Fresh w v.ownBlock v'.ownBlock := by
  obtain ⟨i0, hi, hz0, hz1, hz2⟩ := info_parts info8
  obtain ⟨v', w', hr, h2, h3, h4⟩ := Lib.run_append_own_string (P := Try.prog) w B 30 9 ty 5 i0 Try.underlying30 Try.underlying9 hi hz0 hz1 hz2 v n xs hown s (by unfold maxLen; omega) hb hB
  refine ⟨v', w', hr, h2, h3, ?_⟩
  rcases hown.2 with ⟨rfl, rfl⟩ | ⟨g, cap, cur, rfl, hbg, hg, hnc, hcm, hcs, htake⟩
  · by_cases hs : s.size = 0
    · have := h4.2 ⟨rfl, hs⟩
      subst this
      exact .inl rfl
    · have e := run_append_nil_string (P := Try.prog) w 30 9 ty 5 i0 (.int .u8 0) Try.underlying30 Try.underlying9 hi hz0 s (by omega) (by omega) (by rw [hz2]; omega)
      rw [hr] at e
      injection e with e1 e2
      exact .inr ⟨w.heap.size, by rw [e1]; rfl, Nat.le_refl _⟩
  · by_cases hroom : n + s.size ≤ cap
    · have e := Lib.run_append_room_string (P := Try.prog) w 30 9 ty 5 i0 Try.underlying30 Try.underlying9 hi hz1 g n cap cur hg s hroom (by omega)
      rw [hr] at e
      injection e with e1 e2
      exact .inl (by rw [e1]; rfl)
    · have e := Lib.run_append_grow_string (P := Try.prog) w 30 9 ty 5 i0 (.int .u8 0) Try.underlying30 Try.underlying9 hi hz0 ⟨g, 0, none⟩ n cap xs (by rw [hz1]; exact hown.1) (hown.cells (g := g) rfl) s (by omega) (by omega) (by rw [hz2]; exact growslice_fits (by omega) (by omega))
      rw [hr] at e
      injection e with e1 e2
      exact .inr ⟨w.heap.size, by rw [e1]; rfl, Nat.le_refl _⟩
/-- At the operation, for the walk. -/
theorem wpList_append_string {w : World} {ops : Array Oper} {rest : List Oper} {o : Oper} {a : Act} {Q : Exit → Act → World → Prop} (hgd : o.guard = none) (sl x : Operand)
    (ho : o.op = .call { callee := .builtin .append, args := #[sl, x], argTypes := #[30, 9] })
    (B : Nat) (v : Value) (n : Nat) (xs : List Value) (hs : a.eval sl = v) (hown : w.ownsRow B 5 1 v n xs) (s : ByteArray) (hx : a.eval x = .string s)
    (hb : n + s.size ≤ 140737488355328) (hB : B ≤ w.heap.size)
    (h : ∀ v' w', w'.ownsRow B 5 1 v' (n + s.size) (xs ++ Lib.byteCells s.data.toList) → w.grownBy w' v.ownBlock → Fresh w v.ownBlock v'.ownBlock → wpList Try.prog ops Q rest (a.put o.dst v') w') : wpList Try.prog ops Q (o :: rest) a w := by
  refine wpList_plain hgd fun K hK => ?_
  obtain ⟨v', w', hr, h2, h3, h4⟩ := append_string_at w o.type B v n xs hown s hb hB
  unfold Oper.wp execOp
  simp only [ho, resolve, invoke, builtin, Sem.run_bind, Sem.run_pure, Result.andThen_ok, List.map_toArray, List.map_cons, List.map_nil, hs, hx, hr]
  exact hK _ _ (h v' w' h2 h3 h4)
/-- What is owned is a slice. -/
theorem own_form {w : World} {B : Nat} {e : TypeId} {v : Value} {n : Nat} {xs : List Value} (h : w.ownsRow B e 1 v n xs) : ∃ a m c, v = .slice a m c := by
  rcases h.2 with ⟨rfl, _⟩ | ⟨g, cap, cur, rfl, _⟩
  · exact ⟨_, _, _, rfl⟩
  · exact ⟨_, _, _, rfl⟩
theorem block_kept {wr w1 : World} {T b : Nat} {v : Value} (hh : wr.heap[b]? = some (.cells #[v] T (0, 0))) (hne : v.ownBlock ≠ some b) (hg : wr.grownBy w1 v.ownBlock) : w1.heap[b]? = some (.cells #[v] T (0, 0)) := by
  rw [hg.block b (Array.getElem?_eq_some_iff.1 hh).1 (Ne.symm hne)]
  exact hh
/-- A writer's slice, grown by some bytes and stored back. -/
theorem app_text {T B b : Nat} {wr w1 : World} {v v' : Value} {l news : List UInt8} {n : Nat} (hB : B ≤ b) (hh : wr.heap[b]? = some (.cells #[v] T (0, 0))) (hne : v.ownBlock ≠ some b) (hn : n = (l ++ news).length)
    (hg : wr.grownBy w1 v.ownBlock) (hown1 : w1.ownsRow B 5 1 v' n (Lib.byteCells l ++ Lib.byteCells news)) (fr : Fresh wr v.ownBlock v'.ownBlock) :
    IsW T B b v'.ownBlock (l ++ news) (w1.setCell ⟨b, 0, none⟩ v') ∧ Keeps (fun k => k = b ∨ v.ownBlock = some k) wr (w1.setCell ⟨b, 0, none⟩ v') := by
  have hlt := (Array.getElem?_eq_some_iff.1 hh).1
  have hb1 := block_kept hh hne hg
  have hvb : v'.ownBlock ≠ some b := by
    rcases fr with h | ⟨k, h, hk⟩
    · rw [h]; exact hne
    · rw [h]; intro e; cases e; omega
  refine ⟨⟨hB, hvb, v', ?_, rfl, ?_⟩, Keeps.setCell ((Keeps.refl _ wr).grown hg (fun k hk _ => .inr hk)) (fun _ => .inl rfl) _⟩
  · rw [heap_setCell_same w1 b 0 _ T _ hb1]; rfl
  · subst hn
    rw [Lib.byteCells_append]
    refine ⟨hown1.1, ?_⟩
    rcases hown1.2 with h | ⟨g, c, cur, rfl, hbase, hheap, r⟩
    · exact .inl h
    · refine .inr ⟨g, c, cur, rfl, hbase, ?_, r⟩
      rw [Below.heap_setCell _ _ _ _ (fun e => hvb (by have e' : g = b := e; subst e'; rfl))]
      exact hheap
end Go.Proofs.Ytbnppmkdhnpdfaa
namespace Go.Proofs.Ytbnppmkdhnpdfaa
open Go.RowKit
set_option linter.unusedVariables false
/-- A slice of bytes that came in, with its bytes L: nil, or cells that are there. -/
def ArgB (w : World) (a : Option Addr) (len cap : Nat) (L : List UInt8) : Prop :=
  L.length = len ∧ len ≤ cap ∧ cap ≤ maxLen ∧ ((a = none ∧ len = 0 ∧ cap = 0) ∨ ∃ x, a = some x ∧ ∀ j u, (Lib.byteCells L)[j]? = some u → w.cell? (x.add j) = some u)
theorem ArgB.of_row {w : World} {a : Option Addr} {len cap : Nat} {zs : List Int} (h : IsRow w a len cap zs) : ArgB w a len cap (bytesOf (zs.take len)) := by
  rcases h with ⟨rfl, rfl, rfl, rfl⟩ | ⟨x, rfl, hl, hm, hz, hc, hw⟩
  · exact ⟨rfl, Nat.le_refl _, Nat.zero_le _, .inl ⟨rfl, rfl, rfl⟩⟩
  · have hlen : (bytesOf (zs.take len)).length = len := by rw [bytesOf_length, List.length_take]; omega
    refine ⟨hlen, hl, hm, .inr ⟨x, rfl, fun j u hj => ?_⟩⟩
    have hjl : j < len := by
      have := (List.getElem?_eq_some_iff.1 hj).1
      simpa [Lib.byteCells, hlen] using this
    have hjz : j < zs.length := by omega
    rw [hc j hjz]
    have hz' := wf_u8 (hw zs[j] (List.getElem_mem hjz))
    have e : (Lib.byteCells (bytesOf (zs.take len)))[j]? = some (.int .u8 zs[j]) := by
      have e0 : (bytesOf (zs.take len))[j]? = some (UInt8.ofNat (zs[j]).toNat) := by
        simp [bytesOf, hjl, hjz]
      simp only [Lib.byteCells, List.getElem?_map, e0, Option.map_some]
      rw [UInt8.toNat_ofNat', Nat.mod_eq_of_lt (show (zs[j]).toNat < 2 ^ 8 from by omega)]
      congr 2
      omega
    rw [e] at hj
    rw [← hj]
    simp [hjz]
/-- It stands in later worlds. -/
theorem ArgB.later {w w' : World} {a : Option Addr} {len cap : Nat} {L : List UInt8} (h : ArgB w a len cap L) (bel : Below w.heap.size w w') : ArgB w' a len cap L := by
  obtain ⟨h1, h2, h3, h4⟩ := h
  refine ⟨h1, h2, h3, ?_⟩
  rcases h4 with h | ⟨x, hx, hc⟩
  · exact .inl h
  · refine .inr ⟨x, hx, fun j u hj => ?_⟩
    have hcell := hc j u hj
    rw [← hcell]
    exact bel.cell (World.block_lt_of_cell? w _ hcell)
/-- It is read as its bytes. -/
theorem ArgB.reads {w : World} {a : Option Addr} {len cap : Nat} {L : List UInt8} (h : ArgB w a len cap L) : Reads w (.slice a len cap) L := by
  obtain ⟨h1, _, _, h4⟩ := h
  rcases h4 with ⟨rfl, rfl, rfl⟩ | ⟨x, rfl, hc⟩
  · have : L = [] := List.length_eq_zero_iff.1 h1
    subst this
    exact reads_nil w
  · intro m
    have key := run_convert_bytes_back (P := Try.prog) (w.drewN m) 30 9 5 x cap L Try.underlying30 Try.underlying5 Try.underlying9 (fun j hj => by
      refine hc j _ ?_
      simp [Lib.byteCells, hj])
    rw [h1] at key
    exact key
end Go.Proofs.Ytbnppmkdhnpdfaa
namespace Go.Proofs.Ytbnppmkdhnpdfaa
open Go.RowKit
set_option linter.unusedVariables false
/-- A reader of the code: its bytes, place and error. -/
structure OneR (br : Nat) (s : ByteArray) (l : List UInt8) (p : Nat) (e : Int) (w : World) : Prop where
  code : IsR br s (p : Int) e w
  text : s.data.toList = l
  le : p ≤ l.length
  small : l.length ≤ 1099511627776
theorem OneR.size {br : Nat} {s : ByteArray} {l : List UInt8} {p : Nat} {e : Int} {w : World} (h : OneR br s l p e w) : s.size = l.length := by
  rw [← h.text]; show s.data.size = s.data.toList.length; simp
section
variable {br : Nat} {s : ByteArray} {l : List UInt8} {p : Nat} {e : Int}
theorem one_num (w : World) (most : Int) (h : OneR br s l p e w) :
    Calls Try.prog 56 #[.pointer (some ⟨br, 0, none⟩), .int .i64 most] w fun r w' => r = .returned (.int .i64 (numSt l p e most).1) ∧ IsR br s ((numSt l p e most).2.1 : Int) (numSt l p e most).2.2 w' ∧ Keeps (fun x => x = br) w w' := by
  have hsz := h.size
  by_cases he : e = 0
  · subst he
    have hS : numSt l p 0 most = ((Nm.first (l.drop p) most).1, p + (Nm.first (l.drop p) most).2.1.toNat, (Nm.first (l.drop p) most).2.2) := by simp [numSt]
    have hk := first_parts (l.drop p) most
    rw [hS]
    have := rnum_any br s p most (Nm.first (l.drop p) most).1 (Nm.first (l.drop p) most).2.1 (Nm.first (l.drop p) most).2.2 w h.code (by have := h.le; omega) (by have := h.small; omega) (by rw [h.text])
    simp only
    rw [show ((p + (Nm.first (l.drop p) most).2.1.toNat : Nat) : Int) = (p : Int) + (Nm.first (l.drop p) most).2.1 from by omega]
    exact this
  · have hS : numSt l p e most = (0, p, e) := by simp [numSt, he]
    rw [hS]
    exact (rnum_broken br s (p : Int) e most w h.code he).mono (by rintro r w' ⟨rfl, rfl⟩; exact ⟨rfl, h.code, Keeps.refl _ _⟩)
theorem one_text (w : World) (most : Int) (h : OneR br s l p e w) :
    Calls Try.prog 92 #[.pointer (some ⟨br, 0, none⟩), .int .i64 most] w fun r w' => r = .returned (.string ⟨(textSt l p e most).1.toArray⟩) ∧ IsR br s ((textSt l p e most).2.1 : Int) (textSt l p e most).2.2 w' ∧ Keeps (fun x => x = br) w w' := by
  have hsz := h.size
  have hle := h.le
  have hsm := h.small
  by_cases he : e = 0
  · subst he
    rcases textSt_cases l p most hle with ⟨e, he, hF, hS⟩ | ⟨n, k, hF, hk1, hpk, hn, hS⟩ | ⟨n, k, hF, hk1, hpk, hS⟩
    · rw [hS]
      exact rtext_bad br s p most e w h.code (by omega) (by omega) (by rw [h.text]; exact hF)
    · rw [hS]
      exact rtext_short br s p most n k w h.code (by omega) (by omega) (by rw [h.text]; exact hF) (by omega) (by rw [hsz]; exact hn)
    · rw [hS]
      have := rtext_ok br s p most n k w h.code (by omega) (by omega) (by rw [h.text]; exact hF) (by omega)
      rw [h.text] at this
      simp only
      rw [show ((p + k + n : Nat) : Int) = (p : Int) + (k : Int) + (n : Int) from by omega]
      exact this
  · have hS : textSt l p e most = ([], p, e) := by simp [textSt, he]
    rw [hS]
    exact rtext_broken br s p e most w h.code he (by omega) (by omega)
theorem one_flag (w : World) (h : OneR br s l p e w) :
    Calls Try.prog 93 #[.pointer (some ⟨br, 0, none⟩)] w fun r w' => r = .returned (.bool (flagSt l p e).1) ∧ IsR br s ((flagSt l p e).2.1 : Int) (flagSt l p e).2.2 w' ∧ Keeps (fun x => x = br) w w' := by
  have hsz := h.size
  have hle := h.le
  have hsm := h.small
  by_cases hp : p < l.length
  · have hc : s[p]'(by omega) = l[p] := by
      have e1 : s.data.toList[p]'(by rw [h.text]; exact hp) = l[p] := by simp only [h.text]
      rw [← e1]
      rfl
    by_cases he : e = 0
    · subst he
      by_cases h1 : 1 < l[p].toNat
      · have hS : flagSt l p 0 = (false, p, 11) := by simp [flagSt, hp, h1]
        rw [hS]
        exact rflag_form br s p 0 l[p] w h.code (by omega) hc h1 (by omega)
      · have hS : flagSt l p 0 = (((l[p].toNat : Int) == 1), p + 1, 0) := by simp only [flagSt, ne_eq, not_true_eq_false, if_false, hp, dif_pos]; rw [if_neg h1]
        rw [hS]
        exact rflag_ok br s p l[p] w h.code (by omega) hc h1 (by omega)
    · have hS : flagSt l p e = (false, p, e) := by simp [flagSt, he]
      rw [hS]
      by_cases h1 : 1 < l[p].toNat
      · have := rflag_form br s p e l[p] w h.code (by omega) hc h1 (by omega)
        rw [show failOf e 11 = e from if_neg he] at this
        exact this
      · exact rflag_broken br s p e l[p] w h.code he (by omega) hc h1 (by omega)
  · have := rflag_end br s p e w h.code (by omega) (by omega)
    by_cases he : e = 0
    · subst he
      have hS : flagSt l p 0 = (false, p, 10) := by simp [flagSt, hp]
      rw [hS]
      exact this
    · have hS : flagSt l p e = (false, p, e) := by simp [flagSt, he]
      rw [hS]
      rw [show failOf e 10 = e from if_neg he] at this
      exact this
end
end Go.Proofs.Ytbnppmkdhnpdfaa
namespace Go.Proofs.Ytbnppmkdhnpdfaa
open Go.RowKit
set_option linter.unusedVariables false
section
variable {br : Nat} {s : ByteArray} {l : List UInt8} {p p' : Nat} {e e' : Int} {w w' : World}
theorem OneR.lt (h : OneR br s l p e w) : br < w.heap.size := h.code.lt
theorem OneR.keep {S : Nat → Prop} (h : OneR br s l p e w) (k : Keeps S w w') (hb : ¬ S br) : OneR br s l p e w' := ⟨h.code.keep k hb, h.text, h.le, h.small⟩
theorem one_text_at {K : ByteArray} {t : List UInt8} {most : Int} (hK : (⟨t.toArray⟩ : ByteArray) = K) (ht : textSt l p e most = (t, p', e')) (h : OneR br s l p e w) :
    Calls Try.prog 92 #[.pointer (some ⟨br, 0, none⟩), .int .i64 most] w fun r w' => r = .returned (.string K) ∧ OneR br s l p' e' w' ∧ Keeps (fun x => x = br) w w' := by
  have h1 := one_text w most h
  have h2 := textSt_le l p e most h.le
  rw [ht] at h1 h2
  subst hK
  exact h1.mono (by rintro r w' ⟨rfl, h3, h4⟩; exact ⟨rfl, ⟨h3, h.text, h2, h.small⟩, h4⟩)
theorem one_num_at {n most : Int} (ht : numSt l p e most = (n, p', e')) (h : OneR br s l p e w) :
    Calls Try.prog 56 #[.pointer (some ⟨br, 0, none⟩), .int .i64 most] w fun r w' => r = .returned (.int .i64 n) ∧ OneR br s l p' e' w' ∧ Keeps (fun x => x = br) w w' := by
  have h1 := one_num w most h
  have h2 := numSt_le l p e most h.le
  rw [ht] at h1 h2
  exact h1.mono (by rintro r w' ⟨rfl, h3, h4⟩; exact ⟨rfl, ⟨h3, h.text, h2, h.small⟩, h4⟩)
theorem one_flag_at {d : Bool} (ht : flagSt l p e = (d, p', e')) (h : OneR br s l p e w) :
    Calls Try.prog 93 #[.pointer (some ⟨br, 0, none⟩)] w fun r w' => r = .returned (.bool d) ∧ OneR br s l p' e' w' ∧ Keeps (fun x => x = br) w w' := by
  have h1 := one_flag w h
  have h2 := flagSt_le l p e h.le
  rw [ht] at h1 h2
  exact h1.mono (by rintro r w' ⟨rfl, h3, h4⟩; exact ⟨rfl, ⟨h3, h.text, h2, h.small⟩, h4⟩)
theorem one_fail_at {x e' : Int} (ht : failOf e x = e') (h : OneR br s l p e w) :
    Calls Try.prog 77 #[.pointer (some ⟨br, 0, none⟩), .int .i64 x] w fun r w' => r = .returned (.tuple #[]) ∧ OneR br s l p e' w' ∧ Keeps (fun x => x = br) w w' := by
  subst ht
  exact (rfail_any br s (p : Int) e x w h.code).mono (by rintro r w' ⟨rfl, h3, h4⟩; exact ⟨rfl, ⟨h3, h.text, h.le, h.small⟩, h4⟩)
theorem one_err_at (h : OneR br s l p e w) : Calls Try.prog 78 #[.pointer (some ⟨br, 0, none⟩)] w fun r w' => r = .returned (.int .i64 e) ∧ w' = w := rerr_any br s (p : Int) e w h.code
end
/-- The document's reader: its bytes, place and error. -/
structure DocR (B br : Nat) (v : Value) (l : List UInt8) (p : Nat) (e : Int) (w : World) : Prop where
  doc : IsRR B br v l (p : Int) e w
  le : p ≤ l.length
  small : l.length ≤ 1099511627776
section
variable {B br : Nat} {v : Value} {l : List UInt8} {p p' : Nat} {e e' : Int} {w w' : World}
theorem DocR.lt (h : DocR B br v l p e w) : br < w.heap.size := h.doc.lt
theorem DocR.keep {S : Nat → Prop} (h : DocR B br v l p e w) (k : Keeps S w w') (hb : ¬ S br) (hv : ∀ j, v.ownBlock = some j → ¬ S j) : DocR B br v l p e w' := ⟨h.doc.keep k hb hv, h.le, h.small⟩
end
theorem one_set {w W : World} {br : Nat} {s : ByteArray} {l : List UInt8} {p : Nat} {e : Int} {i2 i3 : Nat} {cs : Array Value} {o : Obj} (h : OneR br s l p e W) (kE : W.heap[i3]? = some (.cells cs 50 (0, 0))) (kR : W.heap[i2]? = some o) (kk : Keeps (fun x => x = br) w W) (h3 : w.heap.size ≤ i3) (hb : br < w.heap.size) (h23 : i2 ≠ i3) (j : Nat) (u : Value) :
    OneR br s l p e (W.setCell ⟨i3, j, none⟩ u) ∧ (W.setCell ⟨i3, j, none⟩ u).heap[i3]? = some (.cells (cs.setIfInBounds j u) 50 (0, 0)) ∧ (W.setCell ⟨i3, j, none⟩ u).heap[i2]? = some o ∧ Keeps (fun x => x = br) w (W.setCell ⟨i3, j, none⟩ u) := by
  have k := (Keeps.refl (fun x => x = i3) W).setCell (p := ⟨i3, j, none⟩) (fun _ => rfl) u
  exact ⟨h.keep k (fun x => by omega), heap_setCell_same W i3 j _ _ u kE, (k.block i2 (Array.getElem?_eq_some_iff.1 kR).1 h23).trans kR, kk.setCell (p := ⟨i3, j, none⟩) (fun h => by simp only at h; omega) u⟩
theorem one_done {w W : World} {br : Nat} {s : ByteArray} {l : List UInt8} {p : Nat} {e : Int} {u0 u1 u2 u3 u4 : Value} (h : OneR br s l p e W) (kk : Keeps (fun x => x = br) w W) (hb : br < w.heap.size) :
    OneR br s l p e (((((W.setCell ⟨w.heap.size, 0, none⟩ u0).setCell ⟨w.heap.size, 1, none⟩ u1).setCell ⟨w.heap.size, 2, none⟩ u2).setCell ⟨w.heap.size, 3, none⟩ u3).setCell ⟨w.heap.size, 4, none⟩ u4) ∧ Keeps (fun x => x = br) w (((((W.setCell ⟨w.heap.size, 0, none⟩ u0).setCell ⟨w.heap.size, 1, none⟩ u1).setCell ⟨w.heap.size, 2, none⟩ u2).setCell ⟨w.heap.size, 3, none⟩ u3).setCell ⟨w.heap.size, 4, none⟩ u4) := by
  have k := (((((Keeps.refl (fun x => x = w.heap.size) W).setCell (p := ⟨w.heap.size, 0, none⟩) (fun _ => rfl) u0).setCell (p := ⟨w.heap.size, 1, none⟩) (fun _ => rfl) u1).setCell (p := ⟨w.heap.size, 2, none⟩) (fun _ => rfl) u2).setCell (p := ⟨w.heap.size, 3, none⟩) (fun _ => rfl) u3).setCell (p := ⟨w.heap.size, 4, none⟩) (fun _ => rfl) u4
  exact ⟨h.keep k (fun x => by omega), ((((kk.setCell (p := ⟨w.heap.size, 0, none⟩) (fun h => by simp at h) u0).setCell (p := ⟨w.heap.size, 1, none⟩) (fun h => by simp at h) u1).setCell (p := ⟨w.heap.size, 2, none⟩) (fun h => by simp at h) u2).setCell (p := ⟨w.heap.size, 3, none⟩) (fun h => by simp at h) u3).setCell (p := ⟨w.heap.size, 4, none⟩) (fun h => by simp at h) u4⟩
set_option maxRecDepth 100000 in
set_option maxHeartbeats 3200000 in
theorem get_000 (br : Nat) (s : ByteArray) (l : List UInt8) (p : Nat) (e : Int) (K : ByteArray) (tk : List UInt8) (c n : Int) (d : Bool) (V : ByteArray) (tv : List UInt8) (p1 p2 p3 p4 p5 : Nat) (e1 e2 e3 e4 e5 e6 : Int) (w : World) (h : OneR br s l p e w) (hK : (⟨tk.toArray⟩ : ByteArray) = K) (h1 : textSt l p e 16 = (tk, p1, e1)) (h2 : numSt l p1 e1 1099511627776 = (c, p2, e2)) (h3 : numSt l p2 e2 7 = (n, p3, e3)) (h4 : flagSt l p3 e3 = (false, p4, e4)) (hV : (⟨tv.toArray⟩ : ByteArray) = V) (h5 : textSt l p4 e4 32 = (tv, p5, e5)) (hc : (c == 0) = false) (he : e5 = 0) :
    Calls Try.prog 95 #[.pointer (some ⟨br, 0, none⟩)] w fun r w' => r = .returned (.agg #[.string K, .int .i64 c, .int .i64 n, .string V, .bool false]) ∧ OneR br s l p5 e5 w' ∧ Keeps (fun x => x = br) w w' := by
  have C1 := aside (fun w (h : OneR br s l p e w) => one_text_at (K := K) hK h1 h)
  have C2 := aside (fun w (h : OneR br s l p1 e1 w) => one_num_at h2 h)
  have C3 := aside (fun w (h : OneR br s l p2 e2 w) => one_num_at h3 h)
  have C4 := aside (fun w (h : OneR br s l p3 e3 w) => one_flag_at h4 h)
  have C5 := aside (fun w (h : OneR br s l p4 e4 w) => one_text_at (K := V) hV h5 h)
  have C7 := aside (fun w (h : OneR br s l p5 e5 w) => one_err_at h)
  have HE := aside he
  have hb := h.lt
  have H := aside h
  clear h hK h1 h2 h3 h4 hV h5 he
  have Z2 := heap_alloc_new w (.cells #[.string ⟨#[]⟩, .int .i64 0, .int .i64 0, .string ⟨#[]⟩, .bool false] 50)
  have Z3 := heap_alloc_new (w.alloc (.cells #[.string ⟨#[]⟩, .int .i64 0, .int .i64 0, .string ⟨#[]⟩, .bool false] 50)) (.cells #[.string ⟨#[]⟩, .int .i64 0, .int .i64 0, .string ⟨#[]⟩, .bool false] 50)
  rw [World.size_alloc] at Z3
  have kR := aside (blk_on Z2 (bnew _ (.cells #[.string ⟨#[]⟩, .int .i64 0, .int .i64 0, .string ⟨#[]⟩, .bool false] 50)))
  have kE := aside Z3
  have kk := aside (((Keeps.refl (fun x => x = br) w).alloc (.cells #[.string ⟨#[]⟩, .int .i64 0, .int .i64 0, .string ⟨#[]⟩, .bool false] 50)).alloc (.cells #[.string ⟨#[]⟩, .int .i64 0, .int .i64 0, .string ⟨#[]⟩, .bool false] 50))
  have RR := aside (H.out.keep (((Keeps.refl (fun _ => False) w).alloc (.cells #[.string ⟨#[]⟩, .int .i64 0, .int .i64 0, .string ⟨#[]⟩, .bool false] 50)).alloc (.cells #[.string ⟨#[]⟩, .int .i64 0, .int .i64 0, .string ⟨#[]⟩, .bool false] 50)) (fun h => h))
  have HB := aside hb
  clear Z2 Z3 H hb
  go_enter Try.func95, Try.ntmps95
  go_wp2_with fail
  refine (C1.out _ RR.out).mono ?_
  rintro r w1 ⟨rfl, R1, k1⟩
  have kE' := (k1.block (w.heap.size + 1) (Array.getElem?_eq_some_iff.1 kE.out).1 (fun h => by have := HB.out; omega)).trans kE.out
  have kR' := (k1.block w.heap.size (Array.getElem?_eq_some_iff.1 kR.out).1 (fun h => by have := HB.out; omega)).trans kR.out
  have kk' := kk.out.trans k1
  clear kE kR kk RR k1
  obtain ⟨⟨s0, s1, s2, s3, s4⟩, f0, f1, f2, f3, f4⟩ := quintF kE'
  obtain ⟨R1', kE2, kR2, kk2⟩ := one_set (cs := _) R1 kE' kR' kk' (Nat.le_succ _) HB.out (by omega) 0 (.string K)
  have kE3 : (w1.setCell ⟨w.heap.size + 1, 0, none⟩ (.string K)).heap[w.heap.size + 1]? = some (.cells #[.string K, .int .i64 0, .int .i64 0, .string ⟨#[]⟩, .bool false] 50 (0, 0)) := kE2
  have kE := aside kE3
  have kR := aside kR2
  have kk := aside kk2
  have RR := aside R1'
  clear kE' kR' kk' kE2 kE3 kR2 kk2 R1 R1'
  go_wp2_with fail
  refine (C2.out _ RR.out).mono ?_
  rintro r w2 ⟨rfl, R2, k2⟩
  have kE' := (k2.block (w.heap.size + 1) (Array.getElem?_eq_some_iff.1 kE.out).1 (fun h => by have := HB.out; omega)).trans kE.out
  have kR' := (k2.block w.heap.size (Array.getElem?_eq_some_iff.1 kR.out).1 (fun h => by have := HB.out; omega)).trans kR.out
  have kk' := kk.out.trans k2
  clear s0 s1 s2 s3 s4 f0 f1 f2 f3 f4
  clear kE kR kk RR k2
  obtain ⟨⟨s0, s1, s2, s3, s4⟩, f0, f1, f2, f3, f4⟩ := quintF kE'
  obtain ⟨R2', kE2, kR2, kk2⟩ := one_set (cs := _) R2 kE' kR' kk' (Nat.le_succ _) HB.out (by omega) 1 (.int .i64 c)
  have kE3 : (w2.setCell ⟨w.heap.size + 1, 1, none⟩ (.int .i64 c)).heap[w.heap.size + 1]? = some (.cells #[.string K, .int .i64 c, .int .i64 0, .string ⟨#[]⟩, .bool false] 50 (0, 0)) := kE2
  have kE := aside kE3
  have kR := aside kR2
  have kk := aside kk2
  have RR := aside R2'
  clear kE' kR' kk' kE2 kE3 kR2 kk2 R2 R2'
  go_wp2_with fail
  refine (C3.out _ RR.out).mono ?_
  rintro r w3 ⟨rfl, R3, k3⟩
  have kE' := (k3.block (w.heap.size + 1) (Array.getElem?_eq_some_iff.1 kE.out).1 (fun h => by have := HB.out; omega)).trans kE.out
  have kR' := (k3.block w.heap.size (Array.getElem?_eq_some_iff.1 kR.out).1 (fun h => by have := HB.out; omega)).trans kR.out
  have kk' := kk.out.trans k3
  clear s0 s1 s2 s3 s4 f0 f1 f2 f3 f4
  clear kE kR kk RR k3
  obtain ⟨⟨s0, s1, s2, s3, s4⟩, f0, f1, f2, f3, f4⟩ := quintF kE'
  obtain ⟨R3', kE2, kR2, kk2⟩ := one_set (cs := _) R3 kE' kR' kk' (Nat.le_succ _) HB.out (by omega) 2 (.int .i64 n)
  have kE3 : (w3.setCell ⟨w.heap.size + 1, 2, none⟩ (.int .i64 n)).heap[w.heap.size + 1]? = some (.cells #[.string K, .int .i64 c, .int .i64 n, .string ⟨#[]⟩, .bool false] 50 (0, 0)) := kE2
  have kE := aside kE3
  have kR := aside kR2
  have kk := aside kk2
  have RR := aside R3'
  clear kE' kR' kk' kE2 kE3 kR2 kk2 R3 R3'
  go_wp2_with fail
  refine (C4.out _ RR.out).mono ?_
  rintro r w4 ⟨rfl, R4, k4⟩
  have kE' := (k4.block (w.heap.size + 1) (Array.getElem?_eq_some_iff.1 kE.out).1 (fun h => by have := HB.out; omega)).trans kE.out
  have kR' := (k4.block w.heap.size (Array.getElem?_eq_some_iff.1 kR.out).1 (fun h => by have := HB.out; omega)).trans kR.out
  have kk' := kk.out.trans k4
  clear s0 s1 s2 s3 s4 f0 f1 f2 f3 f4
  clear kE kR kk RR k4
  obtain ⟨⟨s0, s1, s2, s3, s4⟩, f0, f1, f2, f3, f4⟩ := quintF kE'
  obtain ⟨R4', kE2, kR2, kk2⟩ := one_set (cs := _) R4 kE' kR' kk' (Nat.le_succ _) HB.out (by omega) 4 (.bool false)
  have kE3 : (w4.setCell ⟨w.heap.size + 1, 4, none⟩ (.bool false)).heap[w.heap.size + 1]? = some (.cells #[.string K, .int .i64 c, .int .i64 n, .string ⟨#[]⟩, .bool false] 50 (0, 0)) := kE2
  have kE := aside kE3
  have kR := aside kR2
  have kk := aside kk2
  have RR := aside R4'
  clear kE' kR' kk' kE2 kE3 kR2 kk2 R4 R4'
  go_wp2_with fail
  refine (C5.out _ RR.out).mono ?_
  rintro r w5 ⟨rfl, R5, k5⟩
  have kE' := (k5.block (w.heap.size + 1) (Array.getElem?_eq_some_iff.1 kE.out).1 (fun h => by have := HB.out; omega)).trans kE.out
  have kR' := (k5.block w.heap.size (Array.getElem?_eq_some_iff.1 kR.out).1 (fun h => by have := HB.out; omega)).trans kR.out
  have kk' := kk.out.trans k5
  clear s0 s1 s2 s3 s4 f0 f1 f2 f3 f4
  clear kE kR kk RR k5
  obtain ⟨⟨s0, s1, s2, s3, s4⟩, f0, f1, f2, f3, f4⟩ := quintF kE'
  obtain ⟨R5', kE2, kR2, kk2⟩ := one_set (cs := _) R5 kE' kR' kk' (Nat.le_succ _) HB.out (by omega) 3 (.string V)
  have kE3 : (w5.setCell ⟨w.heap.size + 1, 3, none⟩ (.string V)).heap[w.heap.size + 1]? = some (.cells #[.string K, .int .i64 c, .int .i64 n, .string V, .bool false] 50 (0, 0)) := kE2
  have kE := aside kE3
  have kR := aside kR2
  have kk := aside kk2
  have RR := aside R5'
  clear kE' kR' kk' kE2 kE3 kR2 kk2 R5 R5'
  obtain ⟨⟨x0, x1, x2, x3, x4⟩, y0, y1, y2, y3, y4⟩ := quintF kE.out
  go_wp2_with fail
  refine (C7.out _ RR.out).mono ?_
  rintro r w9 ⟨rfl, hw9⟩
  subst hw9
  obtain ⟨⟨t0, t1, t2, t3, t4⟩, g0, g1, g2, g3, g4⟩ := quintF kR.out
  rw [HE.out]
  go_wp2
  refine bodyPost_ret (v := .agg #[.string K, .int .i64 c, .int .i64 n, .string V, .bool false]) (by simp [results, Try.results95, go_sem, t0, t1, t2, t3, t4]) rfl ⟨rfl, ?_⟩
  exact one_done (RR.out) kk.out HB.out
set_option maxRecDepth 100000 in
set_option maxHeartbeats 3200000 in
theorem get_001 (br : Nat) (s : ByteArray) (l : List UInt8) (p : Nat) (e : Int) (K : ByteArray) (tk : List UInt8) (c n : Int) (d : Bool) (V : ByteArray) (tv : List UInt8) (p1 p2 p3 p4 p5 : Nat) (e1 e2 e3 e4 e5 e6 : Int) (w : World) (h : OneR br s l p e w) (hK : (⟨tk.toArray⟩ : ByteArray) = K) (h1 : textSt l p e 16 = (tk, p1, e1)) (h2 : numSt l p1 e1 1099511627776 = (c, p2, e2)) (h3 : numSt l p2 e2 7 = (n, p3, e3)) (h4 : flagSt l p3 e3 = (false, p4, e4)) (hV : (⟨tv.toArray⟩ : ByteArray) = V) (h5 : textSt l p4 e4 32 = (tv, p5, e5)) (hc : (c == 0) = false) (he : (e5 != 0) = true) :
    Calls Try.prog 95 #[.pointer (some ⟨br, 0, none⟩)] w fun r w' => r = .returned (.agg #[.string ⟨#[]⟩, .int .i64 0, .int .i64 0, .string ⟨#[]⟩, .bool false]) ∧ OneR br s l p5 e5 w' ∧ Keeps (fun x => x = br) w w' := by
  have C1 := aside (fun w (h : OneR br s l p e w) => one_text_at (K := K) hK h1 h)
  have C2 := aside (fun w (h : OneR br s l p1 e1 w) => one_num_at h2 h)
  have C3 := aside (fun w (h : OneR br s l p2 e2 w) => one_num_at h3 h)
  have C4 := aside (fun w (h : OneR br s l p3 e3 w) => one_flag_at h4 h)
  have C5 := aside (fun w (h : OneR br s l p4 e4 w) => one_text_at (K := V) hV h5 h)
  have C7 := aside (fun w (h : OneR br s l p5 e5 w) => one_err_at h)
  have hb := h.lt
  have H := aside h
  clear h hK h1 h2 h3 h4 hV h5
  have Z2 := heap_alloc_new w (.cells #[.string ⟨#[]⟩, .int .i64 0, .int .i64 0, .string ⟨#[]⟩, .bool false] 50)
  have Z3 := heap_alloc_new (w.alloc (.cells #[.string ⟨#[]⟩, .int .i64 0, .int .i64 0, .string ⟨#[]⟩, .bool false] 50)) (.cells #[.string ⟨#[]⟩, .int .i64 0, .int .i64 0, .string ⟨#[]⟩, .bool false] 50)
  rw [World.size_alloc] at Z3
  have kR := aside (blk_on Z2 (bnew _ (.cells #[.string ⟨#[]⟩, .int .i64 0, .int .i64 0, .string ⟨#[]⟩, .bool false] 50)))
  have kE := aside Z3
  have kk := aside (((Keeps.refl (fun x => x = br) w).alloc (.cells #[.string ⟨#[]⟩, .int .i64 0, .int .i64 0, .string ⟨#[]⟩, .bool false] 50)).alloc (.cells #[.string ⟨#[]⟩, .int .i64 0, .int .i64 0, .string ⟨#[]⟩, .bool false] 50))
  have RR := aside (H.out.keep (((Keeps.refl (fun _ => False) w).alloc (.cells #[.string ⟨#[]⟩, .int .i64 0, .int .i64 0, .string ⟨#[]⟩, .bool false] 50)).alloc (.cells #[.string ⟨#[]⟩, .int .i64 0, .int .i64 0, .string ⟨#[]⟩, .bool false] 50)) (fun h => h))
  have HB := aside hb
  clear Z2 Z3 H hb
  go_enter Try.func95, Try.ntmps95
  go_wp2_with fail
  refine (C1.out _ RR.out).mono ?_
  rintro r w1 ⟨rfl, R1, k1⟩
  have kE' := (k1.block (w.heap.size + 1) (Array.getElem?_eq_some_iff.1 kE.out).1 (fun h => by have := HB.out; omega)).trans kE.out
  have kR' := (k1.block w.heap.size (Array.getElem?_eq_some_iff.1 kR.out).1 (fun h => by have := HB.out; omega)).trans kR.out
  have kk' := kk.out.trans k1
  clear kE kR kk RR k1
  obtain ⟨⟨s0, s1, s2, s3, s4⟩, f0, f1, f2, f3, f4⟩ := quintF kE'
  obtain ⟨R1', kE2, kR2, kk2⟩ := one_set (cs := _) R1 kE' kR' kk' (Nat.le_succ _) HB.out (by omega) 0 (.string K)
  have kE3 : (w1.setCell ⟨w.heap.size + 1, 0, none⟩ (.string K)).heap[w.heap.size + 1]? = some (.cells #[.string K, .int .i64 0, .int .i64 0, .string ⟨#[]⟩, .bool false] 50 (0, 0)) := kE2
  have kE := aside kE3
  have kR := aside kR2
  have kk := aside kk2
  have RR := aside R1'
  clear kE' kR' kk' kE2 kE3 kR2 kk2 R1 R1'
  go_wp2_with fail
  refine (C2.out _ RR.out).mono ?_
  rintro r w2 ⟨rfl, R2, k2⟩
  have kE' := (k2.block (w.heap.size + 1) (Array.getElem?_eq_some_iff.1 kE.out).1 (fun h => by have := HB.out; omega)).trans kE.out
  have kR' := (k2.block w.heap.size (Array.getElem?_eq_some_iff.1 kR.out).1 (fun h => by have := HB.out; omega)).trans kR.out
  have kk' := kk.out.trans k2
  clear s0 s1 s2 s3 s4 f0 f1 f2 f3 f4
  clear kE kR kk RR k2
  obtain ⟨⟨s0, s1, s2, s3, s4⟩, f0, f1, f2, f3, f4⟩ := quintF kE'
  obtain ⟨R2', kE2, kR2, kk2⟩ := one_set (cs := _) R2 kE' kR' kk' (Nat.le_succ _) HB.out (by omega) 1 (.int .i64 c)
  have kE3 : (w2.setCell ⟨w.heap.size + 1, 1, none⟩ (.int .i64 c)).heap[w.heap.size + 1]? = some (.cells #[.string K, .int .i64 c, .int .i64 0, .string ⟨#[]⟩, .bool false] 50 (0, 0)) := kE2
  have kE := aside kE3
  have kR := aside kR2
  have kk := aside kk2
  have RR := aside R2'
  clear kE' kR' kk' kE2 kE3 kR2 kk2 R2 R2'
  go_wp2_with fail
  refine (C3.out _ RR.out).mono ?_
  rintro r w3 ⟨rfl, R3, k3⟩
  have kE' := (k3.block (w.heap.size + 1) (Array.getElem?_eq_some_iff.1 kE.out).1 (fun h => by have := HB.out; omega)).trans kE.out
  have kR' := (k3.block w.heap.size (Array.getElem?_eq_some_iff.1 kR.out).1 (fun h => by have := HB.out; omega)).trans kR.out
  have kk' := kk.out.trans k3
  clear s0 s1 s2 s3 s4 f0 f1 f2 f3 f4
  clear kE kR kk RR k3
  obtain ⟨⟨s0, s1, s2, s3, s4⟩, f0, f1, f2, f3, f4⟩ := quintF kE'
  obtain ⟨R3', kE2, kR2, kk2⟩ := one_set (cs := _) R3 kE' kR' kk' (Nat.le_succ _) HB.out (by omega) 2 (.int .i64 n)
  have kE3 : (w3.setCell ⟨w.heap.size + 1, 2, none⟩ (.int .i64 n)).heap[w.heap.size + 1]? = some (.cells #[.string K, .int .i64 c, .int .i64 n, .string ⟨#[]⟩, .bool false] 50 (0, 0)) := kE2
  have kE := aside kE3
  have kR := aside kR2
  have kk := aside kk2
  have RR := aside R3'
  clear kE' kR' kk' kE2 kE3 kR2 kk2 R3 R3'
  go_wp2_with fail
  refine (C4.out _ RR.out).mono ?_
  rintro r w4 ⟨rfl, R4, k4⟩
  have kE' := (k4.block (w.heap.size + 1) (Array.getElem?_eq_some_iff.1 kE.out).1 (fun h => by have := HB.out; omega)).trans kE.out
  have kR' := (k4.block w.heap.size (Array.getElem?_eq_some_iff.1 kR.out).1 (fun h => by have := HB.out; omega)).trans kR.out
  have kk' := kk.out.trans k4
  clear s0 s1 s2 s3 s4 f0 f1 f2 f3 f4
  clear kE kR kk RR k4
  obtain ⟨⟨s0, s1, s2, s3, s4⟩, f0, f1, f2, f3, f4⟩ := quintF kE'
  obtain ⟨R4', kE2, kR2, kk2⟩ := one_set (cs := _) R4 kE' kR' kk' (Nat.le_succ _) HB.out (by omega) 4 (.bool false)
  have kE3 : (w4.setCell ⟨w.heap.size + 1, 4, none⟩ (.bool false)).heap[w.heap.size + 1]? = some (.cells #[.string K, .int .i64 c, .int .i64 n, .string ⟨#[]⟩, .bool false] 50 (0, 0)) := kE2
  have kE := aside kE3
  have kR := aside kR2
  have kk := aside kk2
  have RR := aside R4'
  clear kE' kR' kk' kE2 kE3 kR2 kk2 R4 R4'
  go_wp2_with fail
  refine (C5.out _ RR.out).mono ?_
  rintro r w5 ⟨rfl, R5, k5⟩
  have kE' := (k5.block (w.heap.size + 1) (Array.getElem?_eq_some_iff.1 kE.out).1 (fun h => by have := HB.out; omega)).trans kE.out
  have kR' := (k5.block w.heap.size (Array.getElem?_eq_some_iff.1 kR.out).1 (fun h => by have := HB.out; omega)).trans kR.out
  have kk' := kk.out.trans k5
  clear s0 s1 s2 s3 s4 f0 f1 f2 f3 f4
  clear kE kR kk RR k5
  obtain ⟨⟨s0, s1, s2, s3, s4⟩, f0, f1, f2, f3, f4⟩ := quintF kE'
  obtain ⟨R5', kE2, kR2, kk2⟩ := one_set (cs := _) R5 kE' kR' kk' (Nat.le_succ _) HB.out (by omega) 3 (.string V)
  have kE3 : (w5.setCell ⟨w.heap.size + 1, 3, none⟩ (.string V)).heap[w.heap.size + 1]? = some (.cells #[.string K, .int .i64 c, .int .i64 n, .string V, .bool false] 50 (0, 0)) := kE2
  have kE := aside kE3
  have kR := aside kR2
  have kk := aside kk2
  have RR := aside R5'
  clear kE' kR' kk' kE2 kE3 kR2 kk2 R5 R5'
  obtain ⟨⟨x0, x1, x2, x3, x4⟩, y0, y1, y2, y3, y4⟩ := quintF kE.out
  go_wp2_with fail
  refine (C7.out _ RR.out).mono ?_
  rintro r w9 ⟨rfl, hw9⟩
  subst hw9
  obtain ⟨⟨t0, t1, t2, t3, t4⟩, g0, g1, g2, g3, g4⟩ := quintF kR.out
  go_wp2
  refine bodyPost_ret (v := .agg #[.string ⟨#[]⟩, .int .i64 0, .int .i64 0, .string ⟨#[]⟩, .bool false]) (by simp [results, Try.results95, go_sem, t0, t1, t2, t3, t4]) rfl ⟨rfl, ?_⟩
  exact one_done RR.out kk.out HB.out
set_option maxRecDepth 100000 in
set_option maxHeartbeats 3200000 in
theorem get_011 (br : Nat) (s : ByteArray) (l : List UInt8) (p : Nat) (e : Int) (K : ByteArray) (tk : List UInt8) (c n : Int) (d : Bool) (V : ByteArray) (tv : List UInt8) (p1 p2 p3 p4 p5 : Nat) (e1 e2 e3 e4 e5 e6 : Int) (w : World) (h : OneR br s l p e w) (hK : (⟨tk.toArray⟩ : ByteArray) = K) (h1 : textSt l p e 16 = (tk, p1, e1)) (h2 : numSt l p1 e1 1099511627776 = (c, p2, e2)) (h3 : numSt l p2 e2 7 = (n, p3, e3)) (h4 : flagSt l p3 e3 = (false, p4, e4)) (hV : (⟨tv.toArray⟩ : ByteArray) = V) (h5 : textSt l p4 e4 32 = (tv, p5, e5)) (hc : c = 0) (h6 : failOf e5 30 = e6) (he : (e6 != 0) = true) :
    Calls Try.prog 95 #[.pointer (some ⟨br, 0, none⟩)] w fun r w' => r = .returned (.agg #[.string ⟨#[]⟩, .int .i64 0, .int .i64 0, .string ⟨#[]⟩, .bool false]) ∧ OneR br s l p5 e6 w' ∧ Keeps (fun x => x = br) w w' := by
  have C1 := aside (fun w (h : OneR br s l p e w) => one_text_at (K := K) hK h1 h)
  have C2 := aside (fun w (h : OneR br s l p1 e1 w) => one_num_at h2 h)
  have C3 := aside (fun w (h : OneR br s l p2 e2 w) => one_num_at h3 h)
  have C4 := aside (fun w (h : OneR br s l p3 e3 w) => one_flag_at h4 h)
  have C5 := aside (fun w (h : OneR br s l p4 e4 w) => one_text_at (K := V) hV h5 h)
  have C6 := aside (fun w (h : OneR br s l p5 e5 w) => one_fail_at h6 h)
  have C7 := aside (fun w (h : OneR br s l p5 e6 w) => one_err_at h)
  subst hc
  have hb := h.lt
  have H := aside h
  clear h hK h1 h2 h3 h4 hV h5 h6
  have Z2 := heap_alloc_new w (.cells #[.string ⟨#[]⟩, .int .i64 0, .int .i64 0, .string ⟨#[]⟩, .bool false] 50)
  have Z3 := heap_alloc_new (w.alloc (.cells #[.string ⟨#[]⟩, .int .i64 0, .int .i64 0, .string ⟨#[]⟩, .bool false] 50)) (.cells #[.string ⟨#[]⟩, .int .i64 0, .int .i64 0, .string ⟨#[]⟩, .bool false] 50)
  rw [World.size_alloc] at Z3
  have kR := aside (blk_on Z2 (bnew _ (.cells #[.string ⟨#[]⟩, .int .i64 0, .int .i64 0, .string ⟨#[]⟩, .bool false] 50)))
  have kE := aside Z3
  have kk := aside (((Keeps.refl (fun x => x = br) w).alloc (.cells #[.string ⟨#[]⟩, .int .i64 0, .int .i64 0, .string ⟨#[]⟩, .bool false] 50)).alloc (.cells #[.string ⟨#[]⟩, .int .i64 0, .int .i64 0, .string ⟨#[]⟩, .bool false] 50))
  have RR := aside (H.out.keep (((Keeps.refl (fun _ => False) w).alloc (.cells #[.string ⟨#[]⟩, .int .i64 0, .int .i64 0, .string ⟨#[]⟩, .bool false] 50)).alloc (.cells #[.string ⟨#[]⟩, .int .i64 0, .int .i64 0, .string ⟨#[]⟩, .bool false] 50)) (fun h => h))
  have HB := aside hb
  clear Z2 Z3 H hb
  go_enter Try.func95, Try.ntmps95
  go_wp2_with fail
  refine (C1.out _ RR.out).mono ?_
  rintro r w1 ⟨rfl, R1, k1⟩
  have kE' := (k1.block (w.heap.size + 1) (Array.getElem?_eq_some_iff.1 kE.out).1 (fun h => by have := HB.out; omega)).trans kE.out
  have kR' := (k1.block w.heap.size (Array.getElem?_eq_some_iff.1 kR.out).1 (fun h => by have := HB.out; omega)).trans kR.out
  have kk' := kk.out.trans k1
  clear kE kR kk RR k1
  obtain ⟨⟨s0, s1, s2, s3, s4⟩, f0, f1, f2, f3, f4⟩ := quintF kE'
  obtain ⟨R1', kE2, kR2, kk2⟩ := one_set (cs := _) R1 kE' kR' kk' (Nat.le_succ _) HB.out (by omega) 0 (.string K)
  have kE3 : (w1.setCell ⟨w.heap.size + 1, 0, none⟩ (.string K)).heap[w.heap.size + 1]? = some (.cells #[.string K, .int .i64 0, .int .i64 0, .string ⟨#[]⟩, .bool false] 50 (0, 0)) := kE2
  have kE := aside kE3
  have kR := aside kR2
  have kk := aside kk2
  have RR := aside R1'
  clear kE' kR' kk' kE2 kE3 kR2 kk2 R1 R1'
  go_wp2_with fail
  refine (C2.out _ RR.out).mono ?_
  rintro r w2 ⟨rfl, R2, k2⟩
  have kE' := (k2.block (w.heap.size + 1) (Array.getElem?_eq_some_iff.1 kE.out).1 (fun h => by have := HB.out; omega)).trans kE.out
  have kR' := (k2.block w.heap.size (Array.getElem?_eq_some_iff.1 kR.out).1 (fun h => by have := HB.out; omega)).trans kR.out
  have kk' := kk.out.trans k2
  clear s0 s1 s2 s3 s4 f0 f1 f2 f3 f4
  clear kE kR kk RR k2
  obtain ⟨⟨s0, s1, s2, s3, s4⟩, f0, f1, f2, f3, f4⟩ := quintF kE'
  obtain ⟨R2', kE2, kR2, kk2⟩ := one_set (cs := _) R2 kE' kR' kk' (Nat.le_succ _) HB.out (by omega) 1 (.int .i64 0)
  have kE3 : (w2.setCell ⟨w.heap.size + 1, 1, none⟩ (.int .i64 0)).heap[w.heap.size + 1]? = some (.cells #[.string K, .int .i64 0, .int .i64 0, .string ⟨#[]⟩, .bool false] 50 (0, 0)) := kE2
  have kE := aside kE3
  have kR := aside kR2
  have kk := aside kk2
  have RR := aside R2'
  clear kE' kR' kk' kE2 kE3 kR2 kk2 R2 R2'
  go_wp2_with fail
  refine (C3.out _ RR.out).mono ?_
  rintro r w3 ⟨rfl, R3, k3⟩
  have kE' := (k3.block (w.heap.size + 1) (Array.getElem?_eq_some_iff.1 kE.out).1 (fun h => by have := HB.out; omega)).trans kE.out
  have kR' := (k3.block w.heap.size (Array.getElem?_eq_some_iff.1 kR.out).1 (fun h => by have := HB.out; omega)).trans kR.out
  have kk' := kk.out.trans k3
  clear s0 s1 s2 s3 s4 f0 f1 f2 f3 f4
  clear kE kR kk RR k3
  obtain ⟨⟨s0, s1, s2, s3, s4⟩, f0, f1, f2, f3, f4⟩ := quintF kE'
  obtain ⟨R3', kE2, kR2, kk2⟩ := one_set (cs := _) R3 kE' kR' kk' (Nat.le_succ _) HB.out (by omega) 2 (.int .i64 n)
  have kE3 : (w3.setCell ⟨w.heap.size + 1, 2, none⟩ (.int .i64 n)).heap[w.heap.size + 1]? = some (.cells #[.string K, .int .i64 0, .int .i64 n, .string ⟨#[]⟩, .bool false] 50 (0, 0)) := kE2
  have kE := aside kE3
  have kR := aside kR2
  have kk := aside kk2
  have RR := aside R3'
  clear kE' kR' kk' kE2 kE3 kR2 kk2 R3 R3'
  go_wp2_with fail
  refine (C4.out _ RR.out).mono ?_
  rintro r w4 ⟨rfl, R4, k4⟩
  have kE' := (k4.block (w.heap.size + 1) (Array.getElem?_eq_some_iff.1 kE.out).1 (fun h => by have := HB.out; omega)).trans kE.out
  have kR' := (k4.block w.heap.size (Array.getElem?_eq_some_iff.1 kR.out).1 (fun h => by have := HB.out; omega)).trans kR.out
  have kk' := kk.out.trans k4
  clear s0 s1 s2 s3 s4 f0 f1 f2 f3 f4
  clear kE kR kk RR k4
  obtain ⟨⟨s0, s1, s2, s3, s4⟩, f0, f1, f2, f3, f4⟩ := quintF kE'
  obtain ⟨R4', kE2, kR2, kk2⟩ := one_set (cs := _) R4 kE' kR' kk' (Nat.le_succ _) HB.out (by omega) 4 (.bool false)
  have kE3 : (w4.setCell ⟨w.heap.size + 1, 4, none⟩ (.bool false)).heap[w.heap.size + 1]? = some (.cells #[.string K, .int .i64 0, .int .i64 n, .string ⟨#[]⟩, .bool false] 50 (0, 0)) := kE2
  have kE := aside kE3
  have kR := aside kR2
  have kk := aside kk2
  have RR := aside R4'
  clear kE' kR' kk' kE2 kE3 kR2 kk2 R4 R4'
  go_wp2_with fail
  refine (C5.out _ RR.out).mono ?_
  rintro r w5 ⟨rfl, R5, k5⟩
  have kE' := (k5.block (w.heap.size + 1) (Array.getElem?_eq_some_iff.1 kE.out).1 (fun h => by have := HB.out; omega)).trans kE.out
  have kR' := (k5.block w.heap.size (Array.getElem?_eq_some_iff.1 kR.out).1 (fun h => by have := HB.out; omega)).trans kR.out
  have kk' := kk.out.trans k5
  clear s0 s1 s2 s3 s4 f0 f1 f2 f3 f4
  clear kE kR kk RR k5
  obtain ⟨⟨s0, s1, s2, s3, s4⟩, f0, f1, f2, f3, f4⟩ := quintF kE'
  obtain ⟨R5', kE2, kR2, kk2⟩ := one_set (cs := _) R5 kE' kR' kk' (Nat.le_succ _) HB.out (by omega) 3 (.string V)
  have kE3 : (w5.setCell ⟨w.heap.size + 1, 3, none⟩ (.string V)).heap[w.heap.size + 1]? = some (.cells #[.string K, .int .i64 0, .int .i64 n, .string V, .bool false] 50 (0, 0)) := kE2
  have kE := aside kE3
  have kR := aside kR2
  have kk := aside kk2
  have RR := aside R5'
  clear kE' kR' kk' kE2 kE3 kR2 kk2 R5 R5'
  obtain ⟨⟨x0, x1, x2, x3, x4⟩, y0, y1, y2, y3, y4⟩ := quintF kE.out
  go_wp2_with fail
  refine (C6.out _ RR.out).mono ?_
  rintro r w8 ⟨rfl, R8, k8⟩
  have kE' := (k8.block (w.heap.size + 1) (Array.getElem?_eq_some_iff.1 kE.out).1 (fun h => by have := HB.out; omega)).trans kE.out
  have kR' := (k8.block w.heap.size (Array.getElem?_eq_some_iff.1 kR.out).1 (fun h => by have := HB.out; omega)).trans kR.out
  have kk' := kk.out.trans k8
  clear s0 s1 s2 s3 s4 f0 f1 f2 f3 f4 x0 x1 x2 x3 x4 y0 y1 y2 y3 y4
  clear kE kR kk RR k8
  have kE := aside kE'
  have kR := aside kR'
  have kk := aside kk'
  have RR := aside R8
  clear kE' kR' kk' R8
  obtain ⟨⟨s0, s1, s2, s3, s4⟩, f0, f1, f2, f3, f4⟩ := quintF kE.out
  go_wp2_with fail
  refine (C7.out _ RR.out).mono ?_
  rintro r w9 ⟨rfl, hw9⟩
  subst hw9
  obtain ⟨⟨t0, t1, t2, t3, t4⟩, g0, g1, g2, g3, g4⟩ := quintF kR.out
  go_wp2
  refine bodyPost_ret (v := .agg #[.string ⟨#[]⟩, .int .i64 0, .int .i64 0, .string ⟨#[]⟩, .bool false]) (by simp [results, Try.results95, go_sem, t0, t1, t2, t3, t4]) rfl ⟨rfl, ?_⟩
  exact one_done RR.out kk.out HB.out
set_option maxRecDepth 100000 in
set_option maxHeartbeats 3200000 in
theorem get_100 (br : Nat) (s : ByteArray) (l : List UInt8) (p : Nat) (e : Int) (K : ByteArray) (tk : List UInt8) (c n : Int) (d : Bool) (V : ByteArray) (tv : List UInt8) (p1 p2 p3 p4 p5 : Nat) (e1 e2 e3 e4 e5 e6 : Int) (w : World) (h : OneR br s l p e w) (hK : (⟨tk.toArray⟩ : ByteArray) = K) (h1 : textSt l p e 16 = (tk, p1, e1)) (h2 : numSt l p1 e1 1099511627776 = (c, p2, e2)) (h3 : numSt l p2 e2 7 = (n, p3, e3)) (h4 : flagSt l p3 e3 = (true, p4, e4)) (hc : (c == 0) = false) (he : e4 = 0) :
    Calls Try.prog 95 #[.pointer (some ⟨br, 0, none⟩)] w fun r w' => r = .returned (.agg #[.string K, .int .i64 c, .int .i64 n, .string ⟨#[]⟩, .bool true]) ∧ OneR br s l p4 e4 w' ∧ Keeps (fun x => x = br) w w' := by
  have C1 := aside (fun w (h : OneR br s l p e w) => one_text_at (K := K) hK h1 h)
  have C2 := aside (fun w (h : OneR br s l p1 e1 w) => one_num_at h2 h)
  have C3 := aside (fun w (h : OneR br s l p2 e2 w) => one_num_at h3 h)
  have C4 := aside (fun w (h : OneR br s l p3 e3 w) => one_flag_at h4 h)
  have C7 := aside (fun w (h : OneR br s l p4 e4 w) => one_err_at h)
  have HE := aside he
  have hb := h.lt
  have H := aside h
  clear h hK h1 h2 h3 h4 he
  have Z2 := heap_alloc_new w (.cells #[.string ⟨#[]⟩, .int .i64 0, .int .i64 0, .string ⟨#[]⟩, .bool false] 50)
  have Z3 := heap_alloc_new (w.alloc (.cells #[.string ⟨#[]⟩, .int .i64 0, .int .i64 0, .string ⟨#[]⟩, .bool false] 50)) (.cells #[.string ⟨#[]⟩, .int .i64 0, .int .i64 0, .string ⟨#[]⟩, .bool false] 50)
  rw [World.size_alloc] at Z3
  have kR := aside (blk_on Z2 (bnew _ (.cells #[.string ⟨#[]⟩, .int .i64 0, .int .i64 0, .string ⟨#[]⟩, .bool false] 50)))
  have kE := aside Z3
  have kk := aside (((Keeps.refl (fun x => x = br) w).alloc (.cells #[.string ⟨#[]⟩, .int .i64 0, .int .i64 0, .string ⟨#[]⟩, .bool false] 50)).alloc (.cells #[.string ⟨#[]⟩, .int .i64 0, .int .i64 0, .string ⟨#[]⟩, .bool false] 50))
  have RR := aside (H.out.keep (((Keeps.refl (fun _ => False) w).alloc (.cells #[.string ⟨#[]⟩, .int .i64 0, .int .i64 0, .string ⟨#[]⟩, .bool false] 50)).alloc (.cells #[.string ⟨#[]⟩, .int .i64 0, .int .i64 0, .string ⟨#[]⟩, .bool false] 50)) (fun h => h))
  have HB := aside hb
  clear Z2 Z3 H hb
  go_enter Try.func95, Try.ntmps95
  go_wp2_with fail
  refine (C1.out _ RR.out).mono ?_
  rintro r w1 ⟨rfl, R1, k1⟩
  have kE' := (k1.block (w.heap.size + 1) (Array.getElem?_eq_some_iff.1 kE.out).1 (fun h => by have := HB.out; omega)).trans kE.out
  have kR' := (k1.block w.heap.size (Array.getElem?_eq_some_iff.1 kR.out).1 (fun h => by have := HB.out; omega)).trans kR.out
  have kk' := kk.out.trans k1
  clear kE kR kk RR k1
  obtain ⟨⟨s0, s1, s2, s3, s4⟩, f0, f1, f2, f3, f4⟩ := quintF kE'
  obtain ⟨R1', kE2, kR2, kk2⟩ := one_set (cs := _) R1 kE' kR' kk' (Nat.le_succ _) HB.out (by omega) 0 (.string K)
  have kE3 : (w1.setCell ⟨w.heap.size + 1, 0, none⟩ (.string K)).heap[w.heap.size + 1]? = some (.cells #[.string K, .int .i64 0, .int .i64 0, .string ⟨#[]⟩, .bool false] 50 (0, 0)) := kE2
  have kE := aside kE3
  have kR := aside kR2
  have kk := aside kk2
  have RR := aside R1'
  clear kE' kR' kk' kE2 kE3 kR2 kk2 R1 R1'
  go_wp2_with fail
  refine (C2.out _ RR.out).mono ?_
  rintro r w2 ⟨rfl, R2, k2⟩
  have kE' := (k2.block (w.heap.size + 1) (Array.getElem?_eq_some_iff.1 kE.out).1 (fun h => by have := HB.out; omega)).trans kE.out
  have kR' := (k2.block w.heap.size (Array.getElem?_eq_some_iff.1 kR.out).1 (fun h => by have := HB.out; omega)).trans kR.out
  have kk' := kk.out.trans k2
  clear s0 s1 s2 s3 s4 f0 f1 f2 f3 f4
  clear kE kR kk RR k2
  obtain ⟨⟨s0, s1, s2, s3, s4⟩, f0, f1, f2, f3, f4⟩ := quintF kE'
  obtain ⟨R2', kE2, kR2, kk2⟩ := one_set (cs := _) R2 kE' kR' kk' (Nat.le_succ _) HB.out (by omega) 1 (.int .i64 c)
  have kE3 : (w2.setCell ⟨w.heap.size + 1, 1, none⟩ (.int .i64 c)).heap[w.heap.size + 1]? = some (.cells #[.string K, .int .i64 c, .int .i64 0, .string ⟨#[]⟩, .bool false] 50 (0, 0)) := kE2
  have kE := aside kE3
  have kR := aside kR2
  have kk := aside kk2
  have RR := aside R2'
  clear kE' kR' kk' kE2 kE3 kR2 kk2 R2 R2'
  go_wp2_with fail
  refine (C3.out _ RR.out).mono ?_
  rintro r w3 ⟨rfl, R3, k3⟩
  have kE' := (k3.block (w.heap.size + 1) (Array.getElem?_eq_some_iff.1 kE.out).1 (fun h => by have := HB.out; omega)).trans kE.out
  have kR' := (k3.block w.heap.size (Array.getElem?_eq_some_iff.1 kR.out).1 (fun h => by have := HB.out; omega)).trans kR.out
  have kk' := kk.out.trans k3
  clear s0 s1 s2 s3 s4 f0 f1 f2 f3 f4
  clear kE kR kk RR k3
  obtain ⟨⟨s0, s1, s2, s3, s4⟩, f0, f1, f2, f3, f4⟩ := quintF kE'
  obtain ⟨R3', kE2, kR2, kk2⟩ := one_set (cs := _) R3 kE' kR' kk' (Nat.le_succ _) HB.out (by omega) 2 (.int .i64 n)
  have kE3 : (w3.setCell ⟨w.heap.size + 1, 2, none⟩ (.int .i64 n)).heap[w.heap.size + 1]? = some (.cells #[.string K, .int .i64 c, .int .i64 n, .string ⟨#[]⟩, .bool false] 50 (0, 0)) := kE2
  have kE := aside kE3
  have kR := aside kR2
  have kk := aside kk2
  have RR := aside R3'
  clear kE' kR' kk' kE2 kE3 kR2 kk2 R3 R3'
  go_wp2_with fail
  refine (C4.out _ RR.out).mono ?_
  rintro r w4 ⟨rfl, R4, k4⟩
  have kE' := (k4.block (w.heap.size + 1) (Array.getElem?_eq_some_iff.1 kE.out).1 (fun h => by have := HB.out; omega)).trans kE.out
  have kR' := (k4.block w.heap.size (Array.getElem?_eq_some_iff.1 kR.out).1 (fun h => by have := HB.out; omega)).trans kR.out
  have kk' := kk.out.trans k4
  clear s0 s1 s2 s3 s4 f0 f1 f2 f3 f4
  clear kE kR kk RR k4
  obtain ⟨⟨s0, s1, s2, s3, s4⟩, f0, f1, f2, f3, f4⟩ := quintF kE'
  obtain ⟨R4', kE2, kR2, kk2⟩ := one_set (cs := _) R4 kE' kR' kk' (Nat.le_succ _) HB.out (by omega) 4 (.bool true)
  have kE3 : (w4.setCell ⟨w.heap.size + 1, 4, none⟩ (.bool true)).heap[w.heap.size + 1]? = some (.cells #[.string K, .int .i64 c, .int .i64 n, .string ⟨#[]⟩, .bool true] 50 (0, 0)) := kE2
  have kE := aside kE3
  have kR := aside kR2
  have kk := aside kk2
  have RR := aside R4'
  clear kE' kR' kk' kE2 kE3 kR2 kk2 R4 R4'
  obtain ⟨⟨x0, x1, x2, x3, x4⟩, y0, y1, y2, y3, y4⟩ := quintF kE.out
  go_wp2_with fail
  refine (C7.out _ RR.out).mono ?_
  rintro r w9 ⟨rfl, hw9⟩
  subst hw9
  obtain ⟨⟨t0, t1, t2, t3, t4⟩, g0, g1, g2, g3, g4⟩ := quintF kR.out
  rw [HE.out]
  go_wp2
  refine bodyPost_ret (v := .agg #[.string K, .int .i64 c, .int .i64 n, .string ⟨#[]⟩, .bool true]) (by simp [results, Try.results95, go_sem, t0, t1, t2, t3, t4]) rfl ⟨rfl, ?_⟩
  exact one_done (RR.out) kk.out HB.out
set_option maxRecDepth 100000 in
set_option maxHeartbeats 3200000 in
theorem get_101 (br : Nat) (s : ByteArray) (l : List UInt8) (p : Nat) (e : Int) (K : ByteArray) (tk : List UInt8) (c n : Int) (d : Bool) (V : ByteArray) (tv : List UInt8) (p1 p2 p3 p4 p5 : Nat) (e1 e2 e3 e4 e5 e6 : Int) (w : World) (h : OneR br s l p e w) (hK : (⟨tk.toArray⟩ : ByteArray) = K) (h1 : textSt l p e 16 = (tk, p1, e1)) (h2 : numSt l p1 e1 1099511627776 = (c, p2, e2)) (h3 : numSt l p2 e2 7 = (n, p3, e3)) (h4 : flagSt l p3 e3 = (true, p4, e4)) (hc : (c == 0) = false) (he : (e4 != 0) = true) :
    Calls Try.prog 95 #[.pointer (some ⟨br, 0, none⟩)] w fun r w' => r = .returned (.agg #[.string ⟨#[]⟩, .int .i64 0, .int .i64 0, .string ⟨#[]⟩, .bool false]) ∧ OneR br s l p4 e4 w' ∧ Keeps (fun x => x = br) w w' := by
  have C1 := aside (fun w (h : OneR br s l p e w) => one_text_at (K := K) hK h1 h)
  have C2 := aside (fun w (h : OneR br s l p1 e1 w) => one_num_at h2 h)
  have C3 := aside (fun w (h : OneR br s l p2 e2 w) => one_num_at h3 h)
  have C4 := aside (fun w (h : OneR br s l p3 e3 w) => one_flag_at h4 h)
  have C7 := aside (fun w (h : OneR br s l p4 e4 w) => one_err_at h)
  have hb := h.lt
  have H := aside h
  clear h hK h1 h2 h3 h4
  have Z2 := heap_alloc_new w (.cells #[.string ⟨#[]⟩, .int .i64 0, .int .i64 0, .string ⟨#[]⟩, .bool false] 50)
  have Z3 := heap_alloc_new (w.alloc (.cells #[.string ⟨#[]⟩, .int .i64 0, .int .i64 0, .string ⟨#[]⟩, .bool false] 50)) (.cells #[.string ⟨#[]⟩, .int .i64 0, .int .i64 0, .string ⟨#[]⟩, .bool false] 50)
  rw [World.size_alloc] at Z3
  have kR := aside (blk_on Z2 (bnew _ (.cells #[.string ⟨#[]⟩, .int .i64 0, .int .i64 0, .string ⟨#[]⟩, .bool false] 50)))
  have kE := aside Z3
  have kk := aside (((Keeps.refl (fun x => x = br) w).alloc (.cells #[.string ⟨#[]⟩, .int .i64 0, .int .i64 0, .string ⟨#[]⟩, .bool false] 50)).alloc (.cells #[.string ⟨#[]⟩, .int .i64 0, .int .i64 0, .string ⟨#[]⟩, .bool false] 50))
  have RR := aside (H.out.keep (((Keeps.refl (fun _ => False) w).alloc (.cells #[.string ⟨#[]⟩, .int .i64 0, .int .i64 0, .string ⟨#[]⟩, .bool false] 50)).alloc (.cells #[.string ⟨#[]⟩, .int .i64 0, .int .i64 0, .string ⟨#[]⟩, .bool false] 50)) (fun h => h))
  have HB := aside hb
  clear Z2 Z3 H hb
  go_enter Try.func95, Try.ntmps95
  go_wp2_with fail
  refine (C1.out _ RR.out).mono ?_
  rintro r w1 ⟨rfl, R1, k1⟩
  have kE' := (k1.block (w.heap.size + 1) (Array.getElem?_eq_some_iff.1 kE.out).1 (fun h => by have := HB.out; omega)).trans kE.out
  have kR' := (k1.block w.heap.size (Array.getElem?_eq_some_iff.1 kR.out).1 (fun h => by have := HB.out; omega)).trans kR.out
  have kk' := kk.out.trans k1
  clear kE kR kk RR k1
  obtain ⟨⟨s0, s1, s2, s3, s4⟩, f0, f1, f2, f3, f4⟩ := quintF kE'
  obtain ⟨R1', kE2, kR2, kk2⟩ := one_set (cs := _) R1 kE' kR' kk' (Nat.le_succ _) HB.out (by omega) 0 (.string K)
  have kE3 : (w1.setCell ⟨w.heap.size + 1, 0, none⟩ (.string K)).heap[w.heap.size + 1]? = some (.cells #[.string K, .int .i64 0, .int .i64 0, .string ⟨#[]⟩, .bool false] 50 (0, 0)) := kE2
  have kE := aside kE3
  have kR := aside kR2
  have kk := aside kk2
  have RR := aside R1'
  clear kE' kR' kk' kE2 kE3 kR2 kk2 R1 R1'
  go_wp2_with fail
  refine (C2.out _ RR.out).mono ?_
  rintro r w2 ⟨rfl, R2, k2⟩
  have kE' := (k2.block (w.heap.size + 1) (Array.getElem?_eq_some_iff.1 kE.out).1 (fun h => by have := HB.out; omega)).trans kE.out
  have kR' := (k2.block w.heap.size (Array.getElem?_eq_some_iff.1 kR.out).1 (fun h => by have := HB.out; omega)).trans kR.out
  have kk' := kk.out.trans k2
  clear s0 s1 s2 s3 s4 f0 f1 f2 f3 f4
  clear kE kR kk RR k2
  obtain ⟨⟨s0, s1, s2, s3, s4⟩, f0, f1, f2, f3, f4⟩ := quintF kE'
  obtain ⟨R2', kE2, kR2, kk2⟩ := one_set (cs := _) R2 kE' kR' kk' (Nat.le_succ _) HB.out (by omega) 1 (.int .i64 c)
  have kE3 : (w2.setCell ⟨w.heap.size + 1, 1, none⟩ (.int .i64 c)).heap[w.heap.size + 1]? = some (.cells #[.string K, .int .i64 c, .int .i64 0, .string ⟨#[]⟩, .bool false] 50 (0, 0)) := kE2
  have kE := aside kE3
  have kR := aside kR2
  have kk := aside kk2
  have RR := aside R2'
  clear kE' kR' kk' kE2 kE3 kR2 kk2 R2 R2'
  go_wp2_with fail
  refine (C3.out _ RR.out).mono ?_
  rintro r w3 ⟨rfl, R3, k3⟩
  have kE' := (k3.block (w.heap.size + 1) (Array.getElem?_eq_some_iff.1 kE.out).1 (fun h => by have := HB.out; omega)).trans kE.out
  have kR' := (k3.block w.heap.size (Array.getElem?_eq_some_iff.1 kR.out).1 (fun h => by have := HB.out; omega)).trans kR.out
  have kk' := kk.out.trans k3
  clear s0 s1 s2 s3 s4 f0 f1 f2 f3 f4
  clear kE kR kk RR k3
  obtain ⟨⟨s0, s1, s2, s3, s4⟩, f0, f1, f2, f3, f4⟩ := quintF kE'
  obtain ⟨R3', kE2, kR2, kk2⟩ := one_set (cs := _) R3 kE' kR' kk' (Nat.le_succ _) HB.out (by omega) 2 (.int .i64 n)
  have kE3 : (w3.setCell ⟨w.heap.size + 1, 2, none⟩ (.int .i64 n)).heap[w.heap.size + 1]? = some (.cells #[.string K, .int .i64 c, .int .i64 n, .string ⟨#[]⟩, .bool false] 50 (0, 0)) := kE2
  have kE := aside kE3
  have kR := aside kR2
  have kk := aside kk2
  have RR := aside R3'
  clear kE' kR' kk' kE2 kE3 kR2 kk2 R3 R3'
  go_wp2_with fail
  refine (C4.out _ RR.out).mono ?_
  rintro r w4 ⟨rfl, R4, k4⟩
  have kE' := (k4.block (w.heap.size + 1) (Array.getElem?_eq_some_iff.1 kE.out).1 (fun h => by have := HB.out; omega)).trans kE.out
  have kR' := (k4.block w.heap.size (Array.getElem?_eq_some_iff.1 kR.out).1 (fun h => by have := HB.out; omega)).trans kR.out
  have kk' := kk.out.trans k4
  clear s0 s1 s2 s3 s4 f0 f1 f2 f3 f4
  clear kE kR kk RR k4
  obtain ⟨⟨s0, s1, s2, s3, s4⟩, f0, f1, f2, f3, f4⟩ := quintF kE'
  obtain ⟨R4', kE2, kR2, kk2⟩ := one_set (cs := _) R4 kE' kR' kk' (Nat.le_succ _) HB.out (by omega) 4 (.bool true)
  have kE3 : (w4.setCell ⟨w.heap.size + 1, 4, none⟩ (.bool true)).heap[w.heap.size + 1]? = some (.cells #[.string K, .int .i64 c, .int .i64 n, .string ⟨#[]⟩, .bool true] 50 (0, 0)) := kE2
  have kE := aside kE3
  have kR := aside kR2
  have kk := aside kk2
  have RR := aside R4'
  clear kE' kR' kk' kE2 kE3 kR2 kk2 R4 R4'
  obtain ⟨⟨x0, x1, x2, x3, x4⟩, y0, y1, y2, y3, y4⟩ := quintF kE.out
  go_wp2_with fail
  refine (C7.out _ RR.out).mono ?_
  rintro r w9 ⟨rfl, hw9⟩
  subst hw9
  obtain ⟨⟨t0, t1, t2, t3, t4⟩, g0, g1, g2, g3, g4⟩ := quintF kR.out
  go_wp2
  refine bodyPost_ret (v := .agg #[.string ⟨#[]⟩, .int .i64 0, .int .i64 0, .string ⟨#[]⟩, .bool false]) (by simp [results, Try.results95, go_sem, t0, t1, t2, t3, t4]) rfl ⟨rfl, ?_⟩
  exact one_done RR.out kk.out HB.out
set_option maxRecDepth 100000 in
set_option maxHeartbeats 3200000 in
theorem get_111 (br : Nat) (s : ByteArray) (l : List UInt8) (p : Nat) (e : Int) (K : ByteArray) (tk : List UInt8) (c n : Int) (d : Bool) (V : ByteArray) (tv : List UInt8) (p1 p2 p3 p4 p5 : Nat) (e1 e2 e3 e4 e5 e6 : Int) (w : World) (h : OneR br s l p e w) (hK : (⟨tk.toArray⟩ : ByteArray) = K) (h1 : textSt l p e 16 = (tk, p1, e1)) (h2 : numSt l p1 e1 1099511627776 = (c, p2, e2)) (h3 : numSt l p2 e2 7 = (n, p3, e3)) (h4 : flagSt l p3 e3 = (true, p4, e4)) (hc : c = 0) (h6 : failOf e4 30 = e6) (he : (e6 != 0) = true) :
    Calls Try.prog 95 #[.pointer (some ⟨br, 0, none⟩)] w fun r w' => r = .returned (.agg #[.string ⟨#[]⟩, .int .i64 0, .int .i64 0, .string ⟨#[]⟩, .bool false]) ∧ OneR br s l p4 e6 w' ∧ Keeps (fun x => x = br) w w' := by
  have C1 := aside (fun w (h : OneR br s l p e w) => one_text_at (K := K) hK h1 h)
  have C2 := aside (fun w (h : OneR br s l p1 e1 w) => one_num_at h2 h)
  have C3 := aside (fun w (h : OneR br s l p2 e2 w) => one_num_at h3 h)
  have C4 := aside (fun w (h : OneR br s l p3 e3 w) => one_flag_at h4 h)
  have C6 := aside (fun w (h : OneR br s l p4 e4 w) => one_fail_at h6 h)
  have C7 := aside (fun w (h : OneR br s l p4 e6 w) => one_err_at h)
  subst hc
  have hb := h.lt
  have H := aside h
  clear h hK h1 h2 h3 h4 h6
  have Z2 := heap_alloc_new w (.cells #[.string ⟨#[]⟩, .int .i64 0, .int .i64 0, .string ⟨#[]⟩, .bool false] 50)
  have Z3 := heap_alloc_new (w.alloc (.cells #[.string ⟨#[]⟩, .int .i64 0, .int .i64 0, .string ⟨#[]⟩, .bool false] 50)) (.cells #[.string ⟨#[]⟩, .int .i64 0, .int .i64 0, .string ⟨#[]⟩, .bool false] 50)
  rw [World.size_alloc] at Z3
  have kR := aside (blk_on Z2 (bnew _ (.cells #[.string ⟨#[]⟩, .int .i64 0, .int .i64 0, .string ⟨#[]⟩, .bool false] 50)))
  have kE := aside Z3
  have kk := aside (((Keeps.refl (fun x => x = br) w).alloc (.cells #[.string ⟨#[]⟩, .int .i64 0, .int .i64 0, .string ⟨#[]⟩, .bool false] 50)).alloc (.cells #[.string ⟨#[]⟩, .int .i64 0, .int .i64 0, .string ⟨#[]⟩, .bool false] 50))
  have RR := aside (H.out.keep (((Keeps.refl (fun _ => False) w).alloc (.cells #[.string ⟨#[]⟩, .int .i64 0, .int .i64 0, .string ⟨#[]⟩, .bool false] 50)).alloc (.cells #[.string ⟨#[]⟩, .int .i64 0, .int .i64 0, .string ⟨#[]⟩, .bool false] 50)) (fun h => h))
  have HB := aside hb
  clear Z2 Z3 H hb
  go_enter Try.func95, Try.ntmps95
  go_wp2_with fail
  refine (C1.out _ RR.out).mono ?_
  rintro r w1 ⟨rfl, R1, k1⟩
  have kE' := (k1.block (w.heap.size + 1) (Array.getElem?_eq_some_iff.1 kE.out).1 (fun h => by have := HB.out; omega)).trans kE.out
  have kR' := (k1.block w.heap.size (Array.getElem?_eq_some_iff.1 kR.out).1 (fun h => by have := HB.out; omega)).trans kR.out
  have kk' := kk.out.trans k1
  clear kE kR kk RR k1
  obtain ⟨⟨s0, s1, s2, s3, s4⟩, f0, f1, f2, f3, f4⟩ := quintF kE'
  obtain ⟨R1', kE2, kR2, kk2⟩ := one_set (cs := _) R1 kE' kR' kk' (Nat.le_succ _) HB.out (by omega) 0 (.string K)
  have kE3 : (w1.setCell ⟨w.heap.size + 1, 0, none⟩ (.string K)).heap[w.heap.size + 1]? = some (.cells #[.string K, .int .i64 0, .int .i64 0, .string ⟨#[]⟩, .bool false] 50 (0, 0)) := kE2
  have kE := aside kE3
  have kR := aside kR2
  have kk := aside kk2
  have RR := aside R1'
  clear kE' kR' kk' kE2 kE3 kR2 kk2 R1 R1'
  go_wp2_with fail
  refine (C2.out _ RR.out).mono ?_
  rintro r w2 ⟨rfl, R2, k2⟩
  have kE' := (k2.block (w.heap.size + 1) (Array.getElem?_eq_some_iff.1 kE.out).1 (fun h => by have := HB.out; omega)).trans kE.out
  have kR' := (k2.block w.heap.size (Array.getElem?_eq_some_iff.1 kR.out).1 (fun h => by have := HB.out; omega)).trans kR.out
  have kk' := kk.out.trans k2
  clear s0 s1 s2 s3 s4 f0 f1 f2 f3 f4
  clear kE kR kk RR k2
  obtain ⟨⟨s0, s1, s2, s3, s4⟩, f0, f1, f2, f3, f4⟩ := quintF kE'
  obtain ⟨R2', kE2, kR2, kk2⟩ := one_set (cs := _) R2 kE' kR' kk' (Nat.le_succ _) HB.out (by omega) 1 (.int .i64 0)
  have kE3 : (w2.setCell ⟨w.heap.size + 1, 1, none⟩ (.int .i64 0)).heap[w.heap.size + 1]? = some (.cells #[.string K, .int .i64 0, .int .i64 0, .string ⟨#[]⟩, .bool false] 50 (0, 0)) := kE2
  have kE := aside kE3
  have kR := aside kR2
  have kk := aside kk2
  have RR := aside R2'
  clear kE' kR' kk' kE2 kE3 kR2 kk2 R2 R2'
  go_wp2_with fail
  refine (C3.out _ RR.out).mono ?_
  rintro r w3 ⟨rfl, R3, k3⟩
  have kE' := (k3.block (w.heap.size + 1) (Array.getElem?_eq_some_iff.1 kE.out).1 (fun h => by have := HB.out; omega)).trans kE.out
  have kR' := (k3.block w.heap.size (Array.getElem?_eq_some_iff.1 kR.out).1 (fun h => by have := HB.out; omega)).trans kR.out
  have kk' := kk.out.trans k3
  clear s0 s1 s2 s3 s4 f0 f1 f2 f3 f4
  clear kE kR kk RR k3
  obtain ⟨⟨s0, s1, s2, s3, s4⟩, f0, f1, f2, f3, f4⟩ := quintF kE'
  obtain ⟨R3', kE2, kR2, kk2⟩ := one_set (cs := _) R3 kE' kR' kk' (Nat.le_succ _) HB.out (by omega) 2 (.int .i64 n)
  have kE3 : (w3.setCell ⟨w.heap.size + 1, 2, none⟩ (.int .i64 n)).heap[w.heap.size + 1]? = some (.cells #[.string K, .int .i64 0, .int .i64 n, .string ⟨#[]⟩, .bool false] 50 (0, 0)) := kE2
  have kE := aside kE3
  have kR := aside kR2
  have kk := aside kk2
  have RR := aside R3'
  clear kE' kR' kk' kE2 kE3 kR2 kk2 R3 R3'
  go_wp2_with fail
  refine (C4.out _ RR.out).mono ?_
  rintro r w4 ⟨rfl, R4, k4⟩
  have kE' := (k4.block (w.heap.size + 1) (Array.getElem?_eq_some_iff.1 kE.out).1 (fun h => by have := HB.out; omega)).trans kE.out
  have kR' := (k4.block w.heap.size (Array.getElem?_eq_some_iff.1 kR.out).1 (fun h => by have := HB.out; omega)).trans kR.out
  have kk' := kk.out.trans k4
  clear s0 s1 s2 s3 s4 f0 f1 f2 f3 f4
  clear kE kR kk RR k4
  obtain ⟨⟨s0, s1, s2, s3, s4⟩, f0, f1, f2, f3, f4⟩ := quintF kE'
  obtain ⟨R4', kE2, kR2, kk2⟩ := one_set (cs := _) R4 kE' kR' kk' (Nat.le_succ _) HB.out (by omega) 4 (.bool true)
  have kE3 : (w4.setCell ⟨w.heap.size + 1, 4, none⟩ (.bool true)).heap[w.heap.size + 1]? = some (.cells #[.string K, .int .i64 0, .int .i64 n, .string ⟨#[]⟩, .bool true] 50 (0, 0)) := kE2
  have kE := aside kE3
  have kR := aside kR2
  have kk := aside kk2
  have RR := aside R4'
  clear kE' kR' kk' kE2 kE3 kR2 kk2 R4 R4'
  obtain ⟨⟨x0, x1, x2, x3, x4⟩, y0, y1, y2, y3, y4⟩ := quintF kE.out
  go_wp2_with fail
  refine (C6.out _ RR.out).mono ?_
  rintro r w8 ⟨rfl, R8, k8⟩
  have kE' := (k8.block (w.heap.size + 1) (Array.getElem?_eq_some_iff.1 kE.out).1 (fun h => by have := HB.out; omega)).trans kE.out
  have kR' := (k8.block w.heap.size (Array.getElem?_eq_some_iff.1 kR.out).1 (fun h => by have := HB.out; omega)).trans kR.out
  have kk' := kk.out.trans k8
  clear s0 s1 s2 s3 s4 f0 f1 f2 f3 f4 x0 x1 x2 x3 x4 y0 y1 y2 y3 y4
  clear kE kR kk RR k8
  have kE := aside kE'
  have kR := aside kR'
  have kk := aside kk'
  have RR := aside R8
  clear kE' kR' kk' R8
  obtain ⟨⟨s0, s1, s2, s3, s4⟩, f0, f1, f2, f3, f4⟩ := quintF kE.out
  go_wp2_with fail
  refine (C7.out _ RR.out).mono ?_
  rintro r w9 ⟨rfl, hw9⟩
  subst hw9
  obtain ⟨⟨t0, t1, t2, t3, t4⟩, g0, g1, g2, g3, g4⟩ := quintF kR.out
  go_wp2
  refine bodyPost_ret (v := .agg #[.string ⟨#[]⟩, .int .i64 0, .int .i64 0, .string ⟨#[]⟩, .bool false]) (by simp [results, Try.results95, go_sem, t0, t1, t2, t3, t4]) rfl ⟨rfl, ?_⟩
  exact one_done RR.out kk.out HB.out
end Go.Proofs.Ytbnppmkdhnpdfaa
namespace Go.Proofs.Ytbnppmkdhnpdfaa
open Go.RowKit
set_option linter.unusedVariables false
end Go.Proofs.Ytbnppmkdhnpdfaa
namespace Go.Proofs.Ytbnppmkdhnpdfaa
open Go.RowKit
set_option linter.unusedVariables false
/-- The end of Get: the value's text, the Counter's error, the answer. -/
def getFin (l : List UInt8) (tk : List UInt8) (c n : Int) (d : Bool) (p4 : Nat) (e4 : Int) : En × Nat × Int :=
  match d with
  | true => if c = 0 then (⟨⟨#[]⟩, 0, 0, ⟨#[]⟩, false⟩, p4, failOf e4 30) else if e4 = 0 then (⟨⟨tk.toArray⟩, c, n, ⟨#[]⟩, true⟩, p4, 0) else (⟨⟨#[]⟩, 0, 0, ⟨#[]⟩, false⟩, p4, e4)
  | false =>
    match textSt l p4 e4 32 with
    | (tv, p5, e5) => if c = 0 then (⟨⟨#[]⟩, 0, 0, ⟨#[]⟩, false⟩, p5, failOf e5 30) else if e5 = 0 then (⟨⟨tk.toArray⟩, c, n, ⟨tv.toArray⟩, false⟩, p5, 0) else (⟨⟨#[]⟩, 0, 0, ⟨#[]⟩, false⟩, p5, e5)
/-- Get. -/
def getSt (l : List UInt8) (p : Nat) (e : Int) : En × Nat × Int :=
  match textSt l p e 16 with
  | (tk, p1, e1) =>
    match numSt l p1 e1 1099511627776 with
    | (c, p2, e2) =>
      match numSt l p2 e2 7 with
      | (n, p3, e3) =>
        match flagSt l p3 e3 with
        | (d, p4, e4) => getFin l tk c n d p4 e4
theorem failOf_ne (e : Int) : (failOf e 30 != 0) = true := by
  unfold failOf; split
  · rfl
  · rename_i h; simp [h]
theorem getSt_eq {l : List UInt8} {p p1 p2 p3 p4 : Nat} {e e1 e2 e3 e4 : Int} {tk : List UInt8} {c n : Int} {d : Bool} (h1 : textSt l p e 16 = (tk, p1, e1)) (h2 : numSt l p1 e1 1099511627776 = (c, p2, e2)) (h3 : numSt l p2 e2 7 = (n, p3, e3)) (h4 : flagSt l p3 e3 = (d, p4, e4)) :
    getSt l p e = getFin l tk c n d p4 e4 := by
  unfold getSt; rw [h1]; simp only; rw [h2]; simp only; rw [h3]; simp only; rw [h4]
set_option maxHeartbeats 1000000 in
theorem get_at {br : Nat} {s : ByteArray} {l : List UInt8} {p p' : Nat} {e e' : Int} {R : En} {w : World} (h : OneR br s l p e w) (hg : getSt l p e = (R, p', e')) :
    Calls Try.prog 95 #[.pointer (some ⟨br, 0, none⟩)] w fun r w' => r = .returned (.agg #[.string R.k, .int .i64 R.c, .int .i64 R.n, .string R.v, .bool R.d]) ∧ OneR br s l p' e' w' ∧ Keeps (fun x => x = br) w w' := by
  rcases h1 : textSt l p e 16 with ⟨tk, p1, e1⟩
  rcases h2 : numSt l p1 e1 1099511627776 with ⟨c, p2, e2⟩
  rcases h3 : numSt l p2 e2 7 with ⟨n, p3, e3⟩
  rcases h4 : flagSt l p3 e3 with ⟨d, p4, e4⟩
  rw [getSt_eq h1 h2 h3 h4] at hg
  cases d
  · rcases h5 : textSt l p4 e4 32 with ⟨tv, p5, e5⟩
    simp only [getFin] at hg
    rw [h5] at hg
    simp only at hg
    by_cases hc : c = 0
    · rw [if_pos hc] at hg
      cases hg
      exact get_011 br s l p e _ tk c n false ⟨tv.toArray⟩ tv p1 p2 p3 p4 p' e1 e2 e3 e4 e5 _ w h rfl h1 h2 h3 h4 rfl h5 hc rfl (failOf_ne e5)
    · rw [if_neg hc] at hg
      by_cases he : e5 = 0
      · rw [if_pos he] at hg
        cases hg
        have := get_000 br s l p e _ tk c n false ⟨tv.toArray⟩ tv p1 p2 p3 p4 p' e1 e2 e3 e4 e5 0 w h rfl h1 h2 h3 h4 rfl h5 (by simp [hc]) he
        rw [he] at this
        exact this
      · rw [if_neg he] at hg
        cases hg
        exact get_001 br s l p e _ tk c n false ⟨tv.toArray⟩ tv p1 p2 p3 p4 p' e1 e2 e3 e4 e' 0 w h rfl h1 h2 h3 h4 rfl h5 (by simp [hc]) (by simp [he])
  · simp only [getFin] at hg
    by_cases hc : c = 0
    · rw [if_pos hc] at hg
      cases hg
      exact get_111 br s l p e _ tk c n true ⟨#[]⟩ [] p1 p2 p3 p' 0 e1 e2 e3 e4 0 _ w h rfl h1 h2 h3 h4 hc rfl (failOf_ne e4)
    · rw [if_neg hc] at hg
      by_cases he : e4 = 0
      · rw [if_pos he] at hg
        cases hg
        have := get_100 br s l p e _ tk c n true ⟨#[]⟩ [] p1 p2 p3 p' 0 e1 e2 e3 e4 0 0 w h rfl h1 h2 h3 h4 (by simp [hc]) he
        rw [he] at this
        exact this
      · rw [if_neg he] at hg
        cases hg
        exact get_101 br s l p e _ tk c n true ⟨#[]⟩ [] p1 p2 p3 p' 0 e1 e2 e3 e' 0 0 w h rfl h1 h2 h3 h4 (by simp [hc]) (by simp [he])
end Go.Proofs.Ytbnppmkdhnpdfaa
namespace Go.Proofs.Ytbnppmkdhnpdfaa
open Go.RowKit
theorem enc_stop (f m : Nat) (h : m < 128) : Nm.enc f m = [UInt8.ofNat m] := by cases f <;> simp [Nm.enc, h]
theorem enc_more (f m : Nat) (h : ¬ m < 128) : Nm.enc (f + 1) m = UInt8.ofNat (m % 128 + 128) :: Nm.enc f (m / 128) := by simp [Nm.enc, h]
theorem cells_one (z : Int) (n : Nat) (h : z = (n : Int)) (hn : n < 256) : Lib.byteCells [UInt8.ofNat n] = [.int .u8 z] := by
  subst h
  simp only [Lib.byteCells, List.map_cons, List.map_nil, UInt8.toNat_ofNat', Nat.mod_eq_of_lt (show n < 2 ^ 8 from hn)]
/-- The number that is laid down for n. -/
def up (n : Int) : Nat := (max n 0).toNat
/-- What holds at every round's head: f rounds may follow, the number m is left, the bytes pre are laid down. -/
def NumRel (T B b : Nat) (g : Option Nat) (l : List UInt8) (n0 : Nat) (w : World) (i : Value) (wr : World) : Prop :=
  ∃ (f m : Nat) (pre : List UInt8) (g' : Option Nat), i = .int .i64 (m : Int) ∧ m < 128 ^ (f + 1) ∧ m < 9223372036854775808 ∧ pre.length + f = 8 ∧ pre ++ Nm.enc f m = Nm.enc 8 n0 ∧ IsW T B b g' (l ++ pre) wr ∧ Fresh w g g' ∧ Keeps (fun k => k = b ∨ g = some k) w wr
theorem numRel_start {T B b : Nat} {g : Option Nat} {l : List UInt8} {w : World} {n0 : Nat} (hn : n0 < 9223372036854775808) (hW : IsW T B b g l w) (i : Value) (h : i = .int .i64 (n0 : Int)) : NumRel T B b g l n0 w i w :=
  ⟨8, n0, [], g, h, by omega, hn, rfl, rfl, by simpa using hW, .inl rfl, Keeps.refl _ _⟩
set_option maxHeartbeats 1600000 in
set_option maxRecDepth 100000 in
theorem wnum_any (B b : Nat) (g : Option Nat) (l : List UInt8) (n : Int) (w : World) (hW : IsW 86 B b g l w) (hB : B ≤ w.heap.size) (hn : n ≤ 9223372036854775807) (hn0 : -9223372036854775808 ≤ n) (hl : l.length ≤ 70368744177664) :
    Calls Try.prog 23 #[.pointer (some ⟨b, 0, none⟩), .int .i64 n] w fun e w' => e = .returned (.tuple #[]) ∧
      ∃ g', IsW 86 B b g' (l ++ Nm.enc 8 (up n)) w' ∧ Fresh w g g' ∧ Keeps (fun k => k = b ∨ g = some k) w w' := by
  obtain ⟨i0, hi, hz0, hz1, hz2⟩ := info_parts info8
  have hup : up n < 9223372036854775808 := by unfold up; omega
  have e1 : n < 0 → (up n : Int) = 0 := by unfold up; omega
  have e2 : 0 ≤ n → (up n : Int) = n := by unfold up; omega
  have E1 := aside e1; have E2 := aside e2
  clear e1 e2
  go_enter Try.func23, Try.ntmps23
  go_wp2
  all_goals
    go_loopw [1] (fun i wr => NumRel 86 B b g l (up n) w i wr) (fun i _ => (intOf i).toNat)
    case atStart => exact numRel_start hup hW _ (by first | rw [E1.out (by omega)]; done | rw [E2.out (by omega)])
    case round =>
      obtain ⟨f, m, pre, g', rfl, hm, hm63, hpf, hpre, ⟨hBb, hgb, v, hh, rfl, hown⟩, hfr, hk⟩ := hrel
      have HP := aside hpre
      have HPF := aside hpf
      have hll : (l ++ pre).length ≤ l.length + 8 := by rw [List.length_append]; omega
      have hm' : (m : Int) < 9223372036854775808 := by omega
      generalize hL : l ++ pre = L at *
      have HL := aside hL
      have HM := aside hm
      clear hpre hpf hL hm hm63
      have hsz := hk.size
      have hc := cell_one hh
      have hf := frozen_one hh
      by_cases hlt : m < 128
      · have hlt' : (m : Int) < 128 := by omega
        have HLT := aside hlt
        clear hlt hm'
        go_wp2_with (at_builtin; refine wpList_append_lies _ rfl _ _ _ rfl B 5 i0 (.int .u8 0) 1 1 Try.underlying30 hi hz0 hz1 hz2 rfl (by decide) _ _ _ (by rfl) (hown.alloc _) ⟨wr.heap.size, 0, none⟩ 1 1 [.int .u8 (m : Int)] (by rfl) (by rfl) (World.news_of_block (cs := #[.int .u8 (m : Int)]) (t := 5) (fr := (0, 0)) (heap_alloc_new wr _)) (by simp [Value.oneCell']) (by omega) (by unfold maxLen; omega) (by omega) (by simp; omega) (wr.heap.size + 1) (by simp) ?_; intro g1 cap w1 hown1 hgrow hat hlt1; have hb1 := block_grown hh hgb hgrow; have hc1 := cell_one hb1; have hf1 := frozen_one hb1; refine Hid.out ?_)
        refine aside ?_
        have R := app_done (l := L) (n := L.length + 1) (news := [UInt8.ofNat m]) hBb hh hgb rfl hgrow (by rw [cells_one (m : Int) m rfl (by omega)]; exact hown1) hat
        have HR := aside R
        clear hown hown1 hgrow hat R hc hf hh
        go_wp2
        go_end0
        refine ⟨rfl, _, (HR.out.1).of_len ?_, hfr.trans HR.out.2.1 hsz, hk.step hfr HR.out.2.2⟩
        rw [← HP.out, enc_stop f m HLT.out, ← HL.out, List.append_assoc]
      · have hge : (128 : Int) ≤ (m : Int) := by omega
        go_wp2_with (at_builtin; refine wpList_append_lies _ rfl _ _ _ rfl B 5 i0 (.int .u8 0) 1 1 Try.underlying30 hi hz0 hz1 hz2 rfl (by decide) _ _ _ (by rfl) (hown.alloc _) ⟨wr.heap.size, 0, none⟩ 1 1 [.int .u8 ((m : Int) % 128 + 128)] (by rfl) (by rfl) (World.news_of_block (cs := #[.int .u8 ((m : Int) % 128 + 128)]) (t := 5) (fr := (0, 0)) (heap_alloc_new wr _)) (by simp [Value.oneCell']) (by omega) (by unfold maxLen; omega) (by omega) (by simp; omega) (wr.heap.size + 1) (by simp) ?_; intro g1 cap w1 hown1 hgrow hat hlt1; have hb1 := block_grown hh hgb hgrow; have hc1 := cell_one hb1; have hf1 := frozen_one hb1; refine Hid.out ?_)
        refine aside ?_
        have R := app_done (l := L) (n := L.length + 1) (news := [UInt8.ofNat (m % 128 + 128)]) hBb hh hgb rfl hgrow (by rw [cells_one ((m : Int) % 128 + 128) (m % 128 + 128) (by omega) (by omega)]; exact hown1) hat
        have HR := aside R
        clear hown hown1 hgrow hat R hc hf hh
        go_wp2
        obtain ⟨f', hf'⟩ : ∃ f', f = f' + 1 := by
          cases f with
          | zero => have := HM.out; simp at this; omega
          | succ f' => exact ⟨f', rfl⟩
        go_roundw
        case rel => exact ⟨f', m / 128, pre ++ [UInt8.ofNat (m % 128 + 128)], _, by go_num, by have hm := HM.out; subst hf'; rw [Nat.pow_succ] at hm; omega, by omega, by have := HPF.out; rw [List.length_append]; simp; omega, by rw [← HP.out, hf', enc_more f' m hlt]; simp, HR.out.1.of_len (by rw [← HL.out, List.append_assoc]), hfr.trans HR.out.2.1 hsz, hk.step hfr HR.out.2.2⟩
        case measure => simp [intOf]; omega
end Go.Proofs.Ytbnppmkdhnpdfaa
namespace Go.Proofs.Ytbnppmkdhnpdfaa
open Go.RowKit
set_option linter.unusedVariables false
set_option maxHeartbeats 1600000 in
set_option maxRecDepth 100000 in
theorem wtext_any (B b : Nat) (g : Option Nat) (l : List UInt8) (s : ByteArray) (w : World) (hW : IsW 86 B b g l w) (hB : B ≤ w.heap.size) (hl : l.length ≤ 35184372088832) (hs : s.size ≤ 35184372088832) :
    Calls Try.prog 71 #[.pointer (some ⟨b, 0, none⟩), .string s] w fun e w' => e = .returned (.tuple #[]) ∧
      ∃ g', IsW 86 B b g' (l ++ (Nm.enc 8 s.size ++ s.data.toList)) w' ∧ Fresh w g g' ∧ Keeps (fun k => k = b ∨ g = some k) w w' := by
  have hs' : (s.size : Int) ≤ 35184372088832 := by omega
  have hlen : s.data.toList.length = s.size := by show s.data.toList.length = s.data.size; simp
  go_enter Try.func71, Try.ntmps71
  go_wp2_with fail
  refine (wnum_any B b g l (s.size : Int) _ hW hB (by omega) (by omega) (by omega)).mono ?_
  rintro e w1 ⟨rfl, g1, W1, fr1, k1⟩
  have sz1 := k1.size
  obtain ⟨hBb, hgb, v, hh, rfl, hown⟩ := W1
  rw [show up (s.size : Int) = s.size from by unfold up; omega] at hown
  have hll : (l ++ Nm.enc 8 s.size).length ≤ l.length + 9 := by have := Nm.enc_length 8 s.size; rw [List.length_append]; omega
  generalize hL : l ++ Nm.enc 8 s.size = L at *
  have HL := aside hL
  clear hL
  have hc := cell_one hh
  have hf := frozen_one hh
  go_wp2_with (at_builtin; refine wpList_append_string rfl _ _ rfl B _ _ _ (by rfl) hown s (by rfl) (by omega) (by omega) ?_; intro v' w2 hown2 hgrow fr2; obtain ⟨va, vn, vc, rfl⟩ := own_form hown2; have hb1 := block_kept hh hgb hgrow; have hc1 := cell_one hb1; have hf1 := frozen_one hb1; refine Hid.out ?_)
  refine aside ?_
  have R := app_text (l := L) (news := s.data.toList) hBb hh hgb (by rw [List.length_append, hlen]) hgrow hown2 fr2
  have HR := aside R
  clear hown hown2 hgrow R hc hf hh
  go_wp2
  go_end0
  refine ⟨rfl, _, HR.out.1.of_len ?_, fr1.trans fr2 sz1, k1.step fr1 HR.out.2⟩
  rw [← HL.out, List.append_assoc]
/-- A flag laid down. -/
def flagB (is : Bool) : List UInt8 := [if is then 1 else 0]
set_option maxHeartbeats 1600000 in
set_option maxRecDepth 100000 in
theorem wflag_any (B b : Nat) (g : Option Nat) (l : List UInt8) (is : Bool) (w : World) (hW : IsW 86 B b g l w) (hB : B ≤ w.heap.size) (hl : l.length ≤ 35184372088832) :
    Calls Try.prog 72 #[.pointer (some ⟨b, 0, none⟩), .bool is] w fun e w' => e = .returned (.tuple #[]) ∧
      ∃ g', IsW 86 B b g' (l ++ flagB is) w' ∧ Fresh w g g' ∧ Keeps (fun k => k = b ∨ g = some k) w w' := by
  obtain ⟨i0, hi, hz0, hz1, hz2⟩ := info_parts info8
  obtain ⟨hBb, hgb, v, hh, rfl, hown⟩ := hW
  have hc := cell_one hh
  have hf := frozen_one hh
  cases is
  all_goals
    go_enter Try.func72, Try.ntmps72
  · go_wp2_with (at_builtin; refine wpList_append_lies _ rfl _ _ _ rfl B 5 i0 (.int .u8 0) 1 1 Try.underlying30 hi hz0 hz1 hz2 rfl (by decide) _ _ _ (by rfl) (hown.alloc _) ⟨w.heap.size, 0, none⟩ 1 1 [.int .u8 0] (by rfl) (by rfl) (World.news_of_block (cs := #[.int .u8 0]) (t := 5) (fr := (0, 0)) (heap_alloc_new w _)) (by simp [Value.oneCell']) (by omega) (by unfold maxLen; omega) (by omega) (by simp; omega) (w.heap.size + 1) (by simp) ?_; intro g1 cap w1 hown1 hgrow hat hlt1; have hb1 := block_grown hh hgb hgrow; have hc1 := cell_one hb1; have hf1 := frozen_one hb1; refine Hid.out ?_)
    refine aside ?_
    have R := app_done (l := l) (n := l.length + 1) (news := [0]) hBb hh hgb rfl hgrow (by exact hown1) hat
    have HR := aside R
    clear hown hown1 hgrow hat R hc hf hh
    go_wp2
    go_end0
    exact ⟨rfl, _, HR.out.1, HR.out.2.1, HR.out.2.2⟩
  · go_wp2_with (at_builtin; refine wpList_append_lies _ rfl _ _ _ rfl B 5 i0 (.int .u8 0) 1 1 Try.underlying30 hi hz0 hz1 hz2 rfl (by decide) _ _ _ (by rfl) (hown.alloc _) ⟨w.heap.size, 0, none⟩ 1 1 [.int .u8 1] (by rfl) (by rfl) (World.news_of_block (cs := #[.int .u8 1]) (t := 5) (fr := (0, 0)) (heap_alloc_new w _)) (by simp [Value.oneCell']) (by omega) (by unfold maxLen; omega) (by omega) (by simp; omega) (w.heap.size + 1) (by simp) ?_; intro g1 cap w1 hown1 hgrow hat hlt1; have hb1 := block_grown hh hgb hgrow; have hc1 := cell_one hb1; have hf1 := frozen_one hb1; refine Hid.out ?_)
    refine aside ?_
    have R := app_done (l := l) (n := l.length + 1) (news := [1]) hBb hh hgb rfl hgrow (by exact hown1) hat
    have HR := aside R
    clear hown hown1 hgrow hat R hc hf hh
    go_wp2
    go_end0
    exact ⟨rfl, _, HR.out.1, HR.out.2.1, HR.out.2.2⟩
end Go.Proofs.Ytbnppmkdhnpdfaa
namespace Go.Proofs.Ytbnppmkdhnpdfaa
open Go.RowKit
end Go.Proofs.Ytbnppmkdhnpdfaa
namespace Go.Proofs.Ytbnppmkdhnpdfaa
open Go.RowKit
set_option linter.unusedVariables false
end Go.Proofs.Ytbnppmkdhnpdfaa
