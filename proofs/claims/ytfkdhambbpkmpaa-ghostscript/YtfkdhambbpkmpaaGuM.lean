/-
  The code's ghost in memory: the map of what was written, against a plain list; what every node held.
-/
import Derived.Test.YtfkdhambbpkmpaaMgLack
import Derived.Test.YtfkdhambbpkmpaaMgAbv
import Derived.Maps.RangeWalk
import Derived.Maps.Ext
import Derived.DeepKeys4
namespace Go.Proofs.Ytfkdhambbpkmpaa
open Go.RowKit
set_option linter.unusedVariables false

theorem laidG : laidOutB Try.prog = true := by kernel_rfl
theorem rowWr : (60 : TypeId) < Try.prog.types.size := of_decide_eq_true (by kernel_rfl)
theorem cellsWr : Try.prog.cellsOf 60 = 3 := by kernel_rfl
theorem cellsVerG : Try.prog.cellsOf 29 = 2 := by kernel_rfl
theorem cellsIntG : Try.prog.cellsOf 3 = 1 := by kernel_rfl
theorem cellsStrG : Try.prog.cellsOf 9 = 1 := by kernel_rfl
theorem deepWr : Try.prog.keyType 60 = true := by kernel_rfl
theorem wideWr : (match Try.prog.underlying 60 with | some (.array _ _) | some (.struct _) => true | _ => false) = true := by kernel_rfl
theorem lawWr : Maps.Keyed Try.prog 60 := Maps.Keyed.of_law (deep_law_laid laidG (m := 3) (by omega) rowWr (by kernel_rfl) wideWr)
/-- What no two entries that were written have in common: key and version. -/
abbrev Wr := ByteArray × Int × Int
def wrV (x : Wr) : Value := .agg #[.string x.1, .int .i64 x.2.1, .int .i64 x.2.2]
def i64G (x : Int) : Prop := -9223372036854775808 ≤ x ∧ x ≤ 9223372036854775807
def wfW (x : Wr) : Prop := x.1.size ≤ maxLen ∧ i64G x.2.1 ∧ i64G x.2.2
def klW (x : Wr) : Lit := .string (keyBytes [.string x.1.data.toList, .int .i64 x.2.1, .int .i64 x.2.2])
def wrOf (e : En) : Wr := (e.k, e.c, e.n)
theorem litG_int (d : Nat) {x : Int} (h : i64G x) : Try.prog.keyLits (d + 1) 3 [.int .i64 x] = some [.int .i64 x] := by
  unfold Program.keyLits
  rw [Try.underlying3]
  simp [WalkArith.wf_i64 h]
theorem litG_str (d : Nat) {s : ByteArray} (h : s.size ≤ maxLen) : Try.prog.keyLits (d + 1) 9 [.string s] = some [.string s.data.toList] := by
  unfold Program.keyLits
  rw [Try.underlying9]
  simp [h]
theorem litG_ver (d : Nat) {c n : Int} (hc : i64G c) (hn : i64G n) : Try.prog.keyLits (d + 1 + 1) 29 [.int .i64 c, .int .i64 n] = some [.int .i64 c, .int .i64 n] := by
  unfold Program.keyLits
  simp [Try.underlying29, cellsVerG, cellsIntG, litG_int d hc, litG_int d hn]
theorem litG_wr (d : Nat) {x : Wr} (h : wfW x) : Try.prog.keyLits (d + 1 + 1 + 1) 60 [.string x.1, .int .i64 x.2.1, .int .i64 x.2.2] = some [.string x.1.data.toList, .int .i64 x.2.1, .int .i64 x.2.2] := by
  unfold Program.keyLits
  simp [Try.underlying60, cellsWr, cellsVerG, cellsStrG, litG_str (d + 1) h.1, litG_ver d h.2.1 h.2.2]
theorem deepG : ∃ d, Try.prog.types.size + 1 = d + 1 + 1 + 1 := by
  have h : (2 : Nat) ≤ Try.prog.types.size := of_decide_eq_true (by kernel_rfl)
  exact ⟨Try.prog.types.size - 2, by omega⟩
theorem formedWr (a b c : Value) : (Value.agg #[a, b, c]).formed Try.prog 60 = true := by simp [Value.formed, Try.underlying60, cellsWr]
theorem keyOf_wr {x : Wr} (h : wfW x) : keyOf Try.prog 60 (wrV x) = some (klW x) := by
  obtain ⟨d, hd⟩ := deepG
  have e : Try.prog.keyLits (Try.prog.types.size + 1) 60 (wrV x).cells.toList = some [.string x.1.data.toList, .int .i64 x.2.1, .int .i64 x.2.2] := by
    rw [hd]
    exact litG_wr d h
  unfold keyOf
  rw [Try.underlying60]
  simp only [deepWr, wrV, formedWr, Bool.and_self, if_true]
  rw [show (Value.agg #[.string x.1, .int .i64 x.2.1, .int .i64 x.2.2]) = wrV x from rfl, e]
  rfl
theorem wrV_inj {a b : Wr} (h : wrV a = wrV b) : a = b := by
  obtain ⟨o, l, n⟩ := a
  obtain ⟨p, m, k⟩ := b
  simpa [wrV] using h
theorem klW_inj {a b : Wr} (ha : wfW a) (hb : wfW b) (h : klW a = klW b) : a = b := wrV_inj (lawWr.inj (keyOf_wr ha) (by rw [h]; exact keyOf_wr hb))
theorem klW_key {x : Wr} (h : wfW x) : WideAt.IsKeyLit (klW x) := lawWr.key (keyOf_wr h)

/-- How an entry in the map is read. -/
def datE (e : En) : DataW Unit := .agg [.lit (.string e.k.data.toList), .lit (.int .i64 e.c), .lit (.int .i64 e.n), .lit (.string e.v.data.toList), .lit (.bool e.d)]
def RE (v : Value) : Option (DataW Unit × List MemPlace) :=
  match v with
  | .agg ⟨[.string k, .int .i64 c, .int .i64 n, .string x, .bool d]⟩ => some (datE ⟨k, c, n, x, d⟩, [])
  | _ => none
theorem RE_ent (e : En) : RE (.agg #[.string e.k, .int .i64 e.c, .int .i64 e.n, .string e.v, .bool e.d]) = some (datE e, []) := rfl
theorem RE_inv {v : Value} {z : DataW Unit × List MemPlace} (h : RE v = some z) : ∃ e : En, v = .agg #[.string e.k, .int .i64 e.c, .int .i64 e.n, .string e.v, .bool e.d] ∧ z = (datE e, []) := by
  unfold RE at h
  split at h
  · injection h with h
    exact ⟨⟨_, _, _, _, _⟩, rfl, h.symm⟩
  · cases h
theorem baG {a b : ByteArray} (h : a.data.toList = b.data.toList) : a = b := by
  cases a
  cases b
  congr
  exact Array.toList_inj.1 h
theorem datE_inj {a b : En} (h : datE a = datE b) : a = b := by
  obtain ⟨k, c, n, v, d⟩ := a
  obtain ⟨k', c', n', v', d'⟩ := b
  unfold datE at h
  simp only [DataW.agg.injEq, List.cons.injEq, DataW.lit.injEq, Lit.string.injEq, Lit.int.injEq, Lit.bool.injEq, and_true, true_and] at h
  obtain ⟨h1, h2, h3, h4, h5⟩ := h
  rw [baG h1, h2, h3, baG h4, h5]

/-- Of all that was written no two have key and version in common. -/
def OneW (L : List En) : Prop := ∀ a ∈ L, ∀ b ∈ L, wrOf a = wrOf b → a = b
/-- What was written under a key and a version. -/
def lookW (L : List En) (x : Wr) : Option En := L.find? (fun e => decide (wrOf e = x))
theorem lookW_mem {L : List En} {x : Wr} {e : En} (h : lookW L x = some e) : e ∈ L ∧ wrOf e = x := ⟨List.mem_of_find?_eq_some h, by simpa using List.find?_some h⟩
theorem lookW_none {L : List En} {x : Wr} (h : lookW L x = none) : ∀ e ∈ L, wrOf e ≠ x := fun e he => by simpa using List.find?_eq_none.1 h e he
theorem lookW_of {L : List En} (h1 : OneW L) {e : En} (he : e ∈ L) : lookW L (wrOf e) = some e := by
  cases h : lookW L (wrOf e) with
  | none => exact absurd rfl (lookW_none h e he)
  | some a =>
    obtain ⟨ha, hb⟩ := lookW_mem h
    rw [h1 a ha e he hb]
/-- How the map reads, against the plain list. -/
structure RepW (D : DataW Unit) (L : List En) : Prop where
  one : OneW L
  wf : ∀ e ∈ L, wfW (wrOf e)
  has : ∀ x, wfW x → (Maps.has D (klW x) = true ↔ ∃ e ∈ L, wrOf e = x)
  val : ∀ e ∈ L, ∀ z, D.atKey (klW (wrOf e)) z = datE e
theorem RepW.zero : RepW (.map []) [] := ⟨fun a ha => (by cases ha), fun e he => (by cases he), fun n _ => ⟨fun h => (by simp [Maps.has] at h), fun ⟨t, h, _⟩ => (by cases h)⟩, fun e he => (by cases he)⟩
theorem RepW.nil {D : DataW Unit} {L : List En} (h : RepW D L) {x : Wr} (hx : wfW x) (hl : lookW L x = none) : Maps.has D (klW x) = false := by
  cases hh : Maps.has D (klW x) with
  | false => rfl
  | true => obtain ⟨t, ht, e⟩ := (h.has x hx).1 hh; exact absurd e (lookW_none hl t ht)
/-- One more, of a key and version of its own. -/
theorem RepW.put {D : DataW Unit} {L : List En} (h : RepW D L) (hT : Maps.Tidy D) {e : En} (he : wfW (wrOf e)) (hl : lookW L (wrOf e) = none) : RepW (D.put (klW (wrOf e)) (datE e)) (L ++ [e]) where
  one := fun a ha b hb hab => by
    rcases List.mem_append.1 ha with h1 | h1 <;> rcases List.mem_append.1 hb with h2 | h2
    · exact h.one a h1 b h2 hab
    · rcases List.mem_singleton.1 h2 with rfl
      exact absurd hab (lookW_none hl a h1)
    · rcases List.mem_singleton.1 h1 with rfl
      exact absurd hab.symm (lookW_none hl b h2)
    · rcases List.mem_singleton.1 h1 with rfl
      rcases List.mem_singleton.1 h2 with rfl
      rfl
  wf := fun a ha => by
    rcases List.mem_append.1 ha with h1 | h1
    · exact h.wf a h1
    · rcases List.mem_singleton.1 h1 with rfl
      exact he
  has := fun x hx => by
    by_cases e2 : x = wrOf e
    · subst e2
      exact ⟨fun _ => ⟨e, List.mem_append_right _ (List.mem_singleton.2 rfl), rfl⟩, fun _ => Maps.has_put_same hT.isMap (klW_key hx) _⟩
    · rw [Maps.has_put_other (fun e3 => e2 (klW_inj hx he e3)), h.has x hx]
      exact ⟨fun ⟨s, h1, h2⟩ => ⟨s, List.mem_append_left _ h1, h2⟩, fun ⟨s, h1, h2⟩ => by
        rcases List.mem_append.1 h1 with h3 | h3
        · exact ⟨s, h3, h2⟩
        · rcases List.mem_singleton.1 h3 with rfl
          exact absurd h2.symm e2⟩
  val := fun a ha z => by
    rcases List.mem_append.1 ha with h1 | h1
    · have e2 : wrOf a ≠ wrOf e := lookW_none hl a h1
      rw [Maps.atKey_put_other (fun e3 => e2 (klW_inj (h.wf a h1) he e3))]
      exact h.val a h1 z
    · rcases List.mem_singleton.1 h1 with rfl
      exact Maps.atKey_put_same hT.isMap (klW_key he) _ _
/-- The same once more. -/
theorem RepW.same {D : DataW Unit} {L : List En} (h : RepW D L) (hT : Maps.Tidy D) {e : En} (he : e ∈ L) : RepW (D.put (klW (wrOf e)) (datE e)) L where
  one := h.one
  wf := h.wf
  has := fun x hx => by
    by_cases e2 : x = wrOf e
    · subst e2
      exact ⟨fun _ => ⟨e, he, rfl⟩, fun _ => Maps.has_put_same hT.isMap (klW_key hx) _⟩
    · rw [Maps.has_put_other (fun e3 => e2 (klW_inj hx (h.wf e he) e3)), h.has x hx]
  val := fun a ha z => by
    by_cases e2 : wrOf a = wrOf e
    · rw [h.one a ha e he e2]
      exact Maps.atKey_put_same hT.isMap (klW_key (h.wf e he)) _ _
    · rw [Maps.atKey_put_other (fun e3 => e2 (klW_inj (h.wf a ha) (h.wf e he) e3))]
      exact h.val a ha z
/-- A look-up, told by the plain list. -/
theorem look_wr {w : World} {m n : Nat} {D : DataW Unit} {L : List En} (h : w.ownsMap Try.prog 60 RE m n D) (hr : RepW D L) {x : Wr} (hx : wfW x) :
    (Instr.lookup 48 (.map (some m)) (wrV x) true).run Try.prog w = .ok (.tuple #[.agg #[.string ((lookW L x).getD eZ).k, .int .i64 ((lookW L x).getD eZ).c, .int .i64 ((lookW L x).getD eZ).n, .string ((lookW L x).getD eZ).v, .bool ((lookW L x).getD eZ).d], .bool (lookW L x).isSome]) w := by
  have hz : ∀ w : World, (zeroValue 31).run Try.prog w = .ok (.agg #[.string eZ.k, .int .i64 eZ.c, .int .i64 eZ.n, .string eZ.v, .bool eZ.d]) w := fun w => by kernel_rfl
  obtain ⟨v, ps, hrun, hv⟩ := h.look_ok lawWr Try.underlying48 (hz w) (RE_ent eZ) (keyOf_wr hx)
  obtain ⟨e, rfl, he⟩ := RE_inv hv
  have h3 := congrArg Prod.fst he
  simp only at h3
  rw [hrun]
  cases hl : lookW L x with
  | none =>
    have h1 := hr.nil hx hl
    rw [Maps.atKey_of_not_has h1] at h3
    rw [h1, ← datE_inj h3]
    rfl
  | some t =>
    obtain ⟨ht, rfl⟩ := lookW_mem hl
    have h1 := (hr.has _ hx).2 ⟨t, ht, rfl⟩
    rw [hr.val t ht] at h3
    rw [h1, ← datE_inj h3]
    rfl
/-- A list that a node held: where it lies, and its entries. -/
structure Hd where
  a : Option Addr
  n : Nat
  c : Nat
  l : List En
def Hd.v (h : Hd) : Value := .slice h.a h.n h.c
def hd0 : Hd := ⟨none, 0, 0, []⟩
/-- A ghost in memory. -/
structure Gh (w : World) (B p m N : Nat) (L : List En) (H : Nat → Hd) : Prop where
  bx : w.heap[p]? = some (.cells #[.map (some m), (H 0).v, (H 1).v, (H 2).v, (H 3).v, (H 4).v, (H 5).v, (H 6).v, (H 7).v] 51 (0, 0))
  pB : B ≤ p
  mB : B ≤ m
  mp : ∃ D, w.ownsMap Try.prog 60 RE m N D ∧ RepW D L
  chk : ∀ e ∈ L, e.chk = 0
  held : ∀ i, i < 8 → w.ownsRow B 31 5 (H i).v (H i).n (entCells (H i).l)
  maps : ∀ i, i < 8 → MapL (H i).l
  sz : ∀ i, i < 8 → (H i).n ≤ 1073741824
theorem ownsMapG_keep {S : Nat → Prop} {w w' : World} {b n : Nat} {D : DataW Unit} (h : w.ownsMap Try.prog 60 RE b n D) (k : Keeps S w w') (hb : ¬ S b) : w'.ownsMap Try.prog 60 RE b n D := by
  obtain ⟨es, clock, h1, r⟩ := h
  exact ⟨es, clock, blk_keep h1 k hb, r⟩
theorem Gh.cellH {w : World} {B p m N : Nat} {L : List En} {H : Nat → Hd} (h : Gh w B p m N L H) : ∀ i, i < 8 → w.cell? ⟨p, 1 + i, none⟩ = some (H i).v := fun i hi => by
  rw [cell_of_row _ _ (1 + i) _ _ _ h.bx]
  match i, hi with
  | 0, _ => rfl
  | 1, _ => rfl
  | 2, _ => rfl
  | 3, _ => rfl
  | 4, _ => rfl
  | 5, _ => rfl
  | 6, _ => rfl
  | 7, _ => rfl
theorem Gh.ne {w : World} {B p m N : Nat} {L : List En} {H : Nat → Hd} (h : Gh w B p m N L H) : p ≠ m := by
  obtain ⟨D, ⟨es, clock, h4, -⟩, -⟩ := h.mp
  intro e
  have h1 := h.bx
  rw [e, h4] at h1
  cases h1
theorem Gh.keep {S : Nat → Prop} {w w' : World} {B p m N : Nat} {L : List En} {H : Nat → Hd} (h : Gh w B p m N L H) (k : Keeps S w w') (h1 : ¬ S p) (h2 : ¬ S m) (h3 : ∀ i, i < 8 → ∀ j, (H i).v.ownBlock = some j → ¬ S j) : Gh w' B p m N L H := by
  obtain ⟨D, hD, hR⟩ := h.mp
  exact ⟨blk_keep h.bx k h1, h.pB, h.mB, ⟨D, ownsMapG_keep hD k h2, hR⟩, h.chk, fun i hi => ownsRow_keep (h.held i hi) k (h3 i hi), h.maps, h.sz⟩
theorem Gh.on {w w' : World} {B p m N : Nat} {L : List En} {H : Nat → Hd} (h : Gh w B p m N L H) (k : Below w.heap.size w w') : Gh w' B p m N L H := by
  obtain ⟨D, hD, hR⟩ := h.mp
  obtain ⟨es, clock, h1, r⟩ := hD
  exact ⟨blk_on h.bx k, h.pB, h.mB, ⟨D, ⟨es, clock, blk_on h1 k, r⟩, hR⟩, h.chk, fun i hi => own_on (h.held i hi) k, h.maps, h.sz⟩
end Go.Proofs.Ytfkdhambbpkmpaa
