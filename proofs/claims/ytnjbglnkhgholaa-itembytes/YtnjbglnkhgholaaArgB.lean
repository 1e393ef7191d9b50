/-
  A slice of bytes that came in: appended, read; the document's new reader of it.
-/
import Derived.Test.YtnjbglnkhgholaaReadSt
import Derived.Test.YtnjbglnkhgholaaArgRow
import Derived.Test.YtnjbglnkhgholaaAppStr
import Derived.Laws.AppendOwnNone
namespace Go.Proofs.Ytnjbglnkhgholaa
open Go.RowKit
set_option linter.unusedVariables false

/-- A slice of bytes that came in, with its bytes L: nil, or cells that are there. -/
def ArgB (w : World) (a : Option Addr) (len cap : Nat) (L : List UInt8) : Prop :=
  L.length = len ∧ len ≤ cap ∧ cap ≤ maxLen ∧ ((a = none ∧ len = 0 ∧ cap = 0) ∨ ∃ x, a = some x ∧ ∀ j u, (Lib.byteCells L)[j]? = some u → w.cell? (x.add j) = some u)

theorem ArgB.of_row {w : World} {a : Option Addr} {len cap : Nat} {zs : List Int} (h : IsRow w a len cap zs) : ArgB w a len cap (bytesOf (zs.take len)) := by
  rcases h with ⟨rfl, rfl, rfl, rfl⟩ | ⟨x, rfl, hl, hm, hz, hc, hw⟩
  · exact ⟨rfl, Nat.le_refl _, Nat.zero_le _, .inl ⟨rfl, rfl, rfl⟩⟩
  · have hlen : (bytesOf (zs.take len)).length = len := by rw [bytesOf_length, List.length_take]; omega
    refine ⟨hlen, hl, hm, .inr ⟨x, rfl, fun j u hj => ?_⟩⟩
    have hjl : j < len := by
      have := (List.getElem?_eq_some_iff.1 hj).1
      simpa [Lib.byteCells, hlen] using this
    have hjz : j < zs.length := by omega
    rw [hc j hjz]
    have hz' := wf_u8 (hw zs[j] (List.getElem_mem hjz))
    have e : (Lib.byteCells (bytesOf (zs.take len)))[j]? = some (.int .u8 zs[j]) := by
      have e0 : (bytesOf (zs.take len))[j]? = some (UInt8.ofNat (zs[j]).toNat) := by
        simp [bytesOf, hjl, hjz]
      simp only [Lib.byteCells, List.getElem?_map, e0, Option.map_some]
      rw [UInt8.toNat_ofNat', Nat.mod_eq_of_lt (show (zs[j]).toNat < 2 ^ 8 from by omega)]
      congr 2
      omega
    rw [e] at hj
    rw [← hj]
    simp [hjz]

/-- It stands in later worlds. -/
theorem ArgB.later {w w' : World} {a : Option Addr} {len cap : Nat} {L : List UInt8} (h : ArgB w a len cap L) (bel : Below w.heap.size w w') : ArgB w' a len cap L := by
  obtain ⟨h1, h2, h3, h4⟩ := h
  refine ⟨h1, h2, h3, ?_⟩
  rcases h4 with h | ⟨x, hx, hc⟩
  · exact .inl h
  · refine .inr ⟨x, hx, fun j u hj => ?_⟩
    have hcell := hc j u hj
    rw [← hcell]
    exact bel.cell (World.block_lt_of_cell? w _ hcell)

/-- It is read as its bytes. -/
theorem ArgB.reads {w : World} {a : Option Addr} {len cap : Nat} {L : List UInt8} (h : ArgB w a len cap L) : Reads w (.slice a len cap) L := by
  obtain ⟨h1, _, _, h4⟩ := h
  rcases h4 with ⟨rfl, rfl, rfl⟩ | ⟨x, rfl, hc⟩
  · have : L = [] := List.length_eq_zero_iff.1 h1
    subst this
    exact reads_nil w
  · intro m
    have key := run_convert_bytes_back (P := Try.prog) (w.drewN m) 40 9 5 x cap L Try.underlying40 Try.underlying5 Try.underlying9 (fun j hj => by
      refine hc j _ ?_
      simp [Lib.byteCells, hj])
    rw [h1] at key
    exact key

theorem grown_refl (w : World) (r : Option Nat) : w.grownBy w r := ⟨rfl, rfl, rfl, Nat.le_refl _, fun _ _ _ => rfl⟩

/-- append(buf, b...), b came in. -/
theorem append_arg {w : World} {ops : Array Oper} {rest : List Oper} {o : Oper} {act : Act} {Q : Exit → Act → World → Prop} (hgd : o.guard = none) (s x : Operand) (t : TypeId)
    (ho : o.op = .call { callee := .builtin .append, args := #[s, x], argTypes := #[t, t] }) (ht : Try.prog.underlying t = some (.slice 5))
    (base : Nat) (v : Value) (l : List UInt8) (hs : act.eval s = v) (hown : w.ownsRow base 5 1 v l.length (Lib.byteCells l))
    (a : Option Addr) (len cap : Nat) (L : List UInt8) (hx : act.eval x = .slice a len cap) (hL : ArgB w a len cap L) (hll : l.length + len ≤ 70368744177664) (hbase : base ≤ w.heap.size)
    (h : ∀ v' w', w'.ownsRow base 5 1 v' (l ++ L).length (Lib.byteCells (l ++ L)) → w.grownBy w' v.ownBlock → wpList Try.prog ops Q rest (act.put o.dst v') w') : wpList Try.prog ops Q (o :: rest) act w := by
  obtain ⟨i0, hi, hz0, hz1, hz2⟩ := info_parts info8
  obtain ⟨h1, h2, h3, h4⟩ := hL
  rcases h4 with ⟨rfl, rfl, rfl⟩ | ⟨ad, rfl, hc⟩
  · have : L = [] := List.length_eq_zero_iff.1 h1
    subst this
    refine wpList_append_own_none hgd s x t ho base 5 i0 1 ht hi v _ _ hs hown hx ?_
    exact h v w (by simpa using hown) (grown_refl _ _)
  · refine wpList_append_own w hgd s x t ho base 5 i0 (.int .u8 0) 1 1 ht hi hz0 hz1 hz2 rfl (by decide) v _ _ hs hown ad len cap (Lib.byteCells L) hx (by simp [Lib.byteCells, h1]) hc (by intro u hu; simp only [Lib.byteCells, List.mem_map] at hu; obtain ⟨x, _, rfl⟩ := hu; rfl) (by unfold maxLen; omega) (by omega) hbase ?_
    intro v' w' ho' hg _
    refine h v' w' ?_ hg
    rw [Lib.byteCells_append, List.length_append, h1]
    exact ho'

set_option maxHeartbeats 800000 in
set_option maxRecDepth 100000 in
theorem newReaderRef_any (a : Option Addr) (len cap : Nat) (L : List UInt8) (w : World) (h : ArgB w a len cap L) (hl : len ≤ 2147483647) :
    Calls Try.prog 38 #[.slice a len cap] w fun e w' => e = .returned (.pointer (some ⟨w.heap.size, 0, none⟩)) ∧ ∃ v, IsRR (w.heap.size + 1) w.heap.size v L 0 0 w' ∧ Keeps (fun _ => False) w w' := by
  have H := aside h
  clear h
  have hnil : ∀ w0 : World, w0.ownsRow (w.heap.size + 1) 5 1 (.slice none 0 0) ([] : List UInt8).length (Lib.byteCells []) := fun w0 => World.ownsRow_nil _ _ _ _
  have hA : ∀ o, ArgB (w.alloc o) a len cap L := fun o => H.out.later ((Below.refl _ _).alloc (Nat.le_refl _) _)
  have HA := aside hA
  clear hA
  go_enter Try.func38, Try.ntmps38
  go_wp2_with (at_builtin; refine append_arg rfl _ _ _ rfl Try.underlying40 (w.heap.size + 1) (.slice none 0 0) [] (by rfl) (hnil _) a len cap L (by rfl) (HA.out _) (by simp; omega) (by simp) ?_; intro v' w1 hown1 hgrow; refine Hid.out ?_)
  refine aside ?_
  obtain ⟨va, vn, vc, rfl⟩ := own_form hown1
  rw [List.nil_append] at hown1
  have hh : w1.heap[w.heap.size]? = some (.cells #[.slice none 0 0, .int .i64 0, .int .i64 0] 79 (0, 0)) := by
    rw [hgrow.block w.heap.size (by simp) (by simp [Value.ownBlock])]
    exact heap_alloc_new w _
  have hk : Keeps (fun _ => False) w w1 := ((Keeps.refl _ w).alloc _).grown hgrow (fun k hk hlt => by simp [Value.ownBlock] at hk)
  have hne : (Value.slice va vn vc).ownBlock ≠ some w.heap.size := fun e => by have := (hown1.lt _ e).1; omega
  have hc := (cell_of_row w1 w.heap.size 0 _ _ _ hh)
  have hf : w1.frozen? ⟨w.heap.size, 0, none⟩ = false := frozen_of_row w1 w.heap.size 0 _ _ hh
  have HO := aside hown1
  have HH := aside hh
  have HK := aside hk
  have HN := aside hne
  clear hown1 hgrow hh hk hne
  go_wp2
  go_ret
  refine ⟨rfl, _, ⟨?_, own_setCell HO.out HN.out _, HN.out⟩, HK.out.setCell (p := ⟨w.heap.size, 0, none⟩) (fun h => by simp at h) _⟩
  rw [heap_setCell_same w1 w.heap.size 0 _ _ _ HH.out]
  rfl

end Go.Proofs.Ytnjbglnkhgholaa
