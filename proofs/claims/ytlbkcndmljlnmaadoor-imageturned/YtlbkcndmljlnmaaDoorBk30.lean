/-
  Two maps side by side, step by step: plain; rows of pairs in memory.
  Pairs, the document's own: two maps side by side, as a list.
  The iterator that goes through two maps side by side: what it hands to a loop's body.
  Lists that a loop over pairs makes.
  In, the code's: what of a list is in a range.
  What entries come to: the document's All.
  The document's store: what All goes through, what Fold tells.
  held and same of the images.
  same of the images: the store holds what the document's does.
  What Load refuses with: the first entry that is wrong, plain.
  Load of the code, with its error.
  The document's Load, with its error.
  The document's Put of an image.
  Rows of bytes that are written into, and what stays beside.
  Entries taken one behind the other: plain.
  Where a key stands among entries: plain.
  Steps of a store keep what an image can be made of.
  A step at two stores that hold the same.
  The steps of a script over two stores, that came in; among; lists of bools.
  Entries and lists of entries that came in: from their reading to plain entries, with their sizes.
  Entries taken in any order: plain.
-/
import Derived.Test.YtlbkcndmljlnmaaDoorBk20
import Derived.Test.YtlbkcndmljlnmaaDoorBk25
import Derived.Test.YtlbkcndmljlnmaaDoorBk22
import Derived.Test.YtlbkcndmljlnmaaDoorBk23
import Derived.Test.YtlbkcndmljlnmaaDoorBk16
import Derived.Deep.RegionHeld
import Derived.Test.YtlbkcndmljlnmaaDoorBk7
import Derived.Test.YtlbkcndmljlnmaaDoorBk6
import Derived.Deep.RegionWith
import Derived.Test.YtlbkcndmljlnmaaDoorBk26
import Derived.Test.YtlbkcndmljlnmaaDoorBk24
import Derived.Test.YtlbkcndmljlnmaaDoorBk29
import Derived.Test.YtlbkcndmljlnmaaDoorBk28
import Derived.Deep.CutBlock
import Derived.Deep.DeepCutAuto
import Derived.Test.YtlbkcndmljlnmaaDoorBk1
import Derived.Test.YtlbkcndmljlnmaaDoorBk19
namespace Go.Proofs.YtlbkcndmljlnmaaDoor
open Go.RowKit
set_option linter.unusedVariables false
end Go.Proofs.YtlbkcndmljlnmaaDoor
namespace Go.Proofs.YtlbkcndmljlnmaaDoor
open Go.RowKit
set_option linter.unusedVariables false
end Go.Proofs.YtlbkcndmljlnmaaDoor
namespace Go.Proofs.YtlbkcndmljlnmaaDoor
open Go.RowKit Go.Shelf
set_option linter.unusedVariables false
attribute [local go_sem] Oper.semAt_some
end Go.Proofs.YtlbkcndmljlnmaaDoor
namespace Go.Proofs.YtlbkcndmljlnmaaDoor
open Go.RowKit Go.Shelf
set_option linter.unusedVariables false
end Go.Proofs.YtlbkcndmljlnmaaDoor
namespace Go.Proofs.YtlbkcndmljlnmaaDoor
open Go.RowKit
set_option linter.unusedVariables false
end Go.Proofs.YtlbkcndmljlnmaaDoor
namespace Go.Proofs.YtlbkcndmljlnmaaDoor
open Go.RowKit
set_option linter.unusedVariables false
def f0 (e : En) : Int := of0 e.k e.c e.n
def f1 (e : En) : Int := of1 e.k e.c e.n
end Go.Proofs.YtlbkcndmljlnmaaDoor
namespace Go.Proofs.YtlbkcndmljlnmaaDoor
open Go.RowKit
set_option linter.unusedVariables false
end Go.Proofs.YtlbkcndmljlnmaaDoor
namespace Go.Proofs.YtlbkcndmljlnmaaDoor
open Go.RowKit
set_option linter.unusedVariables false
attribute [local go_sem] Oper.semAt_some
end Go.Proofs.YtlbkcndmljlnmaaDoor
namespace Go.Proofs.YtlbkcndmljlnmaaDoor
open Go.RowKit
set_option linter.unusedVariables false
end Go.Proofs.YtlbkcndmljlnmaaDoor
namespace Go.Proofs.YtlbkcndmljlnmaaDoor
open Go.RowKit
set_option linter.unusedVariables false
end Go.Proofs.YtlbkcndmljlnmaaDoor
namespace Go.Proofs.YtlbkcndmljlnmaaDoor
open Go.RowKit
set_option linter.unusedVariables false
end Go.Proofs.YtlbkcndmljlnmaaDoor
namespace Go.Proofs.YtlbkcndmljlnmaaDoor
open Go.RowKit
set_option linter.unusedVariables false
end Go.Proofs.YtlbkcndmljlnmaaDoor
namespace Go.Proofs.YtlbkcndmljlnmaaDoor
open Go.RowKit
set_option linter.unusedVariables false
end Go.Proofs.YtlbkcndmljlnmaaDoor
namespace Go.Proofs.YtlbkcndmljlnmaaDoor
open Go.RowKit
set_option linter.unusedVariables false
end Go.Proofs.YtlbkcndmljlnmaaDoor
namespace Go.Proofs.YtlbkcndmljlnmaaDoor
open Go.RowKit
set_option linter.unusedVariables false
end Go.Proofs.YtlbkcndmljlnmaaDoor
namespace Go.Proofs.YtlbkcndmljlnmaaDoor
open Go.RowKit
set_option linter.unusedVariables false
/-- How many entries stand ahead of a key. -/
def plc (k : ByteArray) : List En → Nat
  | [] => 0
  | y :: l => if kLt y.k k = true then plc k l + 1 else 0
/-- Whether it stands there. -/
def isP (k : ByteArray) : List En → Bool
  | [] => false
  | y :: l => if kLt y.k k = true then isP k l else y.k.toList == k.toList
theorem plc_le (k : ByteArray) : ∀ l : List En, plc k l ≤ l.length
  | [] => Nat.le_refl _
  | y :: l => by
    have := plc_le k l
    unfold plc
    split <;> simp <;> omega
theorem isP_lt {k : ByteArray} : ∀ {l : List En}, isP k l = true → plc k l < l.length
  | [], h => by simp [isP] at h
  | y :: l, h => by
    unfold isP at h
    unfold plc
    by_cases g : kLt y.k k = true
    · rw [if_pos g] at h ⊢
      have := isP_lt h
      simp; omega
    · rw [if_neg g]; simp
theorem nthE_succ (y : En) (l : List En) (i : Nat) : nthE (y :: l) (i + 1) = nthE l i := by simp [nthE]
/-- An entry laid: those ahead, it, those behind. -/
theorem insE_plc (e : En) : ∀ l : List En, insE e l = l.take (plc e.k l) ++ [e] ++ l.drop (if isP e.k l = true then plc e.k l + 1 else plc e.k l)
  | [] => by simp [insE, plc, isP]
  | y :: l => by
    unfold insE plc isP
    by_cases g : kLt y.k e.k = true
    · rw [if_neg (by rw [kLt_asymm g]; simp), if_pos g, if_pos g, if_pos g, insE_plc e l]
      by_cases h : isP e.k l = true
      · rw [if_pos h, if_pos h]; simp
      · rw [if_neg h, if_neg h]; simp
    · rw [if_neg g, if_neg g, if_neg g]
      by_cases h : kLt e.k y.k = true
      · rw [if_pos h, if_neg (by
          intro c
          have : y.k = e.k := toList_inj (by simpa using c)
          rw [this, kLt_irrefl] at h; cases h)]
        simp
      · rw [if_neg h, if_pos (by
          have : y.k = e.k := kLt_total (by simpa using g) (by simpa using h)
          rw [this]; simp)]
        simp
/-- What is held under a key. -/
theorem look_plc {k : ByteArray} : ∀ {l : List En}, RisesE l → lookE k l = if isP k l = true then some (nthE l (plc k l)) else none
  | [], _ => by simp [lookE, isP]
  | y :: l, hr => by
    have h1 := rises_consE.1 hr
    unfold lookE isP plc
    by_cases g : kLt y.k k = true
    · rw [if_pos g, if_pos g]
      rw [List.find?_cons_of_neg (by simp [g])]
      have := look_plc (k := k) h1.2
      unfold lookE at this
      rw [this, nthE_succ]
    · rw [if_neg g, if_neg g]
      by_cases h : kLt k y.k = true
      · rw [List.find?_cons_of_neg (by simp [h]), if_neg (by
          intro c
          have : y.k = k := toList_inj (by simpa using c)
          rw [this, kLt_irrefl] at h; cases h)]
        rw [List.find?_eq_none]
        intro z hz
        have : kLt k z.k = true := kLt_trans h (h1.1 z hz)
        simp [this]
      · rw [List.find?_cons_of_pos (by simp [g, h]), if_pos (by
          have : y.k = k := kLt_total (by simpa using g) (by simpa using h)
          rw [this]; simp)]
        simp [nthE]
theorem room_plc {k : ByteArray} {l : List En} (h : RisesE l) : roomB k l = (isP k l || decide (l.length < 256)) := by
  unfold roomB
  rw [look_plc h]
  cases isP k l <;> simp
theorem take_map {e : En} {l : List En} (h : MapL l) (he : e.chk = 0) : MapL (insE e l) := ⟨rises_of_map (by rw [← ins_map]; exact rises_ins _ (rises_map h.rises)), fun x hx => by
  rw [insE_plc] at hx
  simp only [List.append_assoc, List.singleton_append, List.mem_append, List.mem_cons] at hx
  rcases hx with hx | rfl | hx
  · exact h.chk x (List.mem_of_mem_take hx)
  · exact he
  · exact h.chk x (List.mem_of_mem_drop hx)⟩
theorem take_len {e : En} {l : List En} (h : RisesE l) (hl : l.length ≤ 256) (hr : roomB e.k l = true) : (insE e l).length ≤ 256 := by
  rw [room_plc h] at hr
  rw [insE_plc]
  have h1 := plc_le e.k l
  cases hi : isP e.k l
  · rw [hi] at hr
    simp at hr ⊢
    omega
  · have h2 := isP_lt hi
    simp
    omega
end Go.Proofs.YtlbkcndmljlnmaaDoor
namespace Go.Proofs.YtlbkcndmljlnmaaDoor
open Go.RowKit
set_option linter.unusedVariables false
theorem insE_mem {e x : En} {l : List En} (h : x ∈ insE e l) : x = e ∨ x ∈ l := by
  rw [insE_plc] at h
  simp only [List.append_assoc, List.singleton_append, List.mem_append, List.mem_cons] at h
  rcases h with h | h | h
  · exact .inr (List.mem_of_mem_take h)
  · exact .inl h
  · exact .inr (List.mem_of_mem_drop h)
theorem tkY {e : En} {Ls : List En} (h : (tkSay e Ls).2 = true) : e.chk = 0 ∧ roomB e.k Ls = true := by
  unfold tkSay at h
  by_cases h1 : e.chk ≠ 0
  · rw [if_pos h1] at h; cases h
  rw [if_neg h1] at h
  by_cases h2 : roomB e.k Ls = false
  · rw [if_pos h2] at h; cases h
  exact ⟨by simpa using h1, by simpa using h2⟩
theorem chkC {e : En} (h : e.chk = 0) : 1 ≤ e.c ∧ e.c ≤ 1099511627776 := by
  unfold En.chk at h
  by_cases h1 : (16 : Int) < e.k.size
  · rw [if_pos h1] at h; omega
  rw [if_neg h1] at h
  by_cases h2 : Vs.chk e.c e.n ≠ 0
  · rw [if_pos h2] at h; omega
  unfold Vs.chk at h2
  by_cases h3 : e.c < 1 ∨ 1099511627776 < e.c ∨ e.n < 0 ∨ 8 ≤ e.n
  · rw [if_pos h3] at h2; simp at h2
  · omega
theorem take_okI {e : En} {nd ck : Int} {Ls : List En} (hO : LdOk nd ck Ls) (h : (tkSay e Ls).2 = true) : LdOk nd (ckm ck e.c) (insE e Ls) := by
  have h0 := tkY h
  have hc := hO.c0
  have h1 := hO.c1
  have hp : 1 ≤ e.c ∧ e.c ≤ 1099511627776 := chkC h0.1
  refine ⟨hO.nd, ?_, ?_, take_len hO.map.rises hO.len h0.2, take_map hO.map h0.1, fun x hx => ?_⟩
  · unfold ckm; split <;> omega
  · unfold ckm; split <;> omega
  · rcases insE_mem hx with rfl | hx
    · unfold ckm; split <;> omega
    · have := hO.ver x hx
      unfold ckm; split <;> omega
end Go.Proofs.YtlbkcndmljlnmaaDoor
namespace Go.Proofs.YtlbkcndmljlnmaaDoor
open Go.RowKit
set_option linter.unusedVariables false
/-- Six blocks, none below B. -/
def SixB (B sa ga ta sb gb tb : Nat) : Prop := (B ≤ sa ∧ B ≤ ga ∧ B ≤ ta) ∧ B ≤ sb ∧ B ≤ gb ∧ B ≤ tb
theorem belOf {B sb g tb : Nat} {X Y : World} (h : B ≤ X.heap.size) (b : B ≤ sb ∧ B ≤ g ∧ B ≤ tb) (k : Keeps (Of sb g tb) X Y) : Below B X Y :=
  k.below h (fun i hi e => by unfold Of at e; omega)
end Go.Proofs.YtlbkcndmljlnmaaDoor
namespace Go.Proofs.YtlbkcndmljlnmaaDoor
open Go.ChangeShapes Go.WideShapes Go.ChangeAt Go.RowKit
set_option linter.unusedVariables false
variable {H : Type} {enc : TypeId × Value → H} {W : World}
/-- The place among n. -/
def amg (p n : Int) : Int := if p.tmod n < 0 then p.tmod n + n else p.tmod n
theorem amg_lt (p : Int) {m : Nat} (hm : 0 < m) : ∃ k : Nat, amg p (m : Int) = (k : Int) ∧ k < m := by
  have hlo : -(m : Int) < p.tmod m := by
    have := Int.lt_tmod_of_pos p (show (0 : Int) < m by omega)
    omega
  have hhi : p.tmod m < (m : Int) := Int.tmod_lt_of_pos p (by omega)
  unfold amg
  split
  · exact ⟨(p.tmod m + m).toNat, by omega, by omega⟩
  · exact ⟨(p.tmod m).toNat, by omega, by omega⟩
set_option maxHeartbeats 1600000 in
theorem among11 (p : Int) (m : Nat) (w : World) (hm : 0 < m) (hx : (m : Int) ≤ 9223372036854775807) :
    Calls Tryd.prog 16 #[.int .i64 p, .int .i64 (m : Int)] w fun e w' => e = .returned (.int .i64 (amg p (m : Int))) ∧ w' = w := by
  have h1 : ¬ (m : Int) < 1 := by omega
  have hne : (m : Int) ≠ 0 := by omega
  have hlo : -(m : Int) < p.tmod m := by
    have := Int.lt_tmod_of_pos p (show (0 : Int) < m by omega)
    omega
  have hhi : p.tmod m < (m : Int) := Int.tmod_lt_of_pos p (by omega)
  have hnm : ¬ (m : Int) = -1 := by omega
  unfold amg
  generalize hr : p.tmod m = r at *
  by_cases hneg : r < 0
  · have hw : IntKind.i64.wrap (r + (m : Int)) = r + (m : Int) := by rw [IntKind.wrap_i64]; omega
    rw [if_pos hneg]
    go_enter Tryd.func16, Tryd.ntmps16
    go_wp2
    go_ret
    exact ⟨rfl, rfl⟩
  · rw [if_neg hneg]
    go_enter Tryd.func16, Tryd.ntmps16
    go_wp2
    go_ret
    exact ⟨rfl, rfl⟩
section
variable {H : Type} {enc : TypeId × Value → H} {W : World}
end
end Go.Proofs.YtlbkcndmljlnmaaDoor
namespace Go.Proofs.YtlbkcndmljlnmaaDoor
open Go.ChangeShapes Go.WideShapes Go.ChangeAt Go.RowKit
set_option linter.unusedVariables false
variable {H : Type} {enc : TypeId × Value → H} {W : World}
set_option maxRecDepth 100000 in
/-- An entry's five cells, from their reading. -/
theorem ent_cells {b0 : Nat} {sp : Nat → Bool} {held : Bool} {fuel : Nat} {v0 v1 v2 v3 v4 : Value} {x : DataW H × List MemPlace} (h : DataW.trod enc Tryd.prog W b0 sp held fuel 44 [v0, v1, v2, v3, v4] = some x) :
    ∃ (k : ByteArray) (c n : Int) (v : ByteArray) (d : Bool), v0 = .string k ∧ v1 = .int .i64 c ∧ v2 = .int .i64 n ∧ v3 = .string v ∧ v4 = .bool d ∧
      ((-9223372036854775808 ≤ c ∧ c ≤ 9223372036854775807) ∧ (-9223372036854775808 ≤ n ∧ n ≤ 9223372036854775807)) ∧ k.size ≤ maxLen ∧ v.size ≤ maxLen ∧
      x.1 = .agg [.lit (.string k.data.toList), .agg [.lit (.int .i64 c), .lit (.int .i64 n)], .lit (.string v.data.toList), .lit (.bool d)] := by
  obtain ⟨y0, y1, y2, y3, m, rfl, _, h0, h1, h2, h3⟩ := Joins.trod_struct4 Tryd.underlying44 h
  simp [cellsStr, cellsBool, cellsVer] at h0 h1 h2 h3
  obtain ⟨z0, z1, m', rfl, _, g0, g1⟩ := trod_struct2 Tryd.underlying42 h1
  simp [cellsInt] at g0 g1
  obtain ⟨k, e0, rfl, w0⟩ := DataW.trod_string Tryd.underlying9 h0
  obtain ⟨c, e1, rfl, w1⟩ := DataW.trod_int Tryd.underlying3 g0
  obtain ⟨n, e2, rfl, w2⟩ := DataW.trod_int Tryd.underlying3 g1
  obtain ⟨v, e3, rfl, w3⟩ := DataW.trod_string Tryd.underlying9 h2
  obtain ⟨d, e4, rfl⟩ := DataW.trod_bool Tryd.underlying4 h3
  simp only [List.cons.injEq, and_true] at e0 e1 e2 e3 e4
  exact ⟨k, c, n, v, d, e0, e1, e2, e3, e4, ⟨bounds_i64 w1, bounds_i64 w2⟩, w0, w3, rfl⟩
set_option maxRecDepth 100000 in
/-- An entry's key is of a size that memory has. -/
theorem ent_size {d : DataW H} {k v : ByteArray} {c n : Int} {b : Bool} (hd : d = .agg [.lit (.string k.data.toList), .agg [.lit (.int .i64 c), .lit (.int .i64 n)], .lit (.string v.data.toList), .lit (.bool b)])
    (hz : ∀ m ∈ d.weights Tryd.prog 44, m ≤ reachBytes) : k.size ≤ 140737488351232 := by
  have := hz k.data.toList.length (by rw [hd]; simp [DataW.weights, Tryd.underlying44, DataW.weightsEach])
  have e : k.data.toList.length = k.size := by show k.data.toList.length = k.data.size; simp
  rw [e] at this
  exact this
theorem weights_all {P : Program} {e : TypeId} : ∀ {ds : List (DataW H)} {d : DataW H}, d ∈ ds → ∀ n ∈ d.weights P e, n ∈ DataW.weightsAll P e ds
  | d0 :: r, d, hd, n, hn => by
    simp only [DataW.weightsAll, List.mem_append]
    rcases List.mem_cons.1 hd with rfl | hd
    · exact Or.inl hn
    · exact Or.inr (weights_all hd n hn)
  | [], _, hd, _, _ => by simp at hd
set_option maxHeartbeats 1000000 in
theorem ents_open {fuel : Nat} {a : Option Addr} {len cap : Nat} {d : DataW H} {ps : List MemPlace}
    (hf : DataW.trod enc Tryd.prog W 0 (fun _ => true) true fuel 22 [.slice a len cap] = some (d, ps)) (hz : ∀ n ∈ d.weights Tryd.prog 22, n ≤ reachBytes) :
    ∃ T, EntsIn W a len cap T ∧ ((a = none ∧ len = 0 ∧ cap = 0) ∨ ∃ y, a = some y) ∧ len * 56 ≤ 140737488351232 := by
  rcases Deep.open_slice Tryd.underlying22 hf with ⟨hcs, _⟩ | ⟨x, l, c, m, n, D, Pl, hcs, hb, hl, hm, hmm, hx, hel⟩
  · simp only [List.cons.injEq, Value.slice.injEq, and_true] at hcs
    obtain ⟨rfl, rfl, rfl⟩ := hcs
    exact ⟨fun _ => ⟨ByteArray.empty, 0, 0, ByteArray.empty, false⟩, ⟨Nat.le_refl _, Nat.zero_le _, .inl rfl⟩, .inl ⟨rfl, rfl, rfl⟩, by omega⟩
  · simp only [List.cons.injEq, Value.slice.injEq, and_true] at hcs
    obtain ⟨rfl, rfl, rfl⟩ := hcs
    simp only [Prod.mk.injEq] at hx
    have hd := hx.1
    simp only [if_true] at hmm
    subst hmm
    rw [cellsEnt] at hel
    have hbytes : len * 56 ≤ 140737488351232 := by
      have h1 := hz _ (by rw [hd]; simp only [DataW.weights, Tryd.underlying22]; exact List.mem_cons_self)
      rw [bytesEnt] at h1
      simp only [List.length_map, List.length_range] at h1
      have : reachBytes = 140737488351232 := by decide
      omega
    have each : ∀ i, i < len → ∃ t : En, (W.cell? (x.add (i * 5)) = some (.string t.k) ∧ W.cell? (x.add (i * 5 + 1)) = some (.int .i64 t.c) ∧ W.cell? (x.add (i * 5 + 2)) = some (.int .i64 t.n) ∧ W.cell? (x.add (i * 5 + 3)) = some (.string t.v) ∧ W.cell? (x.add (i * 5 + 4)) = some (.bool t.d)) ∧ t.k.size ≤ 140737488351232 := by
      intro i hi
      obtain ⟨cs', h1, h2⟩ := hel i (by omega)
      obtain ⟨_, hlen, hcell⟩ := World.cells?_some h1
      match cs', hlen with
      | [v0, v1, v2, v3, v4], _ =>
        obtain ⟨k, c, n, v, d', rfl, rfl, rfl, rfl, rfl, _, _, _, hdi⟩ := ent_cells h2
        have c0 := hcell 0 (by omega)
        have c1 := hcell 1 (by omega)
        have c2 := hcell 2 (by omega)
        have c3 := hcell 3 (by omega)
        have c4 := hcell 4 (by omega)
        rw [Deep.add_add] at c0 c1 c2 c3 c4
        refine ⟨⟨k, c, n, v, d'⟩, ⟨by simpa using c0, by simpa using c1, by simpa using c2, by simpa using c3, by simpa using c4⟩, ?_⟩
        refine ent_size hdi (fun m' hm' => hz m' ?_)
        rw [hd]
        simp only [DataW.weights, Tryd.underlying22]
        exact List.mem_cons_of_mem _ (List.mem_append_left _ (weights_all (d := D i) (List.mem_map.2 ⟨i, List.mem_range.2 hi, rfl⟩) _ hm'))
    by_cases h0 : len = 0
    · exact ⟨fun _ => ⟨ByteArray.empty, 0, 0, ByteArray.empty, false⟩, ⟨hl, hm, .inl h0⟩, .inr ⟨_, rfl⟩, hbytes⟩
    · letI : Inhabited En := ⟨⟨ByteArray.empty, 0, 0, ByteArray.empty, false⟩⟩
      obtain ⟨T, hT⟩ := Deep.choose_lt each
      have hc0 := (hT 0 (by omega)).1.1
      obtain ⟨blk, off, spot⟩ := x
      have hspot : spot = none := by
        have := World.cell?_spot hc0
        simpa [Addr.add] using this
      subst hspot
      have hblk : blk < W.heap.size := by
        have := World.block_lt_of_cell? W _ hc0
        simpa [Addr.add] using this
      have hadd : ∀ j, (⟨blk, off, none⟩ : Addr).add j = ⟨blk, off + j, none⟩ := by intro j; unfold Addr.add; split <;> simp_all
      refine ⟨T, ⟨hl, hm, .inr ⟨blk, off, rfl, hblk, fun i hi => ⟨?_, (hT i hi).2⟩⟩⟩, .inr ⟨_, rfl⟩, hbytes⟩
      have h5 := (hT i hi).1
      simp only [hadd] at h5
      simpa only [Nat.add_assoc] using h5
end Go.Proofs.YtlbkcndmljlnmaaDoor
namespace Go.Proofs.YtlbkcndmljlnmaaDoor
open Go.RowKit
set_option linter.unusedVariables false
theorem nwr_iff (a b : En) : En.newer a b = true ↔ b.c < a.c ∨ (b.c = a.c ∧ b.n < a.n) := by
  unfold En.newer Vs.cmp Vs.c2
  simp only [decide_eq_true_eq]
  split
  · omega
  · split
    · omega
    · split
      · omega
      · split <;> omega
theorem nwr_not (a b : En) : En.newer a b = false ↔ ¬ (b.c < a.c ∨ (b.c = a.c ∧ b.n < a.n)) := by
  rw [← nwr_iff]; simp
theorem rises_insE (e : En) {l : List En} (h : RisesE l) : RisesE (insE e l) :=
  rises_of_map (by rw [← ins_map]; exact rises_ins _ (rises_map h))
theorem insE_len1 (e : En) : ∀ l : List En, (insE e l).length ≤ l.length + 1
  | [] => by simp [insE]
  | y :: l => by
    have ih := insE_len1 e l
    unfold insE
    split
    · simp
    · split
      · simp only [List.length_cons]; omega
      · simp
theorem insE_len0 (e : En) : ∀ l : List En, RisesE l → (∃ y ∈ l, y.k = e.k) → (insE e l).length = l.length
  | [], _, ⟨y, hy, _⟩ => by simp at hy
  | z :: l, h, ⟨y, hy, hk⟩ => by
    unfold RisesE at h
    rw [List.pairwise_cons] at h
    unfold insE
    split
    · rename_i h1
      exfalso
      rcases List.mem_cons.1 hy with rfl | hy
      · rw [hk, kLt_irrefl] at h1; cases h1
      · have := h.1 y hy
        rw [hk] at this
        have h2 := kLt_trans h1 this
        rw [kLt_irrefl] at h2; cases h2
    · split
      · rename_i h1 h2
        have : ∃ y ∈ l, y.k = e.k := by
          rcases List.mem_cons.1 hy with rfl | hy
          · rw [hk, kLt_irrefl] at h2; cases h2
          · exact ⟨y, hy, hk⟩
        simp only [List.length_cons, insE_len0 e l h.2 this]
      · simp
theorem mem_insE (e x : En) : ∀ l : List En, RisesE l → (x ∈ insE e l ↔ x = e ∨ (x ∈ l ∧ x.k ≠ e.k))
  | [], _ => by simp [insE]
  | z :: l, h => by
    unfold RisesE at h
    rw [List.pairwise_cons] at h
    have ih := mem_insE e x l h.2
    unfold insE
    split
    · rename_i h1
      constructor
      · intro hx
        rcases List.mem_cons.1 hx with rfl | hx
        · exact .inl rfl
        · refine .inr ⟨hx, fun hk => ?_⟩
          rcases List.mem_cons.1 hx with rfl | hx
          · rw [hk, kLt_irrefl] at h1; cases h1
          · have := kLt_trans h1 (h.1 x hx)
            rw [hk, kLt_irrefl] at this; cases this
      · rintro (rfl | ⟨hx, _⟩)
        · exact List.mem_cons_self
        · exact List.mem_cons_of_mem _ hx
    · split
      · rename_i h1 h2
        rw [List.mem_cons, ih, List.mem_cons]
        constructor
        · rintro (rfl | rfl | ⟨a, b⟩)
          · exact .inr ⟨.inl rfl, kLt_ne' h2⟩
          · exact .inl rfl
          · exact .inr ⟨.inr a, b⟩
        · rintro (rfl | ⟨rfl | a, b⟩)
          · exact .inr (.inl rfl)
          · exact .inl rfl
          · exact .inr (.inr ⟨a, b⟩)
      · rename_i h1 h2
        have hz : e.k = z.k := kLt_total (by simpa using h1) (by simpa using h2)
        rw [List.mem_cons, List.mem_cons]
        constructor
        · rintro (rfl | a)
          · exact .inl rfl
          · refine .inr ⟨.inr a, fun hk => ?_⟩
            have := h.1 x a
            rw [hk, hz, kLt_irrefl] at this; cases this
        · rintro (rfl | ⟨rfl | a, b⟩)
          · exact .inl rfl
          · exact absurd hz.symm b
          · exact .inr a
where
  kLt_ne' {a b : ByteArray} (h : kLt a b = true) : a ≠ b := kLt_ne h
theorem look_mem {k : ByteArray} {l : List En} {o : En} (h : lookE k l = some o) : o ∈ l ∧ o.k = k := by
  unfold lookE at h
  have h1 := List.find?_some h
  refine ⟨List.mem_of_find?_eq_some h, ?_⟩
  simp only [Bool.and_eq_true, Bool.not_eq_true'] at h1
  exact kLt_total h1.2 h1.1
theorem look_not {k : ByteArray} {l : List En} (h : lookE k l = none) : ∀ y ∈ l, y.k ≠ k := by
  intro y hy hk
  unfold lookE at h
  have := List.find?_eq_none.1 h y hy
  rw [hk] at this
  simp [kLt_irrefl] at this
theorem key_oneT {l : List En} (h : RisesE l) {x y : En} (hx : x ∈ l) (hy : y ∈ l) (hk : x.k = y.k) : x = y := by
  induction l with
  | nil => simp at hx
  | cons z l ih =>
    unfold RisesE at h
    rw [List.pairwise_cons] at h
    rcases List.mem_cons.1 hx with e1 | hx2 <;> rcases List.mem_cons.1 hy with e2 | hy2
    · rw [e1, e2]
    · have := h.1 y hy2; rw [← e1, hk, kLt_irrefl] at this; cases this
    · have := h.1 x hx2; rw [← e2, hk, kLt_irrefl] at this; cases this
    · exact ih h.2 hx2 hy2
theorem look_of {l : List En} (h : RisesE l) {y : En} {k : ByteArray} (hy : y ∈ l) (hk : y.k = k) : lookE k l = some y := by
  cases hq : lookE k l with
  | none => exact absurd hk (look_not hq y hy)
  | some o =>
    obtain ⟨h1, h2⟩ := look_mem hq
    rw [key_oneT h h1 hy (h2.trans hk.symm)]
theorem rises_memT : ∀ {l m : List En}, RisesE l → RisesE m → (∀ x, x ∈ l ↔ x ∈ m) → l = m
  | [], [], _, _, _ => rfl
  | [], y :: m, _, _, h => by have := (h y).2 List.mem_cons_self; simp at this
  | x :: l, [], _, _, h => by have := (h x).1 List.mem_cons_self; simp at this
  | x :: l, y :: m, h1, h2, h => by
    have g1 := h1
    have g2 := h2
    unfold RisesE at h1 h2
    rw [List.pairwise_cons] at h1 h2
    have e : x = y := by
      rcases List.mem_cons.1 ((h x).1 List.mem_cons_self) with e | a
      · exact e
      · rcases List.mem_cons.1 ((h y).2 List.mem_cons_self) with e | b
        · exact e.symm
        · have := kLt_trans (h1.1 y b) (h2.1 x a)
          rw [kLt_irrefl] at this; cases this
    subst e
    rw [rises_memT (l := l) (m := m) h1.2 h2.2 (fun z => ?_)]
    constructor
    · intro hz
      rcases List.mem_cons.1 ((h z).1 (List.mem_cons_of_mem _ hz)) with rfl | a
      · have := h1.1 z hz; rw [kLt_irrefl] at this; cases this
      · exact a
    · intro hz
      rcases List.mem_cons.1 ((h z).2 (List.mem_cons_of_mem _ hz)) with rfl | a
      · have := h2.1 z hz; rw [kLt_irrefl] at this; cases this
      · exact a
/-- What a store is that has taken what P says. -/
structure Took (P : En → Prop) (Ls : List En) (ck : Int) : Prop where
  rises : RisesE Ls
  src : ∀ y ∈ Ls, P y ∧ y.chk = 0
  best : ∀ e, P e → e.chk = 0 → ∃ y ∈ Ls, y.k = e.k ∧ En.newer e y = false
  top : ∀ e, P e → e.chk = 0 → e.c ≤ ck
  eq : ck = 0 ∨ ∃ e, P e ∧ e.chk = 0 ∧ e.c = ck
  pos : 0 ≤ ck
  len : Ls.length ≤ 256
theorem Took.nil : Took (fun _ => False) [] 0 := ⟨List.Pairwise.nil, by simp, by simp, by simp, .inl rfl, by omega, by simp⟩
theorem Took.of {P P' : En → Prop} {Ls : List En} {ck : Int} (h : Took P Ls ck) (e : ∀ x, P x ↔ P' x) : Took P' Ls ck := by
  have : P = P' := funext fun x => propext (e x)
  subst this
  exact h
theorem Took.pass {P : En → Prop} {Ls : List En} {ck : Int} (h : Took P Ls ck) (e : En) (hs : (tkSay e Ls).2 = false) (hf : (tkSay e Ls).1 ≠ 80) : Took (fun x => P x ∨ x = e) Ls ck := by
  have hE : e.chk = 0 → ∃ y ∈ Ls, y.k = e.k ∧ En.newer e y = false := by
    intro h0
    unfold tkSay at hs hf
    rw [if_neg (by simp [h0])] at hs hf
    split at hs
    · rename_i h1
      rw [if_pos h1] at hf
      exact absurd rfl hf
    · cases hq : lookE e.k Ls with
      | none => rw [hq] at hs; simp at hs
      | some o =>
        rw [hq] at hs
        obtain ⟨h2, h3⟩ := look_mem hq
        exact ⟨o, h2, h3, hs⟩
  refine ⟨h.rises, fun y hy => ⟨.inl (h.src y hy).1, (h.src y hy).2⟩, ?_, ?_, ?_, h.pos, h.len⟩
  · rintro x (hx | rfl) h0
    · exact h.best x hx h0
    · exact hE h0
  · rintro x (hx | rfl) h0
    · exact h.top x hx h0
    · obtain ⟨y, hy, _, hn⟩ := hE h0
      have := h.top y (h.src y hy).1 (h.src y hy).2
      rw [nwr_not] at hn
      omega
  · rcases h.eq with h1 | ⟨x, h1, h2⟩
    · exact .inl h1
    · exact .inr ⟨x, .inl h1, h2⟩
theorem Took.take {P : En → Prop} {Ls : List En} {ck : Int} (h : Took P Ls ck) (e : En) (hs : (tkSay e Ls).2 = true) : Took (fun x => P x ∨ x = e) (insE e Ls) (ckm ck e.c) := by
  have h0 : e.chk = 0 := by
    unfold tkSay at hs
    split at hs
    · cases hs
    · rename_i h1; simpa using h1
  have hr : roomB e.k Ls = true := by
    unfold tkSay at hs
    rw [if_neg (by simp [h0])] at hs
    split at hs
    · cases hs
    · rename_i h1; simpa using h1
  have ho : ∀ o ∈ Ls, o.k = e.k → En.newer e o = true := by
    intro o hm hk
    unfold tkSay at hs
    rw [if_neg (by simp [h0]), if_neg (by simp [hr]), look_of h.rises hm hk] at hs
    exact hs
  have hlen : (insE e Ls).length ≤ 256 := by
    cases hq : lookE e.k Ls with
    | none =>
      unfold roomB at hr
      rw [hq] at hr
      simp at hr
      have := insE_len1 e Ls
      omega
    | some o =>
      obtain ⟨h2, h3⟩ := look_mem hq
      rw [insE_len0 e Ls h.rises ⟨o, h2, h3⟩]
      exact h.len
  have hc := h.pos
  have hcm : ck ≤ ckm ck e.c ∧ e.c ≤ ckm ck e.c ∧ (ckm ck e.c = ck ∨ ckm ck e.c = e.c) := by unfold ckm; split <;> omega
  refine ⟨rises_insE e h.rises, fun y hy => ?_, ?_, ?_, ?_, by omega, hlen⟩
  · rcases (mem_insE e y Ls h.rises).1 hy with rfl | ⟨h1, _⟩
    · exact ⟨.inr rfl, h0⟩
    · exact ⟨.inl (h.src y h1).1, (h.src y h1).2⟩
  · rintro x (hx | rfl) hx0
    · obtain ⟨y, hy, hk, hn⟩ := h.best x hx hx0
      by_cases hke : y.k = e.k
      · refine ⟨e, (mem_insE e e Ls h.rises).2 (.inl rfl), hke.symm.trans hk, ?_⟩
        have := ho y hy hke
        rw [nwr_iff] at this
        rw [nwr_not] at hn ⊢
        omega
      · exact ⟨y, (mem_insE e y Ls h.rises).2 (.inr ⟨hy, hke⟩), hk, hn⟩
    · exact ⟨x, (mem_insE x x Ls h.rises).2 (.inl rfl), rfl, by rw [nwr_not]; omega⟩
  · rintro x (hx | rfl) hx0
    · have := h.top x hx hx0; omega
    · omega
  · rcases hcm.2.2 with h1 | h1
    · rw [h1]
      rcases h.eq with h2 | ⟨x, h2, h3⟩
      · exact .inl h2
      · exact .inr ⟨x, .inl h2, h3⟩
    · exact .inr ⟨e, .inr rfl, h0, h1.symm⟩
/-- Two stores that have taken the same are the same. -/
theorem Took.same {P : En → Prop} {Ls Ms : List En} {ck cm : Int} (h : Took P Ls ck) (h' : Took P Ms cm) (ho : ∀ x y, P x → P y → x.k = y.k → x.c = y.c → x.n = y.n → x = y) : Ls = Ms ∧ ck = cm := by
  have one : ∀ {A B : List En} {a b : Int}, Took P A a → Took P B b → ∀ x ∈ A, x ∈ B := by
    intro A B a b hA hB x hx
    obtain ⟨y, hy, hk, hn⟩ := hB.best x (hA.src x hx).1 (hA.src x hx).2
    obtain ⟨z, hz, hk2, hn2⟩ := hA.best y (hB.src y hy).1 (hB.src y hy).2
    obtain rfl := key_oneT hA.rises hz hx (hk2.trans hk)
    rw [nwr_not] at hn hn2
    rw [ho z y (hA.src z hz).1 (hB.src y hy).1 hk2 (by omega) (by omega)]
    exact hy
  refine ⟨rises_memT h.rises h'.rises (fun x => ⟨one h h' x, one h' h x⟩), ?_⟩
  have a1 := h.pos
  have a2 := h'.pos
  rcases h.eq with e1 | ⟨x, e1, e2, e3⟩ <;> rcases h'.eq with f1 | ⟨y, f1, f2, f3⟩
  · omega
  · have := h.top y f1 f2; omega
  · have := h'.top x e1 e2; omega
  · have := h.top y f1 f2; have := h'.top x e1 e2; omega
end Go.Proofs.YtlbkcndmljlnmaaDoor
