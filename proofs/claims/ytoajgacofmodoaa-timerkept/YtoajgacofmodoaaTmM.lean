/-
  A timer in memory: a map from names to times, and the plain list of alarms that it stands for.
-/
import Derived.Test.YtoajgacofmodoaaTmP
import Derived.Maps.RangeWalk
import Derived.Maps.Ext
import Derived.DeepKeys4
namespace Go.Proofs.Ytoajgacofmodoaa
open Go.RowKit
set_option linter.unusedVariables false

theorem laidT : laidOutB Try.prog = true := by kernel_rfl
theorem rowNm : (29 : TypeId) < Try.prog.types.size := of_decide_eq_true (by kernel_rfl)
theorem cellsNm : Try.prog.cellsOf 29 = 3 := by kernel_rfl
theorem cellsI : Try.prog.cellsOf 3 = 1 := by kernel_rfl
theorem deepNm : Try.prog.keyType 29 = true := by kernel_rfl
theorem wideNm : (match Try.prog.underlying 29 with | some (.array _ _) | some (.struct _) => true | _ => false) = true := by kernel_rfl
theorem lawNm : Maps.Keyed Try.prog 29 := Maps.Keyed.of_law (deep_law_laid laidT (m := 2) (by omega) rowNm (by kernel_rfl) wideNm)

def nmV (n : Nam) : Value := .agg #[.int .i64 n.1, .int .i64 n.2.1, .int .i64 n.2.2]
def i64B (x : Int) : Prop := -9223372036854775808 ≤ x ∧ x ≤ 9223372036854775807
def wfN (n : Nam) : Prop := i64B n.1 ∧ i64B n.2.1 ∧ i64B n.2.2
def klN (n : Nam) : Lit := .string (keyBytes [.int .i64 n.1, .int .i64 n.2.1, .int .i64 n.2.2])
theorem wf_of {x : Int} (h : i64B x) : (Lit.int .i64 x).wf = true := WalkArith.wf_i64 h
theorem of_wf {x : Int} (h : (Lit.int .i64 x).wf = true) : i64B x := by
  simp [Lit.wf, IntKind.min, IntKind.max, IntKind.signed, IntKind.bits] at h
  exact h
theorem two_deep : ∃ d, Try.prog.types.size + 1 = d + 1 + 1 := ⟨Try.prog.types.size - 1, by have h : (29 : Nat) < Try.prog.types.size := rowNm; omega⟩
theorem formedNm (a b c : Value) : (Value.agg #[a, b, c]).formed Try.prog 29 = true := by simp [Value.formed, Try.underlying29, cellsNm]
theorem lits_nm (d : Nat) {a b c : Value} {l : List Lit} : Try.prog.keyLits (d + 1 + 1) 29 [a, b, c] = some l ↔ ∃ x y z, a = .int .i64 x ∧ b = .int .i64 y ∧ c = .int .i64 z ∧ i64B x ∧ i64B y ∧ i64B z ∧ l = [.int .i64 x, .int .i64 y, .int .i64 z] := by
  have one : ∀ (v : Value) (m : List Lit), Try.prog.keyLits (d + 1) 3 [v] = some m ↔ ∃ x, v = .int .i64 x ∧ i64B x ∧ m = [.int .i64 x] := by
    intro v m
    unfold Program.keyLits
    rw [Try.underlying3]
    cases v <;> simp
    rename_i q x
    constructor
    · rintro ⟨⟨rfl, h⟩, rfl⟩
      exact ⟨x, ⟨rfl, rfl⟩, of_wf h, rfl⟩
    · rintro ⟨y, ⟨rfl, rfl⟩, h, rfl⟩
      exact ⟨⟨rfl, wf_of h⟩, rfl⟩
  have e : Try.prog.keyLits (d + 1 + 1) 29 [a, b, c] = (do
      let p ← Try.prog.keyLits (d + 1) 3 [a]
      let q ← Try.prog.keyLits (d + 1) 3 [b]
      let r ← Try.prog.keyLits (d + 1) 3 [c]
      pure (p ++ (q ++ r))) := by
    conv => lhs; unfold Program.keyLits
    simp [Try.underlying29, cellsNm, cellsI]
    cases Try.prog.keyLits (d + 1) 3 [a] <;> cases Try.prog.keyLits (d + 1) 3 [b] <;> cases Try.prog.keyLits (d + 1) 3 [c] <;> simp
  rw [e]
  simp only [Option.bind_eq_bind, Option.bind_eq_some_iff, Option.pure_def, Option.some.injEq]
  constructor
  · rintro ⟨p, hp, q, hq, r, hr, rfl⟩
    obtain ⟨x, rfl, hx, rfl⟩ := (one _ _).1 hp
    obtain ⟨y, rfl, hy, rfl⟩ := (one _ _).1 hq
    obtain ⟨z, rfl, hz, rfl⟩ := (one _ _).1 hr
    exact ⟨x, y, z, rfl, rfl, rfl, hx, hy, hz, rfl⟩
  · rintro ⟨x, y, z, rfl, rfl, rfl, hx, hy, hz, rfl⟩
    exact ⟨_, (one _ _).2 ⟨x, rfl, hx, rfl⟩, _, (one _ _).2 ⟨y, rfl, hy, rfl⟩, _, (one _ _).2 ⟨z, rfl, hz, rfl⟩, rfl⟩
theorem keyOf_nm {n : Nam} (h : wfN n) : keyOf Try.prog 29 (nmV n) = some (klN n) := by
  obtain ⟨d, hd⟩ := two_deep
  have e : Try.prog.keyLits (Try.prog.types.size + 1) 29 (nmV n).cells.toList = some [.int .i64 n.1, .int .i64 n.2.1, .int .i64 n.2.2] := by
    rw [hd]
    exact (lits_nm d).2 ⟨_, _, _, rfl, rfl, rfl, h.1, h.2.1, h.2.2, rfl⟩
  unfold keyOf
  rw [Try.underlying29]
  simp only [deepNm, nmV, formedNm, Bool.and_self, if_true]
  rw [show (Value.agg #[.int .i64 n.1, .int .i64 n.2.1, .int .i64 n.2.2]) = nmV n from rfl, e]
  rfl
theorem keyOf_inv {v : Value} {l : Lit} (h : keyOf Try.prog 29 v = some l) : ∃ n, wfN n ∧ v = nmV n ∧ l = klN n := by
  obtain ⟨d, hd⟩ := two_deep
  unfold keyOf at h
  rw [Try.underlying29] at h
  simp only [deepNm, Bool.true_and] at h
  split at h
  · rename_i hf
    obtain ⟨cs, rfl, hc⟩ : ∃ cs : Array Value, v = .agg cs ∧ cs.size = 3 := by
      unfold Value.formed at hf
      rw [Try.underlying29] at hf
      cases v <;> simp [cellsNm] at hf
      exact ⟨_, rfl, hf⟩
    obtain ⟨a, b, c, rfl⟩ : ∃ a b c, cs = #[a, b, c] := by
      obtain ⟨xs⟩ := cs
      match xs, hc with
      | [a, b, c], _ => exact ⟨a, b, c, rfl⟩
    rw [hd] at h
    simp only [Value.cells] at h
    rw [Option.map_eq_some_iff] at h
    obtain ⟨ls, h1, rfl⟩ := h
    obtain ⟨x, y, z, rfl, rfl, rfl, hx, hy, hz, rfl⟩ := (lits_nm d).1 h1
    exact ⟨(x, y, z), ⟨hx, hy, hz⟩, rfl, rfl⟩
  · cases h
theorem nmV_inj {a b : Nam} (h : nmV a = nmV b) : a = b := by
  obtain ⟨o, l, n⟩ := a
  obtain ⟨p, m, k⟩ := b
  simpa [nmV] using h
theorem klN_inj {a b : Nam} (ha : wfN a) (hb : wfN b) (h : klN a = klN b) : a = b := nmV_inj (lawNm.inj (keyOf_nm ha) (by rw [h]; exact keyOf_nm hb))
theorem klN_key {n : Nam} (h : wfN n) : WideAt.IsKeyLit (klN n) := lawNm.key (keyOf_nm h)

/-- How the map reads, against the plain list. -/
structure Rep (D : DataW Unit) (L : List Alm) : Prop where
  size : Maps.size D = L.length
  has : ∀ n, wfN n → (Maps.has D (klN n) = true ↔ ∃ t, (n, t) ∈ L)
  val : ∀ n, wfN n → ∀ t, (n, t) ∈ L → ∀ z, D.atKey (klN n) z = .lit (.int .i64 t)
theorem Rep.zero : Rep (.map []) [] := ⟨rfl, fun n _ => ⟨fun h => by simp [Maps.has] at h, fun ⟨t, h⟩ => by simp at h⟩, fun n _ t h => by simp at h⟩
theorem Rep.none {D : DataW Unit} {L : List Alm} (h : Rep D L) {n : Nam} (hn : wfN n) (hl : ∀ t, (n, t) ∉ L) : Maps.has D (klN n) = false := by
  cases hh : Maps.has D (klN n) with
  | false => rfl
  | true => obtain ⟨t, ht⟩ := (h.has n hn).1 hh; exact absurd ht (hl t)
theorem Rep.put {D : DataW Unit} {L : List Alm} (h : Rep D L) (hT : Maps.Tidy D) (hg : Gl L) {n : Nam} (hn : wfN n) (t : Int) : Rep (D.put (klN n) (.lit (.int .i64 t))) (putA n t L) where
  size := by
    rw [Maps.size_put hT, putA_len]
    by_cases hh : Maps.has D (klN n) = true
    · obtain ⟨s, hs⟩ := (h.has n hn).1 hh
      rw [if_pos hh, wo_len hg hs, h.size]
    · rw [if_neg hh, wo_none (fun s hs => hh ((h.has n hn).2 ⟨s, hs⟩)), h.size]
  has := fun m hm => by
    by_cases e : m = n
    · subst e
      exact ⟨fun _ => ⟨t, mem_putA.2 (.inl rfl)⟩, fun _ => Maps.has_put_same hT.isMap (klN_key hm) _⟩
    · rw [Maps.has_put_other (fun e2 => e (klN_inj hm hn e2)), h.has m hm]
      exact ⟨fun ⟨s, hs⟩ => ⟨s, mem_putA.2 (.inr ⟨hs, e⟩)⟩, fun ⟨s, hs⟩ => by
        rcases mem_putA.1 hs with e2 | ⟨h2, _⟩
        · exact absurd (congrArg Prod.fst e2) e
        · exact ⟨s, h2⟩⟩
  val := fun m hm s hs z => by
    rcases mem_putA.1 hs with e2 | ⟨h2, e⟩
    · injection e2 with e3 e4
      subst e3 e4
      exact Maps.atKey_put_same hT.isMap (klN_key hm) _ _
    · rw [Maps.atKey_put_other (fun e2 => e (klN_inj hm hn e2))]
      exact h.val m hm s h2 z
theorem Rep.del {D : DataW Unit} {L : List Alm} (h : Rep D L) (hT : Maps.Tidy D) (hg : Gl L) {n : Nam} (hn : wfN n) : Rep (D.del (klN n)) (wo n L) where
  size := by
    have h1 := Maps.size_del (k := klN n) hT
    by_cases hh : Maps.has D (klN n) = true
    · obtain ⟨s, hs⟩ := (h.has n hn).1 hh
      rw [if_pos hh, h.size] at h1
      have := wo_len hg hs
      omega
    · rw [if_neg hh, h.size] at h1
      rw [wo_none (fun s hs => hh ((h.has n hn).2 ⟨s, hs⟩))]
      omega
  has := fun m hm => by
    by_cases e : m = n
    · subst e
      rw [Maps.has_del_same]
      exact ⟨fun h => (by cases h), fun ⟨s, hs⟩ => absurd rfl (mem_wo.1 hs).2⟩
    · rw [Maps.has_del_other (fun e2 => e (klN_inj hm hn e2)), h.has m hm]
      exact ⟨fun ⟨s, hs⟩ => ⟨s, mem_wo.2 ⟨hs, e⟩⟩, fun ⟨s, hs⟩ => ⟨s, (mem_wo.1 hs).1⟩⟩
  val := fun m hm s hs z => by
    obtain ⟨h2, e⟩ := mem_wo.1 hs
    rw [Maps.atKey_del_other (fun e2 => e (klN_inj hm hn e2))]
    exact h.val m hm s h2 z

/-- Alarms that may be. -/
def AlOk (L : List Alm) : Prop := ∀ a ∈ L, wfN a.1 ∧ tOk a.2
theorem AlOk.put {L : List Alm} (h : AlOk L) {n : Nam} {t : Int} (hn : wfN n) (ht : tOk t) : AlOk (putA n t L) := fun a ha => by
  rcases mem_putA.1 ha with rfl | ⟨h2, _⟩
  · exact ⟨hn, ht⟩
  · exact h a h2
theorem AlOk.wo {L : List Alm} (h : AlOk L) (n : Nam) : AlOk (wo n L) := fun a ha => h a (mem_wo.1 ha).1
noncomputable abbrev RI : Value → Option (DataW Unit × List MemPlace) := plainElem (H := Unit) Try.prog 3
/-- A timer: its block, its map's, and its alarms. -/
def Tim (w : World) (p b : Nat) (L : List Alm) : Prop :=
  w.heap[p]? = some (.cells #[.map (some b)] 60 (0, 0)) ∧ Gl L ∧ AlOk L ∧ ∃ D, w.ownsMap Try.prog 29 RI b L.length D ∧ Rep D L
theorem ownsMap_size {w : World} {b n : Nat} {D : DataW Unit} (h : w.ownsMap Try.prog 29 RI b n D) : w.ownsMap Try.prog 29 RI b (Maps.size D) D := by
  obtain ⟨es, clock, hb, F, hs, rfl⟩ := h
  exact ⟨es, clock, hb, F, by simp [Maps.size, length_sorted], rfl⟩
theorem ownsMap_keep {S : Nat → Prop} {w w' : World} {b n : Nat} {D : DataW Unit} (h : w.ownsMap Try.prog 29 RI b n D) (k : Keeps S w w') (hb : ¬ S b) : w'.ownsMap Try.prog 29 RI b n D := by
  obtain ⟨es, clock, h1, r⟩ := h
  exact ⟨es, clock, blk_keep h1 k hb, r⟩
theorem ownsMap_on {w w' : World} {b n : Nat} {D : DataW Unit} (h : w.ownsMap Try.prog 29 RI b n D) (k : Below w.heap.size w w') : w'.ownsMap Try.prog 29 RI b n D := by
  obtain ⟨es, clock, h1, r⟩ := h
  exact ⟨es, clock, blk_on h1 k, r⟩
theorem Tim.keep {S : Nat → Prop} {w w' : World} {p b : Nat} {L : List Alm} (h : Tim w p b L) (k : Keeps S w w') (hp : ¬ S p) (hb : ¬ S b) : Tim w' p b L := by
  obtain ⟨h1, h2, h3, D, h4, h5⟩ := h
  exact ⟨blk_keep h1 k hp, h2, h3, D, ownsMap_keep h4 k hb, h5⟩
theorem Tim.below {w w' : World} {p b : Nat} {L : List Alm} (h : Tim w p b L) (k : Below w.heap.size w w') : Tim w' p b L := by
  obtain ⟨h1, h2, h3, D, h4, h5⟩ := h
  exact ⟨blk_on h1 k, h2, h3, D, ownsMap_on h4 k, h5⟩
theorem Tim.ne {w : World} {p b : Nat} {L : List Alm} (h : Tim w p b L) : p ≠ b := by
  obtain ⟨h1, -, -, D, ⟨es, clock, h4, -⟩, -⟩ := h
  intro e
  rw [e, h4] at h1
  cases h1
/-- A timer's block is no map's. -/
theorem Tim.ne2 {w : World} {p b q c : Nat} {L M : List Alm} (h : Tim w p b L) (h' : Tim w q c M) : p ≠ c := by
  obtain ⟨h1, -⟩ := h
  obtain ⟨-, -, -, D, ⟨es, clock, h4, -⟩, -⟩ := h'
  intro e
  rw [e, h4] at h1
  cases h1
theorem keeps_turned {w w' : World} {b : Nat} (h : w.mapTurned w' b) : Keeps (fun k => k = b) w w' := (Keeps.refl _ w).grown h.grown (fun k e _ => by injection e with e; exact e.symm)

end Go.Proofs.Ytoajgacofmodoaa
