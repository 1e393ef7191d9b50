/-
  slices.SortFunc of alarms, by the code's order: what the row holds behind it.
-/
import Derived.Test.YtoajgacofmodoaaTmR
import Derived.Test.YtoajgacofmodoaaTmSh
namespace Go.Proofs.Ytoajgacofmodoaa
open Go.RowKit Go.Shelf Go.Lib Go.Sort
set_option linter.unusedVariables false

theorem row_max9 {w : World} {B g cap n : Nat} {xs : List Value} {e s : Nat} (h : w.ownsRow B e s (.slice (some ⟨g, 0, none⟩) n cap) n xs) : n ≤ cap ∧ cap ≤ maxLen := by
  rcases h.2 with ⟨h, _⟩ | ⟨g', cap', cur, h1, h2, h3, h4, h5, h6⟩
  · cases h
  · injection h1 with e1 e2 e3
    omega
theorem ltOf_alt (x y : Alm) : ltOf acmp x y = true ↔ alt x y := by unfold ltOf alt; simp
theorem ltOf_no (x y : Alm) : ltOf acmp x y = false ↔ ¬ alt x y := by
  rw [← ltOf_alt]; simp
theorem swoA : SWO (ltOf acmp) where
  irrefl x := (ltOf_no x x).2 (alt_irr x)
  trans x y z h1 h2 := (ltOf_alt x z).2 (alt_trans ((ltOf_alt x y).1 h1) ((ltOf_alt y z).1 h2))
  ntrans x y z h1 h2 := (ltOf_no x z).2 (by
    have a := (ltOf_no x y).1 h1
    have b := (ltOf_no y z).1 h2
    rw [alt_iff] at a b ⊢
    omega)
theorem cmpLaysA (blk off size : Nat) (w : World) : CmpLays Try.prog 19 #[] alVals 4 acmp blk off size w := fun m os dk hs x y => by
  obtain ⟨⟨a, l, n⟩, t⟩ := x
  obtain ⟨⟨b, p, k⟩, s⟩ := y
  refine (tcmp_any a l n t b p k s _).mono fun e w' ⟨h1, os', h2⟩ => ⟨h1, 0, os', ?_⟩
  rw [h2]
  rfl
theorem isAggA : ∀ w, (isAgg (Try.sortAl_ren.t 24)).run Try.prog w = .ok true w := fun w => Try.isAgg62 w
theorem sizeOfA : ∀ w, (Go.sizeOf (Try.sortAl_ren.t 24)).run Try.prog w = .ok 4 w := fun w => Try.sizeOf62 w
/-- Alarms in memory, for reading: the slice's row, a block of alarms of the code's. -/
def AlIn (e : TypeId) (w : World) (a : Option Addr) (n cap : Nat) (l : List Alm) : Prop :=
  l.length = n ∧ n ≤ cap ∧ cap ≤ maxLen ∧ (n = 0 ∨ ∃ g cs, a = some ⟨g, 0, none⟩ ∧ w.heap[g]? = some (.cells cs e (0, 0)) ∧ ∀ i x, l[i]? = some x →
    w.cell? ⟨g, i * 4, none⟩ = some (.int .i64 x.1.1) ∧ w.cell? ⟨g, i * 4 + 1, none⟩ = some (.int .i64 x.1.2.1) ∧ w.cell? ⟨g, i * 4 + 2, none⟩ = some (.int .i64 x.1.2.2) ∧ w.cell? ⟨g, i * 4 + 3, none⟩ = some (.int .i64 x.2))
theorem al_flat (l : List Alm) (t : Nat) (h : t < l.length * 4) : (flatK alVals 4 l.toArray)[t]! = (alCells l)[t]! := by
  rw [get_flatK alVals 4 l.toArray t (by simpa using h)]
  have hq : t / 4 < l.length := by omega
  have e := alCells_at l (t / 4) (t % 4) l[t / 4] (List.getElem?_eq_getElem hq) (by omega)
  rw [show t / 4 * 4 + t % 4 = t from by omega] at e
  have e2 : l.toArray[t / 4]! = l[t / 4] := by simp [hq]
  rw [e2, List.getElem!_eq_getElem?_getD, List.getElem!_eq_getElem?_getD, e]
theorem al_holds {w : World} {B g cap n : Nat} {e : TypeId} {l : List Alm} (h : w.ownsRow B e 4 (.slice (some ⟨g, 0, none⟩) n cap) n (alCells l)) : HoldsK alVals 4 w g 0 l.toArray := by
  have hn := al_len h
  intro j hj
  rw [size_flatK] at hj
  have hj' : j < l.length * 4 := by simpa using hj
  rw [al_flat l j hj']
  have hl : j < (alCells l).length := by rw [alCells_length]; exact hj'
  have h1 := h.cellAt j (by omega)
  rw [List.getElem?_eq_getElem hl] at h1
  refine ⟨by rw [Nat.zero_add, h1, List.getElem!_eq_getElem?_getD, List.getElem?_eq_getElem hl]; rfl, ?_⟩
  rcases h.2 with ⟨h9, _⟩ | ⟨g', cap', cur, h9, hb, hg, r⟩
  · cases h9
  · injection h9 with e1 e2 e3
    injection e1 with e1
    injection e1 with e1
    subst e1
    exact frozen_of_row w g _ _ _ hg
theorem sortK_keeps (w : World) (g m : Nat) (d : Array Alm) (os : Array Obj) : Keeps (fun x => x = g) w (sortWorldK alVals 4 w g 0 m d os) := by
  unfold sortWorldK putRowK putRow mapBlock Sort.ahead grow
  refine ⟨rfl, rfl, rfl, ?_, ?_⟩
  · simp
  · intro k hk hne
    have hk' : k < (w.heap.modify g (onCells (putCells id 0 (flatK alVals 4 d)))).size := by simpa using hk
    show ((w.heap.modify g _) ++ os)[k]? = w.heap[k]?
    rw [Array.getElem?_append_left hk', Array.getElem?_modify, if_neg (fun e => hne e.symm)]
theorem sortK_blk {w : World} {g : Nat} {cs : Array Value} {e : TypeId} (h : w.heap[g]? = some (.cells cs e (0, 0))) (m : Nat) (d : Array Alm) (os : Array Obj) : ∃ cs', (sortWorldK alVals 4 w g 0 m d os).heap[g]? = some (.cells cs' e (0, 0)) := by
  refine ⟨putCells id 0 (flatK alVals 4 d) cs, ?_⟩
  unfold sortWorldK putRowK putRow mapBlock Sort.ahead grow
  have hk' : g < (w.heap.modify g (onCells (putCells id 0 (flatK alVals 4 d)))).size := by simpa using lt_of_blk h
  show ((w.heap.modify g _) ++ os)[g]? = _
  rw [Array.getElem?_append_left hk', Array.getElem?_modify, if_pos rfl, h]
  rfl
set_option maxHeartbeats 1000000 in
/-- A row that is not empty is sorted. -/
theorem sort_any {w : World} {B g cap n : Nat} {l : List Alm} (h : w.ownsRow B 62 4 (.slice (some ⟨g, 0, none⟩) n cap) n (alCells l)) (hd : l.Nodup) (hl : n ≤ 1000000) :
    Calls Try.prog 32 #[.slice (some ⟨g, 0, none⟩) n cap, .func (.func 19) #[] #[]] w fun e w' => e = .returned (.tuple #[]) ∧ ∃ l', l'.Perm l ∧ l'.Pairwise alt ∧ AlIn 62 w' (some ⟨g, 0, none⟩) n cap l' ∧ Keeps (fun x => x = g) w w' := by
  have hn := al_len h
  have hmx := row_max9 h
  have hH := al_holds h
  obtain ⟨cs, hg⟩ : ∃ cs, w.heap[g]? = some (.cells cs 62 (0, 0)) := by
    rcases h.2 with ⟨h9, _⟩ | ⟨g', cap', cur, h9, hb, hg, r⟩
    · cases h9
    · injection h9 with e1 e2 e3
      injection e1 with e1
      injection e1 with e1
      subst e1
      exact ⟨_, hg⟩
  have eg : ∀ args w, (callFunc 19 args).run Try.prog w = .ok (.enter 19 args) w := enters_of Try.func19 (by kernel_rfl) rfl
  have hcon := AnyQ.slices_SortFunc Try.sortAl 4 isAggA sizeOfA alVals (fun _ => rfl) (fun x v hv => by simp [alVals] at hv; rcases hv with rfl | rfl | rfl | rfl <;> rfl) acmp swoA 19 #[] g 0 cap l.toArray w eg (cmpLaysA g 0 l.toArray.size w) hH (lt_of_blk hg) (by simp; omega)
  change Calls Try.prog 32 _ _ _ at hcon
  rw [show l.toArray.size = n from by simpa using hn] at hcon
  refine hcon.mono fun e w' ⟨he, d', m, os, hp, hs, hw⟩ => ⟨he, d'.toList, ?_⟩
  have hsz : d'.size = n := by rw [hp.1]; simpa using hn
  have hperm : d'.toList.Perm l := by
    have h3 := hp.2.2
    rw [show (d'.extract 0 n) = d' from by rw [← hsz]; simp, show (l.toArray.extract 0 n) = l.toArray from by rw [← hn]; simp] at h3
    simpa using h3
  have hnd : d'.toList.Nodup := hperm.nodup_iff.2 hd
  refine ⟨hperm, ?_, ?_, ?_⟩
  · rw [List.pairwise_iff_getElem]
    intro i j hi hj hij
    have h3 := hs i j (Nat.zero_le _) hij (by rw [← hsz]; simpa using hj)
    have h4 := (ltOf_no _ _).1 h3
    have ei : d'[i]! = d'.toList[i] := by simp at hi ⊢; simp [hi]
    have ej : d'[j]! = d'.toList[j] := by simp at hj ⊢; simp [hj]
    rw [ei, ej] at h4
    exact alt_not h4 (fun e9 => by
      have := (List.getElem_inj hnd).1 e9
      omega)
  · refine ⟨by simpa using hsz, hmx.1, hmx.2, ?_⟩
    by_cases h0 : n = 0
    · exact .inl h0
    · obtain ⟨cs', hb⟩ := sortK_blk hg m d' os
      have hH' := holdsK_sortWorldK alVals 4 w g 0 m l.toArray d' os (lt_of_blk hg) hH (by rw [hsz]; simpa using hn.symm)
      rw [hw]
      refine .inr ⟨g, cs', rfl, hb, fun i x hi => ?_⟩
      have hil : i < d'.size := by have := (List.getElem?_eq_some_iff.1 hi).1; simpa using this
      have hx : d'[i]! = x := by
        obtain ⟨h8, h9⟩ := List.getElem?_eq_some_iff.1 hi
        simp [hil, ← h9]
      have c : ∀ r, r < 4 → (sortWorldK alVals 4 w g 0 m d' os).cell? ⟨g, i * 4 + r, none⟩ = some (alVals x)[r]! := fun r hr => by
        have := (hH'.cell hil hr).1
        rw [hx, Nat.zero_add] at this
        exact this
      exact ⟨c 0 (by omega), c 1 (by omega), c 2 (by omega), c 3 (by omega)⟩
  · rw [hw]; exact sortK_keeps w g m d' os
theorem sort_none (p : Option Addr) (cap : Nat) (w : World) : Calls Try.prog 32 #[.slice p 0 cap, .func (.func 19) #[] #[]] w fun e w' => e = .returned (.tuple #[]) ∧ w' = w := by
  have hcon := AnyF.slices_SortFunc_none Try.sortAl p cap (.func (.func 19) #[] #[]) w
  change Calls Try.prog 32 _ _ _ at hcon
  exact hcon

end Go.Proofs.Ytoajgacofmodoaa
