/-
  The state of StoreFolds' loop over the parts.
-/
import Derived.Test.YtoflalflacopdaaDoorBg31
namespace Go.Proofs.YtoflalflacopdaaDoor
open Go.RowKit
set_option linter.unusedVariables false
/-- The slots of the law's frame that its loop over the parts needs. -/
structure SlF (q rb qb sb kt ob smb atb gp cp j : Nat) (a : Act) : Prop where
  sz : a.tmps.size = 213
  t2 : a.tmps[2]? = some (.int .i64 ((q : Int) + 1))
  t6 : a.tmps[6]? = some (.pointer (some ⟨qb, 0, none⟩))
  t7 : a.tmps[7]? = some (.pointer (some ⟨sb, 0, none⟩))
  t11 : a.tmps[11]? = some (.pointer (some ⟨kt, 0, none⟩))
  t17 : a.tmps[17]? = some (.pointer (some ⟨ob, 0, none⟩))
  t19 : a.tmps[19]? = some (.pointer (some ⟨smb, 0, none⟩))
  t20 : a.tmps[20]? = some (.pointer (some ⟨atb, 0, none⟩))
  t134 : a.tmps[134]? = some (.slice (some ⟨gp, 0, none⟩) (q + 1) cp)
  t135 : a.tmps[135]? = some (.int .i64 ((q : Int) + 1))
  t136 : a.tmps[136]? = some (.int .i64 (j : Int))
/-- A store, the boxes of the range and the answer; the box of the fold, the row of the parts, the entries of the range and their box; the boxes of the sum and the place; marks of loops. -/
structure SfL (w : World) (rb qb sb g tb : Nat) (r : Rg) (ck : Int) (Ls : List En) (kt ob smb atb : Nat) (Ft sm : Tl) (at_ : Nat) (vp : Value) (np : Nat) (ps : List Value) (oa : Option Addr) (oc : Nat) (xs : List En) (Ds : List Nat) (X : World) : Prop where
  s : SfS w rb qb sb g tb r ck Ls X
  bt : X.heap[kt]? = some (.cells #[.int .i64 Ft.n, .int .u64 Ft.a, .int .u64 Ft.b] 40 (0, 0))
  rp : X.ownsRow w.heap.size 24 3 vp np ps
  bo : X.heap[ob]? = some (.cells #[.slice oa xs.length oc] 22 (0, 0))
  ro : X.ownsRow w.heap.size 33 5 (.slice oa xs.length oc) xs.length (entCells xs)
  bs : X.heap[smb]? = some (.cells #[.int .i64 sm.n, .int .u64 sm.a, .int .u64 sm.b] 40 (0, 0))
  ba : X.heap[atb]? = some (.cells #[.int .i64 (at_ : Int)] 3 (0, 0))
  ne : smb ≠ kt
  ls : w.heap.size ≤ smb ∧ w.heap.size ≤ atb
  ds : ∀ D ∈ Ds, w.heap.size ≤ D ∧ X.heap[D]? = some (.deferred (some []))
  nd : Ds.Nodup
theorem mark_not {X : World} {D i : Nat} {cs : Array Value} {T : TypeId} (hd : X.heap[D]? = some (.deferred (some []))) (hi : X.heap[i]? = some (.cells cs T (0, 0))) : D ≠ i := fun e => by
  rw [e, hi] at hd
  cases hd
theorem Sto.mark {W : World} {sb g tb : Nat} {nd ck : Int} {Ls : List En} (h : Sto W sb g tb nd ck Ls) {D : Nat} (hd : W.heap[D]? = some (.deferred (some []))) : ¬ Of sb g tb D := by
  obtain ⟨T, n, hs, -⟩ := h
  obtain ⟨p, ht, _⟩ := hs.tree
  unfold TObjE at ht
  rintro (rfl | rfl | rfl)
  · exact mark_not hd hs.blk rfl
  · exact mark_not hd ht rfl
  · exact mark_not hd (hs.cnt _ rfl) rfl
theorem SfL.on {w : World} {rb qb sb g tb : Nat} {r : Rg} {ck : Int} {Ls : List En} {kt ob smb atb : Nat} {Ft sm : Tl} {at_ : Nat} {vp : Value} {np : Nat} {ps : List Value} {oa : Option Addr} {oc : Nat} {xs : List En} {Ds : List Nat} {X Y : World} (h : SfL w rb qb sb g tb r ck Ls kt ob smb atb Ft sm at_ vp np ps oa oc xs Ds X) (b : Below X.heap.size X Y) : SfL w rb qb sb g tb r ck Ls kt ob smb atb Ft sm at_ vp np ps oa oc xs Ds Y :=
  ⟨h.s.on b, blk_on h.bt b, own_on h.rp b, blk_on h.bo b, own_on h.ro b, blk_on h.bs b, blk_on h.ba b, h.ne, h.ls, fun D hD => ⟨(h.ds D hD).1, blk_on (h.ds D hD).2 b⟩, h.nd⟩
theorem SfL.turn {w : World} {rb qb sb g tb : Nat} {r : Rg} {ck : Int} {Ls : List En} {kt ob smb atb : Nat} {Ft sm : Tl} {at_ : Nat} {vp : Value} {np : Nat} {ps : List Value} {oa : Option Addr} {oc : Nat} {xs : List En} {Ds : List Nat} {X Y : World} {ck' : Int} (h : SfL w rb qb sb g tb r ck Ls kt ob smb atb Ft sm at_ vp np ps oa oc xs Ds X) (s : Sto Y sb g tb 0 ck' Ls) (k : Keeps (Of sb g tb) X Y) : SfL w rb qb sb g tb r ck' Ls kt ob smb atb Ft sm at_ vp np ps oa oc xs Ds Y :=
  have N := fun {i : Nat} {cs : Array Value} {U : TypeId} (hi : X.heap[i]? = some (.cells cs U (0, 0))) (h1 : U ≠ 89) (h2 : U ≠ 140) (h3 : U ≠ 184) => blk_keep hi k (h.s.s.not hi h1 h2 h3)
  ⟨h.s.turn s k, N h.bt (by decide) (by decide) (by decide), own_keep h.rp k (fun i cs e => h.s.s.not e (by decide) (by decide) (by decide)), N h.bo (by decide) (by decide) (by decide), own_keep h.ro k (fun i cs e => h.s.s.not e (by decide) (by decide) (by decide)), N h.bs (by decide) (by decide) (by decide), N h.ba (by decide) (by decide) (by decide), h.ne, h.ls, fun D hD => ⟨(h.ds D hD).1, blk_keep (h.ds D hD).2 k (h.s.s.mark (h.ds D hD).2)⟩, h.nd⟩
theorem SfL.setAt {w : World} {rb qb sb g tb : Nat} {r : Rg} {ck : Int} {Ls : List En} {kt ob smb atb : Nat} {Ft sm : Tl} {at_ : Nat} {vp : Value} {np : Nat} {ps : List Value} {oa : Option Addr} {oc : Nat} {xs : List En} {Ds : List Nat} {X Y : World} (h : SfL w rb qb sb g tb r ck Ls kt ob smb atb Ft sm at_ vp np ps oa oc xs Ds X) {n : Nat} (hn : Y.heap[atb]? = some (.cells #[.int .i64 (n : Int)] 3 (0, 0))) (k : Keeps (fun x => x = atb) X Y) : SfL w rb qb sb g tb r ck Ls kt ob smb atb Ft sm n vp np ps oa oc xs Ds Y :=
  have N := fun {i : Nat} {cs : Array Value} {U : TypeId} (hi : X.heap[i]? = some (.cells cs U (0, 0))) (h1 : U ≠ 3) => blk_keep hi k (fun e => by have e' : i = atb := e; subst e'; have h9 := h.ba; rw [hi] at h9; simp at h9; exact h1 h9.2)
  ⟨h.s.set h.ba (by simp) (by decide) (by decide) (by decide) (by decide) (by decide) (by decide) h.ls.2 k, N h.bt (by decide), own_keep h.rp k (fun i cs hi e => by have e' : i = atb := e; subst e'; have h9 := h.ba; rw [hi] at h9; simp at h9), N h.bo (by decide), own_keep h.ro k (fun i cs hi e => by have e' : i = atb := e; subst e'; have h9 := h.ba; rw [hi] at h9; simp at h9), N h.bs (by decide), hn, h.ne, h.ls, fun D hD => ⟨(h.ds D hD).1, blk_keep (h.ds D hD).2 k (fun e => mark_not (h.ds D hD).2 h.ba e)⟩, h.nd⟩
theorem SfL.setSm {w : World} {rb qb sb g tb : Nat} {r : Rg} {ck : Int} {Ls : List En} {kt ob smb atb : Nat} {Ft sm : Tl} {at_ : Nat} {vp : Value} {np : Nat} {ps : List Value} {oa : Option Addr} {oc : Nat} {xs : List En} {Ds : List Nat} {X Y : World} (h : SfL w rb qb sb g tb r ck Ls kt ob smb atb Ft sm at_ vp np ps oa oc xs Ds X) {t : Tl} (hn : Y.heap[smb]? = some (.cells #[.int .i64 t.n, .int .u64 t.a, .int .u64 t.b] 40 (0, 0))) (k : Keeps (fun x => x = smb) X Y) : SfL w rb qb sb g tb r ck Ls kt ob smb atb Ft t at_ vp np ps oa oc xs Ds Y :=
  have N := fun {i : Nat} {cs : Array Value} {U : TypeId} (hi : X.heap[i]? = some (.cells cs U (0, 0))) (h1 : U ≠ 40) => blk_keep hi k (fun e => by have e' : i = smb := e; subst e'; have h9 := h.bs; rw [hi] at h9; simp at h9; exact h1 h9.2)
  ⟨h.s.set h.bs (by simp) (by decide) (by decide) (by decide) (by decide) (by decide) (by decide) h.ls.1 k, blk_keep h.bt k (fun e => h.ne e.symm), own_keep h.rp k (fun i cs hi e => by have e' : i = smb := e; subst e'; have h9 := h.bs; rw [hi] at h9; simp at h9), N h.bo (by decide), own_keep h.ro k (fun i cs hi e => by have e' : i = smb := e; subst e'; have h9 := h.bs; rw [hi] at h9; simp at h9), hn, N h.ba (by decide), h.ne, h.ls, fun D hD => ⟨(h.ds D hD).1, blk_keep (h.ds D hD).2 k (fun e => mark_not (h.ds D hD).2 h.bs e)⟩, h.nd⟩
theorem SfL.push {w : World} {rb qb sb g tb : Nat} {r : Rg} {ck : Int} {Ls : List En} {kt ob smb atb : Nat} {Ft sm : Tl} {at_ : Nat} {vp : Value} {np : Nat} {ps : List Value} {oa : Option Addr} {oc : Nat} {xs : List En} {Ds : List Nat} {X Y : World} (h : SfL w rb qb sb g tb r ck Ls kt ob smb atb Ft sm at_ vp np ps oa oc xs Ds X) {D : Nat} (h1 : w.heap.size ≤ D) (h2 : X.heap[D]? = some (.deferred (some []))) (h3 : D ∉ Ds) : SfL w rb qb sb g tb r ck Ls kt ob smb atb Ft sm at_ vp np ps oa oc xs (D :: Ds) X :=
  ⟨h.s, h.bt, h.rp, h.bo, h.ro, h.bs, h.ba, h.ne, h.ls, fun d hd => by rcases List.mem_cons.1 hd with e | e; subst e; exact ⟨h1, h2⟩; exact h.ds d e, List.nodup_cons.2 ⟨h3, h.nd⟩⟩
theorem rg_at {w : World} {B g n cap : Nat} {f : Nat → Rg} (h : w.ownsRow B 24 3 (.slice (some ⟨g, 0, none⟩) n cap) n (rgCells f n)) {i : Nat} (hi : i < n) : w.cell? ⟨g, i * 3, none⟩ = some (.string (f i).lo) ∧ w.cell? ⟨g, i * 3 + 1, none⟩ = some (.string (f i).hi) ∧ w.cell? ⟨g, i * 3 + 2, none⟩ = some (.bool (f i).op) := by
  have c := rgCells_at f n i hi
  rw [h.cellAt (i * 3) (by omega), h.cellAt (i * 3 + 1) (by omega), h.cellAt (i * 3 + 2) (by omega)]
  exact c
/-- The entries of the range as a list. -/
theorem SfL.ents {w : World} {rb qb sb g tb : Nat} {r : Rg} {ck : Int} {Ls : List En} {kt ob smb atb : Nat} {Ft sm : Tl} {at_ : Nat} {vp : Value} {np : Nat} {ps : List Value} {oa : Option Addr} {oc : Nat} {xs : List En} {Ds : List Nat} {X Y : World} (h : SfL w rb qb sb g tb r ck Ls kt ob smb atb Ft sm at_ vp np ps oa oc xs Ds X) (hm : MapL xs) : EntsIn X oa xs.length oc (nthE xs) := by
  obtain ⟨a, c, e, h1⟩ := own_ents h.ro (fun e he => key_small (hm.chk e he))
  cases e
  exact h1
theorem quo_nat (n q : Nat) (h : n ≤ 1000000) : IntKind.i64.wrap ((n : Int).tdiv ((q : Int) + 1)) = ((n / (q + 1) : Nat) : Int) := by
  have h1 : (n : Int).tdiv ((q : Int) + 1) = ((n / (q + 1) : Nat) : Int) := by
    rw [show (q : Int) + 1 = ((q + 1 : Nat) : Int) from by simp]
    rfl
  have h2 := Nat.div_le_self n (q + 1)
  obtain ⟨m, hm⟩ : ∃ m, n / (q + 1) = m := ⟨_, rfl⟩
  rw [hm] at h1 h2 ⊢
  rw [h1, IntKind.wrap_i64]
  omega
theorem quo_natD (n q : Nat) (h : n ≤ 1000000) : IntKind.i64.wrap ((n : Int) / ((q : Int) + 1)) = ((n / (q + 1) : Nat) : Int) := by
  have h1 : (n : Int) / ((q : Int) + 1) = ((n / (q + 1) : Nat) : Int) := by
    rw [show (q : Int) + 1 = ((q + 1 : Nat) : Int) from by simp]
    rfl
  have h2 := Nat.div_le_self n (q + 1)
  obtain ⟨m, hm⟩ : ∃ m, n / (q + 1) = m := ⟨_, rfl⟩
  rw [hm] at h1 h2 ⊢
  rw [h1, IntKind.wrap_i64]
  omega
theorem quo_up (n q : Nat) (h : n ≤ 256) (hq : q + 1 ≤ n) : IntKind.i64.wrap ((IntKind.i64.wrap (IntKind.i64.wrap ((n : Int) + ((q : Int) + 1)) - 1)).tdiv ((q : Int) + 1)) = (((n + q) / (q + 1) : Nat) : Int) := by
  rw [show IntKind.i64.wrap (IntKind.i64.wrap ((n : Int) + ((q : Int) + 1)) - 1) = ((n + q : Nat) : Int) from by simp only [IntKind.wrap_i64]; omega, quo_nat (n + q) q (by omega)]
/-- Where the part's entries stand among the range's. -/
theorem part_in {r : Rg} {Ls : List En} (hm : MapL Ls) (hc : r.chk = 0) {q : Nat} (hq : q + 1 ≤ (keysIn r Ls).length) {j : Nat} (hj : j < q + 1) {pre : List En} {x : En} (hp : (pre ++ [x]) <+: inL (cutR r Ls q j) Ls) : (inL r Ls)[atS r Ls q j + pre.length]? = some x := by
  rw [cut_in hm hc hq hj] at hp
  obtain ⟨t, ht⟩ := hp
  have h1 : (((inL r Ls).drop (atS r Ls q j)).take (atS r Ls q (j + 1) - atS r Ls q j))[pre.length]? = some x := by
    rw [← ht]
    simp
  rw [List.getElem?_take] at h1
  split at h1
  · rwa [List.getElem?_drop] at h1
  · cases h1
theorem part_len {r : Rg} {Ls : List En} (hm : MapL Ls) (hc : r.chk = 0) {q : Nat} (hq : q + 1 ≤ (keysIn r Ls).length) {j : Nat} (hj : j < q + 1) : atS r Ls q j + (inL (cutR r Ls q j) Ls).length = atS r Ls q (j + 1) := by
  rw [cut_in hm hc hq hj]
  have hlen : (inL r Ls).length = (keysIn r Ls).length := by rw [keysIn_map hm hc, List.length_map]
  have h1 := atS_up (r := r) (Ls := Ls) hq j
  have h2 := atS_le (r := r) (Ls := Ls) (q := q) (j := j + 1) (by omega)
  rw [List.length_take, List.length_drop, hlen]
  omega
end Go.Proofs.YtoflalflacopdaaDoor
