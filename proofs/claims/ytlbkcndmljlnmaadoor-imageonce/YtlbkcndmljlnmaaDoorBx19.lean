/-
  Rows of entries that a call owns: their cells, copies by append, one entry appended.
  Plain mathematics of maps: which lists are maps, two of them side by side, the newest of both, what one lacks of the other.
  Plain: which lists a store can be loaded with, and what comes of loading them.
  A new writer; the bytes that a writer tells, in new memory (the code's, by slices.Clone); two rows of bytes compared.
  Two writers, the code's and the document's own, that share no memory; each may hold other bytes. And a list of entries that came in.
  Bytes and Of, the code's and the document's own, by contracts.
  Images, plain: what is written, what is read of it.
-/
import Derived.Test.YtlbkcndmljlnmaaDoorBx18
import Derived.OwnWalk
import Derived.Laws.OwnMore
import Derived.Test.YtlbkcndmljlnmaaDoorBx6
import Derived.Test.YtlbkcndmljlnmaaDoorBx2
import Derived.Test.YtlbkcndmljlnmaaDoorBx5
import Derived.Lib.SmallJoins
namespace Go.Proofs.YtlbkcndmljlnmaaDoor
open Go.RowKit
set_option linter.unusedVariables false
def entVals (e : En) : List Value := [.string e.k, .int .i64 e.c, .int .i64 e.n, .string e.v, .bool e.d]
def entCells : List En → List Value
  | [] => []
  | e :: r => entVals e ++ entCells r
theorem entCells_length : ∀ l : List En, (entCells l).length = l.length * 5
  | [] => rfl
  | e :: r => by simp only [entCells, List.length_append, entCells_length r, List.length_cons, entVals]; simp; omega
theorem entCells_append : ∀ l m : List En, entCells (l ++ m) = entCells l ++ entCells m
  | [], _ => rfl
  | e :: r, m => by simp [entCells, entCells_append r m]
theorem entCells_at : ∀ (l : List En) (i r : Nat) (e : En), l[i]? = some e → r < 5 → (entCells l)[i * 5 + r]? = (entVals e)[r]?
  | [], i, r, e, h, _ => by simp at h
  | x :: t, 0, r, e, h, hr => by
    simp at h; subst h
    simp only [entCells]
    rw [List.getElem?_append_left (by simp [entVals]; omega)]
    simp
  | x :: t, i + 1, r, e, h, hr => by
    simp only [entCells]
    rw [List.getElem?_append_right (by simp [entVals]; omega)]
    have := entCells_at t i r e (by simpa using h) hr
    rw [← this]
    congr 1
    simp [entVals]
    omega
theorem entCells_one (l : List En) : ∀ u ∈ entCells l, u.oneCell' = true := by
  induction l with
  | nil => intro u hu; simp [entCells] at hu
  | cons e r ih =>
    intro u hu
    simp only [entCells, List.mem_append] at hu
    rcases hu with hu | hu
    · simp [entVals] at hu
      rcases hu with rfl | rfl | rfl | rfl | rfl <;> rfl
    · exact ih u hu
theorem infoEnt : (Tryd.prog.info? 44).map (fun i => (i.zero, i.size, i.bytes)) = some (some (.agg #[.string ⟨#[]⟩, .int .i64 0, .int .i64 0, .string ⟨#[]⟩, .bool false]), 5, 56) := by kernel_rfl
def nthE (l : List En) (i : Nat) : En := l.getD i ⟨⟨#[]⟩, 0, 0, ⟨#[]⟩, false⟩
theorem nthE_get {l : List En} {i : Nat} (h : i < l.length) : l[i]? = some (nthE l i) := by
  unfold nthE; rw [List.getD, List.getElem?_eq_getElem h]; rfl
def KeysOk (l : List En) : Prop := ∀ e ∈ l, e.k.size ≤ 140737488351232
/-- The cells of a part of an owned row. -/
theorem row_cells {w : World} {B g cap n : Nat} {l : List En} (h : w.ownsRow B 44 5 (.slice (some ⟨g, 0, none⟩) n cap) n (entCells l)) {i : Nat} (hi : i < l.length) :
    w.cell? ⟨g, i * 5, none⟩ = some (.string (nthE l i).k) ∧ w.cell? ⟨g, i * 5 + 1, none⟩ = some (.int .i64 (nthE l i).c) ∧ w.cell? ⟨g, i * 5 + 2, none⟩ = some (.int .i64 (nthE l i).n) ∧ w.cell? ⟨g, i * 5 + 3, none⟩ = some (.string (nthE l i).v) ∧ w.cell? ⟨g, i * 5 + 4, none⟩ = some (.bool (nthE l i).d) := by
  have hn : l.length = n := by have := h.1; rw [entCells_length] at this; omega
  have e := nthE_get hi
  have c : ∀ r, r < 5 → w.cell? ⟨g, i * 5 + r, none⟩ = (entVals (nthE l i))[r]? := fun r hr => by
    rw [h.cellAt (i * 5 + r) (by omega), entCells_at l i r _ e hr]
  exact ⟨by simpa [entVals] using c 0 (by omega), by simpa [entVals] using c 1 (by omega), by simpa [entVals] using c 2 (by omega), by simpa [entVals] using c 3 (by omega), by simpa [entVals] using c 4 (by omega)⟩
theorem row_max {w : World} {B g cap n : Nat} {xs : List Value} {e s : Nat} (h : w.ownsRow B e s (.slice (some ⟨g, 0, none⟩) n cap) n xs) : n ≤ cap ∧ cap ≤ maxLen := by
  rcases h.2 with ⟨h, _⟩ | ⟨g', cap', cur, h1, h2, h3, h4, h5, h6⟩
  · cases h
  · injection h1 with e1 e2 e3
    omega
/-- A part of an owned row as a list of entries in memory: m entries from entry o on. -/
theorem ents_of_row {w : World} {B g cap n : Nat} {l : List En} (h : w.ownsRow B 44 5 (.slice (some ⟨g, 0, none⟩) n cap) n (entCells l)) (hk : KeysOk l) {o m c : Nat} (hm : o + m ≤ n) (hc : m ≤ c) (hx : c ≤ maxLen) {a : Option Addr} (ha : m = 0 ∨ a = some ⟨g, o * 5, none⟩) :
    EntsIn w a m c (fun i => nthE l (o + i)) := by
  have hn : l.length = n := by have := h.1; rw [entCells_length] at this; omega
  refine ⟨hc, hx, ?_⟩
  rcases ha with ha | rfl
  · exact .inl ha
  · refine .inr ⟨g, o * 5, rfl, (h.lt g rfl).2, fun i hi => ⟨?_, hk _ ?_⟩⟩
    · have := row_cells h (i := o + i) (by omega)
      rw [show (o + i) * 5 = o * 5 + i * 5 from by omega] at this
      exact this
    · have := nthE_get (l := l) (i := o + i) (by omega)
      exact List.mem_of_getElem? this
/-- One entry appended to an owned row, as one operation. -/
theorem op_append_ent {w : World} {o : Oper} {act : Act} {K : Act → World → Prop} {Q : Exit → Act → World → Prop} (s x : Operand)
    (ho : o.op = .call { callee := .builtin .append, args := #[s, x], argTypes := #[22, 22] })
    (B n : Nat) (v : Value) (l : List En) (hs : act.eval s = v) (hown : w.ownsRow B 44 5 v n (entCells l)) (b c : Nat) (e : En) (hx : act.eval x = .slice (some ⟨b, 0, none⟩) 1 c)
    (hb : w.heap[b]? = some (.cells #[.string e.k, .int .i64 e.c, .int .i64 e.n, .string e.v, .bool e.d] 44 (0, 0))) (hlen : n * 56 ≤ 140737488351232) (hB : B ≤ w.heap.size)
    (h : ∀ g cap w', w'.ownsRow B 44 5 (.slice (some ⟨g, 0, none⟩) (n + 1) cap) (n + 1) (entCells (l ++ [e])) → w.grownBy w' v.ownBlock → K (act.put o.dst (.slice (some ⟨g, 0, none⟩) (n + 1) cap)) w') : o.wp Tryd.prog act w K Q := by
  obtain ⟨i0, hi, hz0, hz1, hz2⟩ := info_parts infoEnt
  refine wp_append_own w s x _ ho B 44 i0 _ 5 56 Tryd.underlying22 hi hz0 hz1 hz2 rfl (by decide) _ _ _ hs hown ⟨b, 0, none⟩ 1 c (entVals e) hx rfl ?_ (fun u hu => entCells_one [e] u (by simpa [entCells] using hu)) (by unfold maxLen; omega) (by omega) hB ?_
  · exact World.news_of_block (cs := #[.string e.k, .int .i64 e.c, .int .i64 e.n, .string e.v, .bool e.d]) (t := 44) (fr := (0, 0)) hb
  · intro v' w' ho' hg _
    have e1 : entCells l ++ entVals e = entCells (l ++ [e]) := by rw [entCells_append]; simp [entCells]
    rw [e1] at ho'
    rcases ho'.2 with ⟨h1, h2⟩ | ⟨g, cap', cur, rfl, _⟩
    · omega
    · exact h g cap' w' ho' hg
theorem own_low {w : World} {base base' : Nat} {e : TypeId} {size : Nat} {v : Value} {n : Nat} {xs : List Value} (h : w.ownsRow base e size v n xs) (hb : base' ≤ base) : w.ownsRow base' e size v n xs := by
  refine ⟨h.1, ?_⟩
  rcases h.2 with h0 | ⟨g, cap, cur, h1, h2, h3⟩
  · exact .inl h0
  · exact .inr ⟨g, cap, cur, h1, Nat.le_trans hb h2, h3⟩
theorem own_on {w w' : World} {base : Nat} {e : TypeId} {size : Nat} {v : Value} {n : Nat} {xs : List Value} (h : w.ownsRow base e size v n xs) (hb : Below w.heap.size w w') : w'.ownsRow base e size v n xs := by
  refine ⟨h.1, ?_⟩
  rcases h.2 with h0 | ⟨g, cap, cur, h1, h2, h3, h4⟩
  · exact .inl h0
  · exact .inr ⟨g, cap, cur, h1, h2, blk_on h3 hb, h4⟩
end Go.Proofs.YtlbkcndmljlnmaaDoor
namespace Go.Proofs.YtlbkcndmljlnmaaDoor
open Go.RowKit
set_option linter.unusedVariables false
theorem chk_pos {e : En} (h : e.chk = 0) : 1 ≤ e.c ∧ e.k.size ≤ 16 ∧ 0 ≤ e.n := by
  unfold En.chk Vs.chk at h
  split at h
  · omega
  · split at h
    · omega
    · omega
/-- A list is a map. -/
structure MapL (l : List En) : Prop where
  rises : RisesE l
  chk : ∀ e ∈ l, e.chk = 0
theorem MapL.nil : MapL [] := ⟨List.Pairwise.nil, by simp⟩
def firstE (T : Nat → En) (n : Nat) : List En := (List.range n).map T
theorem firstE_succ (T : Nat → En) (n : Nat) : firstE T (n + 1) = firstE T n ++ [T n] := by simp [firstE, List.range_succ]
theorem firstE_len (T : Nat → En) (n : Nat) : (firstE T n).length = n := by simp [firstE]
theorem firstE_get (T : Nat → En) {i n : Nat} (h : i < n) : (firstE T n)[i]? = some (T i) := by simp [firstE, h]
theorem firstE_nth (l : List En) : firstE (nthE l) l.length = l := by
  apply List.ext_getElem?
  intro i
  by_cases h : i < l.length
  · rw [firstE_get _ h, nthE_get h]
  · rw [List.getElem?_eq_none (by rw [firstE_len]; omega), List.getElem?_eq_none (by omega)]
/-- What is wrong with entry i. -/
def ckAt (T : Nat → En) (i : Nat) : Int := if (T i).chk ≠ 0 then (T i).chk else if 0 < i ∧ kLt (T (i - 1)).k (T i).k = false then 90 else 0
/-- What is wrong first with n entries. -/
def ckN (T : Nat → En) : Nat → Int
  | 0 => 0
  | n + 1 => if ckN T n ≠ 0 then ckN T n else ckAt T n
theorem ckN_step {T : Nat → En} {n : Nat} (h : ckN T n = 0) : ckN T (n + 1) = ckAt T n := by unfold ckN; rw [if_neg (by simp [h])]
theorem ckN_stay {T : Nat → En} {n : Nat} (h : ckN T n ≠ 0) : ∀ m, n ≤ m → ckN T m = ckN T n := by
  intro m hm
  induction m with
  | zero => obtain rfl : n = 0 := by omega
            rfl
  | succ m ih =>
    by_cases e : n = m + 1
    · subst e; rfl
    · have := ih (by omega)
      show (if ckN T m ≠ 0 then ckN T m else ckAt T m) = _
      rw [if_pos (by rw [this]; exact h), this]
theorem ckN_bad {T : Nat → En} {i n : Nat} (h0 : ckN T i = 0) (hi : i < n) (h : ckAt T i ≠ 0) : ckN T n = ckAt T i := by
  have h1 := ckN_step h0
  rw [← h1] at h
  rw [ckN_stay h n (by omega), h1]
theorem ckAt_ent {T : Nat → En} {i : Nat} (h : (T i).chk ≠ 0) : ckAt T i = (T i).chk := by unfold ckAt; rw [if_pos h]
theorem ckAt_ord {T : Nat → En} {i : Nat} (h : (T i).chk = 0) (h2 : 0 < i ∧ kLt (T (i - 1)).k (T i).k = false) : ckAt T i = 90 := by unfold ckAt; rw [if_neg (by simp [h]), if_pos h2]
theorem ckAt_ok {T : Nat → En} {i : Nat} (h : (T i).chk = 0) (h2 : ¬ (0 < i ∧ kLt (T (i - 1)).k (T i).k = false)) : ckAt T i = 0 := by unfold ckAt; rw [if_neg (by simp [h]), if_neg h2]
theorem rises_snoc {l : List En} {x : En} : RisesE (l ++ [x]) ↔ RisesE l ∧ ∀ y ∈ l, kLt y.k x.k = true := by
  unfold RisesE
  rw [List.pairwise_append]
  simp
theorem ck_map {T : Nat → En} : ∀ n, ckN T n = 0 ↔ MapL (firstE T n)
  | 0 => ⟨fun _ => MapL.nil, fun _ => rfl⟩
  | n + 1 => by
    have ih := ck_map (T := T) n
    rw [firstE_succ]
    constructor
    · intro h
      have h0 : ckN T n = 0 := by
        apply Classical.byContradiction
        intro hn
        have := ckN_stay hn (n + 1) (by omega)
        rw [h] at this
        exact hn this.symm
      rw [ckN_step h0] at h
      have hm := ih.1 h0
      have hc : (T n).chk = 0 := by
        apply Classical.byContradiction
        intro hn
        rw [ckAt_ent hn] at h
        exact hn h
      have ho : ¬ (0 < n ∧ kLt (T (n - 1)).k (T n).k = false) := by
        intro hn
        rw [ckAt_ord hc hn] at h
        omega
      refine ⟨rises_snoc.2 ⟨hm.rises, ?_⟩, ?_⟩
      · intro y hy
        cases n with
        | zero => simp [firstE] at hy
        | succ m =>
          have hk : kLt (T m).k (T (m + 1)).k = true := by
            cases hq : kLt (T m).k (T (m + 1)).k
            · exact absurd ⟨by omega, hq⟩ ho
            · rfl
          rw [firstE_succ] at hy
          rcases List.mem_append.1 hy with hy | hy
          · have hr := hm.rises
            rw [firstE_succ] at hr
            exact kLt_trans ((rises_snoc.1 hr).2 y hy) hk
          · rw [List.mem_singleton] at hy
            subst hy
            exact hk
      · intro e he
        rcases List.mem_append.1 he with he | he
        · exact hm.chk e he
        · rw [List.mem_singleton] at he
          subst he
          exact hc
    · intro h
      have h0 : ckN T n = 0 := ih.2 ⟨(rises_snoc.1 h.rises).1, fun e he => h.chk e (List.mem_append_left _ he)⟩
      rw [ckN_step h0]
      refine ckAt_ok (h.chk _ (List.mem_append_right _ (List.mem_singleton.2 rfl))) ?_
      rintro ⟨hn, hk⟩
      have := (rises_snoc.1 h.rises).2 (T (n - 1)) (by simp only [firstE, List.mem_map, List.mem_range]; exact ⟨n - 1, by omega, rfl⟩)
      rw [hk] at this
      cases this
theorem mapL_sub {l m : List En} (h : MapL m) (s : l.Sublist m) : MapL l := ⟨List.Pairwise.sublist s h.rises, fun e he => h.chk e (s.subset he)⟩
end Go.Proofs.YtlbkcndmljlnmaaDoor
namespace Go.Proofs.YtlbkcndmljlnmaaDoor
open Go.RowKit
set_option linter.unusedVariables false
/-- A store can be made of these. -/
structure LdOk (nd ck : Int) (l : List En) : Prop where
  nd : nodeB nd = true
  c0 : 0 ≤ ck
  c1 : ck ≤ 1099511627776
  len : l.length ≤ 256
  map : MapL l
  ver : ∀ e ∈ l, e.c ≤ ck
theorem insE_end (e : En) : ∀ l : List En, (∀ y ∈ l, kLt y.k e.k = true) → insE e l = l ++ [e]
  | [], _ => rfl
  | y :: l, h => by
    have h1 := h y List.mem_cons_self
    unfold insE
    rw [if_neg (by rw [kLt_asymm h1]; simp), if_pos h1, insE_end e l (fun z hz => h z (List.mem_cons_of_mem _ hz))]
    rfl
theorem first_sub (T : Nat → En) {m n : Nat} (h : m ≤ n) : (firstE T m).Sublist (firstE T n) := by
  unfold firstE
  exact (List.range_sublist.2 h).map T
theorem first_mem {T : Nat → En} {j n : Nat} (h : j < n) : T j ∈ firstE T n := by
  unfold firstE
  exact List.mem_map.2 ⟨j, List.mem_range.2 h, rfl⟩
theorem ld_step {T : Nat → En} {j len : Nat} (h : MapL (firstE T len)) (hj : j < len) : insE (T j) (firstE T j) = firstE T (j + 1) := by
  have h1 : MapL (firstE T (j + 1)) := mapL_sub h (first_sub T (by omega))
  have h2 := h1.rises
  rw [firstE_succ, rises_snoc] at h2
  rw [firstE_succ, insE_end (T j) _ h2.2]
theorem ckm_low {ck c : Int} (h : c ≤ ck) : ckm ck c = ck := by
  unfold ckm
  rw [if_neg (by omega)]
theorem key_small {e : En} (h : e.chk = 0) : e.k.size ≤ 140737488351232 := by
  have := (chk_pos h).2.1
  omega
end Go.Proofs.YtlbkcndmljlnmaaDoor
namespace Go.Proofs.YtlbkcndmljlnmaaDoor
open Go.RowKit
set_option linter.unusedVariables false
set_option maxHeartbeats 400000 in
theorem newWriter_any (w : World) :
    Calls Tryd.prog 33 #[] w fun e w' => e = .returned (.pointer (some ⟨w.heap.size, 0, none⟩)) ∧ w' = w.alloc (.cells #[.slice none 0 0] 119) := by
  go_enter Tryd.func33, Tryd.ntmps33
  go_wp2
  go_ret
  exact ⟨rfl, rfl⟩
theorem isW_new (T B : Nat) (w : World) (hB : B ≤ w.heap.size) : IsW T B w.heap.size none [] (w.alloc (.cells #[.slice none 0 0] T)) :=
  ⟨hB, by simp, .slice none 0 0, heap_alloc_new w _, rfl, World.ownsRow_nil _ _ _ _⟩
set_option maxHeartbeats 1600000 in
set_option maxRecDepth 100000 in
theorem clone_any (B : Nat) (v : Value) (l : List UInt8) (w : World) (hown : w.ownsRow B 5 1 v l.length (Lib.byteCells l)) (hl : l.length ≤ 70368744177664) :
    Calls Tryd.prog 66 #[v] w fun e w' => ∃ v', e = .returned v' ∧ w'.ownsRow w.heap.size 5 1 v' l.length (Lib.byteCells l) ∧ Keeps (fun _ => False) w w' := by
  obtain ⟨i0, hi, hz0, hz1, hz2⟩ := info_parts info8
  have hkeep := hown
  rcases hown.2 with ⟨rfl, h0⟩ | ⟨g, cap, cur, rfl, hb, hh, hr⟩
  · have hl0 : l = [] := List.length_eq_zero_iff.1 h0
    subst hl0
    have hnil := fun w => Lib.run_eql_slice_nil (P := Tryd.prog) w 31 5 none 0 0 0 0 Tryd.underlying31
    go_enter Tryd.func66, Tryd.ntmps66
    go_wp2
    go_ret
    exact ⟨_, rfl, World.ownsRow_nil _ _ _ _, Keeps.refl _ _⟩
  · have hnil := fun w => Lib.run_eql_slice_nil (P := Tryd.prog) w 31 5 (some ⟨g, 0, none⟩) l.length cap 0 0 Tryd.underlying31
    have hown0 : (w.alloc (.cells #[] 5)).ownsRow w.heap.size 5 1 (.slice (some ⟨w.heap.size, 0, none⟩) 0 0) 0 [] := World.ownsRow_made w #[] 0 (Nat.le_refl _) (Nat.zero_le _) rfl
    have hcells : ∀ j u, (Lib.byteCells l)[j]? = some u → (w.alloc (.cells #[] 5)).cell? ((⟨g, 0, none⟩ : Addr).add j) = some u := (hkeep.alloc _).cells rfl
    go_enter Tryd.func66, Tryd.ntmps66
    go_wp2_with (at_builtin; refine wpList_append_own _ rfl _ _ _ rfl w.heap.size 5 i0 (.int .u8 0) 1 1 Tryd.underlying31 hi hz0 hz1 hz2 rfl (by decide) _ _ _ (by rfl) hown0 ⟨g, 0, none⟩ l.length cap (Lib.byteCells l) (by rfl) (by simp [Lib.byteCells]) hcells (by intro u hu; simp only [Lib.byteCells, List.mem_map] at hu; obtain ⟨x, _, rfl⟩ := hu; rfl) (by unfold maxLen; omega) (by omega) (by simp) ?_; intro v' w1 hown1 hgrow _; refine Hid.out ?_)
    refine aside ?_
    rw [Nat.zero_add, List.nil_append] at hown1
    have HO := aside hown1
    have HK : Keeps (fun _ => False) w w1 := ((Keeps.refl _ w).alloc _).grown hgrow (fun k hk hlt => by simp [Value.ownBlock] at hk; omega)
    clear hown1 hgrow
    go_wp2
    go_ret
    exact ⟨_, rfl, HO.out, HK⟩
set_option maxHeartbeats 400000 in
theorem bytes_any (B b : Nat) (g : Option Nat) (l : List UInt8) (w : World) (hW : IsW 119 B b g l w) (hl : l.length ≤ 70368744177664) :
    Calls Tryd.prog 39 #[.pointer (some ⟨b, 0, none⟩)] w fun e w' => ∃ v', e = .returned v' ∧ w'.ownsRow w.heap.size 5 1 v' l.length (Lib.byteCells l) ∧ Keeps (fun _ => False) w w' := by
  obtain ⟨hBb, hgb, v, hh, rfl, hown⟩ := hW
  have hc := cell_one hh
  go_enter Tryd.func39, Tryd.ntmps39
  go_wp2_with (go_at_call 66; refine (clone_any B v l _ hown hl).mono ?_; rintro e w' ⟨v', rfl, ho, hk⟩)
  go_ret
  exact ⟨_, rfl, ho, hk⟩
end Go.Proofs.YtlbkcndmljlnmaaDoor
namespace Go.Proofs.YtlbkcndmljlnmaaDoor
open Go.RowKit
set_option linter.unusedVariables false
end Go.Proofs.YtlbkcndmljlnmaaDoor
namespace Go.Proofs.YtlbkcndmljlnmaaDoor
open Go.RowKit
set_option linter.unusedVariables false
end Go.Proofs.YtlbkcndmljlnmaaDoor
namespace Go.Proofs.YtlbkcndmljlnmaaDoor
open Go.RowKit
set_option linter.unusedVariables false
theorem enc_len : ∀ (k f n : Nat), n < 128 ^ (k + 1) → k ≤ f → (Nm.enc f n).length ≤ k + 1
  | k, 0, n, h, hk => by
    simp [Nm.enc]
  | 0, f + 1, n, h, hk => by
    have : n < 128 := by simpa using h
    simp [Nm.enc, this]
  | k + 1, f + 1, n, h, hk => by
    by_cases hn : n < 128
    · simp [Nm.enc, hn]
    · rw [enc_more f n hn, List.length_cons]
      have := enc_len k f (n / 128) (by rw [Nat.div_lt_iff_lt_mul (by omega)]; rw [Nat.pow_succ] at h; exact h) (by omega)
      omega
theorem enc1 {n : Nat} (h : n < 128) : (Nm.enc 8 n).length ≤ 1 := enc_len 0 8 n (by simpa using h) (by omega)
theorem enc6 {n : Nat} (h : n < 4398046511104) : (Nm.enc 8 n).length ≤ 6 := enc_len 5 8 n (by simpa using h) (by omega)
theorem entB_58 {e : En} (h : e.chk = 0) : (entB e).length ≤ 58 := by
  obtain ⟨k, c, n, v, d⟩ := e
  obtain ⟨hk, hc1, hc2, hn1, hn2, hv⟩ := En.ok_parts h
  have h1 := enc1 (n := k.size) (by omega)
  have h2 := enc6 (n := up c) (by unfold up; omega)
  have h3 := enc1 (n := up n) (by unfold up; omega)
  have h4 := enc1 (n := v.size) (by omega)
  have h5 := blen k
  have h6 := blen v
  unfold entB
  cases d
  · simp only [cond, List.length_append, flagB, List.length_singleton]
    omega
  · simp only [cond, List.length_append, flagB, List.length_singleton, List.length_nil]
    omega
theorem esB_58 : ∀ (l : List En), (∀ e ∈ l, e.chk = 0) → (esB l).length ≤ l.length * 58
  | [], _ => Nat.le_refl _
  | e :: r, h => by
    have h1 := entB_58 (h e (by simp))
    have h2 := esB_58 r (fun x hx => h x (by simp [hx]))
    simp only [esB, List.length_append, List.length_cons]
    omega
/-- What each image begins with. -/
def tideS : ByteArray := ⟨#[116, 105, 100, 101]⟩
def imgB (nd ck : Int) (l : List En) : List UInt8 := strB tideS ++ (Nm.enc 8 (up nd) ++ (Nm.enc 8 (up ck) ++ (Nm.enc 8 l.length ++ esB l)))
/-- What a reader says of an image. -/
def imgSt (l : List UInt8) : (List UInt8 × Int × Int × List En) × Nat × Int :=
  match textSt l 0 0 4 with
  | (t, p1, e1) => match numSt l p1 e1 7 with
    | (nd, p2, e2) => match numSt l p2 e2 1099511627776 with
      | (ck, p3, e3) => match entriesSt l p3 e3 with
        | (es, p4, e4) => ((t, nd, ck, es), p4, e4)
theorem imgSt_eq {l t : List UInt8} {p1 p2 p3 p4 : Nat} {e1 e2 e3 e4 nd ck : Int} {es : List En} (h1 : textSt l 0 0 4 = (t, p1, e1)) (h2 : numSt l p1 e1 7 = (nd, p2, e2)) (h3 : numSt l p2 e2 1099511627776 = (ck, p3, e3)) (h4 : entriesSt l p3 e3 = (es, p4, e4)) : imgSt l = ((t, nd, ck, es), p4, e4) := by
  unfold imgSt; rw [h1]; dsimp only; rw [h2]; dsimp only; rw [h3]; dsimp only; rw [h4]
/-- The bytes are the image of a store. -/
def ImgIs (l : List UInt8) (nd ck : Int) (es : List En) : Prop := imgSt l = ((tideS.data.toList, nd, ck, es), l.length, 0) ∧ LdOk nd ck es
theorem LdOk.nd7 {nd ck : Int} {es : List En} (h : LdOk nd ck es) : 0 ≤ nd ∧ nd ≤ 7 := by
  have := h.nd
  unfold nodeB at this
  simp at this
  omega
theorem img_more {nd ck : Int} {es : List En} (h : LdOk nd ck es) (m : List UInt8) : imgSt (imgB nd ck es ++ m) = ((tideS.data.toList, nd, ck, es), (imgB nd ck es).length, 0) := by
  have hn := h.nd7
  have hc0 := h.c0
  have hc1 := h.c1
  have e0 : (imgB nd ck es ++ m).drop 0 = strB tideS ++ (Nm.enc 8 (up nd) ++ (Nm.enc 8 (up ck) ++ ((Nm.enc 8 es.length ++ esB es) ++ m))) := by
    simp [imgB, List.append_assoc]
  have t1 := str_put (most := 4) e0 (by decide) (by decide)
  have d1 := drop_more e0
  have t2 := num_put (most := 7) d1 (by unfold up; omega) (by unfold up; omega)
  have d2 := drop_more d1
  have t3 := num_put (most := 1099511627776) d2 (by unfold up; omega) (by unfold up; omega)
  have d3 := drop_more d2
  have t4 := entries_put d3 h.len h.map.chk
  rw [imgSt_eq t1 t2 t3 t4, upI hn.1, upI hc0]
  congr 2
  simp [imgB, List.length_append, Nat.add_assoc]
theorem img_put {nd ck : Int} {es : List En} (h : LdOk nd ck es) : ImgIs (imgB nd ck es) nd ck es := by
  have := img_more h []
  rw [List.append_nil] at this
  exact ⟨this, h⟩
theorem img_inv {l : List UInt8} {nd ck : Int} {es : List En} (h : ImgIs l nd ck es) : l = imgB nd ck es := by
  obtain ⟨h, hO⟩ := h
  rcases h1 : textSt l 0 0 4 with ⟨t, p1, e1⟩
  rcases h2 : numSt l p1 e1 7 with ⟨a, p2, e2⟩
  rcases h3 : numSt l p2 e2 1099511627776 with ⟨b, p3, e3⟩
  rcases h4 : entriesSt l p3 e3 with ⟨xs, p4, e4⟩
  rw [imgSt_eq h1 h2 h3 h4] at h
  simp only [Prod.mk.injEq] at h
  obtain ⟨⟨rfl, rfl, rfl, rfl⟩, rfl, rfl⟩ := h
  obtain rfl := entries_err h4
  obtain rfl := num_err h3
  obtain rfl := num_err h2
  obtain ⟨a1, a2, a3⟩ := text_inv (Nat.zero_le _) h1
  obtain ⟨x, rfl, b2, b3, b4⟩ := num_inv a3 h2
  obtain ⟨y, rfl, c2, c3, c4⟩ := num_inv b4 h3
  obtain ⟨d1, d2, d3, d4⟩ := entries_inv c4 h4
  rw [List.drop_zero] at a1
  rw [List.drop_length, List.append_nil] at d1
  unfold imgB
  rw [upN, upN]
  calc l = (Nm.enc 8 tideS.data.toList.length ++ tideS.data.toList) ++ (Nm.enc 8 x ++ (Nm.enc 8 y ++ (Nm.enc 8 xs.length ++ esB xs))) := by rw [← d1, ← c3, ← b3, ← a1]
    _ = _ := rfl
theorem img_len {nd ck : Int} {es : List En} (h : LdOk nd ck es) : (imgB nd ck es).length ≤ 32768 := by
  have h1 := esB_58 es h.map.chk
  have h2 := h.len
  have h3 := (Nm.enc_length 8 (up nd)).2
  have h4 := (Nm.enc_length 8 (up ck)).2
  have h5 := (Nm.enc_length 8 es.length).2
  have h6 : (strB tideS).length ≤ 13 := by
    unfold strB
    have := (Nm.enc_length 8 tideS.size).2
    rw [List.length_append]
    have h7 : tideS.data.toList.length = 4 := rfl
    omega
  unfold imgB
  simp only [List.length_append]
  omega
theorem imgIs_len {l : List UInt8} {nd ck : Int} {es : List En} (h : ImgIs l nd ck es) : l.length ≤ 32768 := by
  rw [img_inv h]
  exact img_len h.2
theorem imgIs_same {l : List UInt8} {nd ck nd' ck' : Int} {es es' : List En} (h : ImgIs l nd ck es) (h' : ImgIs l nd' ck' es') : nd = nd' ∧ ck = ck' ∧ es = es' := by
  have e := h.1.symm.trans h'.1
  simp only [Prod.mk.injEq] at e
  exact ⟨e.1.2.1, e.1.2.2.1, e.1.2.2.2⟩
/-- No image begins another one's. -/
theorem img_pre {nd ck nd' ck' : Int} {es es' : List En} {m m' : List UInt8} (h : LdOk nd ck es) (h' : LdOk nd' ck' es') (e : imgB nd ck es ++ m = imgB nd' ck' es' ++ m') : nd = nd' ∧ ck = ck' ∧ es = es' ∧ m = m' := by
  have h1 := img_more h m
  have h2 := img_more h' m'
  rw [e, h2] at h1
  simp only [Prod.mk.injEq] at h1
  obtain ⟨⟨-, rfl, rfl, rfl⟩, -, -⟩ := h1
  exact ⟨rfl, rfl, rfl, List.append_cancel_left e⟩
theorem img_longer {nd ck nd' ck' : Int} {es es' : List En} {m : List UInt8} (h : LdOk nd ck es) (hm : m ≠ []) : ¬ ImgIs (imgB nd ck es ++ m) nd' ck' es' := fun h' => by
  have h1 := img_more h m
  have h2 := h'.1
  rw [h1] at h2
  simp only [Prod.mk.injEq, List.length_append] at h2
  have : m.length = 0 := by omega
  exact hm (List.length_eq_zero_iff.1 this)
theorem img_shorter {nd ck nd' ck' : Int} {es es' : List En} {k : Nat} (h : LdOk nd ck es) (hk : k < (imgB nd ck es).length) : ¬ ImgIs ((imgB nd ck es).take k) nd' ck' es' := fun h' => by
  have e := img_inv h'
  have h1 : imgB nd' ck' es' ++ (imgB nd ck es).drop k = imgB nd ck es ++ [] := by rw [← e, List.take_append_drop, List.append_nil]
  obtain ⟨-, -, -, h2⟩ := img_pre h'.2 h h1
  have := congrArg List.length h2
  rw [List.length_drop] at this
  simp at this
  omega
/-- What entries lay down, one behind the other. -/
def putsB : List En → List UInt8
  | [] => []
  | e :: r => putB e ++ putsB r
theorem putsB_snoc : ∀ (l : List En) (x : En), putsB (l ++ [x]) = putsB l ++ putB x
  | [], x => by simp [putsB]
  | e :: r, x => by simp [putsB, putsB_snoc r x, List.append_assoc]
theorem putsB_es : ∀ (l : List En), (∀ e ∈ l, e.chk = 0) → putsB l = esB l
  | [], _ => rfl
  | e :: r, h => by rw [putsB, esB, putB_yes (h e (by simp)), putsB_es r (fun x hx => h x (by simp [hx]))]
theorem putB_58 (e : En) : (putB e).length ≤ 58 := by
  by_cases h : e.chk = 0
  · rw [putB_yes h]; exact entB_58 h
  · rw [putB_no h]; simp
theorem putsB_58 : ∀ (l : List En), (putsB l).length ≤ l.length * 58
  | [] => Nat.le_refl _
  | e :: r => by
    have h1 := putB_58 e
    have h2 := putsB_58 r
    simp only [putsB, List.length_append, List.length_cons]
    omega
/-- The head of an image. -/
def imgH (nd ck : Int) (n : Nat) : List UInt8 := strB tideS ++ (Nm.enc 8 (up nd) ++ (Nm.enc 8 (up ck) ++ Nm.enc 8 n))
theorem imgH_len (nd ck : Int) (n : Nat) : (imgH nd ck n).length ≤ 40 := by
  have h3 := (Nm.enc_length 8 (up nd)).2
  have h4 := (Nm.enc_length 8 (up ck)).2
  have h5 := (Nm.enc_length 8 n).2
  have h6 : (strB tideS).length ≤ 13 := by
    unfold strB
    have := (Nm.enc_length 8 tideS.size).2
    rw [List.length_append]
    have h7 : tideS.data.toList.length = 4 := rfl
    omega
  unfold imgH
  simp only [List.length_append]
  omega
theorem imgB_head (nd ck : Int) (l : List En) : imgB nd ck l = imgH nd ck l.length ++ esB l := by
  unfold imgB imgH
  simp [List.append_assoc]
end Go.Proofs.YtlbkcndmljlnmaaDoor
