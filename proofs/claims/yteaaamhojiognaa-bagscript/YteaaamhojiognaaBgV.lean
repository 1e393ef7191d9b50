/-
  Small laws for BagScript.
-/
import Derived.Test.YteaaamhojiognaaBgT
namespace Go.Proofs.Yteaaamhojiognaa
open Go.RowKit
set_option linter.unusedVariables false

theorem amg7 (p : Int) (W : World) : Calls Try.prog 10 #[.int .i64 p, .int .i64 7] W fun e w' => e = .returned (.int .i64 (amg p 7)) ∧ w' = W := among18 p 7 W (by omega) (by omega)
theorem cat_byteB (l : List UInt8) : (⟨l.toArray⟩ : ByteArray) ++ ⟨#[115]⟩ = ⟨(l ++ [115]).toArray⟩ := by
  apply ByteArray.ext
  simp [ByteArray.data_append]
theorem op_append_by2 {w : World} {o : Oper} {act : Act} {K : Act → World → Prop} {Q : Exit → Act → World → Prop} (s x : Operand)
    (ho : o.op = .call { callee := .builtin .append, args := #[s, x], argTypes := #[32, 32] })
    (B : Nat) (v : Value) (l : List UInt8) (hs : act.eval s = v) (hA : w.ownsRow B 5 1 v l.length (Lib.byteCells l)) (a : Option Addr) (len cap : Nat) (M : List UInt8) (hx : act.eval x = .slice a len cap) (hM : ByIn w a len cap M)
    (hlen : l.length + len ≤ 140737488355328) (hB : B ≤ w.heap.size)
    (h : ∀ v' w', w'.ownsRow B 5 1 v' (l.length + len) (Lib.byteCells (l ++ M)) → w.grownBy w' v.ownBlock → K (act.put o.dst v') w') : o.wp Try.prog act w K Q := by
  obtain ⟨i0, hi, hz0, hz1, hz2⟩ := info_parts info8B
  obtain ⟨m1, m2, m3, m4⟩ := hM
  rcases m4 with ⟨rfl, rfl, rfl⟩ | ⟨y, rfl, hc⟩
  · have hrun := run_append_owned_none (P := Try.prog) (w := w) B 32 o.type 5 i0 1 Try.underlying32 hi _ _ _ hA
    unfold Oper.wp
    simp [execOp, ho, resolve, invoke, builtin, hs, hx, hrun, Result.andThen]
    have e : M = [] := List.length_eq_zero_iff.1 m1
    subst e
    refine h v w ?_ (World.grownBy.refl _ _)
    rw [List.append_nil]
    exact hA
  · refine wp_append_own w s x _ ho B 5 i0 _ 1 1 Try.underlying32 hi hz0 hz1 hz2 rfl (by decide) _ _ _ hs hA y len cap (Lib.byteCells M) hx (by rw [Lib.byteCells_length]; omega) hc (fun u hu => by
      unfold Lib.byteCells at hu
      obtain ⟨b, -, rfl⟩ := List.mem_map.1 hu
      rfl) (by unfold maxLen; omega) (by omega) hB ?_
    intro v' w' ho' hg _
    refine h v' w' ?_ hg
    have e : Lib.byteCells (l ++ M) = Lib.byteCells l ++ Lib.byteCells M := by simp [Lib.byteCells]
    rw [e]
    exact ho'
theorem byIn_own {w : World} {B n c : Nat} {a : Option Addr} {L : List UInt8} (h : w.ownsRow B 5 1 (.slice a n c) n (Lib.byteCells L)) : ByIn w a n c L := by
  have hl : L.length = n := by have h1 := h.1; rw [Lib.byteCells_length] at h1; omega
  rcases h.2 with ⟨h1, h2⟩ | ⟨g, cap, cur, h1, h2, h3, h4, h5, h6⟩
  · injection h1 with e1 e2 e3
    exact ⟨hl, by omega, by unfold maxLen; omega, .inl ⟨e1, e2, e3⟩⟩
  · injection h1 with e1 e2 e3
    refine ⟨hl, by omega, by omega, .inr ⟨_, e1, fun j u hj => ?_⟩⟩
    have hjl : j < L.length := by
      have := (List.getElem?_eq_some_iff.1 hj).1
      rw [Lib.byteCells_length] at this
      exact this
    have h9 := h
    rw [e1] at h9
    rw [Addr.add_lit, Nat.zero_add, h9.cellAt j (by omega)]
    exact hj
/-- The bytes but the last. -/
theorem byIn_pre {w : World} {B g n c : Nat} {L : List UInt8} {x : UInt8} (h : w.ownsRow B 5 1 (.slice (some ⟨g, 0, none⟩) n c) n (Lib.byteCells (L ++ [x]))) {len : Nat} (hl : L.length = len) : ByIn w (some ⟨g, 0, none⟩) len c L := by
  obtain ⟨h1, h2, h3, h4⟩ := byIn_own h
  rw [List.length_append, List.length_singleton] at h1
  refine ⟨hl, by omega, h3, .inr ⟨_, rfl, fun j u hj => ?_⟩⟩
  rcases h4 with ⟨h5, -⟩ | ⟨y, h5, hc⟩
  · cases h5
  · injection h5 with h5
    subst h5
    have hjl := (List.getElem?_eq_some_iff.1 hj).1
    refine hc j u ?_
    unfold Lib.byteCells at hj hjl ⊢
    rw [List.map_append, List.getElem?_append_left hjl]
    exact hj
theorem Wrote.own {B : Nat} {X : World} {da : Option Addr} {dl dc : Nat} {xs : List Value} (h : X.ownsRow B 5 1 (.slice da dl dc) dl xs) : Wrote X X da dl dc := by
  refine ⟨Keeps.refl _ _, fun h0 => ?_⟩
  rcases h.2 with ⟨e, -⟩ | ⟨g, cap, cur, e, hbg, hg, hnc, hcm, hcs, ht⟩
  · injection e with e1 e2 e3
    omega
  · injection e with e1 e2 e3
    exact ⟨g, cur, e1, hg, by omega⟩
theorem Wrote.set {X Y : World} {g dl dc j : Nat} (h : Wrote X Y (some ⟨g, 0, none⟩) dl dc) (hj : j < dl) (u : Value) : Wrote X (Y.setCell ⟨g, j, none⟩ u) (some ⟨g, 0, none⟩) dl dc := by
  obtain ⟨g', cur, e, hg, hsz⟩ := h.c (by omega)
  injection e with e
  injection e with e
  subst e
  exact ⟨h.k.setCell (p := ⟨g, j, none⟩) (fun _ => rfl) _, fun _ => ⟨g, _, rfl, set_inB j u hg, by rw [Array.size_setIfInBounds]; exact hsz⟩⟩
theorem own_u8 {X : World} {B n : Nat} {v : Value} {xs : List Value} (h : X.ownsRow B 5 1 v n xs) (j : Nat) (hj : v.ownBlock = some j) : ∃ cs, X.heap[j]? = some (.cells cs 5 (0, 0)) := by
  rcases h.2 with ⟨e, -⟩ | ⟨g, cap, cur, e, hbg, hg, r⟩
  · rw [e] at hj; cases hj
  · rw [e] at hj
    have e1 : g = j := by simpa [Value.ownBlock] using hj
    subst e1
    exact ⟨cur, hg⟩
theorem wk_at {w : World} {B n : Nat} {a : Option Addr} {c : Nat} {K : List Wk} (h : w.ownsRow B 51 2 (.slice a n c) n (rowC wkV K)) {i : Nat} {k : Wk} (hi : K[i]? = some k) : ∃ g, a = some ⟨g, 0, none⟩ ∧ w.cell? ⟨g, i * 2, none⟩ = some (.func (.func 34) #[] #[.pointer (some ⟨k.u, 0, none⟩)]) ∧ w.cell? ⟨g, i * 2 + 1, none⟩ = some (.slice k.a2 k.n k.c2) := by
  have hl := row_len wkF h
  have hx := (List.getElem?_eq_some_iff.1 hi).1
  obtain ⟨g, hg, -, -, hc⟩ := own_cells h (by omega)
  exact ⟨g, hg, by simpa using hc (i * 2 + 0) _ (by rw [rowC_at wkF K i 0 k hi (by omega)]; rfl), hc (i * 2 + 1) _ (by rw [rowC_at wkF K i 1 k hi (by omega)]; rfl)⟩
theorem SB.goes {E : Nat → Prop} {w0 W : World} {b bR room : Nat} {s t : PSt} {vw : Value} {K : List Wk} (h : SB E w0 W b bR room s t vw K) {k : Wk} (hk : k ∈ K) (z : Int) (q : Bool) : Calls Try.prog 22 #[.agg #[.func (.func 34) #[] #[.pointer (some ⟨k.u, 0, none⟩)], .slice k.a2 k.n k.c2], .int .i64 z, .bool q] W fun e w' => e = .returned (.bool true) ∧ Below W.heap.size W w' := by
  obtain ⟨v, l, vR, lR, h1, h2, h3⟩ := h
  have hw := h1.wk k hk
  obtain ⟨p1, p2, p3, p4, p5⟩ := hw.parts
  cases q
  · exact goes_one z p1 p2 p3 p4 p5 hw.pl hw.n5
  · exact goes_two z p1 p2 p3 p4 p5 hw.pl hw.n5
theorem SB.n5 {E : Nat → Prop} {w0 W : World} {b bR room : Nat} {s t : PSt} {vw : Value} {K : List Wk} (h : SB E w0 W b bR room s t vw K) {k : Wk} (hk : k ∈ K) : k.n ≤ 512 := by
  obtain ⟨v, l, vR, lR, h1, h2, h3⟩ := h
  exact (h1.wk k hk).n5
/-- One iterator more on the list. -/
theorem SB.more {E : Nat → Prop} {w0 W W' : World} {b bR room : Nat} {s t : PSt} {vw vw' : Value} {K : List Wk} {k : Wk} (h : ∃ v l vR lR, SInv E w0 W b v room s.last s.lost l bR vR t.last t.lost lR vw K ∧ l.map Pk.pl = s.pl ∧ lR.map Pk.pl = t.pl ∧ WkOk w0.heap.size E W k v l vR) (hg : W.grownBy W' vw.ownBlock) (hr : W'.ownsRow w0.heap.size 51 2 vw' (K ++ [k]).length (rowC wkV (K ++ [k]))) : SB E w0 W' b bR room s t vw' (K ++ [k]) := by
  obtain ⟨v, l, vR, lR, h1, h2, h3, h4⟩ := h
  exact ⟨v, l, vR, lR, h1.more ((Keeps.refl _ _).grown hg (fun k hk _ => hk)) hr h4, h2, h3⟩
end Go.Proofs.Yteaaamhojiognaa
