/-
  Clone, apart and add of the code's bag.
-/
import Derived.Test.YteaaamhojiognaaBgB
import Derived.Lib.SliceRun
namespace Go.Proofs.Yteaaamhojiognaa
open Go.RowKit
set_option linter.unusedVariables false

theorem info8B : (Try.prog.info? 5).map (fun i => (i.zero, i.size, i.bytes)) = some (some (.int .u8 0), 1, 1) := by kernel_rfl
theorem op_append_by {w : World} {o : Oper} {act : Act} {K : Act → World → Prop} {Q : Exit → Act → World → Prop} (s x : Operand)
    (ho : o.op = .call { callee := .builtin .append, args := #[s, x], argTypes := #[32, 32] })
    (B : Nat) (v : Value) (l : List UInt8) (hs : act.eval s = v) (hA : w.ownsRow B 5 1 v l.length (Lib.byteCells l)) (a : Option Addr) (len cap : Nat) (M : List UInt8) (hx : act.eval x = .slice a len cap) (hM : ByIn w a len cap M)
    (hlen : l.length + len ≤ 140737488351232) (hB : B ≤ w.heap.size)
    (h : ∀ v' w', w'.ownsRow B 5 1 v' (l.length + len) (Lib.byteCells (l ++ M)) → w.grownBy w' v.ownBlock → K (act.put o.dst v') w') : o.wp Try.prog act w K Q := by
  obtain ⟨i0, hi, hz0, hz1, hz2⟩ := info_parts info8B
  obtain ⟨m1, m2, m3, m4⟩ := hM
  rcases m4 with ⟨rfl, rfl, rfl⟩ | ⟨y, rfl, hc⟩
  · have hrun := run_append_owned_none (P := Try.prog) (w := w) B 32 o.type 5 i0 1 Try.underlying32 hi _ _ _ hA
    unfold Oper.wp
    simp [execOp, ho, resolve, invoke, builtin, hs, hx, hrun, Result.andThen]
    have e : M = [] := List.length_eq_zero_iff.1 m1
    subst e
    refine h v w ?_ (World.grownBy.refl _ _)
    rw [List.append_nil]
    exact hA
  · refine wp_append_own w s x _ ho B 5 i0 _ 1 1 Try.underlying32 hi hz0 hz1 hz2 rfl (by decide) _ _ _ hs hA y len cap (Lib.byteCells M) hx (by rw [Lib.byteCells_length]; omega) hc (fun u hu => by
      unfold Lib.byteCells at hu
      obtain ⟨b, -, rfl⟩ := List.mem_map.1 hu
      rfl) (by unfold maxLen; omega) (by omega) hB ?_
    intro v' w' ho' hg _
    refine h v' w' ?_ hg
    have e : Lib.byteCells (l ++ M) = Lib.byteCells l ++ Lib.byteCells M := by simp [Lib.byteCells]
    rw [e]
    exact ho'

set_option maxHeartbeats 3200000 in
theorem clone_any (a : Option Addr) (len cap : Nat) (L : List UInt8) (w : World) (h : ByIn w a len cap L) (hl : len ≤ 65536) : Calls Try.prog 36 #[.slice a len cap] w fun e w' => ∃ da dc, e = .returned (.slice da len dc) ∧ w'.ownsRow w.heap.size 5 1 (.slice da len dc) len (Lib.byteCells L) ∧ Below w.heap.size w w' := by
  have qT : ∀ (w : World) (a : Option Addr) (n c n' c' : Nat), (binOp .eql 32 (.slice a n c) (.slice none n' c')).run Try.prog w = .ok (.bool a.isNone) w := fun w a n c n' c' => Lib.run_eql_slice_nil w _ _ a n c n' c' Try.underlying32
  obtain ⟨h1, h2, h3, h4⟩ := id h
  rcases h4 with ⟨rfl, rfl, rfl⟩ | ⟨x, rfl, hc⟩
  · have FIN := aside (show w.ownsRow w.heap.size 5 1 (.slice none 0 0) 0 (Lib.byteCells L) from by
      have e : L = [] := List.length_eq_zero_iff.1 h1
      subst e
      exact ⟨rfl, .inl ⟨rfl, rfl⟩⟩)
    clear h h1 h2 h3
    have hn : (none : Option Addr).isNone = true := rfl
    go_enter Try.func36, Try.ntmps36
    go_wp2
    go_ret
    exact ⟨_, _, rfl, FIN.out, Below.refl _ _⟩
  · have hn : (some x).isNone = false := rfl
    have OE := aside (show (w.alloc (.cells #[] 5)).ownsRow w.heap.size 5 1 (.slice (some ⟨w.heap.size, 0, none⟩) 0 0) 0 (Lib.byteCells []) from ⟨rfl, .inr ⟨w.heap.size, 0, #[], rfl, Nat.le_refl _, heap_alloc_new w _, Nat.le_refl _, Nat.zero_le _, rfl, rfl⟩⟩)
    have HI := aside (h.on (bnew w (.cells #[] 5)))
    have BN := aside (bnew w (.cells #[] 5))
    have HL := aside hl
    clear h h1 h2 h3 hc hl
    go_enter Try.func36, Try.ntmps36
    go_wp2_with (at_builtin; refine wpList_plain rfl fun K hK => op_append_by _ _ rfl w.heap.size (.slice (some ⟨w.heap.size, 0, none⟩) 0 0) [] (by rfl) OE.out (some x) len cap L (by rfl) HI.out (by have := HL.out; simp only [List.length_nil]; omega) (by simp) ?_; intro v5 w5 own5 g5; refine hK _ _ ?_; refine Hid.out ?_)
    refine aside ?_
    have B5 := aside (BN.out.grown g5 (by simp) (fun k e => by cases e; exact Nat.le_refl _))
    rw [List.length_nil, Nat.zero_add, List.nil_append] at own5
    have O5 := aside own5
    obtain ⟨a5, c5, rfl, -⟩ := own_slice own5
    clear own5 g5 OE HI
    go_wp2
    go_ret
    exact ⟨_, _, rfl, O5.out, B5.out⟩

theorem set_inB {w : World} {b : Nat} (k : Nat) (u : Value) {cs : Array Value} {t : TypeId} (h : w.heap[b]? = some (.cells cs t (0, 0))) : (w.setCell ⟨b, k, none⟩ u).heap[b]? = some (.cells (cs.setIfInBounds k u) t (0, 0)) := by
  simp only [World.setCell]
  rw [Array.getElem?_modify]
  simp [h]
theorem set_fourB {w : World} {b : Nat} {x y z d : Value} {t : TypeId} (h : w.heap[b]? = some (.cells #[x, y, z, d] t (0, 0))) (u v r s : Value) : ((((w.setCell ⟨b, 0, none⟩ u).setCell ⟨b, 1, none⟩ v).setCell ⟨b, 2, none⟩ r).setCell ⟨b, 3, none⟩ s).heap[b]? = some (.cells #[u, v, r, s] t (0, 0)) := by
  have h1 := set_inB 3 s (set_inB 2 r (set_inB 1 v (set_inB 0 u h)))
  simpa using h1
theorem fourB {w : World} {i : Nat} {a b c d : Value} {T : TypeId} (h : w.heap[i]? = some (.cells #[a, b, c, d] T (0, 0))) : w.cell? ⟨i, 0, none⟩ = some a ∧ w.cell? ⟨i, 1, none⟩ = some b ∧ w.cell? ⟨i, 2, none⟩ = some c ∧ w.cell? ⟨i, 3, none⟩ = some d := by
  simp [World.cell?, h]
theorem set_otherB {w : World} {b q : Nat} (k : Nat) (u : Value) {o : Obj} (h : w.heap[b]? = some o) (hne : b ≠ q) : (w.setCell ⟨q, k, none⟩ u).heap[b]? = some o := by
  rw [Below.heap_setCell _ _ _ _ hne]; exact h

set_option maxHeartbeats 3200000 in
theorem apart_any (p : Pk) (w : World) (h : ByIn w p.da p.dl p.dc p.L) (hl : p.dl ≤ 65536) : Calls Try.prog 31 #[p.v] w fun e w' => ∃ da dc, e = .returned (Pk.v ⟨p.num, p.frm, p.dst, da, p.dl, dc, p.L⟩) ∧ Dat w.heap.size w' ⟨p.num, p.frm, p.dst, da, p.dl, dc, p.L⟩ ∧ Below w.heap.size w w' := by
  obtain ⟨num, frm, dst, da, dl, dc, L⟩ := p
  unfold Pk.v
  dsimp only at h hl ⊢
  obtain ⟨V, hV⟩ : ∃ V, (w.alloc (.cells #[.int .i64 num, .int .i64 frm, .int .i64 dst, .slice da dl dc] 39)).alloc (.cells #[.int .i64 0, .int .i64 0, .int .i64 0, .slice none 0 0] 39) = V := ⟨_, rfl⟩
  have b1 := bthen (bnew w (.cells #[.int .i64 num, .int .i64 frm, .int .i64 dst, .slice da dl dc] 39)) (bnew _ (.cells #[.int .i64 0, .int .i64 0, .int .i64 0, .slice none 0 0] 39))
  have k1 := blk_on (heap_alloc_new w (.cells #[.int .i64 num, .int .i64 frm, .int .i64 dst, .slice da dl dc] 39)) (bnew _ (.cells #[.int .i64 0, .int .i64 0, .int .i64 0, .slice none 0 0] 39))
  have k2 := heap_alloc_new (w.alloc (.cells #[.int .i64 num, .int .i64 frm, .int .i64 dst, .slice da dl dc] 39)) (.cells #[.int .i64 0, .int .i64 0, .int .i64 0, .slice none 0 0] 39)
  rw [World.size_alloc] at k2
  rw [hV] at b1 k1 k2
  have B1 := aside b1
  have K1 := aside k1
  have K2 := aside k2
  have HI := aside (h.on b1)
  have HL := aside hl
  obtain ⟨q1, hq1⟩ : ∃ q, w.heap.size = q := ⟨_, rfl⟩
  obtain ⟨q2, hq2⟩ : ∃ q, q1 + 1 = q := ⟨_, rfl⟩
  have HW := aside (show w.heap.size = q1 ∧ q1 ≠ q2 ∧ w.heap.size ≤ q2 from ⟨hq1, by omega, by omega⟩)
  have HQ1 := aside hq1
  rw [hq1] at K1 K2
  rw [hq2] at K2
  obtain ⟨c0, c1, c2, c3⟩ : V.cell? ⟨q1, 0, none⟩ = some (.int .i64 num) ∧ V.cell? ⟨q1, 1, none⟩ = some (.int .i64 frm) ∧ V.cell? ⟨q1, 2, none⟩ = some (.int .i64 dst) ∧ V.cell? ⟨q1, 3, none⟩ = some (.slice da dl dc) := by
    have := K1.out
    simp [World.cell?, this]
  clear h hl b1 k1 k2
  go_enter Try.func31, Try.ntmps31
  go_upto_region 1 with fail
  try rw [hV]
  clear hV hq1 hq2
  go_wp2_with fail
  refine (clone_any da dl dc L V HI.out HL.out).mono ?_
  rintro e X ⟨da', dc', rfl, own, b2⟩
  have OW := aside (own_low own B1.out.size)
  have B2 := aside (bthen B1.out b2)
  replace K1 := aside (blk_on K1.out b2)
  replace K2 := aside (blk_on K2.out b2)
  clear c0 c1 c2 c3 own b2 HI B1
  obtain ⟨c0, c1, c2, c3⟩ : X.cell? ⟨q1, 0, none⟩ = some (.int .i64 num) ∧ X.cell? ⟨q1, 1, none⟩ = some (.int .i64 frm) ∧ X.cell? ⟨q1, 2, none⟩ = some (.int .i64 dst) ∧ X.cell? ⟨q1, 3, none⟩ = some (.slice da dl dc) := by
    have := K1.out
    simp [World.cell?, this]
  have f3 := frozen_of_row X q1 3 _ _ K1.out
  have g0 := frozen_of_row X q2 0 _ _ K2.out
  have g1 := frozen_of_row X q2 1 _ _ K2.out
  have g2 := frozen_of_row X q2 2 _ _ K2.out
  have g3 := frozen_of_row X q2 3 _ _ K2.out
  obtain ⟨d0, d1, d2, d3⟩ : X.cell? ⟨q2, 0, none⟩ = some (.int .i64 0) ∧ X.cell? ⟨q2, 1, none⟩ = some (.int .i64 0) ∧ X.cell? ⟨q2, 2, none⟩ = some (.int .i64 0) ∧ X.cell? ⟨q2, 3, none⟩ = some (.slice none 0 0) := by
    have := K2.out
    simp [World.cell?, this]
  have hne : q1 ≠ q2 := HW.out.2.1
  have FIN := aside (show ∀ u0 u1 u2 u3 u4 : Value, Dat w.heap.size (((((X.setCell ⟨q1, 3, none⟩ u0).setCell ⟨q2, 0, none⟩ u1).setCell ⟨q2, 1, none⟩ u2).setCell ⟨q2, 2, none⟩ u3).setCell ⟨q2, 3, none⟩ u4) ⟨num, frm, dst, da', dl, dc', L⟩ ∧ (((((X.setCell ⟨q1, 3, none⟩ u0).setCell ⟨q2, 0, none⟩ u1).setCell ⟨q2, 1, none⟩ u2).setCell ⟨q2, 2, none⟩ u3).setCell ⟨q2, 3, none⟩ u4).heap[q2]? = some (.cells #[u1, u2, u3, u4] 39 (0, 0)) ∧ Below w.heap.size w (((((X.setCell ⟨q1, 3, none⟩ u0).setCell ⟨q2, 0, none⟩ u1).setCell ⟨q2, 1, none⟩ u2).setCell ⟨q2, 2, none⟩ u3).setCell ⟨q2, 3, none⟩ u4) from fun u0 u1 u2 u3 u4 => by
    have kk : Keeps (fun x => x = q1 ∨ x = q2) X (((((X.setCell ⟨q1, 3, none⟩ u0).setCell ⟨q2, 0, none⟩ u1).setCell ⟨q2, 1, none⟩ u2).setCell ⟨q2, 2, none⟩ u3).setCell ⟨q2, 3, none⟩ u4) :=
      (((((Keeps.refl _ X).setCell (p := ⟨q1, 3, none⟩) (fun _ => .inl rfl) u0).setCell (p := ⟨q2, 0, none⟩) (fun _ => .inr rfl) u1).setCell (p := ⟨q2, 1, none⟩) (fun _ => .inr rfl) u2).setCell (p := ⟨q2, 2, none⟩) (fun _ => .inr rfl) u3).setCell (p := ⟨q2, 3, none⟩) (fun _ => .inr rfl) u4
    refine ⟨⟨ownsRow_keep OW.out kk (fun j hj hs => ?_), HL.out⟩, set_fourB (set_otherB 3 u0 K2.out (Ne.symm hne)) u1 u2 u3 u4, ?_⟩
    · rcases hs with rfl | rfl
      · exact own_typed OW.out K1.out (by decide) hj
      · exact own_typed OW.out K2.out (by decide) hj
    · exact B2.out.trans (kk.below B2.out.size (fun j hj hs => by have h1 := HW.out; rcases hs with rfl | rfl <;> omega)))
  clear K1 K2
  go_wp2
  obtain ⟨F1, F2, F3⟩ := FIN.out (.slice da' dl dc') (.int .i64 num) (.int .i64 frm) (.int .i64 dst) (.slice da' dl dc')
  obtain ⟨r0, r1, r2, r3⟩ := fourB F2
  try simp only [Exit.inBlock, Exit.then]
  exact bodyPost_ret (v := .agg #[.int .i64 num, .int .i64 frm, .int .i64 dst, .slice da' dl dc']) (by simp [results, Try.results31, go_sem, r0, r1, r2, r3]) rfl ⟨_, _, rfl, F1, F3⟩
end Go.Proofs.Yteaaamhojiognaa
