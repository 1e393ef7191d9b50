/-
  The document's tree: Fold walked.
-/
import Derived.Test.YtnlmlhoddchgbaaTrRefC
namespace Go.Proofs.Ytnlmlhoddchgbaa
open Go.RowKit
set_option linter.unusedVariables false

theorem heap_setCell_at {w : World} {b : Nat} (k : Nat) (u : Value) {cs : Array Value} {t : TypeId} (h : w.heap[b]? = some (.cells cs t (0, 0))) : (w.setCell ⟨b, k, none⟩ u).heap[b]? = some (.cells (cs.setIfInBounds k u) t (0, 0)) := by
  have hlt : b < w.heap.size := (Array.getElem?_eq_some_iff.1 h).1
  have h' : w.heap[b] = .cells cs t (0, 0) := by simpa [Array.getElem?_eq_getElem hlt] using h
  show (w.heap.modify b _)[b]? = _
  rw [Array.getElem?_eq_getElem (by simpa using hlt), Array.getElem_modify_self, h']
  simp

theorem two_setCell {w : World} {b : Nat} {v v' u u' : Value} {t : TypeId} (h : w.heap[b]? = some (.cells #[v, v'] t (0, 0))) : ((w.setCell ⟨b, 0, none⟩ u).setCell ⟨b, 1, none⟩ u').heap[b]? = some (.cells #[u, u'] t (0, 0)) := by
  have h1 := heap_setCell_at 0 u h
  have h2 := heap_setCell_at 1 u' h1
  simpa using h2

/-- Where Fold stands. -/
structure FS (W X : World) (i6 i7 : Nat) (x : Mp) : Prop where
  b6 : X.heap[i6]? = some (.cells #[.int .u64 0, .int .u64 0] 28 (0, 0))
  b7 : X.heap[i7]? = some (.cells #[.int .u64 x.a, .int .u64 x.b] 28 (0, 0))
  ne : i6 ≠ i7
  g6 : W.heap.size ≤ i6
  g7 : W.heap.size ≤ i7
  below : Below W.heap.size W X

theorem FS.on {W X X' : World} {i6 i7 : Nat} {x : Mp} (h : FS W X i6 i7 x) (b : Below X.heap.size X X') : FS W X' i6 i7 x := ⟨blk_on h.b6 b, blk_on h.b7 b, h.ne, h.g6, h.g7, bthen h.below b⟩

theorem FS.put {W X : World} {i6 i7 : Nat} {x : Mp} (h : FS W X i6 i7 x) (y : Mp) : FS W ((X.setCell ⟨i7, 0, none⟩ (.int .u64 y.a)).setCell ⟨i7, 1, none⟩ (.int .u64 y.b)) i6 i7 y :=
  ⟨by rw [Below.heap_setCell _ _ _ _ h.ne, Below.heap_setCell _ _ _ _ h.ne]; exact h.b6, two_setCell h.b7, h.ne, h.g6, h.g7, (h.below.setCell h.g7 _).setCell h.g7 _⟩

theorem FS.cells {W X : World} {i6 i7 : Nat} {x : Mp} (h : FS W X i6 i7 x) : X.cell? ⟨i7, 0, none⟩ = some (.int .u64 x.a) ∧ X.cell? ⟨i7, 1, none⟩ = some (.int .u64 x.b) ∧ X.frozen? ⟨i7, 0, none⟩ = false ∧ X.frozen? ⟨i7, 1, none⟩ = false := by
  simp [World.cell?, World.frozen?, h.b7]

theorem fold_step (T : Nat → RowR) (q : Nat) : foldL mJoin mZero ((List.range (q + 1)).map fun d => rowOf (T d)) = mJoin (foldL mJoin mZero ((List.range q).map fun d => rowOf (T d))) (T q).s := by
  unfold foldL
  rw [List.range_succ, List.map_append, List.foldl_append]
  rfl

set_option maxHeartbeats 3200000 in
set_option maxRecDepth 100000 in
theorem rfold_any {W : World} {rb : Nat} {l : List RowR} (h : RT W rb l) (i j : Int) :
    Calls Try.prog 47 #[.pointer (some ⟨rb, 0, none⟩), .int .i64 i, .int .i64 j] W fun e w' => ∃ x : Mp, e = .returned (.agg #[.int .u64 x.a, .int .u64 x.b]) ∧ x = foldL mJoin mZero (seg (l.map rowOf) (max i 0).toNat (min j (l.length : Int)).toNat) ∧ Below W.heap.size W w' := by
  have H := aside h
  clear h
  go_enter Try.func47, Try.ntmps47
  go_wp2_with fail
  refine (zero_any _).mono ?_
  rintro e w1 ⟨rfl, b1⟩
  have F0 := aside (⟨blk_on (blk_on (heap_alloc_new W _) b1) (bnew w1 _), heap_alloc_new w1 _, by have := b1.size; simp at this; omega, Nat.le_refl _, by have := b1.size; simp at this; omega, bthen (bthen (bnew W _) b1) (bnew w1 _)⟩ : FS W (w1.alloc (.cells #[.int .u64 1, .int .u64 0] 28)) W.heap.size w1.heap.size mZero)
  clear b1
  go_wp2_with fail
  generalize (w1.alloc (.cells #[.int .u64 1, .int .u64 0] 28)) = X0 at *
  refine (rrows_any H.out F0.out.below i j).mono ?_
  rintro e w2 ⟨v, rfl, ⟨a, m, c, T, rfl, hr, hs⟩, b2⟩
  have HR := aside hr
  have HS := aside hs
  have F2 := aside (F0.out.on b2)
  have hmx : (m : Int) ≤ 9223372036854775807 := by have := hr.2.2.1; omega
  generalize w1.heap.size = i7 at *
  obtain ⟨i6, hi6⟩ : ∃ x, W.heap.size = x := ⟨_, rfl⟩
  have F3 := aside (show FS W w2 i6 i7 mZero from hi6 ▸ F2.out)
  rw [hi6]
  clear hr hs b2 F2 F0 hi6
  go_wp2
  go_loopw [16] (fun i X => ∃ q : Nat, i = .int .i64 (q : Int) ∧ q ≤ m ∧ FS W X i6 i7 (foldL mJoin mZero ((List.range q).map fun d => rowOf (T d)))) (fun i _ => m - (intOf i).toNat)
  case atStart => exact ⟨0, rfl, Nat.zero_le _, F3.out⟩
  case round =>
    clear F3
    obtain ⟨q, rfl, hq, hf⟩ := hrel
    have F := aside hf
    clear hf
    by_cases hlt : (q : Int) < (m : Int)
    · rcases (HR.out.keep F.out.below).2.2.2 with h0 | ⟨b, off, rfl, hbl, hcc⟩
      · omega
      · obtain ⟨⟨c0, c1, c2, c3⟩, -⟩ := hcc q (by omega)
        have hq0 : (0 : Int) ≤ (q : Int) := by omega
        have hqw : IntKind.i64.wrap ((q : Int) + 1) = (q : Int) + 1 := by rw [IntKind.wrap_i64]; omega
        have QL := aside (show q + 1 ≤ m from by omega)
        have HE := aside (fold_step T q)
        generalize foldL mJoin mZero ((List.range q).map fun d => rowOf (T d)) = acc at *
        generalize T q = x at *
        have F1 := aside (F.out.on (bnew wr (.cells #[.string x.key, .int .i64 x.v, .int .u64 x.s.a, .int .u64 x.s.b] 64)))
        obtain ⟨d0, d1, -, -⟩ := F1.out.cells
        clear hcc hbl hq
        go_wp2_with fail
        refine (joinRef_any acc x.s _).mono ?_
        rintro e w5 ⟨rfl, b5⟩
        have F5 := aside (F1.out.on b5)
        obtain ⟨e0, e1, e2, e3⟩ := F5.out.cells
        generalize mJoin acc x.s = y at *
        have F6 := aside (F5.out.put y)
        clear b5 c0 c1 c2 c3 d0 d1
        go_wp2
        go_roundw
        case rel => exact ⟨q + 1, by go_num, QL.out, by rw [HE.out]; exact F6.out⟩
        case measure => simp [intOf]; have := QL.out; omega
    · have hqm : m = q := by omega
      subst hqm
      rw [HS.out] at F
      generalize hx : foldL mJoin mZero (seg (l.map rowOf) (max i 0).toNat (min j (l.length : Int)).toNat) = x at *
      have HX := aside hx
      clear hx
      obtain ⟨d0, d1, -, -⟩ := F.out.cells
      have b6 := F.out.b6
      have e0 : wr.cell? ⟨i6, 0, none⟩ = some (.int .u64 0) ∧ wr.cell? ⟨i6, 1, none⟩ = some (.int .u64 0) ∧ wr.frozen? ⟨i6, 0, none⟩ = false ∧ wr.frozen? ⟨i6, 1, none⟩ = false := by
        simp [World.cell?, World.frozen?, b6]
      obtain ⟨e0, e1, e2, e3⟩ := e0
      have n6 := two_setCell (u := .int .u64 x.a) (u' := .int .u64 x.b) b6
      have B6 := aside ((F.out.below.setCell (p := ⟨i6, 0, none⟩) F.out.g6 (.int .u64 x.a)).setCell (p := ⟨i6, 1, none⟩) F.out.g6 (.int .u64 x.b))
      clear b6
      go_wp2
      have f0 : ((wr.setCell ⟨i6, 0, none⟩ (.int .u64 x.a)).setCell ⟨i6, 1, none⟩ (.int .u64 x.b)).cell? ⟨i6, 0, none⟩ = some (.int .u64 x.a) ∧ ((wr.setCell ⟨i6, 0, none⟩ (.int .u64 x.a)).setCell ⟨i6, 1, none⟩ (.int .u64 x.b)).cell? ⟨i6, 1, none⟩ = some (.int .u64 x.b) := by
        simp only [World.cell?, n6]; exact ⟨rfl, rfl⟩
      obtain ⟨f0, f1⟩ := f0
      have BB := B6.out
      clear B6 n6
      generalize ((wr.setCell ⟨i6, 0, none⟩ (.int .u64 x.a)).setCell ⟨i6, 1, none⟩ (.int .u64 x.b)) = WW at *
      exact bodyPost_ret (v := .agg #[.int .u64 x.a, .int .u64 x.b]) (by simp [results, Try.results47, go_sem, f0, f1]) rfl ⟨x, rfl, HX.out.symm, BB⟩

end Go.Proofs.Ytnlmlhoddchgbaa
