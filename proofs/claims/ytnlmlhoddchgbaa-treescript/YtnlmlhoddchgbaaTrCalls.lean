/-
  What a tree answers, by the document's rows.
-/
import Derived.Test.YtnlmlhoddchgbaaTrClone
namespace Go.Proofs.Ytnlmlhoddchgbaa
open Go.RowKit
set_option linter.unusedVariables false

theorem pGet (k : ByteArray) {W : World} {tb rb m : Nat} {A : Tr Int Mp} {l : List RowR} (h : Pr W tb A rb l m) (hm : m ≤ 281474976710655) : Calls Try.prog 19 #[.pointer (some ⟨tb, 0, none⟩), .string k] W fun e w' => e = .returned (.tuple #[.int .i64 (getV (look k (l.map rowOf))), .bool (look k (l.map rowOf)).isSome]) ∧ Below W.heap.size W w' := by
  have h1 := get_rows (A := A) k h.gd.rises
  rw [← h.rows, ← h1.1, ← h1.2]
  exact ygetM k h.tree h.gd hm

theorem pRank (k : ByteArray) {W : World} {tb rb m : Nat} {A : Tr Int Mp} {l : List RowR} (h : Pr W tb A rb l m) (hm : m ≤ 281474976710655) : Calls Try.prog 20 #[.pointer (some ⟨tb, 0, none⟩), .string k] W fun e w' => e = .returned (.int .i64 (rankL k (l.map rowOf) : Int)) ∧ Below W.heap.size W w' := by
  rw [← h.rows, ← lower_rank k A h.gd.rises]
  exact yrankM k h.tree h.gd hm

theorem pAtIn {W : World} {tb rb m : Nat} {A : Tr Int Mp} {l : List RowR} (h : Pr W tb A rb l m) (hm : m ≤ 281474976710655) (q : Nat) (hq : q < l.length) : Calls Try.prog 21 #[.pointer (some ⟨tb, 0, none⟩), .int .i64 (q : Int)] W fun e w' => e = .returned (.tuple #[.string (nthR l q).key, .int .i64 (nthR l q).v, .bool true]) ∧ Below W.heap.size W w' := by
  have h1 := at_rows h.rows hq
  have h2 := h.len
  have := yatM (q : Int) h.tree h.gd hm (by omega) (by omega)
  rw [h1.1, h1.2.1, h1.2.2] at this
  exact this

theorem pAtOut {W : World} {tb rb m : Nat} {A : Tr Int Mp} {l : List RowR} (h : Pr W tb A rb l m) (hm : m ≤ 281474976710655) (i : Int) (hi : I64 i) (ho : i < 0 ∨ (l.length : Int) ≤ i) : Calls Try.prog 21 #[.pointer (some ⟨tb, 0, none⟩), .int .i64 i] W fun e w' => e = .returned (.tuple #[.string ⟨#[]⟩, .int .i64 0, .bool false]) ∧ Below W.heap.size W w' := by
  have := yatM i h.tree h.gd hm hi.1 hi.2
  rw [at_none (A := A) (i := i) (by rw [h.cnt]; exact ho)] at this
  exact this

theorem pFold (i j : Int) {W : World} {tb rb m : Nat} {A : Tr Int Mp} {l : List RowR} (h : Pr W tb A rb l m) (hm : m ≤ 281474976710655) : Calls Try.prog 18 #[.pointer (some ⟨tb, 0, none⟩), .int .i64 i, .int .i64 j] W fun e w' => e = .returned (.agg #[.int .u64 (foldL mJoin mZero (seg (l.map rowOf) (max i 0).toNat (min j (l.length : Int)).toNat)).a, .int .u64 (foldL mJoin mZero (seg (l.map rowOf) (max i 0).toNat (min j (l.length : Int)).toNat)).b]) ∧ Below W.heap.size W w' := by
  have h1 := fol_rows mon_map A i j
  rw [h.rows, h.cnt] at h1
  rw [← h1]
  exact (yfoldM i j h.tree bothRef (cnt_none 0 W) h.gd hm).mono fun e w' ⟨h2, h3, h4⟩ => ⟨h2, keeps_none h4⟩

theorem pRFold (i j : Int) {W : World} {tb rb m : Nat} {A : Tr Int Mp} {l : List RowR} (h : Pr W tb A rb l m) (hm : m ≤ 281474976710655) : Calls Try.prog 47 #[.pointer (some ⟨rb, 0, none⟩), .int .i64 i, .int .i64 j] W fun e w' => e = .returned (.agg #[.int .u64 (foldL mJoin mZero (seg (l.map rowOf) (max i 0).toNat (min j (l.length : Int)).toNat)).a, .int .u64 (foldL mJoin mZero (seg (l.map rowOf) (max i 0).toNat (min j (l.length : Int)).toNat)).b]) ∧ Below W.heap.size W w' :=
  (rfold_any h.ref i j).mono fun e w' ⟨x, h1, h2, h3⟩ => ⟨by rw [h1, h2], h3⟩

theorem pLen {W : World} {tb rb m : Nat} {A : Tr Int Mp} {l : List RowR} (h : Pr W tb A rb l m) (hm : m ≤ 281474976710655) : Calls Try.prog 26 #[.pointer (some ⟨tb, 0, none⟩)] W fun e w' => e = .returned (.int .i64 (l.length : Int)) ∧ w' = W := by
  rw [← h.cnt]
  exact ylenM h.tree

/-- Behind the code's Put. -/
structure PutA (W w' : World) (tb : Nat) (A : Tr Int Mp) (rb : Nat) (l : List RowR) : Prop where
  tree : TreeM w' tb (.func (.func 15) #[] #[]) A
  ref : RT w' rb l
  keeps : Keeps (fun y => y = tb) W w'

theorem pPutA (k : ByteArray) (v : Int) (s : Mp) {W : World} {tb rb m : Nat} {A : Tr Int Mp} {l : List RowR} (h : Pr W tb A rb l m) (hm : m + 1 ≤ 281474976710655) : Calls Try.prog 17 #[.pointer (some ⟨tb, 0, none⟩), .string k, .int .i64 v, .agg #[.int .u64 s.a, .int .u64 s.b]] W fun e w' => e = .returned (.tuple #[.int .i64 (getV (look k (l.map rowOf))), .bool (look k (l.map rowOf)).isSome]) ∧ PutA W w' tb (Tr.put k v s A) rb l := by
  have h1 := get_rows (A := A) k h.gd.rises
  rw [← h.rows, ← h1.1, ← h1.2]
  refine (yputM k v s h.tree bothRef (cnt_none 0 W) h.gd (by unfold mSz; omega)).mono fun e w' ⟨h2, h3, h4, h5⟩ => ⟨h2, ?_⟩
  have kk : Keeps (fun y => y = tb) W w' := h5.mono (fun y _ e => by rcases e with e | e; exact e; cases e)
  obtain ⟨ct, ht⟩ := h.tree.blk
  exact ⟨h3, h.ref.keep kk (fun e => tb_rb h.tree h.ref e.symm) (fun i cs e e' => ty_ne e ht (by decide) e'), kk⟩

/-- Both were put into. -/
theorem put_both {W w5 w6 : World} {tb rb m : Nat} {A : Tr Int Mp} {l : List RowR} (h : Pr W tb A rb l m) (k : ByteArray) (v : Int) (s : Mp) (h5 : PutA W w5 tb (Tr.put k v s A) rb l)
    (h6 : RT w6 rb (l.take (rankL k (l.map rowOf)) ++ [(⟨k, v, s⟩ : RowR)] ++ l.drop (putK k (l.map rowOf)))) (k6 : Keeps (fun b => b = rb) w5 w6) :
    Pr w6 tb (Tr.put k v s A) rb (l.take (rankL k (l.map rowOf)) ++ [(⟨k, v, s⟩ : RowR)] ++ l.drop (putK k (l.map rowOf))) (m + 1) ∧ Keeps (fun y => y = tb ∨ y = rb) W w6 := by
  obtain ⟨cr, hr⟩ := h5.ref.blk
  refine ⟨⟨h5.tree.keep k6 (tb_rb h5.tree h5.ref) (fun i cs e e' => ty_ne e hr (by decide) e'), h.gd.put k v s, h6, put_rows k v s h.rows h.gd.rises⟩, ?_⟩
  exact (h5.keeps.mono (fun y _ e => .inl e)).trans (k6.mono (fun y _ e => .inr e))

/-- The world of a script, and the step that is done, in a box. -/
structure DS (w X : World) (wb ga ca gb cb gx : Nat) (P : Nat → Pairs) (n m : Nat) (x : OpR) : Prop where
  ws : WS w X wb ga ca gb cb P n m
  box : X.heap[gx]? = some (.cells #[.int .i64 x.kind, .int .i64 x.tree, .int .i64 x.i, .int .i64 x.j, .int .i64 x.v, .string x.key, .int .u64 x.s.a, .int .u64 x.s.b] 30 (0, 0))

theorem DS.on {w X X' : World} {wb ga ca gb cb gx n m : Nat} {P : Nat → Pairs} {x : OpR} (h : DS w X wb ga ca gb cb gx P n m x) (b : Below X.heap.size X X') : DS w X' wb ga ca gb cb gx P n m x := ⟨h.ws.on b, blk_on h.box b⟩

end Go.Proofs.Ytnlmlhoddchgbaa
