/-
  goes of the statements: an iterator of Due gives these alarms.
-/
import Derived.Test.YtoajgacofmodoaaTmV
import Derived.Test.YtoajgacofmodoaaTmE
namespace Go.Proofs.Ytoajgacofmodoaa
open Go.RowKit Go.Shelf
set_option linter.unusedVariables false

attribute [local go_sem] Oper.semAt_some
theorem kf_belowA {C : Nat} {X Y : World} (h : Below X.heap.size X Y) : KeepsFrom C X Y := KeepsFrom.of_grownBy (grown_belowA h) (fun j e => by cases e)
/-- What goes keeps in its loop. -/
structure GIn (w : World) (q : Nat) (a2 : Option Addr) (n c2 : Nat) (z : Int) (l : List Alm) (d : Nat) (a : Option Addr) (c : Nat) (pre : List Alm) (X : World) : Prop where
  k0 : X.heap[q]? = some (.cells #[.slice a2 n c2] 50 (0, 0))
  k1 : X.heap[q + 1]? = some (.cells #[.int .i64 z] 3 (0, 0))
  k2 : X.heap[q + 1 + 1]? = some (.cells #[.bool false] 4 (0, 0))
  k3 : X.heap[q + 1 + 1 + 1]? = some (.cells #[.int .i64 (pre.length : Int)] 3 (0, 0))
  wt : AlIn 57 X a2 n c2 l
  dd : DD d a n c l X
  bel : Below w.heap.size w X
theorem GIn.keep {w : World} {q : Nat} {a2 : Option Addr} {n c2 : Nat} {z : Int} {l : List Alm} {d : Nat} {a : Option Addr} {c : Nat} {pre : List Alm} {X Y : World} (h : GIn w q a2 n c2 z l d a c pre X) (b : Below X.heap.size X Y) : GIn w q a2 n c2 z l d a c pre Y :=
  ⟨blk_on h.k0 b, blk_on h.k1 b, blk_on h.k2 b, blk_on h.k3 b, h.wt.on b, h.dd.keep b, bthen h.bel b⟩
set_option maxHeartbeats 16000000 in
set_option maxRecDepth 100000 in
theorem goes_any {w : World} {d : Nat} {a : Option Addr} {n c : Nat} {l : List Alm} {a2 : Option Addr} {c2 : Nat} (z : Int) (hd : DD d a n c l w) (hw : AlIn 57 w a2 n c2 l) (hn : n ≤ 1000000) :
    Calls Try.prog 16 #[.func (.func 27) #[] #[.pointer (some ⟨d, 0, none⟩)], .slice a2 n c2, .int .i64 z] w fun e w' => e = .returned (.bool true) ∧ Below w.heap.size w w' := by
  have HLN := aside hw.1
  have HMX := aside hw.2
  have hmx : (n : Int) ≤ 1000000 := by omega
  obtain ⟨q, hq⟩ : ∃ q, w.heap.size = q := ⟨_, rfl⟩
  obtain ⟨V, hV⟩ : ∃ V, (((w.alloc (.cells #[.slice a2 n c2] 50)).alloc (.cells #[.int .i64 z] 3)).alloc (.cells #[.bool false] 4)).alloc (.cells #[.int .i64 0] 3) = V := ⟨_, rfl⟩
  have BV := aside (show Below w.heap.size w V from by rw [← hV]; exact bthen (bthen (bthen (bnew w _) (bnew _ _)) (bnew _ _)) (bnew _ _))
  have HQ := aside hq
  have I0 := aside (show GIn w q a2 n c2 z l d a c [] V from by
    have e0 := heap_alloc_new w (.cells #[.slice a2 n c2] 50)
    have e1 := heap_alloc_new (w.alloc (.cells #[.slice a2 n c2] 50)) (.cells #[.int .i64 z] 3)
    have e2 := heap_alloc_new ((w.alloc (.cells #[.slice a2 n c2] 50)).alloc (.cells #[.int .i64 z] 3)) (.cells #[.bool false] 4)
    have e3 := heap_alloc_new (((w.alloc (.cells #[.slice a2 n c2] 50)).alloc (.cells #[.int .i64 z] 3)).alloc (.cells #[.bool false] 4)) (.cells #[.int .i64 0] 3)
    simp only [World.size_alloc] at e1 e2 e3
    rw [hq] at e0 e1 e2 e3
    refine ⟨?_, ?_, ?_, ?_, hw.on BV.out, hd.keep BV.out, BV.out⟩
    · rw [← hV]; exact blk_on (blk_on (blk_on e0 (bnew _ _)) (bnew _ _)) (bnew _ _)
    · rw [← hV]; exact blk_on (blk_on e1 (bnew _ _)) (bnew _ _)
    · rw [← hV]; exact blk_on e2 (bnew _ _)
    · rw [← hV]; exact e3)
  have hfn : ∀ W, (binOp .eql 48 (.func (.func 27) #[] #[.pointer (some ⟨d, 0, none⟩)]) Value.nilFunc).run Try.prog W = .ok (.bool false) W := fun W => by kernel_rfl
  have HVQ := aside hV
  clear hd hw hn hV
  refine (callsIn_wide (n := 5)).1 ?_
  refine callsIn_of_wp_marks Try.func16 rfl trivial ?_ rfl
  simp only [Try.ntmps16, List.size_toArray, List.length_cons, List.length_nil, Nat.reduceAdd, Nat.reduceSub, Array.replicate_succ, Array.replicate_zero, List.push_toArray, List.append_toArray, List.nil_append, List.cons_append]
  gi_wp2_with fail
  rw [HVQ.out]
  have HVV := aside (show w.heap.size ≤ V.heap.size from BV.out.size)
  have QV := aside (show q + 1 + 1 + 1 < V.heap.size from lt_of_blk I0.out.k3)
  clear HVQ hq hfn
  have ownI : OwnFrom V.heap.size (fun (pre : List Alm) X => GIn w q a2 n c2 z l d a c pre X) := fun s A Y row hs hg hr => ⟨cells_ownA hs.k0 hg (fun r e => (hr r e).2), cells_ownA hs.k1 hg (fun r e => (hr r e).2), cells_ownA hs.k2 hg (fun r e => (hr r e).2), cells_ownA hs.k3 hg (fun r e => (hr r e).2), hs.wt.own hg (fun r e => (hr r e).2), hs.dd.own hg (fun r e => (hr r e).2), ownFrom_below (β := Unit) (Nat.le_refl w.heap.size) HVV.out () A Y row hs.bel hg hr⟩
  refine rangeX rfl (enters_of Try.func27 (by kernel_rfl) rfl) (due_seq I0.out.dd) KpD.t (fun W i o o' _ h ho => KpD.b W i o o' h ho) (Below.refl _ _) (fun _ => rfl)
    (fun (pre : List Alm) X => GIn w q a2 n c2 z l d a c pre X) (fun (cd : Code) (pre : List Alm) (X : World) => cd = .ret ∧ X.heap[q + 1 + 1]? = some (.cells #[.bool true] 4 (0, 0)) ∧ Below w.heap.size w X) ownI (fun cd s A Y row hs hg hr => ⟨hs.1, cells_ownA hs.2.1 hg (fun r e => (hr r e).2), ownFrom_below (β := Unit) (Nat.le_refl w.heap.size) HVV.out () A Y row hs.2.2 hg hr⟩) I0.out
    (fun x a' X => ∃ eb : Nat, a' = ⟨#[.func (.func 27) #[] #[.pointer (some ⟨d, 0, none⟩)], .slice a2 n c2, .int .i64 z, undef, .pointer (some ⟨q, 0, none⟩), .pointer (some ⟨q + 1, 0, none⟩), .pointer (some ⟨q + 1 + 1, 0, none⟩), .pointer (some ⟨q + 1 + 1 + 1, 0, none⟩), .pointer (some ⟨eb, 0, none⟩), .int .i64 x.2, .func (.func 27) #[] #[.pointer (some ⟨d, 0, none⟩)], .bool false, .func (.func 27) #[] #[.pointer (some ⟨d, 0, none⟩)], .agg #[.int .i64 x.1.1, .int .i64 x.1.2.1, .int .i64 x.1.2.2], .int .i64 x.2, undef, undef, undef, undef, undef, undef, undef, undef, undef, undef, undef, undef, undef, undef, undef, undef, undef, undef, undef, undef, undef, undef, undef, undef, undef, undef, undef, undef, undef, undef, undef], []⟩ ∧ X.heap[eb]? = some (.cells #[.int .i64 x.1.1, .int .i64 x.1.2.1, .int .i64 x.1.2.2] 29 (0, 0)))
    (fun x a' _ A Y row hs hg hr => by
      obtain ⟨eb, h1, h2⟩ := hs
      exact ⟨eb, h1, cells_ownA h2 hg (fun r e => (hr r e).2)⟩) ?assign ?body ?done ?stop
  case assign =>
    rintro l' pre x X K hi hK
    dsimp only [encA]
    gi_wp2
    have bb := bnew X (.cells #[.int .i64 x.1.1, .int .i64 x.1.2.1, .int .i64 x.1.2.2] 29)
    exact hK _ _ (kf_belowA bb) (fun s => s.keep bb) (hi.keep bb) ⟨X.heap.size, rfl, heap_alloc_new X _⟩
  case body =>
    rintro l' pre ⟨⟨yo, yl, yk⟩, yt⟩ a' X hi ⟨eb, rfl, he⟩ hlen ⟨r9, hr9⟩
    dsimp only at he ⊢
    obtain ⟨k, hk⟩ : ∃ k, pre.length = k := ⟨_, rfl⟩
    have HK := aside hk
    have HY := aside (show l[k]? = some ((yo, yl, yk), yt) from by rw [← hr9, ← hk]; simp)
    have HI := aside hi
    have HE := aside he
    have HN3 := aside hi.k3
    rw [hk] at HN3 hlen
    have hkn : ¬ (n : Int) ≤ (k : Int) := by have := HLN.out; omega
    have hkn' : (k : Int) < (n : Int) := by omega
    have hk0 : (0 : Int) ≤ (k : Int) := by omega
    have hw1 : IntKind.i64.wrap ((k : Int) + 1) = (k : Int) + 1 := by rw [IntKind.wrap_i64]; omega
    have EQN := fun W => name_binN_same yo yl yk W
    rcases hi.wt.2.2.2 with h9 | ⟨g, cs, rfl, hgb, hgc⟩
    · omega
    have SS := aside (show (fun Y => (Y.cell? ⟨q + 1 + 1 + 1, 0, none⟩ = some (.int .i64 (k : Int)) ∧ Y.cell? ⟨q, 0, none⟩ = some (.slice (some ⟨g, 0, none⟩) n c2) ∧ Y.cell? ⟨eb, 0, none⟩ = some (.int .i64 yo) ∧ Y.cell? ⟨eb, 1, none⟩ = some (.int .i64 yl) ∧ Y.cell? ⟨eb, 2, none⟩ = some (.int .i64 yk)) ∧ Y.cell? ⟨g, k * 4, none⟩ = some (.int .i64 yo) ∧ Y.cell? ⟨g, k * 4 + 1, none⟩ = some (.int .i64 yl) ∧ Y.cell? ⟨g, k * 4 + 2, none⟩ = some (.int .i64 yk) ∧ Y.cell? ⟨g, k * 4 + 3, none⟩ = some (.int .i64 yt)) X.drew from by
      have bd := (Below.refl X.heap.size X).drew
      obtain ⟨n0, n1, n2⟩ := tri3 (blk_on HE.out bd)
      obtain ⟨a0, a1, a2, a3⟩ := hgc k _ HY.out
      exact ⟨⟨cell_one (blk_on HN3.out bd), cell_one (blk_on HI.out.k0 bd), n0, n1, n2⟩, cell_in a0 bd, cell_in a1 bd, cell_in a2 bd, cell_in a3 bd⟩)
    have NQ := aside (show q + 1 + 1 + 1 ≠ q ∧ q + 1 + 1 + 1 ≠ q + 1 ∧ q + 1 + 1 + 1 ≠ q + 1 + 1 from ⟨by omega, by omega, by omega⟩)
    clear hi he hk hgb hgc hr9 hlen
    gi_wp2_with fail
    refine wpIn_region_held (S := fun Y => (Y.cell? ⟨q + 1 + 1 + 1, 0, none⟩ = some (.int .i64 (k : Int)) ∧ Y.cell? ⟨q, 0, none⟩ = some (.slice (some ⟨g, 0, none⟩) n c2) ∧ Y.cell? ⟨eb, 0, none⟩ = some (.int .i64 yo) ∧ Y.cell? ⟨eb, 1, none⟩ = some (.int .i64 yl) ∧ Y.cell? ⟨eb, 2, none⟩ = some (.int .i64 yk)) ∧ Y.cell? ⟨g, k * 4, none⟩ = some (.int .i64 yo) ∧ Y.cell? ⟨g, k * 4 + 1, none⟩ = some (.int .i64 yl) ∧ Y.cell? ⟨g, k * 4 + 2, none⟩ = some (.int .i64 yk) ∧ Y.cell? ⟨g, k * 4 + 3, none⟩ = some (.int .i64 yt)) (by kernel_rfl) (by kernel_rfl) (fun ⟨_, _, h⟩ => h) SS.out (fun hHeld => ?_)
    refine wpAnyH_take (i := 0) (v := ?_) rfl (by kernel_rfl) (by kernel_rfl) (by kernel_rfl) (fun _ _ _ h => h) (Or.inl ⟨by rfl, ?_⟩) (by assumption) ?_
    rotate_left
    · intro w hSw
      go_simp
      try with_reducible rfl
    simp only [Act.put, List.getElem_toArray, List.getElem_cons_zero, List.setIfInBounds_toArray, List.set_cons_zero, List.set_cons_succ]
    refine wpAnyH_take (i := 1) (v := ?_) rfl (by kernel_rfl) (by kernel_rfl) (by kernel_rfl) (fun _ _ _ h => h) (Or.inl ⟨by rfl, ?_⟩) (by assumption) ?_
    rotate_left
    · intro w hSw
      go_simp
      try with_reducible rfl
    simp only [Act.put, List.getElem_toArray, List.getElem_cons_zero, List.getElem_cons_succ, List.setIfInBounds_toArray, List.set_cons_zero, List.set_cons_succ]
    refine wpAnyH_take (i := 2) (v := ?_) rfl (by kernel_rfl) (by kernel_rfl) (by kernel_rfl) (fun _ _ _ h => h) (Or.inl ⟨by rfl, ?_⟩) (by assumption) ?_
    rotate_left
    · intro w hSw
      go_simp
      try with_reducible rfl
    simp only [Act.put, List.getElem_toArray, List.getElem_cons_zero, List.getElem_cons_succ, List.setIfInBounds_toArray, List.set_cons_zero, List.set_cons_succ]
    refine wpAnyH_take (i := 3) (v := .bool false) rfl (by kernel_rfl) (by kernel_rfl) (by kernel_rfl) (fun _ _ _ h => h) (Or.inl ⟨by rfl, ?_⟩) (by assumption) ?_
    · intro w hSw
      go_simp
      omega
    simp only [Act.put, List.getElem_toArray, List.getElem_cons_zero, List.getElem_cons_succ, List.setIfInBounds_toArray, List.set_cons_zero, List.set_cons_succ]
    refine wpAnyH_take (i := 4) (v := ?_) rfl (by kernel_rfl) (by kernel_rfl) (by kernel_rfl) (fun _ _ _ h => h) (Or.inl ⟨by rfl, ?_⟩) (by assumption) ?_
    rotate_left
    · intro w hSw
      go_simp
      try with_reducible rfl
    simp only [Act.put, List.getElem_toArray, List.getElem_cons_zero, List.getElem_cons_succ, List.setIfInBounds_toArray, List.set_cons_zero, List.set_cons_succ]
    refine wpAnyH_take (i := 5) (v := ?_) rfl (by kernel_rfl) (by kernel_rfl) (by kernel_rfl) (fun _ _ _ h => h) (Or.inl ⟨by rfl, ?_⟩) (by assumption) ?_
    rotate_left
    · intro w hSw
      go_simp
      try with_reducible rfl
    simp only [Act.put, List.getElem_toArray, List.getElem_cons_zero, List.getElem_cons_succ, List.setIfInBounds_toArray, List.set_cons_zero, List.set_cons_succ]
    refine wpAnyH_take (i := 6) (v := ?_) rfl (by kernel_rfl) (by kernel_rfl) (by kernel_rfl) (fun _ _ _ h => h) (Or.inl ⟨by rfl, ?_⟩) (by assumption) ?_
    rotate_left
    · intro w hSw
      go_simp
      try with_reducible rfl
    simp only [Act.put, List.getElem_toArray, List.getElem_cons_zero, List.getElem_cons_succ, List.setIfInBounds_toArray, List.set_cons_zero, List.set_cons_succ]
    refine wpAnyH_take (i := 7) (v := ?_) rfl (by kernel_rfl) (by kernel_rfl) (by kernel_rfl) (fun _ _ _ h => h) (Or.inl ⟨by rfl, ?_⟩) (by assumption) ?_
    rotate_left
    · intro w hSw
      go_simp
      try with_reducible rfl
    simp only [Act.put, List.getElem_toArray, List.getElem_cons_zero, List.getElem_cons_succ, List.setIfInBounds_toArray, List.set_cons_zero, List.set_cons_succ]
    refine wpAnyH_take (i := 8) (v := ?_) rfl (by kernel_rfl) (by kernel_rfl) (by kernel_rfl) (fun _ _ _ h => h) (Or.inl ⟨by rfl, ?_⟩) (by assumption) ?_
    rotate_left
    · intro w hSw
      go_simp
      try with_reducible rfl
    simp only [Act.put, List.getElem_toArray, List.getElem_cons_zero, List.getElem_cons_succ, List.setIfInBounds_toArray, List.set_cons_zero, List.set_cons_succ]
    refine wpAnyH_take (i := 9) (v := ?_) rfl (by kernel_rfl) (by kernel_rfl) (by kernel_rfl) (fun _ _ _ h => h) (Or.inl ⟨by rfl, ?_⟩) (by assumption) ?_
    rotate_left
    · intro w hSw
      go_simp
      try with_reducible rfl
    simp only [Act.put, List.getElem_toArray, List.getElem_cons_zero, List.getElem_cons_succ, List.setIfInBounds_toArray, List.set_cons_zero, List.set_cons_succ]
    refine wpAnyH_take (i := 10) (v := ?_) rfl (by kernel_rfl) (by kernel_rfl) (by kernel_rfl) (fun _ _ _ h => h) (Or.inl ⟨by rfl, ?_⟩) (by assumption) ?_
    rotate_left
    · intro w hSw
      go_simp
      try with_reducible rfl
    simp only [Act.put, List.getElem_toArray, List.getElem_cons_zero, List.getElem_cons_succ, List.setIfInBounds_toArray, List.set_cons_zero, List.set_cons_succ]
    refine wpAnyH_take (i := 11) (v := .bool false) rfl (by kernel_rfl) (by kernel_rfl) (by kernel_rfl) (fun _ _ _ h => h) (Or.inl ⟨by rfl, ?_⟩) (by assumption) ?_
    · intro w hSw
      go_simp
      try exact EQN _
    simp only [Act.put, List.getElem_toArray, List.getElem_cons_zero, List.getElem_cons_succ, List.setIfInBounds_toArray, List.set_cons_zero, List.set_cons_succ]
    refine wpAnyH_take (i := 12) (v := ?_) rfl (by kernel_rfl) (by kernel_rfl) (by kernel_rfl) (fun _ _ _ h => h) (Or.inl ⟨by rfl, ?_⟩) (by assumption) ?_
    rotate_left
    · intro w hSw
      go_simp
      try with_reducible rfl
    simp only [Act.put, List.getElem_toArray, List.getElem_cons_zero, List.getElem_cons_succ, List.setIfInBounds_toArray, List.set_cons_zero, List.set_cons_succ]
    refine wpAnyH_take (i := 13) (v := ?_) rfl (by kernel_rfl) (by kernel_rfl) (by kernel_rfl) (fun _ _ _ h => h) (Or.inl ⟨by rfl, ?_⟩) (by assumption) ?_
    rotate_left
    · intro w hSw
      go_simp
      try with_reducible rfl
    simp only [Act.put, List.getElem_toArray, List.getElem_cons_zero, List.getElem_cons_succ, List.setIfInBounds_toArray, List.set_cons_zero, List.set_cons_succ]
    refine wpAnyH_take (i := 14) (v := ?_) rfl (by kernel_rfl) (by kernel_rfl) (by kernel_rfl) (fun _ _ _ h => h) (Or.inl ⟨by rfl, ?_⟩) (by assumption) ?_
    rotate_left
    · intro w hSw
      go_simp
      try with_reducible rfl
    simp only [Act.put, List.getElem_toArray, List.getElem_cons_zero, List.getElem_cons_succ, List.setIfInBounds_toArray, List.set_cons_zero, List.set_cons_succ]
    refine wpAnyH_take (i := 15) (v := ?_) rfl (by kernel_rfl) (by kernel_rfl) (by kernel_rfl) (fun _ _ _ h => h) (Or.inl ⟨by rfl, ?_⟩) (by assumption) ?_
    rotate_left
    · intro w hSw
      go_simp
      try with_reducible rfl
    simp only [Act.put, List.getElem_toArray, List.getElem_cons_zero, List.getElem_cons_succ, List.setIfInBounds_toArray, List.set_cons_zero, List.set_cons_succ]
    refine wpAnyH_take (i := 16) (v := ?_) rfl (by kernel_rfl) (by kernel_rfl) (by kernel_rfl) (fun _ _ _ h => h) (Or.inl ⟨by rfl, ?_⟩) (by assumption) ?_
    rotate_left
    · intro w hSw
      go_simp
      try with_reducible rfl
    simp only [Act.put, List.getElem_toArray, List.getElem_cons_zero, List.getElem_cons_succ, List.setIfInBounds_toArray, List.set_cons_zero, List.set_cons_succ]
    refine wpAnyH_take (i := 17) (v := ?_) rfl (by kernel_rfl) (by kernel_rfl) (by kernel_rfl) (fun _ _ _ h => h) (Or.inl ⟨by rfl, ?_⟩) (by assumption) ?_
    rotate_left
    · intro w hSw
      go_simp
      try with_reducible rfl
    simp only [Act.put, List.getElem_toArray, List.getElem_cons_zero, List.getElem_cons_succ, List.setIfInBounds_toArray, List.set_cons_zero, List.set_cons_succ]
    refine wpAnyH_take (i := 18) (v := ?_) rfl (by kernel_rfl) (by kernel_rfl) (by kernel_rfl) (fun _ _ _ h => h) (Or.inl ⟨by rfl, ?_⟩) (by assumption) ?_
    rotate_left
    · intro w hSw
      go_simp
      try with_reducible rfl
    simp only [Act.put, List.getElem_toArray, List.getElem_cons_zero, List.getElem_cons_succ, List.setIfInBounds_toArray, List.set_cons_zero, List.set_cons_succ]
    refine wpAnyH_take (i := 19) (v := ?_) rfl (by kernel_rfl) (by kernel_rfl) (by kernel_rfl) (fun _ _ _ h => h) (Or.inl ⟨by rfl, ?_⟩) (by assumption) ?_
    rotate_left
    · intro w hSw
      go_simp
      try with_reducible rfl
    simp only [Act.put, List.getElem_toArray, List.getElem_cons_zero, List.getElem_cons_succ, List.setIfInBounds_toArray, List.set_cons_zero, List.set_cons_succ]
    refine wpAnyH_take (i := 20) (v := .bool false) rfl (by kernel_rfl) (by kernel_rfl) (by kernel_rfl) (fun _ _ _ h => h) (Or.inl ⟨by rfl, ?_⟩) (by assumption) ?_
    · intro w hSw
      go_simp
    simp only [Act.put, List.getElem_toArray, List.getElem_cons_zero, List.getElem_cons_succ, List.setIfInBounds_toArray, List.set_cons_zero, List.set_cons_succ]
    refine wpAnyH_take (i := 21) (v := ?_) rfl (by kernel_rfl) (by kernel_rfl) (by kernel_rfl) (fun _ _ _ h => h) (Or.inl ⟨by rfl, ?_⟩) (by assumption) ?_
    rotate_left
    · intro w hSw
      go_simp
      try with_reducible rfl
    simp only [Act.put, List.getElem_toArray, List.getElem_cons_zero, List.getElem_cons_succ, List.setIfInBounds_toArray, List.set_cons_zero, List.set_cons_succ]
    refine wpAnyH_done (by kernel_rfl) ?_ _
    clear hHeld
    have BD := aside ((Below.refl X.heap.size X).drew)
    replace HI := aside (HI.out.keep BD.out)
    replace HN3 := aside (blk_on HN3.out BD.out)
    clear SS
    generalize X.drew = X2 at *
    have n0 := cell_one HN3.out
    have nz := frozen_one HN3.out
    have HX3 := aside (show (X2.setCell ⟨q + 1 + 1 + 1, 0, none⟩ (.int .i64 ((k : Int) + 1))).heap[q + 1 + 1 + 1]? = some (.cells #[.int .i64 ((k : Int) + 1)] 3 (0, 0)) from by rw [heap_setCell_same X2 (q + 1 + 1 + 1) 0 _ _ _ HN3.out]; rfl)
    have HB3 := aside (HI.out.bel.setCell (p := ⟨q + 1 + 1 + 1, 0, none⟩) (by show w.heap.size ≤ q + 1 + 1 + 1; rw [HQ.out]; omega) (.int .i64 ((k : Int) + 1)))
    have KK := aside ((Keeps.refl (fun x => x = q + 1 + 1 + 1) X2).setCell (p := ⟨q + 1 + 1 + 1, 0, none⟩) (fun _ => rfl) (.int .i64 ((k : Int) + 1)))
    have FAR := aside (fun (i : Nat) (cs : Array Value) (e : TypeId) (he : e ≠ 3) (hi : X2.heap[i]? = some (.cells cs e (0, 0))) => (show ¬ i = q + 1 + 1 + 1 from fun e9 => by rw [e9, HN3.out] at hi; simp at hi; exact he hi.2.symm))
    have HLK := aside (show ((pre ++ [((yo, yl, yk), yt)]).length : Int) = (k : Int) + 1 from by rw [List.length_append, HK.out]; simp)
    have G3 := aside (show GIn w q (some ⟨g, 0, none⟩) n c2 z l d a c (pre ++ [((yo, yl, yk), yt)]) (X2.setCell ⟨q + 1 + 1 + 1, 0, none⟩ (.int .i64 ((k : Int) + 1))) from
      ⟨blk_keep HI.out.k0 KK.out (by omega), blk_keep HI.out.k1 KK.out (by omega), blk_keep HI.out.k2 KK.out (by omega), by rw [HLK.out]; exact HX3.out, HI.out.wt.keep KK.out (fun i cs hi => FAR.out i cs _ (by decide) hi), HI.out.dd.keeps KK.out (fun i cs hi => FAR.out i cs _ (by decide) hi) (fun i cs hi => FAR.out i cs _ (by decide) hi), HB3.out⟩)
    have n3 := cell_one HX3.out
    have s3 := cell_one G3.out.k1
    have KF := aside ((kf_belowA (C := V.heap.size) BD.out).trans ((KeepsOthers.setCell X2 ⟨q + 1 + 1 + 1, 0, none⟩ (.int .i64 ((k : Int) + 1))).from V.heap.size))
    by_cases hkz : (k : Int) + 1 = z
    · have e2 : ((k : Int) + 1 == z) = true := by simpa using hkz
      have r0 := cell_one G3.out.k2
      have rz := frozen_one G3.out.k2
      have R6 := aside (show ((X2.setCell ⟨q + 1 + 1 + 1, 0, none⟩ (.int .i64 ((k : Int) + 1))).setCell ⟨q + 1 + 1, 0, none⟩ (.bool true)).heap[q + 1 + 1]? = some (.cells #[.bool true] 4 (0, 0)) from by rw [heap_setCell_same _ (q + 1 + 1) 0 _ _ _ G3.out.k2]; rfl)
      have B6 := aside (HB3.out.setCell (p := ⟨q + 1 + 1, 0, none⟩) (by show w.heap.size ≤ q + 1 + 1; rw [HQ.out]; omega) (.bool true))
      clear hkz
      gi_wp2
      exact ⟨KF.out.trans ((KeepsOthers.setCell _ _ _).from _), rfl, R6.out, B6.out⟩
    · have e2 : ((k : Int) + 1 == z) = false := by simpa using hkz
      clear hkz
      gi_wp2
      exact ⟨KF.out, fun _ => G3.out.dd, G3.out⟩
  case done =>
    rintro D xs X hD rfl hi hK
    have c3 := cell_one hi.k3
    have c4 := cell_one hi.k0
    have r0 := cell_one hi.k2
    have rz := frozen_one hi.k2
    have hll : (xs.length : Int) = (n : Int) := by have := HLN.out; omega
    have R6 := aside (show (X.setCell ⟨q + 1 + 1, 0, none⟩ (.bool true)).heap[q + 1 + 1]? = some (.cells #[.bool true] 4 (0, 0)) from by rw [heap_setCell_same _ (q + 1 + 1) 0 _ _ _ hi.k2]; rfl)
    have B6 := aside (hi.bel.setCell (p := ⟨q + 1 + 1, 0, none⟩) (by show w.heap.size ≤ q + 1 + 1; rw [HQ.out]; omega) (.bool true))
    rw [hll] at c3
    clear hi
    gi_wp2
    have hK1 := (KeepsOthers.setCell X ⟨q + 1 + 1, 0, none⟩ (.bool true)).same D _ hK rfl
    refine ⟨by simp, .inl ⟨_, _, rfl, run_takeDeferred hK1, ?_⟩⟩
    have d0 := cell_kept (cell_one R6.out) (grownBy_putObj' _ D (.deferred none)) (fun r e => by cases e; exact ⟨_, hK1, rfl⟩)
    refine ⟨.bool true, by simp [results, Try.f16, go_sem, d0], rfl, ?_⟩
    exact ownFrom_below (β := Unit) (Nat.le_refl w.heap.size) HVV.out () _ _ (some D) B6.out (grownBy_putObj' _ D (.deferred none)) (fun r e => by cases e; exact ⟨hD, _, hK1, rfl⟩)
  case stop =>
    rintro D cd pre X hD _ ⟨rfl, h1, h3⟩ hK
    gi_wp2
    refine ⟨by simp, .inl ⟨_, _, rfl, run_takeDeferred hK, ?_⟩⟩
    have d0 := cell_kept (cell_one h1) (grownBy_putObj' _ D (.deferred none)) (fun r e => by cases e; exact ⟨_, hK, rfl⟩)
    refine ⟨.bool true, by simp [results, Try.f16, go_sem, d0], rfl, ?_⟩
    exact ownFrom_below (β := Unit) (Nat.le_refl w.heap.size) HVV.out () _ _ (some D) h3 (grownBy_putObj' _ D (.deferred none)) (fun r e => by cases e; exact ⟨hD, _, hK, rfl⟩)

end Go.Proofs.Ytoajgacofmodoaa
