/-
  Rows of what was sent; the invariant of the law BagKeeps.
-/
import Derived.Test.YteaaamhojiognaaBgR
import Derived.Test.YteaaamhojiognaaBgO
namespace Go.Proofs.Yteaaamhojiognaa
open Go.RowKit
set_option linter.unusedVariables false

def stV (s : Int × Nat) : List Value := [.int .i64 s.1, .int .i64 (s.2 : Int)]
theorem stF : RowF stV 2 := ⟨fun _ => rfl, fun e u hu => by simp [stV] at hu; rcases hu with rfl | rfl <;> rfl, by decide⟩
theorem infoSt : (Try.prog.info? 57).map (fun i => (i.zero, i.size, i.bytes)) = some (some (.agg #[.int .i64 0, .int .i64 0]), 2, 16) := by kernel_rfl
/-- What stands at a place of an owned row. -/
theorem st_at {w : World} {B n : Nat} {v : Value} {l : List (Int × Nat)} (h : w.ownsRow B 57 2 v n (rowC stV l)) {i : Nat} {s : Int × Nat} (hi : l[i]? = some s) : ∃ g c, v = .slice (some ⟨g, 0, none⟩) n c ∧ w.cell? ⟨g, i * 2, none⟩ = some (.int .i64 s.1) ∧ w.cell? ⟨g, i * 2 + 1, none⟩ = some (.int .i64 (s.2 : Int)) := by
  have hl := row_len stF h
  have hlt : i < l.length := (List.getElem?_eq_some_iff.1 hi).1
  obtain ⟨a, c, rfl, -, -, ⟨h3, h4, h5⟩ | ⟨g, rfl, hb, hg⟩⟩ := own_slice h
  · omega
  · have hr := RowIn.of_own stF h
    have c0 := hr.cellAt stF (r := 0) (u := .int .i64 s.1) hi (by decide) rfl
    have c1 := hr.cellAt stF (r := 1) (u := .int .i64 (s.2 : Int)) hi (by decide) rfl
    simp only [Nat.zero_add, Nat.add_zero] at c0 c1
    exact ⟨g, c, rfl, c0, c1⟩
set_option maxRecDepth 100000 in
/-- Both parts of an owned row, left out the place k. -/
theorem st_parts {w : World} {B n c k : Nat} {a : Option Addr} {l : List (Int × Nat)} (own : w.ownsRow B 57 2 (.slice a n c) n (rowC stV l)) (hk : k < n) :
    ∃ aT cT, (∀ W, (Instr.slice 55 (.slice a n c) (some (.int .i64 ((k + 1 : Nat) : Int))) none none).run Try.prog W = .ok (.slice aT (n - (k + 1)) cT) W) ∧ (∀ W, (Instr.slice 55 (.slice a n c) none (some (.int .i64 (k : Int))) none).run Try.prog W = .ok (.slice a k c) W) ∧ RowIn stV w aT (n - (k + 1)) cT (l.drop (k + 1)) ∧ RowIn stV w a k c (l.take k) := by
  have hin := RowIn.of_own stF own
  obtain ⟨p1, p2, p3, p4⟩ := hin
  obtain ⟨j, hj⟩ : ∃ j, k + 1 = j := ⟨_, rfl⟩
  rw [hj]
  have g0 : (0 : Int) ≤ (j : Int) := by omega
  have g1 : (j : Int) ≤ (n : Int) := by omega
  have g4 : (0 : Int) ≤ (k : Int) := by omega
  have hln : (l.drop j).length = n - j := by rw [List.length_drop, p1]
  have hlk : (l.take k).length = k := by rw [List.length_take, p1]; omega
  have hmx : c ≤ 9223372036854775807 := by unfold maxLen at p3; omega
  have g2 : (j : Int) ≤ (c : Int) := by omega
  have g3 : (n : Int) ≤ (c : Int) := by omega
  have g5 : (k : Int) ≤ (c : Int) := by omega
  rcases p4 with ⟨rfl, rfl, rfl⟩ | ⟨g, o, rfl, hg, hc⟩
  · omega
  · have hk1 : RowIn stV w (some ⟨g, o, none⟩) k c (l.take k) := ⟨hlk, by omega, p3, .inr ⟨g, o, rfl, hg, fun i u hi => hc i u (rowC_take l k i u hi)⟩⟩
    have hc2 : ∀ i u, (rowC stV (l.drop j))[i]? = some u → w.cell? ⟨g, o + j * 2 + i, none⟩ = some u := fun i u hi => by
      rw [← rowC_drop stF, List.getElem?_drop] at hi
      rw [Nat.add_assoc]
      exact hc _ _ hi
    by_cases hcn : c = j
    · refine ⟨some ⟨g, o, none⟩, c - j, fun W => ?_, fun W => ?_, ⟨hln, by omega, by omega, .inr ⟨g, o, rfl, hg, fun i u hi => ?_⟩⟩, hk1⟩
      · go_simp
      · go_simp <;> (intro h9; omega)
      · have hjl : i < (rowC stV (l.drop j)).length := (List.getElem?_eq_some_iff.1 hi).1
        rw [rowC_length stF, hln] at hjl
        omega
    · refine ⟨some ⟨g, o + j * 2, none⟩, c - j, fun W => ?_, fun W => ?_, ⟨hln, by omega, by omega, .inr ⟨g, o + j * 2, rfl, hg, hc2⟩⟩, hk1⟩
      · go_simp
      · go_simp

/-- The state of the law at a step: the bag, and the list of what is in it. -/
structure KInv (R : Nat → Bo) (w0 W : World) (k b : Nat) (v : Value) (room last lost : Nat) (l : List Pk) (vi : Value) (S : List (Int × Nat)) : Prop where
  st : BSt w0 W b v room last lost l
  row : W.ownsRow w0.heap.size 57 2 vi l.length (rowC stV S)
  len : S.length = l.length
  eq : ∀ (j : Nat) (p : Pk) (s : Int × Nat), l[j]? = some p → S[j]? = some s → p.num = s.1 ∧ s.2 < k ∧ p.frm = (R s.2).frm ∧ p.dst = (R s.2).dst ∧ p.L = (R s.2).L
  la : last ≤ k
  lo : lost ≤ k
/-- The bag stays while a row of another type grows. -/
theorem BSt.grown {w0 W W' : World} {b : Nat} {v : Value} {room last lost : Nat} {l : List Pk} (h : BSt w0 W b v room last lost l) {e s n : Nat} {vi : Value} {xs : List Value} (ow : W.ownsRow w0.heap.size e s vi n xs) (h1 : e ≠ 60) (h2 : e ≠ 39) (h3 : e ≠ 5) (hg : W.grownBy W' vi.ownBlock) : BSt w0 W' b v room last lost l := by
  have kk : Keeps (fun x => vi.ownBlock = some x) W W' := (Keeps.refl _ _).grown hg (fun k hk _ => hk)
  exact ⟨h.bag.keep kk (own_typed ow h.bag.bx h1) (fun j hj hs => own_apart ow h.bag.row h2 hj hs) (fun p hp j hj hs => own_apart ow (h.bag.dat p hp).1 h3 hj hs), h.bel.trans (kk.below h.bel.size (fun k hk hs => by have := (ow.lt k hs).1; omega))⟩
/-- What was there ahead of the bag lies apart from it. -/
theorem BagAt.far_old {w : World} {B b : Nat} {v : Value} {room last lost : Nat} {l : List Pk} (h : BagAt w B b v room last lost l) {q : Nat} (hq : q < B) : ¬ BgS b v q := fun hs => by
  rcases hs with rfl | hs
  · have := h.ge; omega
  · have := (h.row.lt _ hs).1; omega
theorem KInv.on {R : Nat → Bo} {w0 W W' : World} {k b : Nat} {v : Value} {room last lost : Nat} {l : List Pk} {vi : Value} {S : List (Int × Nat)} (h : KInv R w0 W k b v room last lost l vi S) (bb : Below W.heap.size W W') : KInv R w0 W' k b v room last lost l vi S :=
  ⟨h.st.on bb, own_on h.row bb, h.len, h.eq, h.la, h.lo⟩
/-- The list of what is in it lies apart from the bag. -/
theorem KInv.row_kept {R : Nat → Bo} {w0 W W' : World} {k b : Nat} {v : Value} {room last lost : Nat} {l : List Pk} {vi : Value} {S : List (Int × Nat)} (h : KInv R w0 W k b v room last lost l vi S) (kk : Keeps (BgS b v) W W') : W'.ownsRow w0.heap.size 57 2 vi l.length (rowC stV S) :=
  ownsRow_keep h.row kk (fun j hj hs => by
    rcases hs with rfl | hs
    · exact own_typed h.row h.st.bag.bx (by decide) hj
    · exact own_apart h.row h.st.bag.row (by decide) hs hj)
/-- Nothing but the step's number. -/
theorem KInv.next {R : Nat → Bo} {w0 W : World} {k b : Nat} {v : Value} {room last lost : Nat} {l : List Pk} {vi : Value} {S : List (Int × Nat)} (h : KInv R w0 W k b v room last lost l vi S) : KInv R w0 W (k + 1) b v room last lost l vi S :=
  ⟨h.st, h.row, h.len, fun j p s h1 h2 => by obtain ⟨a, c, d⟩ := h.eq j p s h1 h2; exact ⟨a, by omega, d⟩, by have := h.la; omega, by have := h.lo; omega⟩
/-- One more was lost, by Send or Double. -/
theorem KInv.lose {R : Nat → Bo} {w0 W W' : World} {k b : Nat} {v : Value} {room last lost : Nat} {l : List Pk} {vi : Value} {S : List (Int × Nat)} (h : KInv R w0 W k b v room last lost l vi S) (kk : Keeps (BgS b v) W W') (hb : BagAt W' w0.heap.size b v room last (lost + 1) l) : KInv R w0 W' (k + 1) b v room last (lost + 1) l vi S :=
  ⟨h.st.turn kk hb, h.row_kept kk, h.len, h.next.eq, h.next.la, by have := h.lo; omega⟩
/-- One more is in the bag, and on the list. -/
theorem KInv.more {R : Nat → Bo} {w0 W W' W2 : World} {k b : Nat} {v v' : Value} {room last lost : Nat} {l : List Pk} {vi vi' : Value} {S : List (Int × Nat)} (h : KInv R w0 W k b v room last lost l vi S) {p : Pk} {o : Nat} (ho : o < k + 1) (hp : Pk.pl p = ⟨(last : Int) + 1, (R o).frm, (R o).dst, (R o).L⟩) (kk : Keeps (BgS b v) W W') (hb : BagAt W' w0.heap.size b v' room (last + 1) lost (l ++ [p])) (hb2 : BSt w0 W2 b v' room (last + 1) lost (l ++ [p])) (hr : W2.ownsRow w0.heap.size 57 2 vi' (l.length + 1) (rowC stV (S ++ [((last : Int) + 1, o)]))) : KInv R w0 W2 (k + 1) b v' room (last + 1) lost (l ++ [p]) vi' (S ++ [((last : Int) + 1, o)]) := by
  refine ⟨hb2, by rw [List.length_append, List.length_singleton]; exact hr, by rw [List.length_append, List.length_append, h.len]; rfl, fun j p' s h1 h2 => ?_, by have := h.la; omega, by have := h.lo; omega⟩
  by_cases hj : j < l.length
  · rw [List.getElem?_append_left hj] at h1
    rw [List.getElem?_append_left (by rw [h.len]; exact hj)] at h2
    exact h.next.eq j p' s h1 h2
  · have hj2 : j = l.length := by
      have h9 := (List.getElem?_eq_some_iff.1 h1).1
      rw [List.length_append, List.length_singleton] at h9
      omega
    subst hj2
    rw [List.getElem?_append_right (Nat.le_refl _), Nat.sub_self] at h1
    rw [List.getElem?_append_right (by rw [h.len]; exact Nat.le_refl _), h.len, Nat.sub_self] at h2
    simp at h1 h2
    subst h1 h2
    obtain ⟨e1, e2, e3, e4⟩ := pk_ext hp
    exact ⟨e1, ho, e2, e3, e4⟩
theorem eras_at {α : Type} {l : List α} {i j : Nat} {p : α} (hi : i < l.length) (h : (l.take i ++ l.drop (i + 1))[j]? = some p) : ∃ j', l[j']? = some p ∧ j' = if j < i then j else j + 1 := by
  by_cases hj : j < i
  · rw [List.getElem?_append_left (by rw [List.length_take]; omega), List.getElem?_take_of_lt hj] at h
    exact ⟨j, h, by rw [if_pos hj]⟩
  · rw [List.getElem?_append_right (by rw [List.length_take]; omega), List.getElem?_drop, List.length_take, Nat.min_eq_left (by omega)] at h
    exact ⟨i + 1 + (j - i), h, by rw [if_neg hj]; omega⟩
/-- One fewer is in the bag, and on the list. -/
theorem KInv.less {R : Nat → Bo} {w0 W W2 : World} {k b : Nat} {v v' : Value} {room last lost lost' : Nat} {l : List Pk} {vi vi' : Value} {S : List (Int × Nat)} (h : KInv R w0 W k b v room last lost l vi S) {i n : Nat} (hi : i < l.length) (hl : lost' ≤ lost + 1) (hb2 : BSt w0 W2 b v' room last lost' (l.take i ++ l.drop (i + 1))) (hn : n = (l.take i ++ l.drop (i + 1)).length) (hr : W2.ownsRow w0.heap.size 57 2 vi' n (rowC stV (S.take i ++ S.drop (i + 1)))) : KInv R w0 W2 (k + 1) b v' room last lost' (l.take i ++ l.drop (i + 1)) vi' (S.take i ++ S.drop (i + 1)) := by
  subst hn
  refine ⟨hb2, hr, ?_, fun j p s h1 h2 => ?_, by have := h.la; omega, by have := h.lo; omega⟩
  · rw [List.length_append, List.length_append, List.length_take, List.length_take, List.length_drop, List.length_drop, h.len]
  · obtain ⟨j1, e1, e2⟩ := eras_at hi h1
    obtain ⟨j2, e3, e4⟩ := eras_at (by rw [h.len]; exact hi) h2
    rw [← e2] at e4
    subst e4
    exact h.next.eq _ p s e1 e3
/-- A bag's call, and a store into a packet that lies apart. -/
theorem KInv.part {R : Nat → Bo} {w0 X Y Z : World} {k b : Nat} {v v' : Value} {room last lost lost' : Nat} {l l' : List Pk} {vi : Value} {S : List (Int × Nat)} (h : KInv R w0 X k b v room last lost l vi S) (kk : Keeps (BgS b v) X Y) (hb : BagAt Y w0.heap.size b v' room last lost' l') (hx : ∀ j, v'.ownBlock = some j → X.heap.size ≤ j ∨ v.ownBlock = some j) {q : Nat} {cs : Array Value} (hq : X.heap[q]? = some (.cells cs 39 (0, 0))) (hq1 : w0.heap.size ≤ q) (hq2 : ∀ j, v.ownBlock = some j → j < q) (kz : Keeps (fun x => x = q) Y Z) :
    BSt w0 Z b v' room last lost' l' ∧ Z.ownsRow w0.heap.size 57 2 vi l.length (rowC stV S) := by
  have hnb : ¬ BgS b v q := fun hs => by
    rcases hs with e | hs
    · have h2 := h.st.bag.bx
      rw [← e, hq] at h2
      simp at h2
    · have := hq2 _ hs; omega
  have hq3 := blk_keep hq kk hnb
  have bt := h.st.turn kk hb
  refine ⟨⟨hb.keep kz (fun e => ?_) (fun j hj e => ?_) (fun p hp j hj e => ?_), bt.bel.trans (kz.below bt.bel.size (fun x hx e => by omega))⟩, ownsRow_keep (h.row_kept kk) kz (fun j hj e => ?_)⟩
  · have h2 := hb.bx
    rw [e, hq3] at h2
    simp at h2
  · subst e
    rcases hx j hj with h1 | h1
    · have := lt_of_blk hq; omega
    · have := hq2 _ h1; omega
  · subst e
    exact own_typed (hb.dat p hp).1 hq3 (by decide) hj
  · subst e
    exact own_typed (h.row_kept kk) hq3 (by decide) hj
/-- A packet's data stays so too. -/
theorem Dat.part {X Y Z : World} {B b room last lost C : Nat} {v : Value} {l : List Pk} {p : Pk} (hp : Dat C Y p) (h : BagAt X B b v room last lost l) (kk : Keeps (BgS b v) X Y) {q : Nat} {cs : Array Value} (hq : X.heap[q]? = some (.cells cs 39 (0, 0))) (hq2 : ∀ j, v.ownBlock = some j → j < q) (kz : Keeps (fun x => x = q) Y Z) : Dat C Z p := by
  have hnb : ¬ BgS b v q := fun hs => by
    rcases hs with e | hs
    · have h2 := h.bx
      rw [← e, hq] at h2
      simp at h2
    · have := hq2 _ hs; omega
  exact hp.keep kz (fun j hj e => by subst e; exact own_typed hp.1 (blk_keep hq kk hnb) (by decide) hj)
theorem setFour_keeps (Y : World) (q : Nat) (u0 u1 u2 u3 : Value) : Keeps (fun x => x = q) Y ((((Y.setCell ⟨q, 0, none⟩ u0).setCell ⟨q, 1, none⟩ u1).setCell ⟨q, 2, none⟩ u2).setCell ⟨q, 3, none⟩ u3) :=
  ((((Keeps.refl (fun x => x = q) Y).setCell (p := ⟨q, 0, none⟩) (fun _ => rfl) _).setCell (p := ⟨q, 1, none⟩) (fun _ => rfl) _).setCell (p := ⟨q, 2, none⟩) (fun _ => rfl) _).setCell (p := ⟨q, 3, none⟩) (fun _ => rfl) _
/-- The state behind a store into a packet that lies apart. -/
theorem KInv.store {R : Nat → Bo} {w0 Y Z : World} {k b : Nat} {v : Value} {room last lost : Nat} {l : List Pk} {vi : Value} {S : List (Int × Nat)} (h : KInv R w0 Y k b v room last lost l vi S) {q : Nat} {cs : Array Value} (hq : Y.heap[q]? = some (.cells cs 39 (0, 0))) (hq1 : w0.heap.size ≤ q) (hq2 : ∀ j, v.ownBlock = some j → j < q) (kz : Keeps (fun x => x = q) Y Z) : KInv R w0 Z k b v room last lost l vi S := by
  obtain ⟨h1, h2⟩ := h.part (Keeps.refl _ _) h.st.bag (fun j hj => .inr hj) hq hq1 hq2 kz
  exact ⟨h1, h2, h.len, h.eq, h.la, h.lo⟩
end Go.Proofs.Yteaaamhojiognaa
