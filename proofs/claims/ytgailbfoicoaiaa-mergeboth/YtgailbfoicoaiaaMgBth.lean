/-
  Pairs of any two lists; a list cloned; Both, the code's.
-/
import Derived.Test.YtgailbfoicoaiaaMgTxt
import Derived.Test.YtgailbfoicoaiaaMgStp
namespace Go.Proofs.Ytgailbfoicoaiaa
open Go.RowKit Go.Shelf
set_option linter.unusedVariables false

set_option maxHeartbeats 1600000 in
theorem pairsL {a b : Option Addr} {la ca lb cb : Nat} {Ma Mb : List En} {w : World} (ha : Lst w a la ca Ma) (hb : Lst w b lb cb Mb) (hl : la + lb ≤ 2147483648) {q : Int} (hq : ck2L Ma Mb = q) :
    Calls Try.prog 19 #[.slice a la ca, .slice b lb cb] w fun e w' => ∃ g n cp, e = .returned (.slice (some ⟨g, 0, none⟩) n cp) ∧ w'.ownsRow w.heap.size 50 10 (.slice (some ⟨g, 0, none⟩) n cp) n (prCells (outL q (prs Ma Mb))) ∧ Below w.heap.size w w' := by
  obtain ⟨A, eA, rA⟩ := ha
  obtain ⟨B, eB, rB⟩ := hb
  by_cases h0 : q = 0
  · refine (pairs_ok a la ca A b lb cb B w eA eB (by rw [ck2_of rA rB, hq, h0]) hl).mono ?_
    rintro e w' ⟨g, cp, rfl, h1, h2⟩
    rw [rA, rB] at h1 ⊢
    rw [outL_ok _ h0]
    exact ⟨g, _, cp, rfl, h1, h2⟩
  · have h0' : (q == 0) = false := by simpa using h0
    have bE := bnew w (.cells #[] 50)
    have CK := aside (rchk2_any a la ca A b lb cb B _ (eA.keep bE) (eB.keep bE))
    rw [ck2_of rA rB, hq] at CK
    have OE := aside (own_emptyPr w w.heap.size (Nat.le_refl _))
    have BE := aside bE
    rw [outL_bad _ h0]
    clear bE h0 eA eB rA rB hq hl
    go_enter Try.func19, Try.ntmps19
    go_wp2_with fail
    refine CK.out.mono ?_
    rintro e w1 ⟨rfl, b1⟩
    have O1 := aside (own_on OE.out b1)
    have B1 := aside (bthen BE.out b1)
    clear b1 CK OE BE
    go_wp2
    go_ret
    exact ⟨_, _, _, rfl, O1.out, B1.out⟩

set_option maxHeartbeats 1600000 in
theorem cloneL {y : Addr} {n c : Nat} {l : List En} {w : World} (h : Lst w (some y) n c l) (hn : n ≤ 2147483648) :
    Calls Try.prog 38 #[.slice (some y) n c] w fun e w' => ∃ a c', e = .returned (.slice a n c') ∧ w'.ownsRow w.heap.size 29 5 (.slice a n c') n (entCells l) ∧ Below w.heap.size w w' := by
  have HL := aside h
  have BE := aside (bnew w (.cells #[] 29))
  have OE := aside (own_emptyE w w.heap.size (Nat.le_refl _))
  have hnil : ∀ w, (binOp .eql 22 (.slice (some y) n c) (.slice none 0 0)).run Try.prog w = .ok (.bool false) w := fun w => by kernel_rfl
  clear h
  go_enter Try.func38, Try.ntmps38
  go_wp2_with (at_builtin; go_loud (refine wpList_plain rfl fun K hK => op_append_ents _ _ rfl w.heap.size 0 _ [] (by rfl) OE.out (some y) n c n l (by rfl) (HL.out.keep BE.out) (.inr ⟨y, rfl⟩) (by omega) (by omega) (by simp) ?_); intro a3 c3 w3 own3 gr3; refine hK _ _ ?_; refine Hid.out ?_)
  refine aside ?_
  have B3 := aside (BE.out.grown gr3 (by simp) (fun k e => (OE.out.lt k e).1))
  have O3 := aside (show w3.ownsRow w.heap.size 29 5 (.slice a3 n c3) n (entCells l) from own3)
  clear own3 gr3 OE BE
  go_wp2
  go_ret
  exact ⟨_, _, rfl, O3.out, B3.out⟩

/-- What Both hands out: the iterator over two maps of its own, with the pairs l. -/
def BothSays (w : World) (l : List (En × En)) (e : Ending) (w' : World) : Prop := ∃ (Ba : Nat) (a : Option Addr) (la ca : Nat) (A : Nat → En) (b : Option Addr) (lb cb : Nat) (B : Nat → En), e = .returned (.func (.func 46) #[] #[.pointer (some ⟨Ba, 0, none⟩), .pointer (some ⟨Ba + 1, 0, none⟩)]) ∧
  SD Ba (Ba + 1) a la ca A b lb cb B w' ∧ w.heap.size ≤ Ba ∧ (∀ y, a = some y → w.heap.size ≤ y.block) ∧ (∀ y, b = some y → w.heap.size ≤ y.block) ∧ prs (firstE A la) (firstE B lb) = l ∧ Below w.heap.size w w'
theorem row_at {w : World} {B n c : Nat} {a : Option Addr} {xs : List Value} (h : w.ownsRow B 29 5 (.slice a n c) n xs) : ∀ y, a = some y → B ≤ y.block := by
  intro y hy
  obtain ⟨_, _, e1, -, -, hf⟩ := own_slice h
  injection e1 with e1 _ e3
  subst e1 e3
  rcases hf with ⟨h0, -⟩ | ⟨g, h0, hg⟩
  · rw [h0] at hy; cases hy
  · rw [h0] at hy; injection hy with hy; subst hy; exact hg

set_option maxHeartbeats 3200000 in
theorem bothL {ya yb : Addr} {la ca lb cb : Nat} {Ma Mb : List En} {w : World} (ha : Lst w (some ya) la ca Ma) (hb : Lst w (some yb) lb cb Mb) (hl : la + lb ≤ 2147483648) {q : Int} (hq : ck2L Ma Mb = q) :
    Calls Try.prog 20 #[.slice (some ya) la ca, .slice (some yb) lb cb] w fun e w' => BothSays w (outL q (prs Ma Mb)) e w' := by
  have La := aside ha
  have Lb := aside hb
  have KA := aside ha.keys
  have KB := aside hb.keys
  have HL := aside hl
  have CK := aside (show Calls Try.prog 31 #[.slice (some ya) la ca, .slice (some yb) lb cb] w fun e w' => e = .returned (.int .i64 q) ∧ Below w.heap.size w w' from by
    obtain ⟨A, eA, rA⟩ := ha
    obtain ⟨B, eB, rB⟩ := hb
    have h := mchk2_any (some ya) la ca A (some yb) lb cb B w eA eB
    rw [ck2_of rA rB, hq] at h
    exact h)
  clear ha hb hl hq
  by_cases h0 : q = 0
  · subst h0
    rw [outL_ok _ rfl]
    go_enter Try.func20, Try.ntmps20
    go_wp2_with fail
    refine CK.out.mono ?_
    rintro e w1 ⟨rfl, b1⟩
    have B1 := aside b1
    clear b1 CK
    go_wp2_with fail
    refine (cloneL (La.out.keep B1.out) (by have := HL.out; omega)).mono ?_
    rintro e w2 ⟨a2, c2, rfl, o2, b2⟩
    have B2 := aside (bthen B1.out b2)
    have O2 := aside (own_low o2 B1.out.size)
    clear o2 b2
    go_wp2_with fail
    refine (cloneL (Lb.out.keep B2.out) (by have := HL.out; omega)).mono ?_
    rintro e w3 ⟨a3, c3, rfl, o3, b3⟩
    have B3 := aside (bthen B2.out b3)
    have O3 := aside (own_low o3 B2.out.size)
    replace O2 := aside (own_on O2.out b3)
    clear o3 b3
    go_wp2_with fail
    refine (side_any _ _ _ _ _ _ _).mono ?_
    rintro e w4 ⟨rfl, rfl⟩
    obtain ⟨A, eA, rA⟩ := Lst.row O2.out KA.out
    obtain ⟨B, eB, rB⟩ := Lst.row O3.out KB.out
    have S4 := aside (side_sd eA eB)
    have RA := aside rA
    have RB := aside rB
    have B4 := aside (bthen (bthen B3.out (bnew w3 (.cells #[.slice a2 la c2] 22))) (bnew _ (.cells #[.slice a3 lb c3] 22)))
    clear eA eB rA rB
    go_wp2
    go_ret
    exact ⟨w3.heap.size, a2, la, c2, A, a3, lb, c3, B, rfl, S4.out, B3.out.size, row_at O2.out, row_at O3.out, by rw [RA.out, RB.out], B4.out⟩
  · have h0' : (q == 0) = false := by simpa using h0
    rw [outL_bad _ h0]
    clear h0
    go_enter Try.func20, Try.ntmps20
    go_wp2_with fail
    refine CK.out.mono ?_
    rintro e w1 ⟨rfl, b1⟩
    have B1 := aside b1
    clear b1 CK
    go_wp2_with fail
    refine (side_any _ _ _ _ _ _ _).mono ?_
    rintro e w4 ⟨rfl, rfl⟩
    have E0 := aside (show EntsIn w1 none 0 0 (fun _ => eZ) from ⟨Nat.le_refl _, Nat.zero_le _, .inl rfl⟩)
    have S4 := aside (side_sd E0.out E0.out)
    have B4 := aside (bthen (bthen B1.out (bnew w1 (.cells #[.slice none 0 0] 22))) (bnew _ (.cells #[.slice none 0 0] 22)))
    go_wp2
    go_ret
    exact ⟨w1.heap.size, none, 0, 0, fun _ => eZ, none, 0, 0, fun _ => eZ, rfl, S4.out, B1.out.size, (fun _ h => by cases h), (fun _ h => by cases h), prs_nil, B4.out⟩

theorem EntsIn.kept {S : Nat → Prop} {w w' : World} {a : Option Addr} {n c : Nat} {T : Nat → En} (h : EntsIn w a n c T) (k : Keeps S w w') (hs : ∀ y, a = some y → ¬ S y.block) : EntsIn w' a n c T := by
  obtain ⟨h1, h2, h3⟩ := h
  refine ⟨h1, h2, ?_⟩
  rcases h3 with h3 | ⟨bb, off, rfl, hb, hc⟩
  · exact .inl h3
  · refine .inr ⟨bb, off, rfl, by have := k.size; omega, fun i hi => ?_⟩
    have hn : ¬ S bb := hs _ rfl
    have cc : ∀ j, w'.cell? ⟨bb, j, none⟩ = w.cell? ⟨bb, j, none⟩ := fun j => k.cell (p := ⟨bb, j, none⟩) hb hn
    obtain ⟨⟨c0, c1, c2, c3, c4⟩, hk⟩ := hc i hi
    refine ⟨⟨?_, ?_, ?_, ?_, ?_⟩, hk⟩
    · exact (cc _).trans c0
    · exact (cc _).trans c1
    · exact (cc _).trans c2
    · exact (cc _).trans c3
    · exact (cc _).trans c4
theorem SD.kept {S : Nat → Prop} {Ba Bb : Nat} {a : Option Addr} {la ca : Nat} {A : Nat → En} {b : Option Addr} {lb cb : Nat} {B : Nat → En} {w w' : World} (h : SD Ba Bb a la ca A b lb cb B w) (k : Keeps S w w') (h1 : ¬ S Ba) (h2 : ¬ S Bb) (h3 : ∀ y, a = some y → ¬ S y.block) (h4 : ∀ y, b = some y → ¬ S y.block) : SD Ba Bb a la ca A b lb cb B w' :=
  ⟨(k.block _ (Array.getElem?_eq_some_iff.1 h.xa).1 h1).trans h.xa, (k.block _ (Array.getElem?_eq_some_iff.1 h.xb).1 h2).trans h.xb, h.ea.kept k h3, h.eb.kept k h4⟩
theorem Cpy.row {w : World} {B g n : Nat} {l : List En} (h : Cpy w B g n l) : w.ownsRow B 29 5 (.slice (some ⟨g, 0, none⟩) n (n + 2)) n (entCells l) := by
  have h1 := own_shrink (own_shrink h.1)
  have e : ((l ++ [eSp, eSp]).take (n + 1)).take n = l := by rw [List.take_take, Nat.min_eq_left (by omega), List.take_left' h.2]
  rw [e] at h1
  exact h1
theorem own_is {g n c k : Nat} (h : (Value.slice (some ⟨g, 0, none⟩) n c).ownBlock = some k) : g = k := by
  have h2 : some g = some k := h
  injection h2
theorem func_nilB (fn : Fn) (first cap : Array Value) (w : World) : (binOp .eql 46 (.func fn first cap) .nilFunc).run Try.prog w = .ok (.bool false) w := by kernel_rfl
/-- What the law's loop keeps: how often it has gone, what was there, the marks of the loops over the iterator. -/
structure LpB (V : World) (Ds : List Nat) (tb : Nat) (X : World) : Prop where
  bel : Below V.heap.size V X
  box : X.heap[tb]? = some (.cells #[.int .i64 (Ds.length : Int)] 3 (0, 0))
  nd : Ds.Nodup
  def_ : ∀ D ∈ Ds, V.heap.size ≤ D ∧ X.heap[D]? = some (.deferred (some []))
theorem LpB.start (V : World) : LpB V [] V.heap.size (V.alloc (.cells #[.int .i64 0] 3)) :=
  ⟨bnew _ _, heap_alloc_new V _, List.nodup_nil, by simp⟩
theorem LpB.two {V : World} {D2 D1 tb : Nat} {X : World} (h : LpB V [D2, D1] tb X) : X.heap[D2]? = some (.deferred (some [])) ∧ X.heap[D1]? = some (.deferred (some [])) ∧ D1 ≠ D2 ∧ V.heap.size ≤ D2 ∧ V.heap.size ≤ D1 := by
  have h1 := h.def_ D2 (by simp)
  have h2 := h.def_ D1 (by simp)
  have h3 := h.nd
  simp at h3
  exact ⟨h1.2, h2.2, fun e => h3 e.symm, h1.1, h2.1⟩
/-- The next round's box. -/
theorem LpB.next {V V1 X : World} {Ds : List Nat} {tb D : Nat} (h : LpB V Ds tb V1) {tm : Nat} (htm : Ds.length = tm) (b : Below V1.heap.size V1 X) (hD : V1.heap.size ≤ D) (hK : X.heap[D]? = some (.deferred (some []))) :
    LpB V (D :: Ds) X.heap.size (X.alloc (.cells #[.int .i64 ((tm : Int) + 1)] 3)) := by
  subst htm
  have bn := bnew X (.cells #[.int .i64 ((Ds.length : Int) + 1)] 3)
  have vs := h.bel.size
  refine ⟨h.bel.trans ((bthen b bn).mono vs), ?_, ?_, ?_⟩
  · rw [heap_alloc_new X _, List.length_cons]; push_cast; rfl
  · rw [List.nodup_cons]
    refine ⟨fun hm => ?_, h.nd⟩
    have := (Array.getElem?_eq_some_iff.1 (h.def_ D hm).2).1
    omega
  · intro d hd
    rcases List.mem_cons.1 hd with rfl | hd
    · exact ⟨by omega, blk_on hK bn⟩
    · exact ⟨(h.def_ d hd).1, blk_on (blk_on (h.def_ d hd).2 b) bn⟩
theorem pre_next {pre l : List (En × En)} {k : Nat} {p : En × En} (h : ∃ r, pre ++ r = l) (hk : pre.length = k) (hp : l[k]? = some p) : ∃ r, (pre ++ [p]) ++ r = l := by
  obtain ⟨r, rfl⟩ := h
  rw [List.getElem?_append_right (by omega), hk, Nat.sub_self] at hp
  match r, hp with
  | p' :: t, hp =>
    simp at hp
    subst hp
    exact ⟨t, by simp⟩
theorem pre_wrong {pre l : List (En × En)} {k : Nat} {p p' : En × En} (hk : pre.length = k) (hp : l[k]? = some p) (hne : p' ≠ p) : ¬ ∃ r, (pre ++ [p']) ++ r = l := by
  rintro ⟨r, rfl⟩
  rw [List.append_assoc, List.getElem?_append_right (by omega), hk, Nat.sub_self] at hp
  simp at hp
  exact hne hp
theorem blk_kept {S : Nat → Prop} {w w' : World} {k : Nat} {o : Obj} (h : w.heap[k]? = some o) (kp : Keeps S w w') (hn : ¬ S k) : w'.heap[k]? = some o := (kp.block k (Array.getElem?_eq_some_iff.1 h).1 hn).trans h

end Go.Proofs.Ytgailbfoicoaiaa
