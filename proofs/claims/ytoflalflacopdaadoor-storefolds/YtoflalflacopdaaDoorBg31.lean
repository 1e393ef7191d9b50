/-
  The parts of a split: what each holds and comes to, and that they tile, plain.
  Split where it refuses; even parts; the marks that loops over iterators leave, shut one behind the other.
  What entries come to: the code's All.
  The examples at the head of the statements on stores: they hold.
  The state of the walk of StoreFolds.
  Frames of StoreFolds by single slots.
-/
import Derived.Test.YtoflalflacopdaaDoorBg29
import Derived.Test.YtoflalflacopdaaDoorBg30
import Derived.Test.YtoflalflacopdaaDoorBg21
import Derived.Test.YtoflalflacopdaaDoorBg20
import Derived.Test.YtoflalflacopdaaDoorBg23
import Derived.Test.YtoflalflacopdaaDoorBg26
import Derived.Test.YtoflalflacopdaaDoorBg3
namespace Go.Proofs.YtoflalflacopdaaDoor
open Go.RowKit
set_option linter.unusedVariables false
theorem filter_seg {α : Type} (p : α → Bool) : ∀ (F : List α) (a b : Nat), (∀ i e, F[i]? = some e → p e = (decide (a ≤ i) && decide (i < b))) → F.filter p = (F.drop a).take (b - a)
  | [], a, b, _ => by simp
  | x :: F, 0, 0, h => by
    have h0 := h 0 x rfl
    have ih := filter_seg p F 0 0 (fun i e he => by have := h (i + 1) e (by simpa using he); rw [this]; simp)
    rw [List.filter_cons, if_neg (by rw [h0]; simp), ih]
    simp
  | x :: F, 0, b + 1, h => by
    have h0 := h 0 x rfl
    have ih := filter_seg p F 0 b (fun i e he => by have := h (i + 1) e (by simpa using he); rw [this]; simp)
    rw [List.filter_cons, if_pos (by rw [h0]; simp), ih]
    simp
  | x :: F, a + 1, 0, h => by
    have h0 := h 0 x rfl
    have ih := filter_seg p F a 0 (fun i e he => by have := h (i + 1) e (by simpa using he); rw [this]; simp)
    rw [List.filter_cons, if_neg (by rw [h0]; simp), ih]
    simp
  | x :: F, a + 1, b + 1, h => by
    have h0 := h 0 x rfl
    have ih := filter_seg p F a b (fun i e he => by have := h (i + 1) e (by simpa using he); rw [this]; simp)
    rw [List.filter_cons, if_neg (by rw [h0]; simp), ih]
    simp
theorem cnt_ge {T : Nat → Rg} {k : ByteArray} {j : Nat} (hj : (T j).has k = true) : ∀ n, j < n → 1 ≤ cnt T k n
  | 0, h => by omega
  | n + 1, h => by
    show 1 ≤ cnt T k n + ((T n).has k).toNat
    by_cases e : j = n
    · subst e; rw [hj]; simp
    · have := cnt_ge hj n (by omega); omega
theorem cut_tiles {r : Rg} {Ls : List En} (hm : MapL Ls) (hc : r.chk = 0) {q : Nat} (hq : q + 1 ≤ (keysIn r Ls).length) : tiles (cutR r Ls q) (q + 1) r = true :=
  piece_tiles (pieces_up (keysIn_up (r := r) hm) (keysIn_has hm hc) hq)
theorem cut_has {r : Rg} {Ls : List En} (hm : MapL Ls) (hc : r.chk = 0) {q : Nat} (hq : q + 1 ≤ (keysIn r Ls).length) {j : Nat} (hj : j < q + 1) {k : ByteArray} (h : (cutR r Ls q j).has k = true) : r.has k = true := by
  have h1 := cnt_chain (chain_of (cut_tiles hm hc hq)) (may_of_chk hc) k
  have h2 := cnt_ge (T := cutR r Ls q) h (q + 1) hj
  cases hr : r.has k
  · rw [hr] at h1; simp at h1; omega
  · rfl
theorem keysIn_map {r : Rg} {Ls : List En} (hm : MapL Ls) (hc : r.chk = 0) : keysIn r Ls = (inL r Ls).map (fun e => e.k) := by
  unfold keysIn
  rw [thru_inL (lo := r.lo) (hi := r.hi) (op := r.op) hc hm]
/-- Where part number j begins among what is held. -/
def atS (r : Rg) (Ls : List En) (q j : Nat) : Nat := stt (keysIn r Ls).length (q + 1) j
theorem cut_in {r : Rg} {Ls : List En} (hm : MapL Ls) (hc : r.chk = 0) {q : Nat} (hq : q + 1 ≤ (keysIn r Ls).length) {j : Nat} (hj : j < q + 1) : inL (cutR r Ls q j) Ls = ((inL r Ls).drop (atS r Ls q j)).take (atS r Ls q (j + 1) - atS r Ls q j) := by
  have h1 : inL (cutR r Ls q j) Ls = (inL r Ls).filter (fun e => (cutR r Ls q j).has e.k) := by
    unfold inL
    rw [List.filter_filter]
    apply List.filter_congr
    intro e _
    cases hx : (cutR r Ls q j).has e.k
    · simp
    · rw [cut_has hm hc hq hj hx]; simp
  rw [h1]
  apply filter_seg
  intro i e he
  have hkm := keysIn_map hm hc
  have hi : i < (keysIn r Ls).length := by rw [hkm, List.length_map]; exact (List.getElem?_eq_some_iff.1 he).1
  have hk : nthS (keysIn r Ls) i = e.k := by
    have := nthS_get hi
    rw [hkm, List.getElem?_map, he] at this
    rw [hkm]
    simpa using this.symm
  rw [← hk]
  exact piece_has (keysIn_up (r := r) hm) (keysIn_has hm hc) hq hi hj
theorem cut_fold {r : Rg} {Ls : List En} (hm : MapL Ls) (hc : r.chk = 0) {q : Nat} (hq : q + 1 ≤ (keysIn r Ls).length) {j : Nat} (hj : j < q + 1) : foldV (cutR r Ls q j).lo (cutR r Ls q j).hi (cutR r Ls q j).op Ls = talL (((inL r Ls).drop (atS r Ls q j)).take (atS r Ls q (j + 1) - atS r Ls q j)) := by
  have h1 := cut_ok hm hc hq hj
  have h2 : (cutR r Ls q j).chk = 0 := by
    unfold prErr at h1
    by_cases h : (cutR r Ls q j).chk = 0
    · exact h
    · rw [if_pos h] at h1; exact h1
  rw [fold_out hm, show Rg.chk ⟨(cutR r Ls q j).lo, (cutR r Ls q j).hi, (cutR r Ls q j).op⟩ = 0 from h2, outL_ok _ rfl]
  exact congrArg talL (cut_in hm hc hq hj)
theorem atS_zero (r : Rg) (Ls : List En) (q : Nat) : atS r Ls q 0 = 0 := stt_zero _ _
theorem atS_end (r : Rg) (Ls : List En) (q : Nat) : atS r Ls q (q + 1) = (keysIn r Ls).length := stt_end _ (by omega)
theorem atS_up {r : Rg} {Ls : List En} {q : Nat} (hq : q + 1 ≤ (keysIn r Ls).length) (j : Nat) : atS r Ls q j < atS r Ls q (j + 1) := stt_up (by omega) hq (by omega)
theorem atS_le {r : Rg} {Ls : List En} {q j : Nat} (hj : j ≤ q + 1) : atS r Ls q j ≤ (keysIn r Ls).length := stt_le (by omega) hj
/-- What the first j parts come to. -/
def sumQ (r : Rg) (Ls : List En) (q j : Nat) : Tl := talL ((inL r Ls).take (atS r Ls q j))
theorem sumQ_zero (r : Rg) (Ls : List En) (q : Nat) : sumQ r Ls q 0 = tZero := by unfold sumQ; rw [atS_zero]; simp [talL]
theorem sumQ_step {r : Rg} {Ls : List En} (hm : MapL Ls) (hc : r.chk = 0) {q : Nat} (hq : q + 1 ≤ (keysIn r Ls).length) {j : Nat} (hj : j < q + 1) : tJoin (sumQ r Ls q j) (foldV (cutR r Ls q j).lo (cutR r Ls q j).hi (cutR r Ls q j).op Ls) = sumQ r Ls q (j + 1) := by
  rw [cut_fold hm hc hq hj]
  unfold sumQ
  rw [← talL_append]
  congr 1
  have h := atS_up (r := r) (Ls := Ls) hq j
  generalize atS r Ls q j = a at *
  generalize atS r Ls q (j + 1) = b at *
  obtain ⟨d, rfl⟩ : ∃ d, b = a + d := ⟨b - a, by omega⟩
  rw [List.take_add, show a + d - a = d from by omega]
theorem sumQ_end {r : Rg} {Ls : List En} (hm : MapL Ls) (hc : r.chk = 0) (q : Nat) : sumQ r Ls q (q + 1) = foldV r.lo r.hi r.op Ls := by
  rw [fold_out hm, show Rg.chk ⟨r.lo, r.hi, r.op⟩ = 0 from hc, outL_ok _ rfl]
  unfold sumQ
  rw [atS_end, keysIn_map hm hc, List.length_map, List.take_length]
end Go.Proofs.YtoflalflacopdaaDoor
namespace Go.Proofs.YtoflalflacopdaaDoor
open Go.RowKit Go.Shelf
set_option linter.unusedVariables false
theorem qsplit_chk (r : Rg) (p : Int) {w : World} {sb g tb : Nat} {nd ck : Int} {Ls : List En} (h : Sto w sb g tb nd ck Ls) (hl : Ls.length ≤ 256) (hc : ¬ r.chk = 0) :
    Calls Tryd.prog 10 #[.pointer (some ⟨sb, 0, none⟩), .agg #[.string r.lo, .string r.hi, .bool r.op], .int .i64 p] w fun e w' => e = .returned (.tuple #[.slice none 0 0, .int .i64 r.chk]) ∧ Below w.heap.size w w' := by
  obtain ⟨T, n, h1, hH⟩ := h
  refine (ssplit r.lo r.hi r.op p h1 hH (by omega) (fun _ v c _ => v = .slice none 0 0 ∧ c = r.chk) (fun _ _ _ _ _ h _ _ => h) (fun W a m c _ hs _ => (ranges_chk r.lo r.hi r.op a m c _ p W hs r.chk rfl hc).mono ?_)).mono ?_
  · rintro e w' ⟨rfl, b⟩
    exact ⟨_, _, rfl, ⟨rfl, rfl⟩, b⟩
  · rintro e w' ⟨W, v, c, rfl, ⟨rfl, rfl⟩, -, b⟩
    exact ⟨rfl, b⟩
theorem qsplit_arg (r : Rg) (p : Int) {w : World} {sb g tb : Nat} {nd ck : Int} {Ls : List En} (h : Sto w sb g tb nd ck Ls) (hm : MapL Ls) (hl : Ls.length ≤ 256) (hc : r.chk = 0) (hb : ¬ (1 ≤ p ∧ p ≤ ((keysIn r Ls).length : Int))) :
    Calls Tryd.prog 10 #[.pointer (some ⟨sb, 0, none⟩), .agg #[.string r.lo, .string r.hi, .bool r.op], .int .i64 p] w fun e w' => e = .returned (.tuple #[.slice none 0 0, .int .i64 1]) ∧ Below w.heap.size w w' := by
  obtain ⟨T, n, h1, hH⟩ := h
  have hk := keysR_in (r := r) hH (chk_may hc)
  refine (ssplit r.lo r.hi r.op p h1 hH (by omega) (fun _ v c _ => v = .slice none 0 0 ∧ c = 1) (fun _ _ _ _ _ h _ _ => h) (fun W a m c _ hs hlen => ?_)).mono ?_
  · rw [hk] at hs hlen
    subst hlen
    refine (ranges_arg r.lo r.hi r.op a _ c _ p W hs hc (keys_keyE hm) (keys_allK hm hc) (fun h => hb ⟨h.2.2.1, h.2.2.2⟩)).mono ?_
    rintro e w' ⟨rfl, b⟩
    exact ⟨_, _, rfl, ⟨rfl, rfl⟩, b⟩
  · rintro e w' ⟨W, v, c, rfl, ⟨rfl, rfl⟩, -, b⟩
    exact ⟨rfl, b⟩
theorem cut_num {r : Rg} {Ls : List En} (hm : MapL Ls) (hl : Ls.length ≤ 256) (hc : r.chk = 0) {q : Nat} (hq : q + 1 ≤ (keysIn r Ls).length) {j : Nat} (hj : j < q + 1) : (foldV (cutR r Ls q j).lo (cutR r Ls q j).hi (cutR r Ls q j).op Ls).n = ((atS r Ls q (j + 1) - atS r Ls q j : Nat) : Int) := by
  rw [cut_fold hm hc hq hj]
  have hlen : (inL r Ls).length = (keysIn r Ls).length := by rw [keysIn_map hm hc, List.length_map]
  have h1 := atS_up (r := r) (Ls := Ls) hq j
  have h2 := atS_le (r := r) (Ls := Ls) (q := q) (j := j + 1) (by omega)
  have h3 := keysIn_le r Ls
  have h4 : (((inL r Ls).drop (atS r Ls q j)).take (atS r Ls q (j + 1) - atS r Ls q j)).length = atS r Ls q (j + 1) - atS r Ls q j := by
    rw [List.length_take, List.length_drop, hlen]
    omega
  rw [tal_n _ (by omega), h4]
theorem cut_even (r : Rg) (Ls : List En) (q j : Nat) : (keysIn r Ls).length / (q + 1) ≤ atS r Ls q (j + 1) - atS r Ls q j ∧ atS r Ls q (j + 1) - atS r Ls q j ≤ ((keysIn r Ls).length + q) / (q + 1) := by
  have h1 := stt_step (keysIn r Ls).length (p := q + 1) (by omega) j
  have h2 := stt_cdiv (keysIn r Ls).length (p := q + 1) (by omega) j
  unfold cdiv at h2
  rw [show (keysIn r Ls).length + (q + 1) - 1 = (keysIn r Ls).length + q from by omega] at h2
  unfold atS
  obtain ⟨d, hd⟩ : ∃ d, ((keysIn r Ls).length + q) / (q + 1) = d := ⟨_, rfl⟩
  obtain ⟨c, hc⟩ : ∃ c, (keysIn r Ls).length / (q + 1) = c := ⟨_, rfl⟩
  rw [hd] at h2 ⊢
  rw [hc] at h1 ⊢
  omega
/-- Marks of loops, shut one behind the other. -/
def shutAll : List Nat → World → World
  | [], X => X
  | D :: Ds, X => shutAll Ds (X.putObj D (.deferred none))
theorem shut_other {i : Nat} : ∀ (Ds : List Nat) (X : World), (∀ D ∈ Ds, D ≠ i) → (shutAll Ds X).heap[i]? = X.heap[i]?
  | [], X, _ => rfl
  | D :: Ds, X, h => by
    unfold shutAll
    rw [shut_other Ds _ (fun d hd => h d (List.mem_cons_of_mem _ hd))]
    exact World.putObj_heap_other (fun e => h D (by simp) e.symm)
theorem shut_keeps {S : Nat → Prop} {a : World} : ∀ (Ds : List Nat) (X : World), Keeps S a X → (∀ D ∈ Ds, a.heap.size ≤ D ∧ ∃ o : Obj, X.heap[D]? = some o ∧ o.isCells = false) → Keeps S a (shutAll Ds X)
  | [], X, h, _ => h
  | D :: Ds, X, h, hd => by
    unfold shutAll
    have h1 := hd D (by simp)
    have gr := grownBy_putObj' X D (.deferred none)
    refine shut_keeps Ds _ (h.grown gr (fun k e hk => by cases e; have := h1.1; omega)) (fun d hd' => ?_)
    have h2 := hd d (List.mem_cons_of_mem _ hd')
    refine ⟨h2.1, ?_⟩
    by_cases e : d = D
    · subst e
      obtain ⟨o, h3, _⟩ := h1.2
      exact ⟨_, World.putObj_heap_same (Array.getElem?_eq_some_iff.1 h3).1, rfl⟩
    · obtain ⟨o, h3, h4⟩ := h2.2
      exact ⟨o, (World.putObj_heap_other e).trans h3, h4⟩
theorem leaves_marks {F : Fence} {n : Nat} {P : Program} {fn : Func} {tmps : Array Value} {R : Ending → World → Prop} : ∀ (Ds : List Nat) (X : World), (∀ D ∈ Ds, X.heap[D]? = some (.deferred (some []))) → Ds.Nodup → LeavesInM F n P fn tmps R [] .returning (shutAll Ds X) → LeavesInM F n P fn tmps R (Ds.map (fun D => { target := .collected D, args := #[] })) .returning X
  | [], X, _, _, h => h
  | D :: Ds, X, hd, hn, h => by
    have hn' := List.nodup_cons.1 hn
    refine ⟨by simp, .inl ⟨D, X.putObj D (.deferred none), rfl, run_takeDeferred (hd D (by simp)), ?_⟩⟩
    exact leaves_marks Ds _ (fun d hd' => (World.putObj_heap_other (fun e => hn'.1 (by rw [← e]; exact hd'))).trans (hd d (List.mem_cons_of_mem _ hd'))) hn'.2 h
end Go.Proofs.YtoflalflacopdaaDoor
namespace Go.Proofs.YtoflalflacopdaaDoor
open Go.RowKit
set_option linter.unusedVariables false
set_option maxHeartbeats 3200000 in
set_option maxRecDepth 100000 in
theorem tall_any (a : Option Addr) (len cap : Nat) (T : Nat → En) (w : World) (L : Lanes w) (h : EntsIn w a len cap T) :
    Calls Tryd.prog 13 #[.slice a len cap] w fun e w' => e = .returned (talT T len) ∧ Below w.heap.size w w' := by
  have LL := aside L
  clear L
  have HE := aside h
  obtain ⟨hlc, hcm, -⟩ := h
  have hmx : (len : Int) ≤ 9223372036854775807 := by unfold maxLen at hcm; omega
  clear hlc hcm
  go_enter Tryd.func13, Tryd.ntmps13
  go_wp2
  go_loopw [8] (fun i wr => ∃ j : Nat, i = .int .i64 (j : Int) ∧ j ≤ len ∧ TAll w wr (j : Int) (allI f0 (firstE T j)) (allI f1 (firstE T j))) (fun i _ => len - (intOf i).toNat)
  case atStart =>
    refine ⟨0, rfl, Nat.zero_le _, ?_⟩
    rw [show firstE T 0 = [] from rfl, allI_nil, allI_nil]
    exact tall_start w
  case round =>
    obtain ⟨j, rfl, hj, S⟩ := hrel
    have HS := aside S
    by_cases hlt : (j : Int) < (len : Int)
    · have hE := HE.out.keep S.below
      rcases hE.2.2 with h0 | ⟨b, off, rfl, hb, hc⟩
      · omega
      · obtain ⟨⟨c0, c1, c2, c3, c4⟩, hkk⟩ := hc j (by omega)
        have e0 := allI_snoc f0 (firstE T j) (T j)
        have e1 := allI_snoc f1 (firstE T j) (T j)
        rw [← firstE_succ, f0] at e0
        rw [← firstE_succ, f1] at e1
        have E0 := aside e0
        have E1 := aside e1
        have hsz := S.sz
        obtain ⟨-, -, -, s1⟩ := S
        obtain ⟨p0, p1, p2, p3, p4, p5⟩ := tri s1
        generalize T j = t at *
        generalize allI f0 (firstE T j) = x0 at *
        generalize allI f1 (firstE T j) = x1 at *
        have hj0 : (0 : Int) ≤ (j : Int) := by omega
        have hjw : IntKind.i64.wrap ((j : Int) + 1) = (j : Int) + 1 := by rw [IntKind.wrap_i64]; omega
        obtain ⟨o0, ho0⟩ : ∃ o, of0 t.k t.c t.n = o := ⟨_, rfl⟩
        obtain ⟨o1, ho1⟩ : ∃ o, of1 t.k t.c t.n = o := ⟨_, rfl⟩
        rw [ho0] at E0
        rw [ho1] at E1
        obtain ⟨r0', hr0⟩ : ∃ o, IntKind.u64.wrap (x0 + o0) = o := ⟨_, rfl⟩
        obtain ⟨r1', hr1⟩ : ∃ o, IntKind.u64.wrap (x1 + o1) = o := ⟨_, rfl⟩
        rw [hr0] at E0
        rw [hr1] at E1
        have CO : Hid (∀ W, Below w.heap.size w W → Calls Tryd.prog 45 #[.agg #[.string t.k, .int .i64 t.c, .int .i64 t.n, .string t.v, .bool t.d]] W fun e w' => e = .returned (.agg #[.int .i64 1, .int .u64 o0, .int .u64 o1]) ∧ Below W.heap.size W w') := fun W bw => by
          rw [← ho0, ← ho1]
          exact tof_any _ _ _ _ _ W (LL.out.keep bw) hkk
        have CJ := aside (fun W => join_at hjw hr0 hr1 W)
        clear e0 e1 hc hE s1 ho0 ho1 hr0 hr1
        have HS4 := aside (HS.out.keep (bnew wr (.cells #[.string t.k, .int .i64 t.c, .int .i64 t.n, .string t.v, .bool t.d] 33)))
        have R5 := quint (heap_alloc_new wr (.cells #[.string t.k, .int .i64 t.c, .int .i64 t.n, .string t.v, .bool t.d] 33))
        have HR5 := aside R5
        clear R5
        go_wp2_with fail
        clear p0 p1 p2 p3 p4 p5 c0 c1 c2 c3 c4 hb hsz
        generalize wr.alloc (.cells #[.string t.k, .int .i64 t.c, .int .i64 t.n, .string t.v, .bool t.d] 33) = V at *
        generalize wr.heap.size = g at *
        obtain ⟨r0, r1, r2, r3, r4⟩ := HR5.out
        obtain ⟨-, -, -, s4⟩ := HS4.out
        obtain ⟨p0, p1, p2, p3, p4, p5⟩ := tri s4
        clear s4 HR5
        go_region_with (first | (go_at_call 45; refine (CO.out _ HS4.out.drew.below).mono ?_; rintro e w1 ⟨rfl, b1⟩; have S5 := HS4.out.drew.keep b1; have HS5 := aside S5; obtain ⟨-, -, -, s5⟩ := S5; obtain ⟨q0, q1, q2, q3, q4, q5⟩ := tri s5; clear s5 b1) | (go_at_call 14; refine (CJ.out _).mono ?_; rintro e w2 ⟨rfl, b2⟩; have S6 := HS5.out.keep b2; have HS6 := aside S6; obtain ⟨-, -, -, s6⟩ := S6; obtain ⟨y0, y1, y2, y3, y4, y5⟩ := tri s6; clear s6 b2))
        all_goals
          go_wp2
          go_roundw
          case rel =>
            refine ⟨j + 1, by go_num, by omega, ?_⟩
            rw [E0.out, E1.out]
            exact HS6.out.set _ _ _
          case measure => simp [intOf]; omega
    · have hjl : j = len := by omega
      subst hjl
      obtain ⟨-, hsz, s1, s2⟩ := S
      obtain ⟨p0, p1, p2, p3, p4, p5⟩ := tri s1
      obtain ⟨q0, q1, q2, q3, q4, q5⟩ := tri s2
      clear s1 s2
      go_wp2
      exact bodyPost_ret (v := talT T j) (by simp [results, Tryd.results13, go_sem, p0, p1, p2, talT]) rfl ⟨rfl, ((HS.out.below.setCell (by simp) _).setCell (by simp) _).setCell (by simp) _⟩
end Go.Proofs.YtoflalflacopdaaDoor
namespace Go.Proofs.YtoflalflacopdaaDoor
open Go.RowKit
set_option linter.unusedVariables false
theorem oput (k v : ByteArray) {w : World} {sb g tb : Nat} {nd ck c : Int} {Ls Ls' : List En} (h : Sto w sb g tb nd ck Ls) (L : Lanes w) (hl : Ls.length ≤ 1000000) (he : wrErr k v nd ck Ls = 0) (hc : ck + 1 = c) (hi : insE (wrEn k v false nd ck) Ls = Ls') :
    Calls Tryd.prog 26 #[.pointer (some ⟨sb, 0, none⟩), .string k, .string v] w fun r w' => r = .returned (.tuple #[.agg #[.int .i64 c, .int .i64 nd], .int .i64 0]) ∧ Sto w' sb g tb nd c Ls' ∧ Lanes w' ∧ Keeps (Of sb g tb) w w' := by
  refine (qput k v h L hl).mono ?_
  rintro r w' ⟨c', m, er, rfl, e2, k, l, h1 | h1⟩
  · exact absurd (e2.trans he) h1.1
  · obtain ⟨rfl, rfl, rfl, h4⟩ := h1
    rw [hc, hi] at h4
    rw [hc]
    exact ⟨rfl, h4, l, k⟩
theorem odel (k : ByteArray) {w : World} {sb g tb : Nat} {nd ck c : Int} {Ls Ls' : List En} (h : Sto w sb g tb nd ck Ls) (L : Lanes w) (hl : Ls.length ≤ 1000000) (he : wrErr k ⟨#[]⟩ nd ck Ls = 0) (hc : ck + 1 = c) (hi : insE (wrEn k ⟨#[]⟩ true nd ck) Ls = Ls') :
    Calls Tryd.prog 27 #[.pointer (some ⟨sb, 0, none⟩), .string k] w fun r w' => r = .returned (.tuple #[.agg #[.int .i64 c, .int .i64 nd], .int .i64 0]) ∧ Sto w' sb g tb nd c Ls' ∧ Lanes w' ∧ Keeps (Of sb g tb) w w' := by
  refine (qdel k h L hl).mono ?_
  rintro r w' ⟨c', m, er, rfl, e2, k, l, h1 | h1⟩
  · exact absurd (e2.trans he) h1.1
  · obtain ⟨rfl, rfl, rfl, h4⟩ := h1
    rw [hc, hi] at h4
    rw [hc]
    exact ⟨rfl, h4, l, k⟩
theorem otake (e : En) {w : World} {sb g tb : Nat} {nd ck c : Int} {Ls Ls' : List En} (h : Sto w sb g tb nd ck Ls) (L : Lanes w) (hl : Ls.length ≤ 1000000) (he : tkSay e Ls = (0, true)) (hc : ckm ck e.c = c) (hi : insE e Ls = Ls') :
    Calls Tryd.prog 7 #[.pointer (some ⟨sb, 0, none⟩), .agg #[.string e.k, .int .i64 e.c, .int .i64 e.n, .string e.v, .bool e.d]] w fun r w' => r = .returned (.tuple #[.bool true, .int .i64 0]) ∧ Sto w' sb g tb nd c Ls' ∧ Lanes w' ∧ Keeps (Of sb g tb) w w' := by
  refine (qtake e h L hl).mono ?_
  rintro r w' ⟨rfl, k, l, h1 | h1⟩
  · rw [he] at h1; cases h1.1
  · rw [hc, hi] at h1
    rw [he]
    exact ⟨rfl, h1.2, l, k⟩
theorem sh1 : wrErr ⟨#[97]⟩ ⟨#[120]⟩ 3 0 [] = 0 ∧ insE (wrEn ⟨#[97]⟩ ⟨#[120]⟩ false 3 0) [] = [(⟨⟨#[97]⟩, 1, 3, ⟨#[120]⟩, false⟩ : En)] := by constructor <;> kernel_rfl
theorem sh2 : wrErr ⟨#[98]⟩ ⟨#[]⟩ 3 1 [(⟨⟨#[97]⟩, 1, 3, ⟨#[120]⟩, false⟩ : En)] = 0 ∧ insE (wrEn ⟨#[98]⟩ ⟨#[]⟩ false 3 1) [(⟨⟨#[97]⟩, 1, 3, ⟨#[120]⟩, false⟩ : En)] = [(⟨⟨#[97]⟩, 1, 3, ⟨#[120]⟩, false⟩ : En), (⟨⟨#[98]⟩, 2, 3, ⟨#[]⟩, false⟩ : En)] := by constructor <;> kernel_rfl
theorem sh3 : wrErr ⟨#[97]⟩ ⟨#[]⟩ 3 2 [(⟨⟨#[97]⟩, 1, 3, ⟨#[120]⟩, false⟩ : En), (⟨⟨#[98]⟩, 2, 3, ⟨#[]⟩, false⟩ : En)] = 0 ∧ insE (wrEn ⟨#[97]⟩ ⟨#[]⟩ true 3 2) [(⟨⟨#[97]⟩, 1, 3, ⟨#[120]⟩, false⟩ : En), (⟨⟨#[98]⟩, 2, 3, ⟨#[]⟩, false⟩ : En)] = [(⟨⟨#[97]⟩, 3, 3, ⟨#[]⟩, true⟩ : En), (⟨⟨#[98]⟩, 2, 3, ⟨#[]⟩, false⟩ : En)] := by constructor <;> kernel_rfl
theorem sh4 : tkSay (⟨⟨#[99]⟩, 9, 0, ⟨#[]⟩, false⟩ : En) [(⟨⟨#[97]⟩, 3, 3, ⟨#[]⟩, true⟩ : En), (⟨⟨#[98]⟩, 2, 3, ⟨#[]⟩, false⟩ : En)] = (0, true) ∧ insE (⟨⟨#[99]⟩, 9, 0, ⟨#[]⟩, false⟩ : En) [(⟨⟨#[97]⟩, 3, 3, ⟨#[]⟩, true⟩ : En), (⟨⟨#[98]⟩, 2, 3, ⟨#[]⟩, false⟩ : En)] = [(⟨⟨#[97]⟩, 3, 3, ⟨#[]⟩, true⟩ : En), (⟨⟨#[98]⟩, 2, 3, ⟨#[]⟩, false⟩ : En), (⟨⟨#[99]⟩, 9, 0, ⟨#[]⟩, false⟩ : En)] := by constructor <;> kernel_rfl
theorem sh5 : wrErr ⟨#[97]⟩ ⟨#[121]⟩ 3 9 [(⟨⟨#[97]⟩, 3, 3, ⟨#[]⟩, true⟩ : En), (⟨⟨#[98]⟩, 2, 3, ⟨#[]⟩, false⟩ : En), (⟨⟨#[99]⟩, 9, 0, ⟨#[]⟩, false⟩ : En)] = 0 ∧ insE (wrEn ⟨#[97]⟩ ⟨#[121]⟩ false 3 9) [(⟨⟨#[97]⟩, 3, 3, ⟨#[]⟩, true⟩ : En), (⟨⟨#[98]⟩, 2, 3, ⟨#[]⟩, false⟩ : En), (⟨⟨#[99]⟩, 9, 0, ⟨#[]⟩, false⟩ : En)] = [(⟨⟨#[97]⟩, 10, 3, ⟨#[121]⟩, false⟩ : En), (⟨⟨#[98]⟩, 2, 3, ⟨#[]⟩, false⟩ : En), (⟨⟨#[99]⟩, 9, 0, ⟨#[]⟩, false⟩ : En)] := by constructor <;> kernel_rfl
theorem sh6 : (lookE ⟨#[97]⟩ [(⟨⟨#[97]⟩, 10, 3, ⟨#[121]⟩, false⟩ : En), (⟨⟨#[98]⟩, 2, 3, ⟨#[]⟩, false⟩ : En), (⟨⟨#[99]⟩, 9, 0, ⟨#[]⟩, false⟩ : En)]).getD eNone = (⟨⟨#[97]⟩, 10, 3, ⟨#[121]⟩, false⟩ : En) ∧ (lookE ⟨#[97]⟩ [(⟨⟨#[97]⟩, 10, 3, ⟨#[121]⟩, false⟩ : En), (⟨⟨#[98]⟩, 2, 3, ⟨#[]⟩, false⟩ : En), (⟨⟨#[99]⟩, 9, 0, ⟨#[]⟩, false⟩ : En)]).isSome = true := by constructor <;> kernel_rfl
theorem sh7 : Rg.chk ⟨⟨#[120]⟩, ⟨#[97]⟩, false⟩ = 21 ∧ foldV ⟨#[120]⟩ ⟨#[97]⟩ false [(⟨⟨#[97]⟩, 10, 3, ⟨#[121]⟩, false⟩ : En), (⟨⟨#[98]⟩, 2, 3, ⟨#[]⟩, false⟩ : En), (⟨⟨#[99]⟩, 9, 0, ⟨#[]⟩, false⟩ : En)] = tZero := by constructor <;> kernel_rfl
theorem sh8 : Rg.chk ⟨⟨#[98]⟩, ⟨#[99]⟩, false⟩ = 0 ∧ (foldV ⟨#[98]⟩ ⟨#[99]⟩ false [(⟨⟨#[97]⟩, 10, 3, ⟨#[121]⟩, false⟩ : En), (⟨⟨#[98]⟩, 2, 3, ⟨#[]⟩, false⟩ : En), (⟨⟨#[99]⟩, 9, 0, ⟨#[]⟩, false⟩ : En)]).n = 1 := by constructor <;> kernel_rfl
set_option maxHeartbeats 6400000 in
set_option maxRecDepth 100000 in
theorem shown_any (w : World) (L : Lanes w) : Calls Tryd.prog 5 #[] w fun e w' => e = .returned (.bool true) ∧ Below w.heap.size w w' := by
  have LL := aside L
  have C1 := aside (fun (W : World) => qnew 3 W)
  have hv1 : ∀ w : World, (binOp .eql 31 (.agg #[.int .i64 3, .int .i64 3]) (.agg #[.int .i64 3, .int .i64 3])).run Tryd.prog w = .ok (.bool true) w := fun w => verq_run 3 3 3 3 w
  have hv2 : ∀ w : World, (binOp .eql 31 (.agg #[.int .i64 10, .int .i64 3]) (.agg #[.int .i64 10, .int .i64 3])).run Tryd.prog w = .ok (.bool true) w := fun w => verq_run 10 3 10 3 w
  have hee : ∀ w : World, (binOp .eql 33 (.agg #[.string ⟨#[97]⟩, .int .i64 10, .int .i64 3, .string ⟨#[121]⟩, .bool false]) (.agg #[.string ⟨#[97]⟩, .int .i64 10, .int .i64 3, .string ⟨#[121]⟩, .bool false])).run Tryd.prog w = .ok (.bool true) w := fun w => by
    have h := ent_eq (⟨⟨#[97]⟩, 10, 3, ⟨#[121]⟩, false⟩ : En) (⟨⟨#[97]⟩, 10, 3, ⟨#[121]⟩, false⟩ : En) w
    rw [enEqB_same] at h
    exact h
  clear L
  go_enter Tryd.func5, Tryd.ntmps5
  go_wp2_with fail
  refine (C1.out _).mono ?_
  rintro e w1 ⟨b1, ⟨hn, rfl⟩ | ⟨-, sb, g, tb, rfl, hs, l1, l2, l3⟩⟩
  · exact absurd hn (by decide)
  have H1 := aside hs
  have L1 := aside (LL.out.keep b1)
  have K1 := aside (Keeps.of_below b1 (Of sb g tb))
  have HL := aside (show w.heap.size ≤ sb ∧ w.heap.size ≤ g ∧ w.heap.size ≤ tb from ⟨l1, l2, l3⟩)
  clear b1 hs l1 l2 l3 C1 LL
  go_wp2_with fail
  refine (oput ⟨#[97]⟩ ⟨#[120]⟩ H1.out L1.out (by decide) sh1.1 (show (0 : Int) + 1 = 1 from rfl) sh1.2).mono ?_
  rintro e w2 ⟨rfl, hs, hl, hk⟩
  have H2 := aside hs
  have L2 := aside hl
  have K2 := aside (K1.out.trans hk)
  clear hs hl hk H1 L1 K1
  go_wp2_with fail
  refine (oput ⟨#[98]⟩ ⟨#[]⟩ H2.out L2.out (by decide) sh2.1 (show (1 : Int) + 1 = 2 from rfl) sh2.2).mono ?_
  rintro e w3 ⟨rfl, hs, hl, hk⟩
  have H3 := aside hs
  have L3 := aside hl
  have K3 := aside (K2.out.trans hk)
  clear hs hl hk H2 L2 K2
  go_wp2_with fail
  refine (odel ⟨#[97]⟩ H3.out L3.out (by decide) sh3.1 (show (2 : Int) + 1 = 3 from rfl) sh3.2).mono ?_
  rintro e w4 ⟨rfl, hs, hl, hk⟩
  have b4 := bnew w4 (.cells #[.int .i64 3, .int .i64 3] 31)
  have H4 := aside (hs.below b4)
  have L4 := aside (hl.keep b4)
  have K4 := aside ((K3.out.trans hk).trans (Keeps.of_below b4 _))
  have V4 := aside (heap_alloc_new w4 (.cells #[.int .i64 3, .int .i64 3] 31))
  clear hs hl hk H3 L3 K3 b4
  go_wp2_with fail
  refine (otake (⟨⟨#[99]⟩, 9, 0, ⟨#[]⟩, false⟩ : En) H4.out L4.out (by decide) sh4.1 (show ckm 3 9 = 9 from rfl) sh4.2).mono ?_
  rintro e w5 ⟨rfl, hs, hl, hk⟩
  have H5 := aside hs
  have L5 := aside hl
  have K5 := aside (K4.out.trans hk)
  have V5 := aside (blk_keep V4.out hk (H4.out.not V4.out (by decide) (by decide) (by decide)))
  clear hs hl hk H4 L4 K4 V4
  generalize w4.heap.size = i4 at *
  go_wp2_with fail
  refine (oput ⟨#[97]⟩ ⟨#[121]⟩ H5.out L5.out (by decide) sh5.1 (show (9 : Int) + 1 = 10 from rfl) sh5.2).mono ?_
  rintro e w6 ⟨rfl, hs, hl, hk⟩
  have b6 := bnew w6 (.cells #[.int .i64 10, .int .i64 3] 31)
  have H6 := aside (hs.below b6)
  have L6 := aside (hl.keep b6)
  have K6 := aside ((K5.out.trans hk).trans (Keeps.of_below b6 _))
  have V6 := aside (blk_on (blk_keep V5.out hk (H5.out.not V5.out (by decide) (by decide) (by decide))) b6)
  have U6 := aside (heap_alloc_new w6 (.cells #[.int .i64 10, .int .i64 3] 31))
  clear hs hl hk H5 L5 K5 V5 b6
  go_wp2_with fail
  have CG := aside (qget ⟨#[97]⟩ H6.out (by decide))
  rw [if_neg (by decide), sh6.1, sh6.2] at CG
  refine CG.out.mono ?_
  rintro e w7 ⟨rfl, b7⟩
  have b7' := bnew w7 (.cells #[.string (⟨⟨#[97]⟩, 10, 3, ⟨#[121]⟩, false⟩ : En).k, .int .i64 (⟨⟨#[97]⟩, 10, 3, ⟨#[121]⟩, false⟩ : En).c, .int .i64 (⟨⟨#[97]⟩, 10, 3, ⟨#[121]⟩, false⟩ : En).n, .string (⟨⟨#[97]⟩, 10, 3, ⟨#[121]⟩, false⟩ : En).v, .bool (⟨⟨#[97]⟩, 10, 3, ⟨#[121]⟩, false⟩ : En).d] 33)
  have H7 := aside ((H6.out.below b7).below b7')
  have L7 := aside ((L6.out.keep b7).keep b7')
  have K7 := aside (K6.out.trans (Keeps.of_below (bthen b7 b7') _))
  have V7 := aside (blk_on (blk_on V6.out b7) b7')
  have U7 := aside (blk_on (blk_on U6.out b7) b7')
  have E7 := aside (heap_alloc_new w7 (.cells #[.string (⟨⟨#[97]⟩, 10, 3, ⟨#[121]⟩, false⟩ : En).k, .int .i64 (⟨⟨#[97]⟩, 10, 3, ⟨#[121]⟩, false⟩ : En).c, .int .i64 (⟨⟨#[97]⟩, 10, 3, ⟨#[121]⟩, false⟩ : En).n, .string (⟨⟨#[97]⟩, 10, 3, ⟨#[121]⟩, false⟩ : En).v, .bool (⟨⟨#[97]⟩, 10, 3, ⟨#[121]⟩, false⟩ : En).d] 33))
  clear b7 b7' CG H6 L6 K6 V6 U6
  generalize w6.heap.size = i6 at *
  dsimp only at H7 L7 K7 V7 U7 E7
  go_wp2_with fail
  have CF := aside (qfold ⟨#[120]⟩ ⟨#[97]⟩ false H7.out L7.out (by decide))
  rw [sh7.1, sh7.2, tZero_n, tZero_a, tZero_b] at CF
  refine CF.out.mono ?_
  rintro e w8 ⟨rfl, hs, hk, hl⟩
  have b8 := bnew w8 (.cells #[.int .i64 0, .int .u64 0, .int .u64 0] 40)
  have H8 := aside (hs.below b8)
  have L8 := aside (hl.keep b8)
  have K8 := aside ((K7.out.trans hk).trans (Keeps.of_below b8 _))
  have V8 := aside (blk_on (blk_keep V7.out hk (H7.out.not V7.out (by decide) (by decide) (by decide))) b8)
  have U8 := aside (blk_on (blk_keep U7.out hk (H7.out.not U7.out (by decide) (by decide) (by decide))) b8)
  have E8 := aside (blk_on (blk_keep E7.out hk (H7.out.not E7.out (by decide) (by decide) (by decide))) b8)
  clear hs hl hk H7 L7 K7 V7 U7 E7 b8 CF
  generalize w7.heap.size = i7 at *
  go_wp2_with fail
  have CF := aside (qfold ⟨#[98]⟩ ⟨#[99]⟩ false H8.out L8.out (by decide))
  obtain ⟨tn, htn⟩ : ∃ x, (foldV ⟨#[98]⟩ ⟨#[99]⟩ false [(⟨⟨#[97]⟩, 10, 3, ⟨#[121]⟩, false⟩ : En), (⟨⟨#[98]⟩, 2, 3, ⟨#[]⟩, false⟩ : En), (⟨⟨#[99]⟩, 9, 0, ⟨#[]⟩, false⟩ : En)]).n = x := ⟨_, rfl⟩
  obtain ⟨ta, hta⟩ : ∃ x, (foldV ⟨#[98]⟩ ⟨#[99]⟩ false [(⟨⟨#[97]⟩, 10, 3, ⟨#[121]⟩, false⟩ : En), (⟨⟨#[98]⟩, 2, 3, ⟨#[]⟩, false⟩ : En), (⟨⟨#[99]⟩, 9, 0, ⟨#[]⟩, false⟩ : En)]).a = x := ⟨_, rfl⟩
  obtain ⟨tc, htc⟩ : ∃ x, (foldV ⟨#[98]⟩ ⟨#[99]⟩ false [(⟨⟨#[97]⟩, 10, 3, ⟨#[121]⟩, false⟩ : En), (⟨⟨#[98]⟩, 2, 3, ⟨#[]⟩, false⟩ : En), (⟨⟨#[99]⟩, 9, 0, ⟨#[]⟩, false⟩ : En)]).b = x := ⟨_, rfl⟩
  rw [sh8.1, htn, hta, htc] at CF
  rw [sh8.2] at htn
  subst htn
  clear hta htc
  refine CF.out.mono ?_
  rintro e w9 ⟨rfl, hs, hk, hl⟩
  have b9 := bnew w9 (.cells #[.int .i64 1, .int .u64 ta, .int .u64 tc] 40)
  have H9 := aside (hs.below b9)
  have K9 := aside ((K8.out.trans hk).trans (Keeps.of_below b9 _))
  obtain ⟨v0, v1, -, -⟩ := pair (blk_on (blk_keep V8.out hk (H8.out.not V8.out (by decide) (by decide) (by decide))) b9)
  obtain ⟨u0, u1, -, -⟩ := pair (blk_on (blk_keep U8.out hk (H8.out.not U8.out (by decide) (by decide) (by decide))) b9)
  obtain ⟨e0, e1, e2, e3, e4, -⟩ := penta (blk_on (blk_keep E8.out hk (H8.out.not E8.out (by decide) (by decide) (by decide))) b9)
  have CLn := aside (qlen H9.out)
  have CCk := aside (qclock H9.out)
  rw [show (([(⟨⟨#[97]⟩, 10, 3, ⟨#[121]⟩, false⟩ : En), (⟨⟨#[98]⟩, 2, 3, ⟨#[]⟩, false⟩ : En), (⟨⟨#[99]⟩, 9, 0, ⟨#[]⟩, false⟩ : En)].length : Nat) : Int) = 3 from rfl] at CLn
  clear hs hl hk H8 L8 K8 V8 U8 E8 b9 CF
  generalize w8.heap.size = i8 at *
  go_wp2_with fail
  refine CLn.out.mono ?_
  rintro e w10 ⟨rfl, rfl⟩
  go_wp2_with fail
  refine CCk.out.mono ?_
  rintro e w10 ⟨rfl, rfl⟩
  go_wp2
  go_ret
  exact ⟨rfl, K9.out.below (Nat.le_refl _) (fun k hk e => by have := HL.out; rcases e with e | e | e <;> omega)⟩
end Go.Proofs.YtoflalflacopdaaDoor
namespace Go.Proofs.YtoflalflacopdaaDoor
open Go.RowKit
set_option linter.unusedVariables false
theorem Lanes.apartS {w : World} (L : Lanes w) {cs : Array Value} {T : TypeId} (h : w.heap[0]? = some (.cells cs T (0, 0))) (hs : cs.size ≤ 5) : False := by
  have h5 := L.c5
  simp only [World.cell?, h] at h5
  have : cs[5]? = none := by rw [Array.getElem?_eq_none_iff]; omega
  simp [this] at h5
/-- A store, the box of the range, the box of the answer. -/
structure SfS (w : World) (rb qb sb g tb : Nat) (r : Rg) (ck : Int) (Ls : List En) (W : World) : Prop where
  s : Sto W sb g tb 0 ck Ls
  lan : Lanes W
  bel : Below w.heap.size w W
  kr : W.heap[rb]? = some (.cells #[.string r.lo, .string r.hi, .bool r.op] 24 (0, 0))
  kq : W.heap[qb]? = some (.cells #[.bool false] 4 (0, 0))
  ls : w.heap.size ≤ sb ∧ w.heap.size ≤ g ∧ w.heap.size ≤ tb
  lq : w.heap.size ≤ qb
section
variable {w W W' : World} {rb qb sb g tb : Nat} {r : Rg} {ck : Int} {Ls : List En}
theorem SfS.on (h : SfS w rb qb sb g tb r ck Ls W) (b : Below W.heap.size W W') : SfS w rb qb sb g tb r ck Ls W' :=
  ⟨h.s.below b, h.lan.keep b, bthen h.bel b, blk_on h.kr b, blk_on h.kq b, h.ls, h.lq⟩
theorem SfS.turn {ck' : Int} {Ls' : List En} (h : SfS w rb qb sb g tb r ck Ls W) (s : Sto W' sb g tb 0 ck' Ls') (k : Keeps (Of sb g tb) W W') : SfS w rb qb sb g tb r ck' Ls' W' :=
  ⟨s, h.s.keeps h.lan k, h.bel.trans (k.below h.bel.size (fun i hi e => by have := h.ls; rcases e with e | e | e <;> omega)), blk_keep h.kr k (h.s.not h.kr (by decide) (by decide) (by decide)), blk_keep h.kq k (h.s.not h.kq (by decide) (by decide) (by decide)), h.ls, h.lq⟩
/-- Another box is written. -/
theorem SfS.set (h : SfS w rb qb sb g tb r ck Ls W) {i : Nat} {cs : Array Value} {U : TypeId} (hi : W.heap[i]? = some (.cells cs U (0, 0))) (hs : cs.size ≤ 5) (h1 : U ≠ 89) (h2 : U ≠ 140) (h3 : U ≠ 184) (h4 : U ≠ 135) (h5 : U ≠ 24) (h6 : U ≠ 4) (hl : w.heap.size ≤ i) (k : Keeps (fun x => x = i) W W') : SfS w rb qb sb g tb r ck Ls W' :=
  ⟨h.s.set hi h1 h2 h3 h4 k, h.lan.keeps k (fun (e : 0 = i) => by subst e; exact h.lan.apartS hi hs), h.bel.trans (k.below h.bel.size (fun j hj e => by have hh : j = i := e; omega)), blk_keep h.kr k (fun e => by have hh : rb = i := e; have h9 := h.kr; rw [hh, hi] at h9; simp at h9; exact h5 h9.2), blk_keep h.kq k (fun e => by have hh : qb = i := e; have h9 := h.kq; rw [hh, hi] at h9; simp at h9; exact h6 h9.2), h.ls, h.lq⟩
end
/-- What is taken, by the call's own words. -/
theorem sf_take (e : En) {s : TkS} {w W : World} {rb qb sb g tb : Nat} {r : Rg} (h : SfS w rb qb sb g tb r s.c s.l W) (hl : s.l.length ≤ 256) :
    Calls Tryd.prog 7 #[.pointer (some ⟨sb, 0, none⟩), .agg #[.string e.k, .int .i64 e.c, .int .i64 e.n, .string e.v, .bool e.d]] W fun q W' => ∃ v, q = .returned v ∧ SfS w rb qb sb g tb r (tkStep s e).c (tkStep s e).l W' ∧ Keeps (Of sb g tb) W W' := by
  refine (qtake e h.s h.lan (by omega)).mono ?_
  rintro q W' ⟨rfl, k, l1, ⟨h1, s1⟩ | ⟨h1, s1⟩⟩
  · refine ⟨_, rfl, ?_, k⟩
    have : (tkStep s e).c = s.c ∧ (tkStep s e).l = s.l := by
      unfold tkStep
      rw [if_neg (by simp [h1])]
      split <;> exact ⟨rfl, rfl⟩
    rw [this.1, this.2]
    exact h.turn s1 k
  · refine ⟨_, rfl, ?_, k⟩
    have : (tkStep s e).c = ckm s.c e.c ∧ (tkStep s e).l = insE e s.l := by
      unfold tkStep
      rw [if_pos h1]
      exact ⟨rfl, rfl⟩
    rw [this.1, this.2]
    exact h.turn s1 k
theorem inL_thruS {r : Rg} {l : List En} (h : r.chk = 0) (hm : MapL l) : thruL r.lo r.hi r.op true l = inL r l := by
  rw [thru_true]
  unfold inL
  refine List.filter_congr (fun e he => ?_)
  have h1 := (chk_pos (hm.chk e he)).2.1
  unfold Rg.has inR Rg.may
  have h2 : decide ((e.k.size : Int) ≤ 16) = true := by simp; omega
  simp [h, h2]
  rfl
/-- The parts of a split are ranges that may be. -/
theorem cut_chk {r : Rg} {Ls : List En} (hm : MapL Ls) (hc : r.chk = 0) {q : Nat} (hq : q + 1 ≤ (keysIn r Ls).length) {i : Nat} (hi : i < q + 1) : (cutR r Ls q i).chk = 0 := prErr_chk (cut_ok hm hc hq hi)
where
  prErr_chk {r : Rg} (h : prErr r = 0) : r.chk = 0 := by
    unfold prErr at h
    split at h
    · exact absurd h (by assumption)
    · simp_all
end Go.Proofs.YtoflalflacopdaaDoor
namespace Go.Proofs.YtoflalflacopdaaDoor
open Go.RowKit
set_option linter.unusedVariables false
theorem list_getD {α : Type} (d : α) : ∀ (l : List α), (List.range l.length).map (fun i => l.getD i d) = l
  | [] => rfl
  | x :: l => by
    rw [List.length_cons, List.range_succ_eq_map, List.map_cons, List.map_map]
    exact congrArg (x :: ·) (list_getD d l)
/-- A statement that neither leaves nor panics. -/
theorem wp_calm {P : Program} {c : Code} {K : Act → World → Prop} {Q : Exit → Act → World → Prop} {a : Act} {w : World} (h : c.wp P (Exit.then K (fun _ _ _ => False)) a w) : c.wp P (Exit.then K Q) a w := by
  refine wp_mono h ?_
  intro e a' w' hq
  cases e with
  | normal => exact hq
  | exit id => exact hq.elim
  | goto l => exact hq.elim
  | ret => exact hq.elim
  | panic ch => exact hq.elim
  | outgrown => exact hq.elim
set_option maxRecDepth 10000 in
theorem lit213 (t : Array Value) (h : t.size = 213) : ∃ f : Nat → Value, t = List.toArray (f 0 :: f 1 :: f 2 :: f 3 :: f 4 :: f 5 :: f 6 :: f 7 :: f 8 :: f 9 :: f 10 :: f 11 :: f 12 :: f 13 :: f 14 :: f 15 :: f 16 :: f 17 :: f 18 :: f 19 :: f 20 :: f 21 :: f 22 :: f 23 :: f 24 :: f 25 :: f 26 :: f 27 :: f 28 :: f 29 :: f 30 :: f 31 :: f 32 :: f 33 :: f 34 :: f 35 :: f 36 :: f 37 :: f 38 :: f 39 :: f 40 :: f 41 :: f 42 :: f 43 :: f 44 :: f 45 :: f 46 :: f 47 :: f 48 :: f 49 :: f 50 :: f 51 :: f 52 :: f 53 :: f 54 :: f 55 :: f 56 :: f 57 :: f 58 :: f 59 :: f 60 :: f 61 :: f 62 :: f 63 :: f 64 :: f 65 :: f 66 :: f 67 :: f 68 :: f 69 :: f 70 :: f 71 :: f 72 :: f 73 :: f 74 :: f 75 :: f 76 :: f 77 :: f 78 :: f 79 :: f 80 :: f 81 :: f 82 :: f 83 :: f 84 :: f 85 :: f 86 :: f 87 :: f 88 :: f 89 :: f 90 :: f 91 :: f 92 :: f 93 :: f 94 :: f 95 :: f 96 :: f 97 :: f 98 :: f 99 :: f 100 :: f 101 :: f 102 :: f 103 :: f 104 :: f 105 :: f 106 :: f 107 :: f 108 :: f 109 :: f 110 :: f 111 :: f 112 :: f 113 :: f 114 :: f 115 :: f 116 :: f 117 :: f 118 :: f 119 :: f 120 :: f 121 :: f 122 :: f 123 :: f 124 :: f 125 :: f 126 :: f 127 :: f 128 :: f 129 :: f 130 :: f 131 :: f 132 :: f 133 :: f 134 :: f 135 :: f 136 :: f 137 :: f 138 :: f 139 :: f 140 :: f 141 :: f 142 :: f 143 :: f 144 :: f 145 :: f 146 :: f 147 :: f 148 :: f 149 :: f 150 :: f 151 :: f 152 :: f 153 :: f 154 :: f 155 :: f 156 :: f 157 :: f 158 :: f 159 :: f 160 :: f 161 :: f 162 :: f 163 :: f 164 :: f 165 :: f 166 :: f 167 :: f 168 :: f 169 :: f 170 :: f 171 :: f 172 :: f 173 :: f 174 :: f 175 :: f 176 :: f 177 :: f 178 :: f 179 :: f 180 :: f 181 :: f 182 :: f 183 :: f 184 :: f 185 :: f 186 :: f 187 :: f 188 :: f 189 :: f 190 :: f 191 :: f 192 :: f 193 :: f 194 :: f 195 :: f 196 :: f 197 :: f 198 :: f 199 :: f 200 :: f 201 :: f 202 :: f 203 :: f 204 :: f 205 :: f 206 :: f 207 :: f 208 :: f 209 :: f 210 :: f 211 :: f 212 :: []) := by
  refine ⟨fun i => t.toList.getD i undef, ?_⟩
  have h1 := list_getD undef t.toList
  rw [Array.length_toList, h] at h1
  have h2 : t = ((List.range 213).map (fun i => t.toList.getD i undef)).toArray := by rw [h1]
  exact h2
end Go.Proofs.YtoflalflacopdaaDoor
