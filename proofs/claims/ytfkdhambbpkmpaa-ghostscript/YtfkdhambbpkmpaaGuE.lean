/-
  Sees of the code's ghost.
-/
import Derived.Test.YtfkdhambbpkmpaaGuD
import Derived.Test.YtfkdhambbpkmpaaGuS
namespace Go.Proofs.Ytfkdhambbpkmpaa
open Go.RowKit Go.Shelf
set_option linter.unusedVariables false

attribute [local go_sem] Oper.semAt_some
/-- What is wrong with a pair: the one that a node lost, or the one that nobody wrote. -/
def scan1 (L : List En) (x : En × En) : Option (ByteArray × Int) := if enEqB x.1 eZ = false then some (x.1.k, 191) else if wrB L x.2 = false then some (x.2.k, 192) else none
def scanP (L : List En) : List (En × En) → Option (ByteArray × Int)
  | [] => none
  | x :: r => match scan1 L x with
    | some z => some z
    | none => scanP L r
theorem scanP_snoc {L : List En} {x : En × En} : ∀ {pre : List (En × En)}, scanP L pre = none → scanP L (pre ++ [x]) = scan1 L x
  | [], _ => by
    show (match scan1 L x with | some z => some z | none => scanP L []) = _
    cases scan1 L x <;> rfl
  | y :: r, h => by
    have h1 : (match scan1 L y with | some z => some z | none => scanP L r) = none := h
    show (match scan1 L y with | some z => some z | none => scanP L (r ++ [x])) = _
    cases hy : scan1 L y with
    | some z => rw [hy] at h1; cases h1
    | none => rw [hy] at h1; exact scanP_snoc h1
theorem scanP_part {L : List En} {z : ByteArray × Int} {r : List (En × En)} : ∀ {pre : List (En × En)}, scanP L pre = some z → scanP L (pre ++ r) = some z
  | [], h => by cases h
  | y :: q, h => by
    have h1 : (match scan1 L y with | some z => some z | none => scanP L q) = some z := h
    show (match scan1 L y with | some z => some z | none => scanP L (q ++ r)) = _
    cases hy : scan1 L y with
    | some z2 => rw [hy] at h1; exact h1
    | none => rw [hy] at h1; exact scanP_part h1
theorem Gh.own {w : World} {B p m N : Nat} {L : List En} {H : Nat → Hd} {w' : World} {C : Nat} {row : Option Nat} (h : Gh w B p m N L H) (hC : m < C) (hg : w.grownBy w' row) (hr : ∀ r, row = some r → C ≤ r ∧ ∃ o : Obj, w.heap[r]? = some o ∧ o.isCells = false) : Gh w' B p m N L H := by
  refine h.keep ((Keeps.refl (fun x => row = some x) w).grown hg (fun k hk _ => hk)) (fun e => ?_) (fun e => ?_) (fun i hi j hj e => ?_)
  · obtain ⟨-, o, h1, h2⟩ := hr _ e
    rw [h.bx] at h1
    injection h1 with h1
    rw [← h1] at h2
    cases h2
  · have := (hr _ e).1; omega
  · obtain ⟨-, o, h1, h2⟩ := hr _ e
    obtain ⟨-, cs, h3⟩ := row_blkM (h.held i hi) hj
    rw [h3] at h1
    injection h1 with h1
    rw [← h1] at h2
    cases h2
/-- What the loop of Sees keeps. -/
structure SeC (w : World) (q B p m N : Nat) (L : List En) (H : Nat → Hd) (X : World) : Prop where
  k0 : X.heap[q]? = some (.cells #[.pointer (some ⟨p, 0, none⟩)] 24 (0, 0))
  k1 : X.heap[q + 1]? = some (.cells #[.string ⟨#[]⟩] 9 (0, 0))
  k2 : X.heap[q + 1 + 1]? = some (.cells #[.int .i64 0] 40 (0, 0))
  gh : Gh X B p m N L H
  bel : Below w.heap.size w X
theorem SeC.own {w : World} {q B p m N : Nat} {L : List En} {H : Nat → Hd} {X Y : World} {C : Nat} {row : Option Nat} (hC : w.heap.size ≤ C) (hm : m < C) (h : SeC w q B p m N L H X) (hg : X.grownBy Y row) (hr : ∀ r, row = some r → C ≤ r ∧ ∃ o : Obj, X.heap[r]? = some o ∧ o.isCells = false) : SeC w q B p m N L H Y :=
  ⟨cells_ownM h.k0 hg (fun r e => (hr r e).2), cells_ownM h.k1 hg (fun r e => (hr r e).2), cells_ownM h.k2 hg (fun r e => (hr r e).2), h.gh.own hm hg hr, h.bel.grown hg h.bel.size (fun k e => by have := (hr k e).1; omega)⟩
theorem SeC.keep {w : World} {q B p m N : Nat} {L : List En} {H : Nat → Hd} {X Y : World} (h : SeC w q B p m N L H X) (bb : Below X.heap.size X Y) : SeC w q B p m N L H Y :=
  ⟨blk_on h.k0 bb, blk_on h.k1 bb, blk_on h.k2 bb, h.gh.on bb, bthen h.bel bb⟩
/-- The key and the error, written; then nothing but these has turned. -/
theorem two_setG {X : World} {q : Nat} {u0 u1 : Value} {T0 T1 : TypeId} (h0 : X.heap[q + 1]? = some (.cells #[u0] T0 (0, 0))) (h1 : X.heap[q + 1 + 1]? = some (.cells #[u1] T1 (0, 0))) (u v : Value) :
    ((X.setCell ⟨q + 1, 0, none⟩ u).setCell ⟨q + 1 + 1, 0, none⟩ v).heap[q + 1]? = some (.cells #[u] T0 (0, 0)) ∧ ((X.setCell ⟨q + 1, 0, none⟩ u).setCell ⟨q + 1 + 1, 0, none⟩ v).heap[q + 1 + 1]? = some (.cells #[v] T1 (0, 0)) := two_set h0 h1 u v
/-- An error of Sees: nothing has changed. -/
def SeNo (w : World) (B p m N : Nat) (L : List En) (H : Nat → Hd) (k : ByteArray) (c : Int) (e : Ending) (w' : World) : Prop := e = .returned (.tuple #[.string k, .int .i64 c]) ∧ Gh w' B p m N L H ∧ Below w.heap.size w w'
theorem turnG {q B p m N : Nat} {L : List En} {H : Nat → Hd} {X Y : World} {u0 u1 : Value} (k1 : X.heap[q + 1]? = some (.cells #[u0] 9 (0, 0))) (k2 : X.heap[q + 1 + 1]? = some (.cells #[u1] 40 (0, 0))) (gh : Gh X B p m N L H) (kk : Keeps (fun x => x = q + 1 ∨ x = q + 1 + 1) X Y) : Gh Y B p m N L H := by
  have ne : ∀ i cs T, X.heap[i]? = some (.cells cs T (0, 0)) → T ≠ 9 → T ≠ 40 → ¬ (i = q + 1 ∨ i = q + 1 + 1) := fun i cs T hi h1 h2 e => by
    rcases e with e | e
    · have h3 := k1; rw [← e, hi] at h3; injection h3 with h3; injection h3 with _ h3; exact h1 h3
    · have h3 := k2; rw [← e, hi] at h3; injection h3 with h3; injection h3 with _ h3; exact h2 h3
  refine gh.keep kk (ne _ _ _ gh.bx (by decide) (by decide)) (fun e => ?_) (fun i hi j hj e => ?_)
  · obtain ⟨D, ⟨es, clock, h4, -⟩, -⟩ := gh.mp
    rcases e with e | e
    · have h3 := k1; rw [← e, h4] at h3; cases h3
    · have h3 := k2; rw [← e, h4] at h3; cases h3
  · obtain ⟨-, cs, h3⟩ := row_blkM (gh.held i hi) hj
    exact ne _ _ _ h3 (by decide) (by decide) e
theorem SeC.turn {w : World} {q B p m N : Nat} {L : List En} {H : Nat → Hd} {X Y : World} (h : SeC w q B p m N L H X) (kk : Keeps (fun x => x = q + 1 ∨ x = q + 1 + 1) X Y) : Gh Y B p m N L H := turnG h.k1 h.k2 h.gh kk
/-- What a node holds is laid anew. -/
def updH (H : Nat → Hd) (i : Nat) (h : Hd) : Nat → Hd := fun j => if j = i then h else H j
theorem Gh.see {w : World} {B p m N : Nat} {L : List En} {H : Nat → Hd} (h : Gh w B p m N L H) {i : Nat} (hi : i < 8) (hd : Hd) (ho : w.ownsRow B 31 5 hd.v hd.n (entCells hd.l)) (hm : MapL hd.l) (hs : hd.n ≤ 1073741824) : Gh (w.setCell ⟨p, 1 + i, none⟩ hd.v) B p m N L (updH H i hd) := by
  have kk := (Keeps.refl (fun x => x = p) w).setCell (p := ⟨p, 1 + i, none⟩) (fun _ => rfl) hd.v
  obtain ⟨D, hD, hR⟩ := h.mp
  refine ⟨?_, h.pB, h.mB, ⟨D, ownsMapG_keep hD kk (Ne.symm h.ne), hR⟩, h.chk, fun j hj => ?_, fun j hj => ?_, fun j hj => ?_⟩
  · have h1 := set_oneG (k := 1 + i) h.bx hd.v
    match i, hi with
    | 0, _ => simpa [updH] using h1
    | 1, _ => simpa [updH] using h1
    | 2, _ => simpa [updH] using h1
    | 3, _ => simpa [updH] using h1
    | 4, _ => simpa [updH] using h1
    | 5, _ => simpa [updH] using h1
    | 6, _ => simpa [updH] using h1
    | 7, _ => simpa [updH] using h1
  · have ne : ∀ {n : Nat} {v : Value} {xs : List Value}, w.ownsRow B 31 5 v n xs → ∀ r, v.ownBlock = some r → ¬ r = p := fun hr r hr2 e => by
      obtain ⟨-, cs, h3⟩ := row_blkM hr hr2
      rw [e, h.bx] at h3
      injection h3 with h3
      injection h3 with _ h3
      exact absurd h3 (by decide)
    unfold updH
    split
    · exact ownsRow_keep ho kk (ne ho)
    · exact ownsRow_keep (h.held j hj) kk (ne (h.held j hj))
  · unfold updH; split
    · exact hm
    · exact h.maps j hj
  · unfold updH; split
    · exact hs
    · exact h.sz j hj
set_option maxHeartbeats 8000000 in
set_option maxRecDepth 100000 in
theorem gsees_node {w : World} {B p m N : Nat} {L : List En} {H : Nat → Hd} (h : Gh w B p m N L H) (node : Int) (hn : ¬ (0 ≤ node ∧ node < 8)) (b : Option Addr) (lb cb : Nat) : Calls Try.prog 14 #[.pointer (some ⟨p, 0, none⟩), .int .i64 node, .slice b lb cb] w fun e w' => SeNo w B p m N L H ⟨#[]⟩ 1 e w' := by
  obtain ⟨q, hq⟩ : ∃ q, w.heap.size = q := ⟨_, rfl⟩
  obtain ⟨V, hV⟩ : ∃ V, ((w.alloc (.cells #[.pointer (some ⟨p, 0, none⟩)] 24)).alloc (.cells #[.string ⟨#[]⟩] 9)).alloc (.cells #[.int .i64 0] 40) = V := ⟨_, rfl⟩
  have BV := aside (show Below w.heap.size w V from by rw [← hV]; exact bthen (bthen (bnew w _) (bnew _ _)) (bnew _ _))
  have e0 := heap_alloc_new w (.cells #[.pointer (some ⟨p, 0, none⟩)] 24)
  have e1 := heap_alloc_new (w.alloc (.cells #[.pointer (some ⟨p, 0, none⟩)] 24)) (.cells #[.string ⟨#[]⟩] 9)
  have e2 := heap_alloc_new ((w.alloc (.cells #[.pointer (some ⟨p, 0, none⟩)] 24)).alloc (.cells #[.string ⟨#[]⟩] 9)) (.cells #[.int .i64 0] 40)
  simp only [World.size_alloc] at e1 e2
  rw [hq] at e0 e1 e2
  have S0 := aside (show SeC w q B p m N L H V from ⟨by rw [← hV]; exact blk_on (blk_on e0 (bnew _ _)) (bnew _ _), by rw [← hV]; exact blk_on e1 (bnew _ _), by rw [← hV]; exact e2, h.on BV.out, BV.out⟩)
  have HQ1 := aside hq
  clear e0 e1 e2
  have ND := aside (gisnode_any node V)
  rw [decide_eq_false hn] at ND
  clear h hn
  refine (callsIn_wide (n := 6)).1 ?_
  refine callsIn_of_wp_marks Try.func14 rfl trivial ?_ rfl
  simp only [Try.ntmps14, List.size_toArray, List.length_cons, List.length_nil, Nat.reduceAdd, Nat.reduceSub, Array.replicate_succ, Array.replicate_zero, List.push_toArray, List.append_toArray, List.nil_append, List.cons_append]
  gi_wp2_with fail
  try rw [hV]
  try rw [hq]
  clear hV hq
  refine ⟨trivial, ?_⟩
  refine (callsIn_wide.2 ND.out).mono ?_
  rintro e w1 ⟨rfl, rfl⟩
  have c1 := cell_one S0.out.k1
  have c2 := cell_one S0.out.k2
  have z1 := frozen_one S0.out.k1
  have z2 := frozen_one S0.out.k2
  have TS := aside (two_setG S0.out.k1 S0.out.k2 (.string ⟨#[]⟩) (.int .i64 1))
  have KK := aside (((Keeps.refl (fun x => x = q + 1 ∨ x = q + 1 + 1) w1).setCell (p := ⟨q + 1, 0, none⟩) (fun _ => .inl rfl) (.string ⟨#[]⟩)).setCell (p := ⟨q + 1 + 1, 0, none⟩) (fun _ => .inr rfl) (.int .i64 1))
  have FG := aside (S0.out.turn KK.out)
  have FB := aside ((S0.out.bel.setCell (p := ⟨q + 1, 0, none⟩) (by show w.heap.size ≤ q + 1; rw [HQ1.out]; omega) (.string ⟨#[]⟩)).setCell (p := ⟨q + 1 + 1, 0, none⟩) (by show w.heap.size ≤ q + 1 + 1; rw [HQ1.out]; omega) (.int .i64 1))
  gi_wp2
  have d0 := cell_one TS.out.1
  have d1 := cell_one TS.out.2
  exact ⟨.tuple #[.string ⟨#[]⟩, .int .i64 1], by simp [results, Try.results14, go_sem, d0, d1], rfl, FG.out, FB.out⟩
set_option maxHeartbeats 8000000 in
set_option maxRecDepth 100000 in
theorem gsees_bad {w : World} {B p m N : Nat} {L : List En} {H : Nat → Hd} (h : Gh w B p m N L H) (i : Nat) (hi : i < 8) (b : Option Addr) (lb cb : Nat) (T : Nat → En) (hT : EntsIn w b lb cb T) (hf : (b = none ∧ lb = 0 ∧ cb = 0) ∨ ∃ y, b = some y) (hl : lb ≤ 1073741824) {c : Int} (hc : ∀ A, firstE A (H i).n = (H i).l → ck2 A (H i).n T lb = c) (h0 : ¬ c = 0) : Calls Try.prog 14 #[.pointer (some ⟨p, 0, none⟩), .int .i64 (i : Int), .slice b lb cb] w fun e w' => SeNo w B p m N L H ⟨#[]⟩ c e w' := by
  obtain ⟨q, hq⟩ : ∃ q, w.heap.size = q := ⟨_, rfl⟩
  obtain ⟨V, hV⟩ : ∃ V, ((w.alloc (.cells #[.pointer (some ⟨p, 0, none⟩)] 24)).alloc (.cells #[.string ⟨#[]⟩] 9)).alloc (.cells #[.int .i64 0] 40) = V := ⟨_, rfl⟩
  have BV := aside (show Below w.heap.size w V from by rw [← hV]; exact bthen (bthen (bnew w _) (bnew _ _)) (bnew _ _))
  have e0 := heap_alloc_new w (.cells #[.pointer (some ⟨p, 0, none⟩)] 24)
  have e1 := heap_alloc_new (w.alloc (.cells #[.pointer (some ⟨p, 0, none⟩)] 24)) (.cells #[.string ⟨#[]⟩] 9)
  have e2 := heap_alloc_new ((w.alloc (.cells #[.pointer (some ⟨p, 0, none⟩)] 24)).alloc (.cells #[.string ⟨#[]⟩] 9)) (.cells #[.int .i64 0] 40)
  simp only [World.size_alloc] at e1 e2
  rw [hq] at e0 e1 e2
  have S0 := aside (show SeC w q B p m N L H V from ⟨by rw [← hV]; exact blk_on (blk_on e0 (bnew _ _)) (bnew _ _), by rw [← hV]; exact blk_on e1 (bnew _ _), by rw [← hV]; exact e2, h.on BV.out, BV.out⟩)
  have HQ1 := aside hq
  clear e0 e1 e2
  have ND := aside (gisnode_any (i : Int) V)
  rw [decide_eq_true (show 0 ≤ (i : Int) ∧ (i : Int) < 8 from by omega)] at ND
  have hi0 : (0 : Int) ≤ (i : Int) := by omega
  have hi8 : (i : Int) < 8 := by omega
  obtain ⟨A, hA, hAl, hAf⟩ := entsG_of (show V.ownsRow B 31 5 (.slice (H i).a (H i).n (H i).c) (H i).n (entCells (H i).l) from S0.out.gh.held i hi) (mapKeys (h.maps i hi))
  have HA := aside hA
  have HT := aside (hT.keep BV.out)
  have HF := aside hf
  have HL := aside hl
  have HSZ := aside (h.sz i hi)
  have cH := S0.out.gh.cellH i hi
  unfold Hd.v at cH
  have LA := aside (mlack_any (H i).a (H i).n (H i).c A b lb cb T V HA.out HT.out (by have := HSZ.out; omega))
  rw [hAl] at LA
  rw [hc A hAl, outL_bad _ h0] at LA
  have hcz : (c == 0) = false := by simpa using h0
  clear h hT hf hl hA hAl hAf hc h0
  refine (callsIn_wide (n := 6)).1 ?_
  refine callsIn_of_wp_marks Try.func14 rfl trivial ?_ rfl
  simp only [Try.ntmps14, List.size_toArray, List.length_cons, List.length_nil, Nat.reduceAdd, Nat.reduceSub, Array.replicate_succ, Array.replicate_zero, List.push_toArray, List.append_toArray, List.nil_append, List.cons_append]
  gi_wp2_with fail
  try rw [hV]
  try rw [hq]
  clear hV hq
  refine ⟨trivial, ?_⟩
  refine (callsIn_wide.2 ND.out).mono ?_
  rintro e w1 ⟨rfl, rfl⟩
  have c0 := cell_one S0.out.k0
  gi_wp2_with fail
  refine ⟨trivial, ?_⟩
  refine (callsIn_wide.2 LA.out).mono ?_
  rintro e w2 ⟨v, rfl, -, bb⟩
  have S2 := aside (S0.out.keep bb)
  clear bb c0 cH LA
  have c1 := cell_one S2.out.k1
  have c2 := cell_one S2.out.k2
  have z1 := frozen_one S2.out.k1
  have z2 := frozen_one S2.out.k2
  have TS := aside (two_setG S2.out.k1 S2.out.k2 (.string ⟨#[]⟩) (.int .i64 c))
  have KK := aside (((Keeps.refl (fun x => x = q + 1 ∨ x = q + 1 + 1) w2).setCell (p := ⟨q + 1, 0, none⟩) (fun _ => .inl rfl) (.string ⟨#[]⟩)).setCell (p := ⟨q + 1 + 1, 0, none⟩) (fun _ => .inr rfl) (.int .i64 c))
  have FG := aside (S2.out.turn KK.out)
  have FB := aside ((S2.out.bel.setCell (p := ⟨q + 1, 0, none⟩) (by show w.heap.size ≤ q + 1; rw [HQ1.out]; omega) (.string ⟨#[]⟩)).setCell (p := ⟨q + 1 + 1, 0, none⟩) (by show w.heap.size ≤ q + 1 + 1; rw [HQ1.out]; omega) (.int .i64 c))
  gi_wp2
  have d0 := cell_one TS.out.1
  have d1 := cell_one TS.out.2
  exact ⟨.tuple #[.string ⟨#[]⟩, .int .i64 c], by simp [results, Try.results14, go_sem, d0, d1], rfl, FG.out, FB.out⟩
end Go.Proofs.Ytfkdhambbpkmpaa
