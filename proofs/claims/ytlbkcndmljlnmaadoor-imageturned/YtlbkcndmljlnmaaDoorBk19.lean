/-
  Put, Delete and Take.
  New: a store that holds nothing.
-/
import Derived.Test.YtlbkcndmljlnmaaDoorBk18
namespace Go.Proofs.YtlbkcndmljlnmaaDoor
open Go.RowKit
set_option linter.unusedVariables false
set_option maxHeartbeats 3200000 in
set_option maxRecDepth 100000 in
theorem sput (k v : ByteArray) {Ls : List En} {w : World} {sb g tb : Nat} {nd ck : Int} {T : Tr En Tl} {n : Nat} (h : IsSt w sb g tb nd ck T n) (L : Lanes w) (hH : Hol T Ls) (hl : Ls.length ≤ 1000000) :
    Calls Tryd.prog 18 #[.pointer (some ⟨sb, 0, none⟩), .string k, .string v] w fun r w' => ∃ c m er, r = .returned (.tuple #[.agg #[.int .i64 c, .int .i64 m], .int .i64 er]) ∧ er = wrErr k v nd ck Ls ∧ Keeps (Of sb g tb) w w' ∧
      ((er ≠ 0 ∧ c = 0 ∧ m = 0 ∧ IsSt w' sb g tb nd ck T n) ∨ (er = 0 ∧ c = ck + 1 ∧ m = nd ∧ IsSt w' sb g tb nd (ck + 1) (Tr.put k (wrEn k v false nd ck) (tof (wrEn k v false nd ck)) T) (n + Tr.putC k (wrEn k v false nd ck) (tof (wrEn k v false nd ck)) T))) := by
  have B0 := aside (bnew w (.cells #[.int .i64 0, .int .i64 0] 42))
  have G0 := aside (heap_alloc_new w (.cells #[.int .i64 0, .int .i64 0] 42))
  have H := aside (h.alloc (.cells #[.int .i64 0, .int .i64 0] 42))
  have C := aside (swrite k v false H.out (L.keep B0.out) hH hl)
  clear h L hH hl
  go_enter Tryd.func18, Tryd.ntmps18
  go_wp2_with fail
  refine C.out.mono ?_
  rintro r w1 ⟨c, m, er, rfl, he, k1, hs⟩
  have HE := aside he
  have HS := aside hs
  have K1 := aside ((Keeps.of_below B0.out _).trans k1)
  have G1 := aside (blk_keep G0.out k1 (H.out.not G0.out (by decide) (by decide) (by decide)))
  clear he hs k1 C G0 B0 H
  obtain ⟨s0, s1, z0, z1⟩ := pair G1.out
  go_wp2
  rcases HS.out with ⟨h1, h2, h3, h4⟩ | ⟨h1, h2, h3, h4⟩
  · have E := ver_end (i := 0) h4 K1.out G1.out c m
    exact bodyPost_ret (v := .tuple #[.agg #[.int .i64 c, .int .i64 m], .int .i64 er]) (by simp [results, Tryd.results18, go_sem, s0, s1]) rfl ⟨c, m, er, rfl, HE.out, E.2, .inl ⟨h1, h2, h3, E.1⟩⟩
  · have E := ver_end (i := 0) h4 K1.out G1.out c m
    exact bodyPost_ret (v := .tuple #[.agg #[.int .i64 c, .int .i64 m], .int .i64 er]) (by simp [results, Tryd.results18, go_sem, s0, s1]) rfl ⟨c, m, er, rfl, HE.out, E.2, .inr ⟨h1, h2, h3, E.1⟩⟩
set_option maxHeartbeats 3200000 in
set_option maxRecDepth 100000 in
theorem sdel (k : ByteArray) {Ls : List En} {w : World} {sb g tb : Nat} {nd ck : Int} {T : Tr En Tl} {n : Nat} (h : IsSt w sb g tb nd ck T n) (L : Lanes w) (hH : Hol T Ls) (hl : Ls.length ≤ 1000000) :
    Calls Tryd.prog 21 #[.pointer (some ⟨sb, 0, none⟩), .string k] w fun r w' => ∃ c m er, r = .returned (.tuple #[.agg #[.int .i64 c, .int .i64 m], .int .i64 er]) ∧ er = wrErr k ⟨#[]⟩ nd ck Ls ∧ Keeps (Of sb g tb) w w' ∧
      ((er ≠ 0 ∧ c = 0 ∧ m = 0 ∧ IsSt w' sb g tb nd ck T n) ∨ (er = 0 ∧ c = ck + 1 ∧ m = nd ∧ IsSt w' sb g tb nd (ck + 1) (Tr.put k (wrEn k ⟨#[]⟩ true nd ck) (tof (wrEn k ⟨#[]⟩ true nd ck)) T) (n + Tr.putC k (wrEn k ⟨#[]⟩ true nd ck) (tof (wrEn k ⟨#[]⟩ true nd ck)) T))) := by
  have B0 := aside (bnew w (.cells #[.int .i64 0, .int .i64 0] 42))
  have G0 := aside (heap_alloc_new w (.cells #[.int .i64 0, .int .i64 0] 42))
  have H := aside (h.alloc (.cells #[.int .i64 0, .int .i64 0] 42))
  have C := aside (swrite k ⟨#[]⟩ true H.out (L.keep B0.out) hH hl)
  clear h L hH hl
  go_enter Tryd.func21, Tryd.ntmps21
  go_wp2_with fail
  refine C.out.mono ?_
  rintro r w1 ⟨c, m, er, rfl, he, k1, hs⟩
  have HE := aside he
  have HS := aside hs
  have K1 := aside ((Keeps.of_below B0.out _).trans k1)
  have G1 := aside (blk_keep G0.out k1 (H.out.not G0.out (by decide) (by decide) (by decide)))
  clear he hs k1 C G0 B0 H
  obtain ⟨s0, s1, z0, z1⟩ := pair G1.out
  go_wp2
  rcases HS.out with ⟨h1, h2, h3, h4⟩ | ⟨h1, h2, h3, h4⟩
  · have E := ver_end (i := 0) h4 K1.out G1.out c m
    exact bodyPost_ret (v := .tuple #[.agg #[.int .i64 c, .int .i64 m], .int .i64 er]) (by simp [results, Tryd.results21, go_sem, s0, s1]) rfl ⟨c, m, er, rfl, HE.out, E.2, .inl ⟨h1, h2, h3, E.1⟩⟩
  · have E := ver_end (i := 0) h4 K1.out G1.out c m
    exact bodyPost_ret (v := .tuple #[.agg #[.int .i64 c, .int .i64 m], .int .i64 er]) (by simp [results, Tryd.results21, go_sem, s0, s1]) rfl ⟨c, m, er, rfl, HE.out, E.2, .inr ⟨h1, h2, h3, E.1⟩⟩
/-- What Take does: refused by a number, passed by, or taken. -/
def tkSay (e : En) (Ls : List En) : Int × Bool :=
  if e.chk ≠ 0 then (e.chk, false) else if roomB e.k Ls = false then (80, false) else
    match lookE e.k Ls with
    | none => (0, true)
    | some o => (0, En.newer e o)
theorem old_lay {w X : World} {sb g tb ob : Nat} {nd ck : Int} {T : Tr En Tl} {n : Nat} {cs : Array Value} {x0 x1 x2 x3 x4 : Value} {o : En} (h : IsSt X sb g tb nd ck T n) (b : Below w.heap.size w X) (L : Lanes X) (g0 : X.heap[w.heap.size]? = some (.cells cs 44 (0, 0))) (gv : X.heap[ob]? = some (.cells #[x0, x1, x2, x3, x4] 44 (0, 0))) (hv : w.heap.size < ob) :
    (fun Y : World => IsSt Y sb g tb nd ck T n ∧ Below w.heap.size w Y ∧ Lanes Y ∧ Y.heap[w.heap.size]? = some (.cells cs 44 (0, 0)) ∧ Y.heap[ob]? = some (.cells #[.string o.k, .int .i64 o.c, .int .i64 o.n, .string o.v, .bool o.d] 44 (0, 0))) (setE X ob o) := by
  have hn := h.not gv (by decide) (by decide) (by decide)
  have kk : Keeps (fun x => x = ob) X (setE X ob o) := (Keeps.refl (fun x => x = ob) X).setE (fun _ => rfl) o
  obtain ⟨p, ht, hT⟩ := h.tree
  refine ⟨⟨(setE_other _ _ _ _ (fun e => hn (.inl e.symm))).trans h.blk, fun b' e => (setE_other _ _ _ _ (fun e2 => hn (.inr (.inr (by cases e; exact e2.symm))))).trans (h.cnt b' e), ⟨p, (setE_other _ _ _ _ (fun e => hn (.inr (.inl e.symm)))).trans ht, hT.on ((Stay.refl _ X).keeps kk (fun i cs' hi e => by subst e; rw [gv] at hi; simp at hi))⟩⟩, ?_, L.keeps kk (fun e => ?_), (setE_other _ _ _ _ (by omega)).trans g0, setE_same gv o⟩
  · have k2 : Keeps (fun x => w.heap.size ≤ x) X (setE X ob o) := kk.mono (fun _ _ e => by subst e; omega)
    exact b.trans (k2.below b.size (fun k hk e => by omega))
  · have h3 := L.c5
    rw [show World.cell? X ⟨0, 5, none⟩ = none from by rw [← e] at gv; simp [World.cell?, gv]] at h3
    cases h3
set_option maxHeartbeats 3200000 in
set_option maxRecDepth 100000 in
theorem stake (e : En) {Ls : List En} {w : World} {sb g tb : Nat} {nd ck : Int} {T : Tr En Tl} {n : Nat} (h : IsSt w sb g tb nd ck T n) (L : Lanes w) (hH : Hol T Ls) (hl : Ls.length ≤ 1000000) :
    Calls Tryd.prog 20 #[.pointer (some ⟨sb, 0, none⟩), .agg #[.string e.k, .int .i64 e.c, .int .i64 e.n, .string e.v, .bool e.d]] w fun r w' => r = .returned (.tuple #[.bool (tkSay e Ls).2, .int .i64 (tkSay e Ls).1]) ∧ Keeps (Of sb g tb) w w' ∧
      (((tkSay e Ls).2 = false ∧ IsSt w' sb g tb nd ck T n) ∨ ((tkSay e Ls).2 = true ∧ IsSt w' sb g tb nd (ckm ck e.c) (Tr.put e.k e (tof e) T) (n + Tr.putC e.k e (tof e) T))) := by
  have B0 := aside (bnew w (.cells #[.string e.k, .int .i64 e.c, .int .i64 e.n, .string e.v, .bool e.d] 44))
  have G0 := aside (heap_alloc_new w (.cells #[.string e.k, .int .i64 e.c, .int .i64 e.n, .string e.v, .bool e.d] 44))
  have H := aside (h.alloc (.cells #[.string e.k, .int .i64 e.c, .int .i64 e.n, .string e.v, .bool e.d] 44))
  have LL := aside (L.keep B0.out)
  obtain ⟨q0, q1, q2, q3, q4, -⟩ := penta G0.out
  obtain ⟨c, hc⟩ : ∃ c, e.chk = c := ⟨_, rfl⟩
  have CK := aside (fun (W : World) => ichk_any e.k e.c e.n e.v e.d W)
  rw [show En.chk ⟨e.k, e.c, e.n, e.v, e.d⟩ = c from hc] at CK
  by_cases h0 : c = 0
  · subst h0
    have hkk : e.k.size ≤ 16 := by
      by_cases hx : (16 : Int) < e.k.size
      · unfold En.chk at hc; rw [if_pos hx] at hc; cases hc
      · omega
    have CR := aside (fun (W : World) (h : IsSt W sb g tb nd ck T n) => sroom e.k h hH hl)
    cases h3 : roomB e.k Ls
    · have ht : tkSay e Ls = (80, false) := by unfold tkSay; rw [if_neg (by rw [hc]; decide), if_pos h3]
      have HT := aside ht
      rw [h3] at CR
      clear h L hH hl hc h3 ht
      go_enter Tryd.func20, Tryd.ntmps20
      go_wp2_with fail
      refine (CK.out _).mono ?_
      rintro r w1 ⟨rfl, b1⟩
      have H1 := aside (H.out.below b1)
      have B1 := aside (bthen B0.out b1)
      obtain ⟨p0, -⟩ := penta (blk_on G0.out b1)
      clear b1 q0 q1 q2 q3 q4
      go_wp2_with fail
      refine (CR.out _ H1.out).mono ?_
      rintro r w2 ⟨rfl, b2⟩
      have H2 := aside (H1.out.below b2)
      have B2 := aside (bthen B1.out b2)
      clear b2
      have ht := HT.out
      go_wp2
      go_ret2
      exact ⟨by rw [ht]; rfl, Keeps.of_below B2.out _, .inl ⟨by rw [ht], H2.out⟩⟩
    · rw [h3] at CR
      have CH := aside (fun (W : World) (h : IsSt W sb g tb nd ck T n) (hL : Lanes W) => shold e h hL hH hl (by omega))
      cases hL : lookE e.k Ls with
      | none =>
        have HT := aside (show tkSay e Ls = (0, true) from by unfold tkSay; rw [if_neg (by rw [hc]; decide), if_neg (by rw [h3]; decide), hL])
        obtain ⟨o, ho⟩ : ∃ o, (lookE e.k Ls).getD eNone = o := ⟨_, rfl⟩
        have CG := aside (fun (W : World) (h : TreeE W tb (jvE g) T) => yget_at e.k h hH hl ho (show (lookE e.k Ls).isSome = false from by rw [hL]; rfl))
        clear h L hH hl hc h3 hL ho
        go_enter Tryd.func20, Tryd.ntmps20
        go_wp2_with fail
        refine (CK.out _).mono ?_
        rintro r w0 ⟨rfl, b0⟩
        have H0 := aside (H.out.below b0)
        have B0' := aside (bthen B0.out b0)
        have G00 := aside (blk_on G0.out b0)
        have L0 := aside (LL.out.keep b0)
        obtain ⟨p0, -⟩ := penta G00.out
        clear b0 q0 q1 q2 q3 q4
        go_wp2_with fail
        refine (CR.out _ H0.out).mono ?_
        rintro r w1 ⟨rfl, b1⟩
        have H1 := aside (H0.out.below b1)
        have B1 := aside (bthen B0'.out b1)
        have G01 := aside (blk_on G00.out b1)
        have L1 := aside (L0.out.keep b1)
        clear b1 p0 H0 B0' G00 L0 H B0 G0 LL CK CR
        go_wp2_with fail
        refine wp_region_held_drew (S := fun X => X.cell? ⟨sb, 3, none⟩ = some (.pointer (some ⟨tb, 0, none⟩)) ∧ X.cell? ⟨w.heap.size, 0, none⟩ = some (.string e.k) ∧ X.cell? ⟨w.heap.size, 1, none⟩ = some (.int .i64 e.c) ∧ X.cell? ⟨w.heap.size, 2, none⟩ = some (.int .i64 e.n) ∧ X.cell? ⟨w.heap.size, 3, none⟩ = some (.string e.v) ∧ X.cell? ⟨w.heap.size, 4, none⟩ = some (.bool e.d)) (by kernel_rfl) (held_hold H1.out.drew G01.out) (fun hHeld => ?_)
        refine wpAnyH_take (i := 0) (v := ?_) rfl (by kernel_rfl) (by kernel_rfl) (by kernel_rfl) (fun _ _ _ h => h) (Or.inl ⟨by rfl, ?_⟩) (by assumption) ?_
        rotate_left
        · intro w hSw
          go_simp
          try with_reducible rfl
        simp only [Act.put, List.getElem_toArray, List.getElem_cons_zero, List.setIfInBounds_toArray, List.set_cons_zero, List.set_cons_succ]
        refine wpAnyH_take (i := 1) (v := ?_) rfl (by kernel_rfl) (by kernel_rfl) (by kernel_rfl) (fun _ _ _ h => h) (Or.inl ⟨by rfl, ?_⟩) (by assumption) ?_
        rotate_left
        · intro w hSw
          go_simp
          try with_reducible rfl
        simp only [Act.put, List.getElem_toArray, List.getElem_cons_zero, List.getElem_cons_succ, List.setIfInBounds_toArray, List.set_cons_zero, List.set_cons_succ]
        refine wpAnyH_take (i := 2) (v := ?_) rfl (by kernel_rfl) (by kernel_rfl) (by kernel_rfl) (fun _ _ _ h => h) (Or.inl ⟨by rfl, ?_⟩) (by assumption) ?_
        rotate_left
        · intro w hSw
          go_simp
          try with_reducible rfl
        simp only [Act.put, List.getElem_toArray, List.getElem_cons_zero, List.getElem_cons_succ, List.setIfInBounds_toArray, List.set_cons_zero, List.set_cons_succ]
        refine wpAnyH_take (i := 3) (v := ?_) rfl (by kernel_rfl) (by kernel_rfl) (by kernel_rfl) (fun _ _ _ h => h) (Or.inl ⟨by rfl, ?_⟩) (by assumption) ?_
        rotate_left
        · intro w hSw
          go_simp
          try with_reducible rfl
        simp only [Act.put, List.getElem_toArray, List.getElem_cons_zero, List.getElem_cons_succ, List.setIfInBounds_toArray, List.set_cons_zero, List.set_cons_succ]
        refine wpAnyH_take (i := 4) (v := ?_) rfl (by kernel_rfl) (by kernel_rfl) (by kernel_rfl) (fun _ _ _ h => h) (Or.inl ⟨by rfl, ?_⟩) (by assumption) ?_
        rotate_left
        · intro w hSw
          go_simp
          try with_reducible rfl
        simp only [Act.put, List.getElem_toArray, List.getElem_cons_zero, List.getElem_cons_succ, List.setIfInBounds_toArray, List.set_cons_zero, List.set_cons_succ]
        refine wpAnyH_take (i := 5) (v := ?_) rfl (by kernel_rfl) (by kernel_rfl) (by kernel_rfl) (fun _ _ _ h => h) (Or.inl ⟨by rfl, ?_⟩) (by assumption) ?_
        rotate_left
        · intro w hSw
          go_simp
          try with_reducible rfl
        simp only [Act.put, List.getElem_toArray, List.getElem_cons_zero, List.getElem_cons_succ, List.setIfInBounds_toArray, List.set_cons_zero, List.set_cons_succ]
        refine wpAnyH_ready (rs := [6, 10]) (by kernel_rfl) (by simp) ?_
        refine AllReadyH.cons rfl (fun K hK => ?_) (AllReadyH.cons rfl (fun K hK => ?_) AllReadyH.nil)
        · go_simp
          refine (CG.out _ H1.out.drew.tree).mono ?_
          rintro r w9 ⟨rfl, bb⟩
          have HX := aside (H1.out.drew.below bb)
          have G0X := aside (blk_on (show w1.drew.heap[w.heap.size]? = some _ from G01.out) bb)
          refine hK.out _ _ (held_hold HX.out G0X.out) (fun hHeld => ?_)
          clear hK K
          have H2 := aside (HX.out.alloc (.cells #[.string o.k, .int .i64 o.c, .int .i64 o.n, .string o.v, .bool o.d] 44))
          have B2 := aside (bthen (bthen B1.out.drew bb) (bnew _ (.cells #[.string o.k, .int .i64 o.c, .int .i64 o.n, .string o.v, .bool o.d] 44)))
          have G02 := aside (blk_on G0X.out (bnew _ (.cells #[.string o.k, .int .i64 o.c, .int .i64 o.n, .string o.v, .bool o.d] 44)))
          have L2 := aside ((L1.out.drew.keep bb).keep (bnew _ (.cells #[.string o.k, .int .i64 o.c, .int .i64 o.n, .string o.v, .bool o.d] 44)))
          have GO := aside (heap_alloc_new w9 (.cells #[.string o.k, .int .i64 o.c, .int .i64 o.n, .string o.v, .bool o.d] 44))
          clear bb
          refine wpAnyH_take (i := 7) (v := ?_) rfl (by kernel_rfl) (by kernel_rfl) (by kernel_rfl) (fun _ _ _ h => h) (Or.inl ⟨by rfl, ?_⟩) (by assumption) ?_
          rotate_left
          · intro w hSw
            go_simp
            try with_reducible rfl
          simp only [Act.put, List.getElem_toArray, List.getElem_cons_zero, List.getElem_cons_succ, List.setIfInBounds_toArray, List.set_cons_zero, List.set_cons_succ]
          refine wpAnyH_take (i := 8) (v := ?_) rfl (by kernel_rfl) (by kernel_rfl) (by kernel_rfl) (fun _ _ _ h => h) (Or.inl ⟨by rfl, ?_⟩) (by assumption) ?_
          rotate_left
          · intro w hSw
            go_simp
            try with_reducible rfl
          simp only [Act.put, List.getElem_toArray, List.getElem_cons_zero, List.getElem_cons_succ, List.setIfInBounds_toArray, List.set_cons_zero, List.set_cons_succ]
          refine wpAnyH_take (i := 9) (v := ?_) rfl (by kernel_rfl) (by kernel_rfl) (by kernel_rfl) (fun _ _ _ h => h) (Or.inl ⟨by rfl, ?_⟩) (by assumption) ?_
          rotate_left
          · intro w hSw
            go_simp
            try with_reducible rfl
          simp only [Act.put, List.getElem_toArray, List.getElem_cons_zero, List.getElem_cons_succ, List.setIfInBounds_toArray, List.set_cons_zero, List.set_cons_succ]
          refine wpAnyH_ready (rs := [10]) (by kernel_rfl) (by simp) ?_
          refine AllReadyH.cons rfl (fun K hK => ?_) AllReadyH.nil
          go_simp
          refine hK.out _ _ (held_hold (HX.out.alloc _) (blk_on G0X.out (bnew _ _))) (fun hHeld => ?_)
          clear hK K 
          refine wpAnyH_ready (rs := [11]) (by kernel_rfl) (by simp) ?_
          refine AllReadyH.cons rfl (fun K hK => ?_) AllReadyH.nil
          go_simp
          refine hK.out _ _ (held_hold (HX.out.alloc _) (blk_on G0X.out (bnew _ _))) (fun hHeld => ?_)
          clear hK K 
          refine wpAnyH_take (i := 12) (v := ?_) rfl (by kernel_rfl) (by kernel_rfl) (by kernel_rfl) (fun _ _ _ h => h) (Or.inl ⟨by rfl, ?_⟩) (by assumption) ?_
          rotate_left
          · intro w hSw
            go_simp
            try with_reducible rfl
          simp only [Act.put, List.getElem_toArray, List.getElem_cons_zero, List.getElem_cons_succ, List.setIfInBounds_toArray, List.set_cons_zero, List.set_cons_succ]
          refine wpAnyH_done (by kernel_rfl) ?_ _
          clear hHeld HX G0X H1 B1 G01 L1 CG
          generalize w9.alloc (.cells #[.string o.k, .int .i64 o.c, .int .i64 o.n, .string o.v, .bool o.d] 44) = X at *
          generalize w9.heap.size = ob at *
          obtain ⟨q0, q1, q2, q3, q4, -⟩ := penta G02.out
          obtain ⟨o0, o1, o2, o3, o4, -⟩ := penta GO.out
          have ht := HT.out
          go_wp2_with fail
          refine (CH.out _ H2.out L2.out).mono ?_
          rintro r w5 ⟨rfl, h5, k5⟩
          have H5 := aside h5
          have K5 := aside ((Keeps.of_below B2.out _).trans k5)
          clear h5 k5 q0 q1 q2 q3 q4 o0 o1 o2 o3 o4
          go_wp2
          go_ret2
          exact ⟨by rw [ht]; rfl, K5.out, .inr ⟨by rw [ht], H5.out⟩⟩
        · go_simp
          refine hK.out _ _ (held_hold (H1.out.alloc _).drew (show (w1.alloc (.cells #[.string ⟨#[]⟩, .int .i64 0, .int .i64 0, .string ⟨#[]⟩, .bool false] 44)).drew.heap[w.heap.size]? = some _ from blk_on G01.out (bnew _ _).drew)) (fun hHeld => ?_)
          clear hK K
          have HX := aside (H1.out.alloc (.cells #[.string ⟨#[]⟩, .int .i64 0, .int .i64 0, .string ⟨#[]⟩, .bool false] 44)).drew
          have GX := aside (show (w1.alloc (.cells #[.string ⟨#[]⟩, .int .i64 0, .int .i64 0, .string ⟨#[]⟩, .bool false] 44)).drew.heap[w1.heap.size]? = some (.cells #[.string ⟨#[]⟩, .int .i64 0, .int .i64 0, .string ⟨#[]⟩, .bool false] 44 (0, 0)) from heap_alloc_new w1 _)
          have BX := aside (bthen B1.out (bnew _ (.cells #[.string ⟨#[]⟩, .int .i64 0, .int .i64 0, .string ⟨#[]⟩, .bool false] 44))).drew
          have G0X := aside (show (w1.alloc (.cells #[.string ⟨#[]⟩, .int .i64 0, .int .i64 0, .string ⟨#[]⟩, .bool false] 44)).drew.heap[w.heap.size]? = some _ from blk_on G01.out (bnew _ _).drew)
          have LX := aside (L1.out.keep (bnew _ (.cells #[.string ⟨#[]⟩, .int .i64 0, .int .i64 0, .string ⟨#[]⟩, .bool false] 44))).drew
          have HV := aside (show w.heap.size < w1.heap.size from lt_of_blk G01.out)
          clear H1 B1 G01 L1
          generalize w1.heap.size = ob at *
          refine wpAnyH_ready (rs := [6]) (by kernel_rfl) (by simp) ?_
          refine AllReadyH.cons rfl (fun K hK => ?_) AllReadyH.nil
          go_simp
          refine (CG.out _ HX.out.tree).mono ?_
          rintro e w9 ⟨rfl, bb⟩
          refine hK.out _ _ (held_hold (HX.out.below bb) (blk_on G0X.out bb)) (fun hHeld => ?_)
          clear hK K 
          have HY := aside (HX.out.below bb)
          have GY := aside (blk_on GX.out bb)
          have BY := aside (BX.out.trans (bb.mono BX.out.size))
          have G0Y := aside (blk_on G0X.out bb)
          have LY := aside (LX.out.keep bb)
          clear bb
          refine wpAnyH_take (i := 7) (v := ?_) rfl (by kernel_rfl) (by kernel_rfl) (by kernel_rfl) (fun _ _ _ h => h) (Or.inl ⟨by rfl, ?_⟩) (by assumption) ?_
          rotate_left
          · intro w hSw
            go_simp
            try with_reducible rfl
          simp only [Act.put, List.getElem_toArray, List.getElem_cons_zero, List.getElem_cons_succ, List.setIfInBounds_toArray, List.set_cons_zero, List.set_cons_succ]
          refine wpAnyH_take (i := 8) (v := ?_) rfl (by kernel_rfl) (by kernel_rfl) (by kernel_rfl) (fun _ _ _ h => h) (Or.inl ⟨by rfl, ?_⟩) (by assumption) ?_
          rotate_left
          · intro w hSw
            go_simp
            try with_reducible rfl
          simp only [Act.put, List.getElem_toArray, List.getElem_cons_zero, List.getElem_cons_succ, List.setIfInBounds_toArray, List.set_cons_zero, List.set_cons_succ]
          refine wpAnyH_take (i := 9) (v := ?_) rfl (by kernel_rfl) (by kernel_rfl) (by kernel_rfl) (fun _ _ _ h => h) (Or.inl ⟨by rfl, ?_⟩) (by assumption) ?_
          rotate_left
          · intro w hSw
            go_simp
            try with_reducible rfl
          simp only [Act.put, List.getElem_toArray, List.getElem_cons_zero, List.getElem_cons_succ, List.setIfInBounds_toArray, List.set_cons_zero, List.set_cons_succ]
          obtain ⟨u0, u1, u2, u3, u4, z0, z1, z2, z3, z4⟩ := penta GY.out
          have E9 := aside (old_lay (o := o) HY.out BY.out LY.out G0Y.out GY.out HV.out)
          unfold setE at E9
          refine wpAnyH_ready (rs := [11]) (by kernel_rfl) (by simp) ?_
          refine AllReadyH.cons rfl (fun K hK => ?_) AllReadyH.nil
          go_simp
          refine hK.out _ _ (held_hold E9.out.1 E9.out.2.2.2.1) (fun hHeld => ?_)
          clear hK K 
          refine wpAnyH_take (i := 12) (v := ?_) rfl (by kernel_rfl) (by kernel_rfl) (by kernel_rfl) (fun _ _ _ h => h) (Or.inl ⟨by rfl, ?_⟩) (by assumption) ?_
          rotate_left
          · intro w hSw
            go_simp
            try with_reducible rfl
          simp only [Act.put, List.getElem_toArray, List.getElem_cons_zero, List.getElem_cons_succ, List.setIfInBounds_toArray, List.set_cons_zero, List.set_cons_succ]
          refine wpAnyH_done (by kernel_rfl) ?_ _
          clear hHeld u0 u1 u2 u3 u4 z0 z1 z2 z3 z4 HX GX BX G0X LX HY GY BY G0Y LY CG
          generalize ((((w9.setCell ⟨ob, 0, none⟩ (.string o.k)).setCell ⟨ob, 1, none⟩ (.int .i64 o.c)).setCell ⟨ob, 2, none⟩ (.int .i64 o.n)).setCell ⟨ob, 3, none⟩ (.string o.v)).setCell ⟨ob, 4, none⟩ (.bool o.d) = X at *
          obtain ⟨H2', B2', L2', G02', GO'⟩ := E9.out
          have H2 := aside H2'
          have B2 := aside B2'
          have L2 := aside L2'
          have G02 := aside G02'
          have GO := aside GO'
          clear H2' B2' L2' G02' GO' E9
          obtain ⟨q0, q1, q2, q3, q4, -⟩ := penta G02.out
          obtain ⟨o0, o1, o2, o3, o4, -⟩ := penta GO.out
          have ht := HT.out
          go_wp2_with fail
          refine (CH.out _ H2.out L2.out).mono ?_
          rintro r w5 ⟨rfl, h5, k5⟩
          have H5 := aside h5
          have K5 := aside ((Keeps.of_below B2.out _).trans k5)
          clear h5 k5 q0 q1 q2 q3 q4 o0 o1 o2 o3 o4
          go_wp2
          go_ret2
          exact ⟨by rw [ht]; rfl, K5.out, .inr ⟨by rw [ht], H5.out⟩⟩

      | some o =>
        obtain ⟨nw, hnw⟩ : ∃ nw, En.newer e o = nw := ⟨_, rfl⟩
        have HT := aside (show tkSay e Ls = (0, nw) from by unfold tkSay; rw [if_neg (by rw [hc]; decide), if_neg (by rw [h3]; decide), hL]; simp only [hnw])
        have CG := aside (fun (W : World) (h : TreeE W tb (jvE g) T) => yget_at (o := o) e.k h hH hl (by rw [hL]; rfl) (show (lookE e.k Ls).isSome = true from by rw [hL]; rfl))
        have CW := aside (fun (W : World) => newer_any e.k e.c e.n e.v e.d o.k o.c o.n o.v o.d nw W hnw)
        clear h L hH hl hc h3 hL hnw
        go_enter Tryd.func20, Tryd.ntmps20
        go_wp2_with fail
        refine (CK.out _).mono ?_
        rintro r w0 ⟨rfl, b0⟩
        have H0 := aside (H.out.below b0)
        have B0' := aside (bthen B0.out b0)
        have G00 := aside (blk_on G0.out b0)
        have L0 := aside (LL.out.keep b0)
        obtain ⟨p0, -⟩ := penta G00.out
        clear b0 q0 q1 q2 q3 q4
        go_wp2_with fail
        refine (CR.out _ H0.out).mono ?_
        rintro r w1 ⟨rfl, b1⟩
        have H1 := aside (H0.out.below b1)
        have B1 := aside (bthen B0'.out b1)
        have G01 := aside (blk_on G00.out b1)
        have L1 := aside (L0.out.keep b1)
        clear b1 p0 H0 B0' G00 L0 H B0 G0 LL CK CR
        go_wp2_with fail
        refine wp_region_held_drew (S := fun X => X.cell? ⟨sb, 3, none⟩ = some (.pointer (some ⟨tb, 0, none⟩)) ∧ X.cell? ⟨w.heap.size, 0, none⟩ = some (.string e.k) ∧ X.cell? ⟨w.heap.size, 1, none⟩ = some (.int .i64 e.c) ∧ X.cell? ⟨w.heap.size, 2, none⟩ = some (.int .i64 e.n) ∧ X.cell? ⟨w.heap.size, 3, none⟩ = some (.string e.v) ∧ X.cell? ⟨w.heap.size, 4, none⟩ = some (.bool e.d)) (by kernel_rfl) (held_hold H1.out.drew G01.out) (fun hHeld => ?_)
        refine wpAnyH_take (i := 0) (v := ?_) rfl (by kernel_rfl) (by kernel_rfl) (by kernel_rfl) (fun _ _ _ h => h) (Or.inl ⟨by rfl, ?_⟩) (by assumption) ?_
        rotate_left
        · intro w hSw
          go_simp
          try with_reducible rfl
        simp only [Act.put, List.getElem_toArray, List.getElem_cons_zero, List.setIfInBounds_toArray, List.set_cons_zero, List.set_cons_succ]
        refine wpAnyH_take (i := 1) (v := ?_) rfl (by kernel_rfl) (by kernel_rfl) (by kernel_rfl) (fun _ _ _ h => h) (Or.inl ⟨by rfl, ?_⟩) (by assumption) ?_
        rotate_left
        · intro w hSw
          go_simp
          try with_reducible rfl
        simp only [Act.put, List.getElem_toArray, List.getElem_cons_zero, List.getElem_cons_succ, List.setIfInBounds_toArray, List.set_cons_zero, List.set_cons_succ]
        refine wpAnyH_take (i := 2) (v := ?_) rfl (by kernel_rfl) (by kernel_rfl) (by kernel_rfl) (fun _ _ _ h => h) (Or.inl ⟨by rfl, ?_⟩) (by assumption) ?_
        rotate_left
        · intro w hSw
          go_simp
          try with_reducible rfl
        simp only [Act.put, List.getElem_toArray, List.getElem_cons_zero, List.getElem_cons_succ, List.setIfInBounds_toArray, List.set_cons_zero, List.set_cons_succ]
        refine wpAnyH_take (i := 3) (v := ?_) rfl (by kernel_rfl) (by kernel_rfl) (by kernel_rfl) (fun _ _ _ h => h) (Or.inl ⟨by rfl, ?_⟩) (by assumption) ?_
        rotate_left
        · intro w hSw
          go_simp
          try with_reducible rfl
        simp only [Act.put, List.getElem_toArray, List.getElem_cons_zero, List.getElem_cons_succ, List.setIfInBounds_toArray, List.set_cons_zero, List.set_cons_succ]
        refine wpAnyH_take (i := 4) (v := ?_) rfl (by kernel_rfl) (by kernel_rfl) (by kernel_rfl) (fun _ _ _ h => h) (Or.inl ⟨by rfl, ?_⟩) (by assumption) ?_
        rotate_left
        · intro w hSw
          go_simp
          try with_reducible rfl
        simp only [Act.put, List.getElem_toArray, List.getElem_cons_zero, List.getElem_cons_succ, List.setIfInBounds_toArray, List.set_cons_zero, List.set_cons_succ]
        refine wpAnyH_take (i := 5) (v := ?_) rfl (by kernel_rfl) (by kernel_rfl) (by kernel_rfl) (fun _ _ _ h => h) (Or.inl ⟨by rfl, ?_⟩) (by assumption) ?_
        rotate_left
        · intro w hSw
          go_simp
          try with_reducible rfl
        simp only [Act.put, List.getElem_toArray, List.getElem_cons_zero, List.getElem_cons_succ, List.setIfInBounds_toArray, List.set_cons_zero, List.set_cons_succ]
        refine wpAnyH_ready (rs := [6, 10]) (by kernel_rfl) (by simp) ?_
        refine AllReadyH.cons rfl (fun K hK => ?_) (AllReadyH.cons rfl (fun K hK => ?_) AllReadyH.nil)
        · go_simp
          refine (CG.out _ H1.out.drew.tree).mono ?_
          rintro r w9 ⟨rfl, bb⟩
          have HX := aside (H1.out.drew.below bb)
          have G0X := aside (blk_on (show w1.drew.heap[w.heap.size]? = some _ from G01.out) bb)
          refine hK.out _ _ (held_hold HX.out G0X.out) (fun hHeld => ?_)
          clear hK K
          have H2 := aside (HX.out.alloc (.cells #[.string o.k, .int .i64 o.c, .int .i64 o.n, .string o.v, .bool o.d] 44))
          have B2 := aside (bthen (bthen B1.out.drew bb) (bnew _ (.cells #[.string o.k, .int .i64 o.c, .int .i64 o.n, .string o.v, .bool o.d] 44)))
          have G02 := aside (blk_on G0X.out (bnew _ (.cells #[.string o.k, .int .i64 o.c, .int .i64 o.n, .string o.v, .bool o.d] 44)))
          have L2 := aside ((L1.out.drew.keep bb).keep (bnew _ (.cells #[.string o.k, .int .i64 o.c, .int .i64 o.n, .string o.v, .bool o.d] 44)))
          have GO := aside (heap_alloc_new w9 (.cells #[.string o.k, .int .i64 o.c, .int .i64 o.n, .string o.v, .bool o.d] 44))
          clear bb
          refine wpAnyH_take (i := 7) (v := ?_) rfl (by kernel_rfl) (by kernel_rfl) (by kernel_rfl) (fun _ _ _ h => h) (Or.inl ⟨by rfl, ?_⟩) (by assumption) ?_
          rotate_left
          · intro w hSw
            go_simp
            try with_reducible rfl
          simp only [Act.put, List.getElem_toArray, List.getElem_cons_zero, List.getElem_cons_succ, List.setIfInBounds_toArray, List.set_cons_zero, List.set_cons_succ]
          refine wpAnyH_take (i := 8) (v := ?_) rfl (by kernel_rfl) (by kernel_rfl) (by kernel_rfl) (fun _ _ _ h => h) (Or.inl ⟨by rfl, ?_⟩) (by assumption) ?_
          rotate_left
          · intro w hSw
            go_simp
            try with_reducible rfl
          simp only [Act.put, List.getElem_toArray, List.getElem_cons_zero, List.getElem_cons_succ, List.setIfInBounds_toArray, List.set_cons_zero, List.set_cons_succ]
          refine wpAnyH_take (i := 9) (v := ?_) rfl (by kernel_rfl) (by kernel_rfl) (by kernel_rfl) (fun _ _ _ h => h) (Or.inl ⟨by rfl, ?_⟩) (by assumption) ?_
          rotate_left
          · intro w hSw
            go_simp
            try with_reducible rfl
          simp only [Act.put, List.getElem_toArray, List.getElem_cons_zero, List.getElem_cons_succ, List.setIfInBounds_toArray, List.set_cons_zero, List.set_cons_succ]
          refine wpAnyH_ready (rs := [10]) (by kernel_rfl) (by simp) ?_
          refine AllReadyH.cons rfl (fun K hK => ?_) AllReadyH.nil
          go_simp
          refine hK.out _ _ (held_hold (HX.out.alloc _) (blk_on G0X.out (bnew _ _))) (fun hHeld => ?_)
          clear hK K 
          refine wpAnyH_ready (rs := [11]) (by kernel_rfl) (by simp) ?_
          refine AllReadyH.cons rfl (fun K hK => ?_) AllReadyH.nil
          go_simp
          refine hK.out _ _ (held_hold (HX.out.alloc _) (blk_on G0X.out (bnew _ _))) (fun hHeld => ?_)
          clear hK K 
          refine wpAnyH_take (i := 12) (v := ?_) rfl (by kernel_rfl) (by kernel_rfl) (by kernel_rfl) (fun _ _ _ h => h) (Or.inl ⟨by rfl, ?_⟩) (by assumption) ?_
          rotate_left
          · intro w hSw
            go_simp
            try with_reducible rfl
          simp only [Act.put, List.getElem_toArray, List.getElem_cons_zero, List.getElem_cons_succ, List.setIfInBounds_toArray, List.set_cons_zero, List.set_cons_succ]
          refine wpAnyH_done (by kernel_rfl) ?_ _
          clear hHeld HX G0X H1 B1 G01 L1 CG
          generalize w9.alloc (.cells #[.string o.k, .int .i64 o.c, .int .i64 o.n, .string o.v, .bool o.d] 44) = X at *
          generalize w9.heap.size = ob at *
          obtain ⟨q0, q1, q2, q3, q4, -⟩ := penta G02.out
          obtain ⟨o0, o1, o2, o3, o4, -⟩ := penta GO.out
          go_wp2_with fail
          refine (CW.out _).mono ?_
          rintro r w4 ⟨rfl, b4⟩
          have H4 := aside (H2.out.below b4)
          have B4 := aside (bthen B2.out b4)
          have L4 := aside (L2.out.keep b4)
          obtain ⟨p0, p1, p2, p3, p4, -⟩ := penta (blk_on G02.out b4)
          clear b4 q0 q1 q2 q3 q4 o0 o1 o2 o3 o4
          cases nw with
          | false =>
            have ht := HT.out
            go_wp2
            go_ret2
            exact ⟨by rw [ht]; rfl, Keeps.of_below B4.out _, .inl ⟨by rw [ht], H4.out⟩⟩
          | true =>
            have ht := HT.out
            go_wp2_with fail
            refine (CH.out _ H4.out L4.out).mono ?_
            rintro r w5 ⟨rfl, h5, k5⟩
            have H5 := aside h5
            have K5 := aside ((Keeps.of_below B4.out _).trans k5)
            clear h5 k5
            go_wp2
            go_ret2
            exact ⟨by rw [ht]; rfl, K5.out, .inr ⟨by rw [ht], H5.out⟩⟩
        · go_simp
          refine hK.out _ _ (held_hold (H1.out.alloc _).drew (show (w1.alloc (.cells #[.string ⟨#[]⟩, .int .i64 0, .int .i64 0, .string ⟨#[]⟩, .bool false] 44)).drew.heap[w.heap.size]? = some _ from blk_on G01.out (bnew _ _).drew)) (fun hHeld => ?_)
          clear hK K
          have HX := aside (H1.out.alloc (.cells #[.string ⟨#[]⟩, .int .i64 0, .int .i64 0, .string ⟨#[]⟩, .bool false] 44)).drew
          have GX := aside (show (w1.alloc (.cells #[.string ⟨#[]⟩, .int .i64 0, .int .i64 0, .string ⟨#[]⟩, .bool false] 44)).drew.heap[w1.heap.size]? = some (.cells #[.string ⟨#[]⟩, .int .i64 0, .int .i64 0, .string ⟨#[]⟩, .bool false] 44 (0, 0)) from heap_alloc_new w1 _)
          have BX := aside (bthen B1.out (bnew _ (.cells #[.string ⟨#[]⟩, .int .i64 0, .int .i64 0, .string ⟨#[]⟩, .bool false] 44))).drew
          have G0X := aside (show (w1.alloc (.cells #[.string ⟨#[]⟩, .int .i64 0, .int .i64 0, .string ⟨#[]⟩, .bool false] 44)).drew.heap[w.heap.size]? = some _ from blk_on G01.out (bnew _ _).drew)
          have LX := aside (L1.out.keep (bnew _ (.cells #[.string ⟨#[]⟩, .int .i64 0, .int .i64 0, .string ⟨#[]⟩, .bool false] 44))).drew
          have HV := aside (show w.heap.size < w1.heap.size from lt_of_blk G01.out)
          clear H1 B1 G01 L1
          generalize w1.heap.size = ob at *
          refine wpAnyH_ready (rs := [6]) (by kernel_rfl) (by simp) ?_
          refine AllReadyH.cons rfl (fun K hK => ?_) AllReadyH.nil
          go_simp
          refine (CG.out _ HX.out.tree).mono ?_
          rintro e w9 ⟨rfl, bb⟩
          refine hK.out _ _ (held_hold (HX.out.below bb) (blk_on G0X.out bb)) (fun hHeld => ?_)
          clear hK K 
          have HY := aside (HX.out.below bb)
          have GY := aside (blk_on GX.out bb)
          have BY := aside (BX.out.trans (bb.mono BX.out.size))
          have G0Y := aside (blk_on G0X.out bb)
          have LY := aside (LX.out.keep bb)
          clear bb
          refine wpAnyH_take (i := 7) (v := ?_) rfl (by kernel_rfl) (by kernel_rfl) (by kernel_rfl) (fun _ _ _ h => h) (Or.inl ⟨by rfl, ?_⟩) (by assumption) ?_
          rotate_left
          · intro w hSw
            go_simp
            try with_reducible rfl
          simp only [Act.put, List.getElem_toArray, List.getElem_cons_zero, List.getElem_cons_succ, List.setIfInBounds_toArray, List.set_cons_zero, List.set_cons_succ]
          refine wpAnyH_take (i := 8) (v := ?_) rfl (by kernel_rfl) (by kernel_rfl) (by kernel_rfl) (fun _ _ _ h => h) (Or.inl ⟨by rfl, ?_⟩) (by assumption) ?_
          rotate_left
          · intro w hSw
            go_simp
            try with_reducible rfl
          simp only [Act.put, List.getElem_toArray, List.getElem_cons_zero, List.getElem_cons_succ, List.setIfInBounds_toArray, List.set_cons_zero, List.set_cons_succ]
          refine wpAnyH_take (i := 9) (v := ?_) rfl (by kernel_rfl) (by kernel_rfl) (by kernel_rfl) (fun _ _ _ h => h) (Or.inl ⟨by rfl, ?_⟩) (by assumption) ?_
          rotate_left
          · intro w hSw
            go_simp
            try with_reducible rfl
          simp only [Act.put, List.getElem_toArray, List.getElem_cons_zero, List.getElem_cons_succ, List.setIfInBounds_toArray, List.set_cons_zero, List.set_cons_succ]
          obtain ⟨u0, u1, u2, u3, u4, z0, z1, z2, z3, z4⟩ := penta GY.out
          have E9 := aside (old_lay (o := o) HY.out BY.out LY.out G0Y.out GY.out HV.out)
          unfold setE at E9
          refine wpAnyH_ready (rs := [11]) (by kernel_rfl) (by simp) ?_
          refine AllReadyH.cons rfl (fun K hK => ?_) AllReadyH.nil
          go_simp
          refine hK.out _ _ (held_hold E9.out.1 E9.out.2.2.2.1) (fun hHeld => ?_)
          clear hK K 
          refine wpAnyH_take (i := 12) (v := ?_) rfl (by kernel_rfl) (by kernel_rfl) (by kernel_rfl) (fun _ _ _ h => h) (Or.inl ⟨by rfl, ?_⟩) (by assumption) ?_
          rotate_left
          · intro w hSw
            go_simp
            try with_reducible rfl
          simp only [Act.put, List.getElem_toArray, List.getElem_cons_zero, List.getElem_cons_succ, List.setIfInBounds_toArray, List.set_cons_zero, List.set_cons_succ]
          refine wpAnyH_done (by kernel_rfl) ?_ _
          clear hHeld u0 u1 u2 u3 u4 z0 z1 z2 z3 z4 HX GX BX G0X LX HY GY BY G0Y LY CG
          generalize ((((w9.setCell ⟨ob, 0, none⟩ (.string o.k)).setCell ⟨ob, 1, none⟩ (.int .i64 o.c)).setCell ⟨ob, 2, none⟩ (.int .i64 o.n)).setCell ⟨ob, 3, none⟩ (.string o.v)).setCell ⟨ob, 4, none⟩ (.bool o.d) = X at *
          obtain ⟨H2', B2', L2', G02', GO'⟩ := E9.out
          have H2 := aside H2'
          have B2 := aside B2'
          have L2 := aside L2'
          have G02 := aside G02'
          have GO := aside GO'
          clear H2' B2' L2' G02' GO' E9
          obtain ⟨q0, q1, q2, q3, q4, -⟩ := penta G02.out
          obtain ⟨o0, o1, o2, o3, o4, -⟩ := penta GO.out
          go_wp2_with fail
          refine (CW.out _).mono ?_
          rintro r w4 ⟨rfl, b4⟩
          have H4 := aside (H2.out.below b4)
          have B4 := aside (bthen B2.out b4)
          have L4 := aside (L2.out.keep b4)
          obtain ⟨p0, p1, p2, p3, p4, -⟩ := penta (blk_on G02.out b4)
          clear b4 q0 q1 q2 q3 q4 o0 o1 o2 o3 o4
          cases nw with
          | false =>
            have ht := HT.out
            go_wp2
            go_ret2
            exact ⟨by rw [ht]; rfl, Keeps.of_below B4.out _, .inl ⟨by rw [ht], H4.out⟩⟩
          | true =>
            have ht := HT.out
            go_wp2_with fail
            refine (CH.out _ H4.out L4.out).mono ?_
            rintro r w5 ⟨rfl, h5, k5⟩
            have H5 := aside h5
            have K5 := aside ((Keeps.of_below B4.out _).trans k5)
            clear h5 k5
            go_wp2
            go_ret2
            exact ⟨by rw [ht]; rfl, K5.out, .inr ⟨by rw [ht], H5.out⟩⟩

  · have ht : tkSay e Ls = (c, false) := by unfold tkSay; rw [if_pos (by rw [hc]; exact h0), hc]
    have h0' : (c == 0) = false := beq_eq_false_iff_ne.2 h0
    have HT := aside ht
    clear h L hH hl hc h0 ht
    go_enter Tryd.func20, Tryd.ntmps20
    go_wp2_with fail
    refine (CK.out _).mono ?_
    rintro r w1 ⟨rfl, b1⟩
    have H1 := aside (H.out.below b1)
    have B1 := aside (bthen B0.out b1)
    clear b1 q0 q1 q2 q3 q4
    have ht := HT.out
    go_wp2
    go_ret2
    exact ⟨by rw [ht]; rfl, Keeps.of_below B1.out _, .inl ⟨by rw [ht], H1.out⟩⟩
end Go.Proofs.YtlbkcndmljlnmaaDoor
namespace Go.Proofs.YtlbkcndmljlnmaaDoor
open Go.RowKit
set_option linter.unusedVariables false
set_option maxHeartbeats 3200000 in
set_option maxRecDepth 100000 in
theorem sloadNil (nd : Int) (w : World) : Calls Tryd.prog 9 #[.int .i64 nd, .int .i64 0, .slice none 0 0] w fun e w' => Below w.heap.size w w' ∧
      ((nodeB nd = false ∧ e = .returned (.tuple #[.pointer none, .int .i64 1])) ∨ (nodeB nd = true ∧ ∃ sb g tb, e = .returned (.tuple #[.pointer (some ⟨sb, 0, none⟩), .int .i64 0]) ∧ IsSt w' sb g tb nd 0 .nil 0 ∧ w.heap.size ≤ sb ∧ w.heap.size ≤ g ∧ w.heap.size ≤ tb)) := by
  by_cases h1 : nd < 0
  · have HB := aside (node_no1 h1)
    go_enter Tryd.func9, Tryd.ntmps9
    go_wp2
    go_ret2
    exact ⟨Below.refl _ _, .inl ⟨HB.out, rfl⟩⟩
  · by_cases h2 : 8 ≤ nd
    · have HB := aside (node_no2 h2)
      go_enter Tryd.func9, Tryd.ntmps9
      go_wp2
      go_ret2
      exact ⟨Below.refl _ _, .inl ⟨HB.out, rfl⟩⟩
    · have HB := aside (node_yes h1 h2)
      have C := aside (sempty nd 0 w)
      go_enter Tryd.func9, Tryd.ntmps9
      go_wp2_with fail
      refine C.out.mono ?_
      rintro e w1 ⟨sb, g, tb, rfl, hs, b1, l1, l2, l3⟩
      have HS := aside hs
      have B1 := aside b1
      have HL := aside (show w.heap.size ≤ sb ∧ w.heap.size ≤ g ∧ w.heap.size ≤ tb from ⟨l1, l2, l3⟩)
      clear hs b1 l1 l2 l3 C
      go_wp2
      go_loopw [36] (fun i wr => i = .int .i64 0 ∧ wr = w1) (fun _ _ => 0)
      case atStart => exact ⟨rfl, rfl⟩
      case round =>
        obtain ⟨rfl, rfl⟩ := hrel
        go_wp2
        go_ret2
        exact ⟨B1.out, .inr ⟨HB.out, sb, g, tb, rfl, HS.out, HL.out⟩⟩
set_option maxHeartbeats 3200000 in
set_option maxRecDepth 100000 in
theorem snew (nd : Int) (w : World) : Calls Tryd.prog 17 #[.int .i64 nd] w fun e w' => Below w.heap.size w w' ∧
      ((nodeB nd = false ∧ e = .returned (.tuple #[.pointer none, .int .i64 1])) ∨ (nodeB nd = true ∧ ∃ sb g tb, e = .returned (.tuple #[.pointer (some ⟨sb, 0, none⟩), .int .i64 0]) ∧ IsSt w' sb g tb nd 0 .nil 0 ∧ w.heap.size ≤ sb ∧ w.heap.size ≤ g ∧ w.heap.size ≤ tb)) := by
  have C := aside (sloadNil nd w)
  go_enter Tryd.func17, Tryd.ntmps17
  go_wp2_with fail
  refine C.out.mono ?_
  rintro e w1 ⟨b1, ⟨hn, rfl⟩ | ⟨hn, sb, g, tb, rfl, hs, hl⟩⟩
  · have HB := aside hn
    have B1 := aside b1
    clear hn b1 C
    go_wp2
    go_ret2
    exact ⟨B1.out, .inl ⟨HB.out, rfl⟩⟩
  · have HB := aside hn
    have B1 := aside b1
    have HS := aside hs
    have HL := aside hl
    clear hn b1 C hs hl
    go_wp2
    go_ret2
    exact ⟨B1.out, .inr ⟨HB.out, sb, g, tb, rfl, HS.out, HL.out⟩⟩
end Go.Proofs.YtlbkcndmljlnmaaDoor
