/-
  goes of the statements: an iterator of a bag gives these packets.
-/
import Derived.Test.YteaaamhojiognaaBgAI
import Derived.Test.YteaaamhojiognaaBgHd
import Derived.Test.YteaaamhojiognaaBgP
namespace Go.Proofs.Yteaaamhojiognaa
open Go.RowKit Go.Shelf
set_option linter.unusedVariables false

attribute [local go_sem] Oper.semAt_some
theorem kf_belowB {C : Nat} {X Y : World} (h : Below X.heap.size X Y) : KeepsFrom C X Y := KeepsFrom.of_grownBy (grown_belowB h) (fun j e => by cases e)
theorem wpIn_region_until {P : Program} {id : Nat} {ops : Array Oper} {Q : Exit → Act → World → Prop} {S : World → Prop} {z : Nat} {a : Act} {w : World} {l n : Nat} (hm : P.follows .mixedOrders = true) (hd : noDefer ops = true) (hQ : ¬ LetsOut Q) (hS : S w.drew)
    (h : S w.drew → Until P .any ops Q S z ops.size (Array.replicate ops.size false) a w.drew) : (Code.region id ops true).wpIn (Fence.wide.inRound l) n P Q a w :=
  wpIn_region_any hm (wpAnyIn_round l n (noDefer_spec hd) hQ _ _ _ _ (Until.any _ _ _ _ (h hS)))
theorem own_geB {w : World} {B : Nat} {e : TypeId} {s : Nat} {v : Value} {n : Nat} {xs : List Value} (h : w.ownsRow B e s v n xs) {j : Nat} (hj : v.ownBlock = some j) : B ≤ j := by
  obtain ⟨a, c, rfl, h1, h2, ⟨rfl, -, -⟩ | ⟨g, rfl, h3, h4⟩⟩ := own_slice h
  · cases hj
  · have e : g = j := by simpa [Value.ownBlock] using hj
    omega
/-- The bytes of one packet are written over. -/
structure Wrote (X Y : World) (da : Option Addr) (dl dc : Nat) : Prop where
  k : Keeps (fun x => (Value.slice da dl dc).ownBlock = some x) X Y
  c : 0 < dl → ∃ g cur, da = some ⟨g, 0, none⟩ ∧ Y.heap[g]? = some (.cells cur 5 (0, 0)) ∧ dl ≤ cur.size
theorem Wrote.first {B : Nat} {X : World} {p : Pk} (h : Dat B X p) : Wrote X X p.da p.dl p.dc := by
  refine ⟨Keeps.refl _ _, fun h0 => ?_⟩
  rcases h.1.2 with ⟨e, -⟩ | ⟨g, cap, cur, e, hbg, hg, hnc, hcm, hcs, ht⟩
  · injection e with e1 e2 e3
    omega
  · injection e with e1 e2 e3
    exact ⟨g, cur, e1, hg, by omega⟩
/-- What goes keeps in its loop. -/
structure GIn (w : World) (q u : Nat) (a2 : Option Addr) (n c2 : Nat) (z : Int) (pre : List (Nat × Pk)) (X : World) : Prop where
  k0 : X.heap[q]? = some (.cells #[.func (.func 34) #[] #[.pointer (some ⟨u, 0, none⟩)], .slice a2 n c2] 51 (0, 0))
  k1 : X.heap[q + 1]? = some (.cells #[.int .i64 z] 3 (0, 0))
  k2 : X.heap[q + 1 + 1]? = some (.cells #[.bool false] 4 (0, 0))
  k3 : X.heap[q + 1 + 1 + 1]? = some (.cells #[.bool false] 4 (0, 0))
  k4 : X.heap[q + 1 + 1 + 1 + 1]? = some (.cells #[.int .i64 (pre.length : Int)] 3 (0, 0))
  bel : Below w.heap.size w X
theorem GIn.keep {w : World} {q u : Nat} {a2 : Option Addr} {n c2 : Nat} {z : Int} {pre : List (Nat × Pk)} {X Y : World} (h : GIn w q u a2 n c2 z pre X) (b : Below X.heap.size X Y) : GIn w q u a2 n c2 z pre Y :=
  ⟨blk_on h.k0 b, blk_on h.k1 b, blk_on h.k2 b, blk_on h.k3 b, blk_on h.k4 b, bthen h.bel b⟩
set_option maxHeartbeats 16000000 in
set_option maxRecDepth 100000 in
theorem goes_one {w : World} {u : Nat} {a : Option Addr} {n : Nat} {l : List Pk} {a2 : Option Addr} {c2 : Nat} {l2 : List Pk} (z : Int) (hb : w.heap[u]? = some (.cells #[.slice a n n] 48 (0, 0))) (hS : PkRow w a n n l) (hD : ∀ p ∈ l, Dat 0 w p) (hw : PkIn w a2 n c2 l2) (hD2 : ∀ p ∈ l2, ByIn w p.da p.dl p.dc p.L) (hpl : l2.map Pk.pl = l.map Pk.pl) (hn : n ≤ 512) :
    Calls Try.prog 22 #[.agg #[.func (.func 34) #[] #[.pointer (some ⟨u, 0, none⟩)], .slice a2 n c2], .int .i64 z, .bool false] w fun e w' => e = .returned (.bool true) ∧ Below w.heap.size w w' := by
  have HS := aside hS
  have HW := aside hw
  have HLN := aside hS.1
  have HMX := aside hn
  obtain ⟨q, hq⟩ : ∃ q, w.heap.size = q := ⟨_, rfl⟩
  obtain ⟨V, hV⟩ : ∃ V, (((((w.alloc (.cells #[.func (.func 34) #[] #[.pointer (some ⟨u, 0, none⟩)], .slice a2 n c2] 51)).alloc (.cells #[.int .i64 z] 3)).alloc (.cells #[.bool false] 4)).alloc (.cells #[.bool false] 4)).alloc (.cells #[.int .i64 0] 3)) = V := ⟨_, rfl⟩
  have BV := aside (show Below w.heap.size w V from by rw [← hV]; exact bthen (bthen (bthen (bthen (bnew w _) (bnew _ _)) (bnew _ _)) (bnew _ _)) (bnew _ _))
  have HQ := aside hq
  have I0 := aside (show GIn w q u a2 n c2 z [] V from by
    have e0 := heap_alloc_new w (.cells #[.func (.func 34) #[] #[.pointer (some ⟨u, 0, none⟩)], .slice a2 n c2] 51)
    have e1 := heap_alloc_new (w.alloc (.cells #[.func (.func 34) #[] #[.pointer (some ⟨u, 0, none⟩)], .slice a2 n c2] 51)) (.cells #[.int .i64 z] 3)
    have e2 := heap_alloc_new ((w.alloc (.cells #[.func (.func 34) #[] #[.pointer (some ⟨u, 0, none⟩)], .slice a2 n c2] 51)).alloc (.cells #[.int .i64 z] 3)) (.cells #[.bool false] 4)
    have e3 := heap_alloc_new (((w.alloc (.cells #[.func (.func 34) #[] #[.pointer (some ⟨u, 0, none⟩)], .slice a2 n c2] 51)).alloc (.cells #[.int .i64 z] 3)).alloc (.cells #[.bool false] 4)) (.cells #[.bool false] 4)
    have e4 := heap_alloc_new ((((w.alloc (.cells #[.func (.func 34) #[] #[.pointer (some ⟨u, 0, none⟩)], .slice a2 n c2] 51)).alloc (.cells #[.int .i64 z] 3)).alloc (.cells #[.bool false] 4)).alloc (.cells #[.bool false] 4)) (.cells #[.int .i64 0] 3)
    simp only [World.size_alloc] at e1 e2 e3 e4
    rw [hq] at e0 e1 e2 e3 e4
    refine ⟨?_, ?_, ?_, ?_, ?_, BV.out⟩
    · rw [← hV]; exact blk_on (blk_on (blk_on (blk_on e0 (bnew _ _)) (bnew _ _)) (bnew _ _)) (bnew _ _)
    · rw [← hV]; exact blk_on (blk_on (blk_on e1 (bnew _ _)) (bnew _ _)) (bnew _ _)
    · rw [← hV]; exact blk_on (blk_on e2 (bnew _ _)) (bnew _ _)
    · rw [← hV]; exact blk_on e3 (bnew _ _)
    · rw [← hV]; exact e4)
  have hfn : ∀ W, (binOp .eql 46 (.func (.func 34) #[] #[.pointer (some ⟨u, 0, none⟩)]) Value.nilFunc).run Try.prog W = .ok (.bool false) W := fun W => by kernel_rfl
  have HVQ := aside hV
  have SQ := aside (ball_seq (blk_on hb BV.out) (hS.on BV.out) (fun p hp => (hD p hp).on BV.out))
  have HB2 := aside hD2
  have HPL := aside hpl
  have HDD := aside hD
  have HBU := aside hb
  clear hb hS hD hw hD2 hpl hn hV
  refine (callsIn_wide (n := 5)).1 ?_
  refine callsIn_of_wp_marks Try.func22 rfl trivial ?_ rfl
  simp only [Try.ntmps22, List.size_toArray, List.length_cons, List.length_nil, Nat.reduceAdd, Nat.reduceSub, Array.replicate_succ, Array.replicate_zero, List.push_toArray, List.append_toArray, List.nil_append, List.cons_append]
  gi_wp2_with fail
  try rw [HVQ.out]
  have HVV := aside (show w.heap.size ≤ V.heap.size from BV.out.size)
  have QV := aside (show q + 1 + 1 + 1 + 1 < V.heap.size from lt_of_blk I0.out.k4)
  clear HVQ hq hfn
  have ownI : OwnFrom V.heap.size (fun (pre : List (Nat × Pk)) X => GIn w q u a2 n c2 z pre X) := fun s A Y row hs hg hr =>
    have hr' : ∀ r, row = some r → ∃ o : Obj, A.heap[r]? = some o ∧ o.isCells = false := fun r e => (hr r e).2
    ⟨cells_ownB hs.k0 hg hr', cells_ownB hs.k1 hg hr', cells_ownB hs.k2 hg hr', cells_ownB hs.k3 hg hr', cells_ownB hs.k4 hg hr', ownFrom_below (β := Unit) (Nat.le_refl w.heap.size) HVV.out () A Y row hs.bel hg hr⟩
  refine rangeY rfl (enters_of Try.func34 (by kernel_rfl) rfl) SQ.out KpB.t (fun W l o o' _ h ho => KpB.b W l o o' h ho) (Below.refl _ _) (fun _ => rfl)
    (fun (pre : List (Nat × Pk)) X => GIn w q u a2 n c2 z pre X) (fun (cd : Code) (pre : List (Nat × Pk)) (X : World) => cd = .exit 0 ∧ (pre.length : Int) = z ∧ GIn w q u a2 n c2 z pre X) ownI (fun cd s A Y row hs hg hr => ⟨hs.1, hs.2.1, ownI s A Y row hs.2.2 hg hr⟩) I0.out
    (fun ip x a' X => ∃ eb : Nat, a' = ⟨List.toArray ((.agg #[.func (.func 34) #[] #[.pointer (some ⟨u, 0, none⟩)], .slice a2 n c2]) :: (.int .i64 z) :: (.bool false) :: (.pointer (some ⟨q, 0, none⟩)) :: (.pointer (some ⟨q + 1, 0, none⟩)) :: (.pointer (some ⟨q + 1 + 1, 0, none⟩)) :: (.pointer (some ⟨q + 1 + 1 + 1, 0, none⟩)) :: (.pointer (some ⟨q + 1 + 1 + 1 + 1, 0, none⟩)) :: (.int .i64 (x.1 : Int)) :: (.pointer (some ⟨eb, 0, none⟩)) :: (undef) :: (undef) :: (.pointer (some ⟨q, 0, none⟩)) :: (.func (.func 34) #[] #[.pointer (some ⟨u, 0, none⟩)]) :: (.bool false) :: (.pointer (some ⟨q, 0, none⟩)) :: (.func (.func 34) #[] #[.pointer (some ⟨u, 0, none⟩)]) :: (.int .i64 (x.1 : Int)) :: (x.2.v) :: (undef) :: (undef) :: (undef) :: (undef) :: (undef) :: (undef) :: (undef) :: (undef) :: (undef) :: (undef) :: (undef) :: (undef) :: (undef) :: (undef) :: (undef) :: (undef) :: (undef) :: (undef) :: (undef) :: (undef) :: (undef) :: (undef) :: (undef) :: (undef) :: (undef) :: (undef) :: (undef) :: (undef) :: (undef) :: (undef) :: (undef) :: (undef) :: (undef) :: (undef) :: (undef) :: (undef) :: (undef) :: (undef) :: (undef) :: (undef) :: (undef) :: (undef) :: (undef) :: (undef) :: (undef) :: (undef) :: (undef) :: (undef) :: (undef) :: (undef) :: (undef) :: (undef) :: (undef) :: (undef) :: (undef) :: (undef) :: (undef) :: (undef) :: (undef) :: (undef) :: (undef) :: (undef) :: (undef) :: (undef) :: (undef) :: (undef) :: (undef) :: (undef) :: (undef) :: (undef) :: (undef) :: []), []⟩ ∧ X.heap[eb]? = some (.cells #[.int .i64 x.2.num, .int .i64 x.2.frm, .int .i64 x.2.dst, .slice x.2.da x.2.dl x.2.dc] 39 (0, 0)) ∧ OkO l V.heap.size ip x X)
    ?hAx ?assign ?body ?done ?stop
  case hAx =>
    rintro ip x a' _ A Y row ⟨eb, h1, h2, h3⟩ hg hr
    exact ⟨eb, h1, cells_ownB h2 hg (fun r e => (hr r e).2), h3.1, h3.2.own hg (fun r e => (hr r e).2)⟩
  case assign =>
    rintro l' ip x X K hok hi hK
    dsimp only [encP]
    obtain ⟨xi, num, frm, dst, da, dl, dc, L⟩ := x
    unfold Pk.v at *
    dsimp only at *
    gi_wp2
    have bb := bnew X (.cells #[.int .i64 num, .int .i64 frm, .int .i64 dst, .slice da dl dc] 39)
    exact hK _ _ (kf_belowB bb) (KpB.bel bb) (hi.keep bb) ⟨X.heap.size, rfl, heap_alloc_new X _, hok.1, hok.2.on bb⟩
  case body =>
    rintro l' ip ⟨xi, ⟨num, frm, dst, da, dl, dc, L⟩⟩ a' X hi ⟨eb, rfl, he, ⟨⟨p0, hp0, hxi, hpl0⟩, hdat⟩⟩ hlen
    obtain ⟨k, hk⟩ : ∃ k, ip.length = k := ⟨_, rfl⟩
    unfold Pk.v
    dsimp only at hxi hdat he hpl0 ⊢
    rw [hk] at hp0 hxi hlen
    subst hxi
    obtain ⟨p2, hp2, hpl2⟩ : ∃ p2, l2[xi]? = some p2 ∧ Pk.pl p2 = Pk.pl p0 := by
      have h9 := congrArg (fun t => t[xi]?) HPL.out
      simp only [List.getElem?_map, hp0, Option.map_some] at h9
      obtain ⟨p2, h1, h2⟩ := Option.map_eq_some_iff.1 h9
      exact ⟨p2, h1, h2⟩
    obtain ⟨num2, frm2, dst2, da2, dl2, dc2, L2⟩ := p2
    have HK := aside hk
    have HE := aside he
    have HI := aside hi
    have HDT := aside hdat
    have HLEN := aside hlen
    have HBY := aside (HB2.out _ (List.mem_of_getElem? hp2))
    have RS := aside (fun (W : World) (b : Below X.heap.size X W) => rsame_yes ⟨num, frm, dst, da, dl, dc, L⟩ ⟨num2, frm2, dst2, da2, dl2, dc2, L2⟩ W (hpl0.trans hpl2.symm) (HDT.out.on b).byIn (HBY.out.on (bthen HI.out.bel b)))
    obtain ⟨g, o, rfl, hrow⟩ : ∃ g o, a2 = some ⟨g, o, none⟩ ∧ ∀ (W : World), Below w.heap.size w W → W.cell? ⟨g, o + xi * 4, none⟩ = some (.int .i64 num2) ∧ W.cell? ⟨g, o + xi * 4 + 1, none⟩ = some (.int .i64 frm2) ∧ W.cell? ⟨g, o + xi * 4 + 2, none⟩ = some (.int .i64 dst2) ∧ W.cell? ⟨g, o + xi * 4 + 3, none⟩ = some (.slice da2 dl2 dc2) := by
      have hxn : xi < n := by have h1 := HLN.out; have h2 := HLEN.out; omega
      obtain ⟨h1, h2, h3, ⟨h4, h5, h6⟩ | ⟨g, o, h4, h5, h6⟩⟩ := HW.out
      · omega
      · refine ⟨g, o, h4, fun W b => ?_⟩
        have c : ∀ r u, r < 4 → (pkVals ⟨num2, frm2, dst2, da2, dl2, dc2, L2⟩)[r]? = some u → W.cell? ⟨g, o + (xi * 4 + r), none⟩ = some u := fun r u hr hu => by
          have h7 := h6 _ _ (by rw [pkCells_at l2 xi r _ hp2 hr]; exact hu)
          have h8 := World.block_lt_of_cell? w _ h7
          rw [World.cell?_of_block (w := w) (b.block _ h8)]
          exact h7
        exact ⟨by simpa using c 0 _ (by omega) rfl, by simpa [Nat.add_assoc] using c 1 _ (by omega) rfl, by simpa [Nat.add_assoc] using c 2 _ (by omega) rfl, by simpa [Nat.add_assoc] using c 3 _ (by omega) rfl⟩
    have HROW := aside hrow
    have hkn : ¬ (n : Int) ≤ (xi : Int) := by have h1 := HLN.out; have h2 := HLEN.out; omega
    have hkn' : (xi : Int) < (n : Int) := by omega
    have hk0 : (0 : Int) ≤ (xi : Int) := by omega
    have SX := aside (fun (Y : World) (b : Below X.heap.size X Y) => (show (Y.cell? ⟨q + 1 + 1 + 1 + 1, 0, none⟩ = some (.int .i64 (xi : Int)) ∧ Y.cell? ⟨q, 1, none⟩ = some (.slice (some ⟨g, o, none⟩) n c2) ∧ Y.cell? ⟨eb, 0, none⟩ = some (.int .i64 num) ∧ Y.cell? ⟨eb, 1, none⟩ = some (.int .i64 frm) ∧ Y.cell? ⟨eb, 2, none⟩ = some (.int .i64 dst) ∧ Y.cell? ⟨eb, 3, none⟩ = some (.slice da dl dc)) ∧ Y.cell? ⟨g, o + xi * 4, none⟩ = some (.int .i64 num2) ∧ Y.cell? ⟨g, o + xi * 4 + 1, none⟩ = some (.int .i64 frm2) ∧ Y.cell? ⟨g, o + xi * 4 + 2, none⟩ = some (.int .i64 dst2) ∧ Y.cell? ⟨g, o + xi * 4 + 3, none⟩ = some (.slice da2 dl2 dc2) from by
      have h0 := HI.out.keep b
      have h4 := h0.k4
      rw [HK.out] at h4
      exact ⟨⟨cell_one h4, (twoB h0.k0).2, fourB (blk_on HE.out b)⟩, HROW.out Y h0.bel⟩))
    unfold Pk.v at RS
    dsimp only at RS
    clear hp0 hpl0 hp2 hpl2 hrow he hi hdat hlen hk
    gi_wp2_with fail
    refine wpIn_region_until (z := 19) (S := fun Y => (Y.cell? ⟨q + 1 + 1 + 1 + 1, 0, none⟩ = some (.int .i64 (xi : Int)) ∧ Y.cell? ⟨q, 1, none⟩ = some (.slice (some ⟨g, o, none⟩) n c2) ∧ Y.cell? ⟨eb, 0, none⟩ = some (.int .i64 num) ∧ Y.cell? ⟨eb, 1, none⟩ = some (.int .i64 frm) ∧ Y.cell? ⟨eb, 2, none⟩ = some (.int .i64 dst) ∧ Y.cell? ⟨eb, 3, none⟩ = some (.slice da dl dc)) ∧ Y.cell? ⟨g, o + xi * 4, none⟩ = some (.int .i64 num2) ∧ Y.cell? ⟨g, o + xi * 4 + 1, none⟩ = some (.int .i64 frm2) ∧ Y.cell? ⟨g, o + xi * 4 + 2, none⟩ = some (.int .i64 dst2) ∧ Y.cell? ⟨g, o + xi * 4 + 3, none⟩ = some (.slice da2 dl2 dc2)) (by kernel_rfl) (by kernel_rfl) (fun ⟨_, _, h⟩ => h) (SX.out _ (Below.refl _ X).drew) (fun hHeld => ?_)
    refine Until.take (i := 0) (v := ?_) [4, 5, 9, 10, 19] rfl (by kernel_rfl) (by kernel_rfl) (by kernel_rfl) (by kernel_rfl) (by rfl) (by rfl) (by kernel_rfl) (fun _ _ _ h => h) (Or.inl ⟨by rfl, ?_⟩) (by assumption) ?_
    rotate_left
    · intro w hSw
      go_simp
      try first | with_reducible rfl | omega
    simp only [Act.put, List.getElem_toArray, List.getElem_cons_zero, List.setIfInBounds_toArray, List.set_cons_zero, List.set_cons_succ]
    refine Until.take (i := 1) (v := ?_) [2, 3, 4, 5, 9, 10, 19] rfl (by kernel_rfl) (by kernel_rfl) (by kernel_rfl) (by kernel_rfl) (by rfl) (by rfl) (by kernel_rfl) (fun _ _ _ h => h) (Or.inl ⟨by rfl, ?_⟩) (by assumption) ?_
    rotate_left
    · intro w hSw
      go_simp
      try first | with_reducible rfl | omega
    simp only [Act.put, List.getElem_toArray, List.getElem_cons_zero, List.getElem_cons_succ, List.setIfInBounds_toArray, List.set_cons_zero, List.set_cons_succ]
    refine Until.take (i := 2) (v := ?_) [3, 4, 5, 9, 10, 19] rfl (by kernel_rfl) (by kernel_rfl) (by kernel_rfl) (by kernel_rfl) (by rfl) (by rfl) (by kernel_rfl) (fun _ _ _ h => h) (Or.inl ⟨by rfl, ?_⟩) (by assumption) ?_
    rotate_left
    · intro w hSw
      go_simp
      try first | with_reducible rfl | omega
    simp only [Act.put, List.getElem_toArray, List.getElem_cons_zero, List.getElem_cons_succ, List.setIfInBounds_toArray, List.set_cons_zero, List.set_cons_succ]
    refine Until.take (i := 3) (v := ?_) [4, 5, 9, 10, 19] rfl (by kernel_rfl) (by kernel_rfl) (by kernel_rfl) (by kernel_rfl) (by rfl) (by rfl) (by kernel_rfl) (fun _ _ _ h => h) (Or.inl ⟨by rfl, ?_⟩) (by assumption) ?_
    rotate_left
    · intro w hSw
      go_simp
      try first | with_reducible rfl | omega
    simp only [Act.put, List.getElem_toArray, List.getElem_cons_zero, List.getElem_cons_succ, List.setIfInBounds_toArray, List.set_cons_zero, List.set_cons_succ]
    refine Until.take (i := 4) (v := .bool false) [5, 9, 10, 19] rfl (by kernel_rfl) (by kernel_rfl) (by kernel_rfl) (by kernel_rfl) (by rfl) (by rfl) (by kernel_rfl) (fun _ _ _ h => h) (Or.inl ⟨by rfl, ?_⟩) (by assumption) ?_
    · intro w hSw
      go_simp
      try first | with_reducible rfl | omega
    simp only [Act.put, List.getElem_toArray, List.getElem_cons_zero, List.getElem_cons_succ, List.setIfInBounds_toArray, List.set_cons_zero, List.set_cons_succ]
    refine Until.take (i := 5) (v := ?_) [9, 10, 19] rfl (by kernel_rfl) (by kernel_rfl) (by kernel_rfl) (by kernel_rfl) (by rfl) (by rfl) (by kernel_rfl) (fun _ _ _ h => h) (Or.inl ⟨by rfl, ?_⟩) (by assumption) ?_
    rotate_left
    · intro w hSw
      go_simp
      try first | with_reducible rfl | omega
    simp only [Act.put, List.getElem_toArray, List.getElem_cons_zero, List.getElem_cons_succ, List.setIfInBounds_toArray, List.set_cons_zero, List.set_cons_succ]
    refine Until.take (i := 6) (v := ?_) [8, 9, 10, 19] rfl (by kernel_rfl) (by kernel_rfl) (by kernel_rfl) (by kernel_rfl) (by rfl) (by rfl) (by kernel_rfl) (fun _ _ _ h => h) (Or.inl ⟨by rfl, ?_⟩) (by assumption) ?_
    rotate_left
    · intro w hSw
      go_simp
      try first | with_reducible rfl | omega
    simp only [Act.put, List.getElem_toArray, List.getElem_cons_zero, List.getElem_cons_succ, List.setIfInBounds_toArray, List.set_cons_zero, List.set_cons_succ]
    refine Until.take (i := 7) (v := ?_) [8, 9, 10, 19] rfl (by kernel_rfl) (by kernel_rfl) (by kernel_rfl) (by kernel_rfl) (by rfl) (by rfl) (by kernel_rfl) (fun _ _ _ h => h) (Or.inl ⟨by rfl, ?_⟩) (by assumption) ?_
    rotate_left
    · intro w hSw
      go_simp
      try first | with_reducible rfl | omega
    simp only [Act.put, List.getElem_toArray, List.getElem_cons_zero, List.getElem_cons_succ, List.setIfInBounds_toArray, List.set_cons_zero, List.set_cons_succ]
    refine Until.take (i := 8) (v := .bool false) [9, 10, 19] rfl (by kernel_rfl) (by kernel_rfl) (by kernel_rfl) (by kernel_rfl) (by rfl) (by rfl) (by kernel_rfl) (fun _ _ _ h => h) (Or.inl ⟨by rfl, ?_⟩) (by assumption) ?_
    · intro w hSw
      go_simp
      try first | with_reducible rfl | omega
    simp only [Act.put, List.getElem_toArray, List.getElem_cons_zero, List.getElem_cons_succ, List.setIfInBounds_toArray, List.set_cons_zero, List.set_cons_succ]
    refine Until.take (i := 9) (v := ?_) [10, 19] rfl (by kernel_rfl) (by kernel_rfl) (by kernel_rfl) (by kernel_rfl) (by rfl) (by rfl) (by kernel_rfl) (fun _ _ _ h => h) (Or.inl ⟨by rfl, ?_⟩) (by assumption) ?_
    rotate_left
    · intro w hSw
      go_simp
      try first | with_reducible rfl | omega
    simp only [Act.put, List.getElem_toArray, List.getElem_cons_zero, List.getElem_cons_succ, List.setIfInBounds_toArray, List.set_cons_zero, List.set_cons_succ]
    refine Until.take (i := 10) (v := ?_) [19] rfl (by kernel_rfl) (by kernel_rfl) (by kernel_rfl) (by kernel_rfl) (by rfl) (by rfl) (by kernel_rfl) (fun _ _ _ h => h) (Or.inl ⟨by rfl, ?_⟩) (by assumption) ?_
    rotate_left
    · intro w hSw
      go_simp
      try first | with_reducible rfl | omega
    simp only [Act.put, List.getElem_toArray, List.getElem_cons_zero, List.getElem_cons_succ, List.setIfInBounds_toArray, List.set_cons_zero, List.set_cons_succ]
    refine Until.take (i := 11) (v := ?_) [17, 18, 19] rfl (by kernel_rfl) (by kernel_rfl) (by kernel_rfl) (by kernel_rfl) (by rfl) (by rfl) (by kernel_rfl) (fun _ _ _ h => h) (Or.inl ⟨by rfl, ?_⟩) (by assumption) ?_
    rotate_left
    · intro w hSw
      go_simp
      try first | with_reducible rfl | omega
    simp only [Act.put, List.getElem_toArray, List.getElem_cons_zero, List.getElem_cons_succ, List.setIfInBounds_toArray, List.set_cons_zero, List.set_cons_succ]
    refine Until.take (i := 12) (v := ?_) [13, 15, 16, 17, 18, 19] rfl (by kernel_rfl) (by kernel_rfl) (by kernel_rfl) (by kernel_rfl) (by rfl) (by rfl) (by kernel_rfl) (fun _ _ _ h => h) (Or.inl ⟨by rfl, ?_⟩) (by assumption) ?_
    rotate_left
    · intro w hSw
      go_simp
      try first | with_reducible rfl | omega
    simp only [Act.put, List.getElem_toArray, List.getElem_cons_zero, List.getElem_cons_succ, List.setIfInBounds_toArray, List.set_cons_zero, List.set_cons_succ]
    refine Until.take (i := 13) (v := ?_) [15, 16, 17, 18, 19] rfl (by kernel_rfl) (by kernel_rfl) (by kernel_rfl) (by kernel_rfl) (by rfl) (by rfl) (by kernel_rfl) (fun _ _ _ h => h) (Or.inl ⟨by rfl, ?_⟩) (by assumption) ?_
    rotate_left
    · intro w hSw
      go_simp
      try first | with_reducible rfl | omega
    simp only [Act.put, List.getElem_toArray, List.getElem_cons_zero, List.getElem_cons_succ, List.setIfInBounds_toArray, List.set_cons_zero, List.set_cons_succ]
    refine Until.take (i := 14) (v := ?_) [15, 16, 17, 18, 19] rfl (by kernel_rfl) (by kernel_rfl) (by kernel_rfl) (by kernel_rfl) (by rfl) (by rfl) (by kernel_rfl) (fun _ _ _ h => h) (Or.inl ⟨by rfl, ?_⟩) (by assumption) ?_
    rotate_left
    · intro w hSw
      go_simp
      try first | with_reducible rfl | omega
    simp only [Act.put, List.getElem_toArray, List.getElem_cons_zero, List.getElem_cons_succ, List.setIfInBounds_toArray, List.set_cons_zero, List.set_cons_succ]
    refine Until.take (i := 15) (v := ?_) [16, 17, 18, 19] rfl (by kernel_rfl) (by kernel_rfl) (by kernel_rfl) (by kernel_rfl) (by rfl) (by rfl) (by kernel_rfl) (fun _ _ _ h => h) (Or.inl ⟨by rfl, ?_⟩) (by assumption) ?_
    rotate_left
    · intro w hSw
      go_simp
      try first | with_reducible rfl | omega
    simp only [Act.put, List.getElem_toArray, List.getElem_cons_zero, List.getElem_cons_succ, List.setIfInBounds_toArray, List.set_cons_zero, List.set_cons_succ]
    refine Until.take (i := 16) (v := ?_) [17, 18, 19] rfl (by kernel_rfl) (by kernel_rfl) (by kernel_rfl) (by kernel_rfl) (by rfl) (by rfl) (by kernel_rfl) (fun _ _ _ h => h) (Or.inl ⟨by rfl, ?_⟩) (by assumption) ?_
    rotate_left
    · intro w hSw
      go_simp
      try first | with_reducible rfl | omega
    simp only [Act.put, List.getElem_toArray, List.getElem_cons_zero, List.getElem_cons_succ, List.setIfInBounds_toArray, List.set_cons_zero, List.set_cons_succ]
    refine Until.step (i := 17) (by kernel_rfl) rfl (by rfl) (fun K' hK' => ?_)
    go_simp
    refine (RS.out _ (Below.refl _ X).drew).mono ?_
    rintro e X1 ⟨rfl, b1⟩
    have BX := aside (show Below X.heap.size X X1 from (Below.refl _ X).drew.trans b1)
    clear b1 RS
    refine hK'.out _ _ (SX.out _ BX.out) (fun hHeld => ?_)
    clear hK' K'
    refine Until.take (i := 18) (v := ?_) [19] rfl (by kernel_rfl) (by kernel_rfl) (by kernel_rfl) (by kernel_rfl) (by rfl) (by rfl) (by kernel_rfl) (fun _ _ _ h => h) (Or.inl ⟨by rfl, ?_⟩) (by assumption) ?_
    rotate_left
    · intro w hSw
      go_simp
      try first | with_reducible rfl | omega
    simp only [Act.put, List.getElem_toArray, List.getElem_cons_zero, List.getElem_cons_succ, List.setIfInBounds_toArray, List.set_cons_zero, List.set_cons_succ]
    refine Until.last (by kernel_rfl) rfl (fun K' hK' => ?_)
    rw [if_pos (by kernel_rfl)]
    go_simp
    refine hK'.out _ _ ?_
    clear hK' K'
    refine wpAny_of_held (S := fun _ => True) _ _ _ _ ?_
    have hHeld : True := trivial
    refine wpAnyH_done (by kernel_rfl) ?_ _
    clear hHeld
    replace HI := aside (HI.out.keep BX.out)
    replace HE := aside (blk_on HE.out BX.out)
    replace HDT := aside (HDT.out.on BX.out)
    have s2 := cell_one HI.out.k2
    obtain ⟨e0, e1, e2, e3⟩ := fourB HE.out
    have hdl : (dl : Int) ≤ 65536 := by have h1 := HDT.out.2; dsimp only at h1; omega
    have hdl0 : (dl : Int) ≤ 9223372036854775807 := by omega
    have W0 := aside (Wrote.first HDT.out)
    dsimp only at W0
    clear SX HBY HROW e0 e1 e2 hkn hkn'
    gi_wp2_with fail
    gi_loopw [59] (fun i Y => ∃ j : Nat, i = .int .i64 (j : Int) ∧ j ≤ dl ∧ Hid (Wrote X1 Y da dl dc)) (fun i _ => dl - (intOf i).toNat)
    case atStart => exact ⟨0, rfl, Nat.zero_le _, W0.out⟩
    case round =>
      clear s2 e3 W0
      obtain ⟨j, rfl, hj, WR⟩ := hrel
      have hj0 : (0 : Int) ≤ (j : Int) := by omega
      have hjn : (j : Int) ≤ 65536 := by omega
      have HE2 := aside (blk_keep HE.out WR.out.k (fun hs => own_typed HDT.out.1 HE.out (by decide) hs))
      obtain ⟨e0, e1, e2, e3⟩ := fourB HE2.out
      by_cases hlt : (j : Int) < (dl : Int)
      · obtain ⟨g5, cur, rfl, hg5, hsz⟩ := WR.out.c (by omega)
        have HG5 := aside hg5
        obtain ⟨z9, z0⟩ : ∃ z9, wr.cell? ⟨g5, j, none⟩ = some z9 := by
          rw [cell_of_row _ _ _ _ _ _ hg5]
          exact ⟨_, Array.getElem?_eq_getElem (by omega)⟩
        have f0 := frozen_of_row wr g5 j _ _ hg5
        have W2 := aside (show Wrote X1 (wr.setCell ⟨g5, j, none⟩ (.int .u8 63)) (some ⟨g5, 0, none⟩) dl dc from ⟨WR.out.k.setCell (p := ⟨g5, j, none⟩) (fun _ => rfl) _, fun _ => ⟨g5, _, rfl, set_inB j (.int .u8 63) HG5.out, by rw [Array.size_setIfInBounds]; exact hsz⟩⟩)
        clear hg5 e0 e1 e2
        gi_wp2
        go_roundw
        case rel => exact ⟨j + 1, by first | rfl | go_num, by omega, W2.out⟩
        case measure => simp [intOf] <;> omega
      · have NN := aside (fun (i : Nat) (cs : Array Value) (T : TypeId) (h : X1.heap[i]? = some (.cells cs T (0, 0))) (hT : T ≠ 5) => (show wr.heap[i]? = some (.cells cs T (0, 0)) from blk_keep h WR.out.k (fun hs => own_typed HDT.out.1 h (Ne.symm hT) hs)))
        have BW := aside (show Below w.heap.size w wr from HI.out.bel.trans (WR.out.k.below (B := w.heap.size) HI.out.bel.size (fun k hk hs => by have h1 := own_geB HDT.out.1 hs; have h2 := HVV.out; omega)))
        have GN := aside (show GIn w q u (some ⟨g, o, none⟩) n c2 z ip wr from ⟨NN.out _ _ _ HI.out.k0 (by decide), NN.out _ _ _ HI.out.k1 (by decide), NN.out _ _ _ HI.out.k2 (by decide), NN.out _ _ _ HI.out.k3 (by decide), NN.out _ _ _ HI.out.k4 (by decide), BW.out⟩)
        have HN4 := aside (show wr.heap[q + 1 + 1 + 1 + 1]? = some (.cells #[.int .i64 (xi : Int)] 3 (0, 0)) from by have h1 := GN.out.k4; rw [HK.out] at h1; exact h1)
        have n4 := cell_one HN4.out
        have nz := frozen_one HN4.out
        have hw1 : IntKind.i64.wrap ((xi : Int) + 1) = (xi : Int) + 1 := by have h1 := HLEN.out; have h2 := HLN.out; have h3 := HMX.out; rw [IntKind.wrap_i64]; omega
        have KK := aside ((Keeps.refl (fun x => x = q + 1 + 1 + 1 + 1) wr).setCell (p := ⟨q + 1 + 1 + 1 + 1, 0, none⟩) (fun _ => rfl) (.int .i64 ((xi : Int) + 1)))
        have HX3 := aside (show (wr.setCell ⟨q + 1 + 1 + 1 + 1, 0, none⟩ (.int .i64 ((xi : Int) + 1))).heap[q + 1 + 1 + 1 + 1]? = some (.cells #[.int .i64 ((xi : Int) + 1)] 3 (0, 0)) from by rw [heap_setCell_same wr (q + 1 + 1 + 1 + 1) 0 _ _ _ HN4.out]; rfl)
        have HLK := aside (show ((ip ++ [(xi, (⟨num, frm, dst, da, dl, dc, L⟩ : Pk))]).length : Int) = (xi : Int) + 1 from by rw [List.length_append, HK.out]; simp)
        have G3 := aside (show GIn w q u (some ⟨g, o, none⟩) n c2 z (ip ++ [(xi, (⟨num, frm, dst, da, dl, dc, L⟩ : Pk))]) (wr.setCell ⟨q + 1 + 1 + 1 + 1, 0, none⟩ (.int .i64 ((xi : Int) + 1))) from
          ⟨blk_keep GN.out.k0 KK.out (by omega), blk_keep GN.out.k1 KK.out (by omega), blk_keep GN.out.k2 KK.out (by omega), blk_keep GN.out.k3 KK.out (by omega), by rw [HLK.out]; exact HX3.out, BW.out.setCell (p := ⟨q + 1 + 1 + 1 + 1, 0, none⟩) (by show w.heap.size ≤ q + 1 + 1 + 1 + 1; rw [HQ.out]; omega) _⟩)
        have ST := aside (fun (T : TypeId) (hT : T ≠ 5) (hI : T ≠ 3) => (show Stay T X1 (wr.setCell ⟨q + 1 + 1 + 1 + 1, 0, none⟩ (.int .i64 ((xi : Int) + 1))) from fun i cs h => blk_keep (NN.out _ _ _ h hT) KK.out (fun e => by
          have h1 := NN.out _ _ _ h hT
          rw [e, HN4.out] at h1
          injection h1 with h1
          injection h1 with _ h1
          exact hI h1.symm)))
        have KP := aside ((KpB.bel (l := l) BX.out).t ⟨ST.out _ (by decide) (by decide), ST.out _ (by decide) (by decide), ST.out _ (by decide) (by decide), fun _ p hp => (HDD.out p hp).on G3.out.bel⟩)
        have KW := aside (show KeepsFrom V.heap.size X1 wr from ⟨WR.out.k.size, fun i ob _ hi hob => (WR.out.k.block i (Array.getElem?_eq_some_iff.1 hi).1 (fun e => by
          rcases HDT.out.1.2 with ⟨e2, -⟩ | ⟨g9, cap, cur, e2, hbg, hg9, -⟩
          · dsimp only at e2; rw [e2] at e; cases e
          · dsimp only at e2; rw [e2] at e
            have e3 : g9 = i := by simpa [Value.ownBlock] using e
            rw [e3, hi] at hg9
            injection hg9 with hg9
            rw [hg9] at hob
            cases hob)).trans hi⟩)
        have KF := aside (((kf_belowB (C := V.heap.size) BX.out).trans KW.out).trans ((KeepsOthers.setCell wr ⟨q + 1 + 1 + 1 + 1, 0, none⟩ (.int .i64 ((xi : Int) + 1))).from V.heap.size))
        have n5 := cell_one HX3.out
        have s1 := cell_one G3.out.k1
        have s2 := cell_one G3.out.k2
        clear e0 e1 e2 e3
        by_cases hkz : (xi : Int) + 1 = z
        · have hbz : ((xi : Int) + 1 == z) = true := by simpa using hkz
          have HZ := aside hkz
          clear hkz
          gi_wp2
          exact ⟨KF.out, rfl, HLK.out.trans HZ.out, G3.out⟩
        · have hbz : ((xi : Int) + 1 == z) = false := by simpa using hkz
          clear hkz
          gi_wp2
          exact ⟨KF.out, KP.out, G3.out⟩
  case done =>
    rintro D xs X hD hxs hi hK
    have c3 := cell_one hi.k4
    obtain ⟨c40, c41⟩ := twoB hi.k0
    have r0 := cell_one hi.k3
    have rz := frozen_one hi.k3
    have hll : (xs.length : Int) = (n : Int) := by have := HLN.out; omega
    have R6 := aside (show (X.setCell ⟨q + 1 + 1 + 1, 0, none⟩ (.bool true)).heap[q + 1 + 1 + 1]? = some (.cells #[.bool true] 4 (0, 0)) from by rw [heap_setCell_same _ (q + 1 + 1 + 1) 0 _ _ _ hi.k3]; rfl)
    have B6 := aside (hi.bel.setCell (p := ⟨q + 1 + 1 + 1, 0, none⟩) (by show w.heap.size ≤ q + 1 + 1 + 1; rw [HQ.out]; omega) (.bool true))
    rw [hll] at c3
    have s2 := cell_one hi.k2
    clear hi
    gi_wp2
    have hK1 := (KeepsOthers.setCell X ⟨q + 1 + 1 + 1, 0, none⟩ (.bool true)).same D _ hK rfl
    refine ⟨by simp, .inl ⟨_, _, rfl, run_takeDeferred hK1, ?_⟩⟩
    have d0 := cell_kept (cell_one R6.out) (grownBy_putObj' _ D (.deferred none)) (fun r e => by cases e; exact ⟨_, hK1, rfl⟩)
    refine ⟨.bool true, by simp [results, Try.f22, go_sem, d0], rfl, ?_⟩
    exact ownFrom_below (β := Unit) (Nat.le_refl w.heap.size) HVV.out () _ _ (some D) B6.out (grownBy_putObj' _ D (.deferred none)) (fun r e => by cases e; exact ⟨hD, _, hK1, rfl⟩)
  case stop =>
    rintro D cd pre X hD hp ⟨rfl, hz, hi⟩ hK
    have c3 := cell_one hi.k4
    obtain ⟨c40, c41⟩ := twoB hi.k0
    have r0 := cell_one hi.k3
    have rz := frozen_one hi.k3
    have s2 := cell_one hi.k2
    have s1 := cell_one hi.k1
    have R6 := aside (show (X.setCell ⟨q + 1 + 1 + 1, 0, none⟩ (.bool true)).heap[q + 1 + 1 + 1]? = some (.cells #[.bool true] 4 (0, 0)) from by rw [heap_setCell_same _ (q + 1 + 1 + 1) 0 _ _ _ hi.k3]; rfl)
    have B6 := aside (hi.bel.setCell (p := ⟨q + 1 + 1 + 1, 0, none⟩) (by show w.heap.size ≤ q + 1 + 1 + 1; rw [HQ.out]; omega) (.bool true))
    rw [hz] at c3
    clear hi
    by_cases hzn : z = (n : Int)
    · have hbq : (z == (n : Int)) = true := by simpa using hzn
      gi_wp2
      have hK1 := (KeepsOthers.setCell X ⟨q + 1 + 1 + 1, 0, none⟩ (.bool true)).same D _ hK rfl
      refine ⟨by simp, .inl ⟨_, _, rfl, run_takeDeferred hK1, ?_⟩⟩
      have d0 := cell_kept (cell_one R6.out) (grownBy_putObj' _ D (.deferred none)) (fun r e => by cases e; exact ⟨_, hK1, rfl⟩)
      refine ⟨.bool true, by simp [results, Try.f22, go_sem, d0], rfl, ?_⟩
      exact ownFrom_below (β := Unit) (Nat.le_refl w.heap.size) HVV.out () _ _ (some D) B6.out (grownBy_putObj' _ D (.deferred none)) (fun r e => by cases e; exact ⟨hD, _, hK1, rfl⟩)
    · have hbq : (z == (n : Int)) = false := by simpa using hzn
      gi_wp2
      have hK1 := (KeepsOthers.setCell X ⟨q + 1 + 1 + 1, 0, none⟩ (.bool true)).same D _ hK rfl
      refine ⟨by simp, .inl ⟨_, _, rfl, run_takeDeferred hK1, ?_⟩⟩
      have d0 := cell_kept (cell_one R6.out) (grownBy_putObj' _ D (.deferred none)) (fun r e => by cases e; exact ⟨_, hK1, rfl⟩)
      refine ⟨.bool true, by simp [results, Try.f22, go_sem, d0], rfl, ?_⟩
      exact ownFrom_below (β := Unit) (Nat.le_refl w.heap.size) HVV.out () _ _ (some D) B6.out (grownBy_putObj' _ D (.deferred none)) (fun r e => by cases e; exact ⟨hD, _, hK1, rfl⟩)
end Go.Proofs.Yteaaamhojiognaa
