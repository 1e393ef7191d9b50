/-
  Put, Delete and Take.
  New: a store that holds nothing.
  A store, as a law meets it: by the entries that it holds.
  Contracts of the library, laid at this dump: bits_Len.
  Log and Bound of the code and of the document: how many bits a number has.
  A store that counts its joins, as the law TopFolds meets it: what a write and a fold cost, and how folds of parts join.
  How many steps a list of commands comes to.
  The law TopFolds, walked.
-/
import Derived.Test.YtlgcdcjhflihiabDoorBtopfolds7
import Derived.Shelf.Small.Bits
import Derived.Test.YtlgcdcjhflihiabDoorProg
import Derived.Test.YtlgcdcjhflihiabDoorBtopfolds1
import Derived.Lib.ItoaNum
import Derived.Deep.LoopGhost
namespace Go.Proofs.YtlgcdcjhflihiabDoor
open Go.RowKit
set_option linter.unusedVariables false

set_option maxHeartbeats 3200000 in
set_option maxRecDepth 100000 in
theorem sput (k v : ByteArray) {Ls : List En} {w : World} {sb g tb : Nat} {nd ck : Int} {T : Tr En Tl} {n : Nat} (h : IsSt w sb g tb nd ck T n) (L : Lanes w) (hH : Hol T Ls) (hl : Ls.length ≤ 1000000) :
    Calls Tryd.prog 8 #[.pointer (some ⟨sb, 0, none⟩), .string k, .string v] w fun r w' => ∃ c m er, r = .returned (.tuple #[.agg #[.int .i64 c, .int .i64 m], .int .i64 er]) ∧ er = wrErr k v nd ck Ls ∧ Keeps (Of sb g tb) w w' ∧
      ((er ≠ 0 ∧ c = 0 ∧ m = 0 ∧ IsSt w' sb g tb nd ck T n) ∨ (er = 0 ∧ c = ck + 1 ∧ m = nd ∧ IsSt w' sb g tb nd (ck + 1) (Tr.put k (wrEn k v false nd ck) (tof (wrEn k v false nd ck)) T) (n + Tr.putC k (wrEn k v false nd ck) (tof (wrEn k v false nd ck)) T))) := by
  have B0 := aside (bnew w (.cells #[.int .i64 0, .int .i64 0] 35))
  have G0 := aside (heap_alloc_new w (.cells #[.int .i64 0, .int .i64 0] 35))
  have H := aside (h.alloc (.cells #[.int .i64 0, .int .i64 0] 35))
  have C := aside (swrite k v false H.out (L.keep B0.out) hH hl)
  clear h L hH hl
  go_enter Tryd.func8, Tryd.ntmps8
  go_wp2_with fail
  refine C.out.mono ?_
  rintro r w1 ⟨c, m, er, rfl, he, k1, hs⟩
  have HE := aside he
  have HS := aside hs
  have K1 := aside ((Keeps.of_below B0.out _).trans k1)
  have G1 := aside (blk_keep G0.out k1 (H.out.not G0.out (by decide) (by decide) (by decide)))
  clear he hs k1 C G0 B0 H
  obtain ⟨s0, s1, z0, z1⟩ := pair G1.out
  go_wp2
  rcases HS.out with ⟨h1, h2, h3, h4⟩ | ⟨h1, h2, h3, h4⟩
  · have E := ver_end (i := 0) h4 K1.out G1.out c m
    exact bodyPost_ret (v := .tuple #[.agg #[.int .i64 c, .int .i64 m], .int .i64 er]) (by simp [results, Tryd.results8, go_sem, s0, s1]) rfl ⟨c, m, er, rfl, HE.out, E.2, .inl ⟨h1, h2, h3, E.1⟩⟩
  · have E := ver_end (i := 0) h4 K1.out G1.out c m
    exact bodyPost_ret (v := .tuple #[.agg #[.int .i64 c, .int .i64 m], .int .i64 er]) (by simp [results, Tryd.results8, go_sem, s0, s1]) rfl ⟨c, m, er, rfl, HE.out, E.2, .inr ⟨h1, h2, h3, E.1⟩⟩

set_option maxHeartbeats 3200000 in
set_option maxRecDepth 100000 in
theorem sdel (k : ByteArray) {Ls : List En} {w : World} {sb g tb : Nat} {nd ck : Int} {T : Tr En Tl} {n : Nat} (h : IsSt w sb g tb nd ck T n) (L : Lanes w) (hH : Hol T Ls) (hl : Ls.length ≤ 1000000) :
    Calls Tryd.prog 7 #[.pointer (some ⟨sb, 0, none⟩), .string k] w fun r w' => ∃ c m er, r = .returned (.tuple #[.agg #[.int .i64 c, .int .i64 m], .int .i64 er]) ∧ er = wrErr k ⟨#[]⟩ nd ck Ls ∧ Keeps (Of sb g tb) w w' ∧
      ((er ≠ 0 ∧ c = 0 ∧ m = 0 ∧ IsSt w' sb g tb nd ck T n) ∨ (er = 0 ∧ c = ck + 1 ∧ m = nd ∧ IsSt w' sb g tb nd (ck + 1) (Tr.put k (wrEn k ⟨#[]⟩ true nd ck) (tof (wrEn k ⟨#[]⟩ true nd ck)) T) (n + Tr.putC k (wrEn k ⟨#[]⟩ true nd ck) (tof (wrEn k ⟨#[]⟩ true nd ck)) T))) := by
  have B0 := aside (bnew w (.cells #[.int .i64 0, .int .i64 0] 35))
  have G0 := aside (heap_alloc_new w (.cells #[.int .i64 0, .int .i64 0] 35))
  have H := aside (h.alloc (.cells #[.int .i64 0, .int .i64 0] 35))
  have C := aside (swrite k ⟨#[]⟩ true H.out (L.keep B0.out) hH hl)
  clear h L hH hl
  go_enter Tryd.func7, Tryd.ntmps7
  go_wp2_with fail
  refine C.out.mono ?_
  rintro r w1 ⟨c, m, er, rfl, he, k1, hs⟩
  have HE := aside he
  have HS := aside hs
  have K1 := aside ((Keeps.of_below B0.out _).trans k1)
  have G1 := aside (blk_keep G0.out k1 (H.out.not G0.out (by decide) (by decide) (by decide)))
  clear he hs k1 C G0 B0 H
  obtain ⟨s0, s1, z0, z1⟩ := pair G1.out
  go_wp2
  rcases HS.out with ⟨h1, h2, h3, h4⟩ | ⟨h1, h2, h3, h4⟩
  · have E := ver_end (i := 0) h4 K1.out G1.out c m
    exact bodyPost_ret (v := .tuple #[.agg #[.int .i64 c, .int .i64 m], .int .i64 er]) (by simp [results, Tryd.results7, go_sem, s0, s1]) rfl ⟨c, m, er, rfl, HE.out, E.2, .inl ⟨h1, h2, h3, E.1⟩⟩
  · have E := ver_end (i := 0) h4 K1.out G1.out c m
    exact bodyPost_ret (v := .tuple #[.agg #[.int .i64 c, .int .i64 m], .int .i64 er]) (by simp [results, Tryd.results7, go_sem, s0, s1]) rfl ⟨c, m, er, rfl, HE.out, E.2, .inr ⟨h1, h2, h3, E.1⟩⟩

/-- What Take does: refused by a number, passed by, or taken. -/
def tkSay (e : En) (Ls : List En) : Int × Bool :=
  if e.chk ≠ 0 then (e.chk, false) else if roomB e.k Ls = false then (80, false) else
    match lookE e.k Ls with
    | none => (0, true)
    | some o => (0, En.newer e o)

theorem old_lay {w X : World} {sb g tb ob : Nat} {nd ck : Int} {T : Tr En Tl} {n : Nat} {cs : Array Value} {x0 x1 x2 x3 x4 : Value} {o : En} (h : IsSt X sb g tb nd ck T n) (b : Below w.heap.size w X) (L : Lanes X) (g0 : X.heap[w.heap.size]? = some (.cells cs 57 (0, 0))) (gv : X.heap[ob]? = some (.cells #[x0, x1, x2, x3, x4] 57 (0, 0))) (hv : w.heap.size < ob) :
    (fun Y : World => IsSt Y sb g tb nd ck T n ∧ Below w.heap.size w Y ∧ Lanes Y ∧ Y.heap[w.heap.size]? = some (.cells cs 57 (0, 0)) ∧ Y.heap[ob]? = some (.cells #[.string o.k, .int .i64 o.c, .int .i64 o.n, .string o.v, .bool o.d] 57 (0, 0))) (setE X ob o) := by
  have hn := h.not gv (by decide) (by decide) (by decide)
  have kk : Keeps (fun x => x = ob) X (setE X ob o) := (Keeps.refl (fun x => x = ob) X).setE (fun _ => rfl) o
  obtain ⟨p, ht, hT⟩ := h.tree
  refine ⟨⟨(setE_other _ _ _ _ (fun e => hn (.inl e.symm))).trans h.blk, fun b' e => (setE_other _ _ _ _ (fun e2 => hn (.inr (.inr (by cases e; exact e2.symm))))).trans (h.cnt b' e), ⟨p, (setE_other _ _ _ _ (fun e => hn (.inr (.inl e.symm)))).trans ht, hT.on ((Stay.refl _ X).keeps kk (fun i cs' hi e => by subst e; rw [gv] at hi; simp at hi))⟩⟩, ?_, L.keeps kk (fun e => ?_), (setE_other _ _ _ _ (by omega)).trans g0, setE_same gv o⟩
  · have k2 : Keeps (fun x => w.heap.size ≤ x) X (setE X ob o) := kk.mono (fun _ _ e => by subst e; omega)
    exact b.trans (k2.below b.size (fun k hk e => by omega))
  · have h3 := L.c5
    rw [show World.cell? X ⟨0, 5, none⟩ = none from by rw [← e] at gv; simp [World.cell?, gv]] at h3
    cases h3


end Go.Proofs.YtlgcdcjhflihiabDoor
namespace Go.Proofs.YtlgcdcjhflihiabDoor
open Go.RowKit
set_option linter.unusedVariables false

set_option maxHeartbeats 3200000 in
set_option maxRecDepth 100000 in
theorem sloadNil (nd : Int) (w : World) : Calls Tryd.prog 13 #[.int .i64 nd, .int .i64 0, .slice none 0 0] w fun e w' => Below w.heap.size w w' ∧
      ((nodeB nd = false ∧ e = .returned (.tuple #[.pointer none, .int .i64 1])) ∨ (nodeB nd = true ∧ ∃ sb g tb, e = .returned (.tuple #[.pointer (some ⟨sb, 0, none⟩), .int .i64 0]) ∧ IsSt w' sb g tb nd 0 .nil 0 ∧ w.heap.size ≤ sb ∧ w.heap.size ≤ g ∧ w.heap.size ≤ tb)) := by
  by_cases h1 : nd < 0
  · have HB := aside (node_no1 h1)
    go_enter Tryd.func13, Tryd.ntmps13
    go_wp2
    go_ret2
    exact ⟨Below.refl _ _, .inl ⟨HB.out, rfl⟩⟩
  · by_cases h2 : 8 ≤ nd
    · have HB := aside (node_no2 h2)
      go_enter Tryd.func13, Tryd.ntmps13
      go_wp2
      go_ret2
      exact ⟨Below.refl _ _, .inl ⟨HB.out, rfl⟩⟩
    · have HB := aside (node_yes h1 h2)
      have C := aside (sempty nd 0 w)
      go_enter Tryd.func13, Tryd.ntmps13
      go_wp2_with fail
      refine C.out.mono ?_
      rintro e w1 ⟨sb, g, tb, rfl, hs, b1, l1, l2, l3⟩
      have HS := aside hs
      have B1 := aside b1
      have HL := aside (show w.heap.size ≤ sb ∧ w.heap.size ≤ g ∧ w.heap.size ≤ tb from ⟨l1, l2, l3⟩)
      clear hs b1 l1 l2 l3 C
      go_wp2
      go_loopw [36] (fun i wr => i = .int .i64 0 ∧ wr = w1) (fun _ _ => 0)
      case atStart => exact ⟨rfl, rfl⟩
      case round =>
        obtain ⟨rfl, rfl⟩ := hrel
        go_wp2
        go_ret2
        exact ⟨B1.out, .inr ⟨HB.out, sb, g, tb, rfl, HS.out, HL.out⟩⟩

set_option maxHeartbeats 3200000 in
set_option maxRecDepth 100000 in
theorem snew (nd : Int) (w : World) : Calls Tryd.prog 5 #[.int .i64 nd] w fun e w' => Below w.heap.size w w' ∧
      ((nodeB nd = false ∧ e = .returned (.tuple #[.pointer none, .int .i64 1])) ∨ (nodeB nd = true ∧ ∃ sb g tb, e = .returned (.tuple #[.pointer (some ⟨sb, 0, none⟩), .int .i64 0]) ∧ IsSt w' sb g tb nd 0 .nil 0 ∧ w.heap.size ≤ sb ∧ w.heap.size ≤ g ∧ w.heap.size ≤ tb)) := by
  have C := aside (sloadNil nd w)
  go_enter Tryd.func5, Tryd.ntmps5
  go_wp2_with fail
  refine C.out.mono ?_
  rintro e w1 ⟨b1, ⟨hn, rfl⟩ | ⟨hn, sb, g, tb, rfl, hs, hl⟩⟩
  · have HB := aside hn
    have B1 := aside b1
    clear hn b1 C
    go_wp2
    go_ret2
    exact ⟨B1.out, .inl ⟨HB.out, rfl⟩⟩
  · have HB := aside hn
    have B1 := aside b1
    have HS := aside hs
    have HL := aside hl
    clear hn b1 C hs hl
    go_wp2
    go_ret2
    exact ⟨B1.out, .inr ⟨HB.out, sb, g, tb, rfl, HS.out, HL.out⟩⟩

end Go.Proofs.YtlgcdcjhflihiabDoor
namespace Go.Proofs.YtlgcdcjhflihiabDoor
open Go.RowKit
set_option linter.unusedVariables false

/-- The store in the block sb holds Ls. -/
def Sto (w : World) (sb g tb : Nat) (nd ck : Int) (Ls : List En) : Prop := ∃ T n, IsSt w sb g tb nd ck T n ∧ Hol T Ls

theorem Sto.below {w w' : World} {sb g tb : Nat} {nd ck : Int} {Ls : List En} (h : Sto w sb g tb nd ck Ls) (b : Below w.heap.size w w') : Sto w' sb g tb nd ck Ls := by
  obtain ⟨T, n, h1, h2⟩ := h
  exact ⟨T, n, h1.below b, h2⟩
theorem Sto.keeps {w w' : World} {sb g tb : Nat} {nd ck : Int} {Ls : List En} (h : Sto w sb g tb nd ck Ls) (L : Lanes w) (k : Keeps (Of sb g tb) w w') : Lanes w' := by
  obtain ⟨T, n, h1, h2⟩ := h
  exact L.keeps k (L.apart h1)
theorem Sto.rises {w : World} {sb g tb : Nat} {nd ck : Int} {Ls : List En} (h : Sto w sb g tb nd ck Ls) : RisesE Ls := by
  obtain ⟨T, n, h1, h2⟩ := h
  exact h2.rises
theorem Sto.not {w : World} {sb g tb : Nat} {nd ck : Int} {Ls : List En} (h : Sto w sb g tb nd ck Ls) {i : Nat} {cs : Array Value} {U : TypeId} (hi : w.heap[i]? = some (.cells cs U (0, 0))) (h1 : U ≠ 54) (h2 : U ≠ 74) (h3 : U ≠ 68) : ¬ Of sb g tb i := by
  obtain ⟨T, n, h4, h5⟩ := h
  exact h4.not hi h1 h2 h3
theorem Sto.lt {w : World} {sb g tb : Nat} {nd ck : Int} {Ls : List En} (h : Sto w sb g tb nd ck Ls) : sb < w.heap.size ∧ g < w.heap.size ∧ tb < w.heap.size := by
  obtain ⟨T, n, h1, h2⟩ := h
  exact h1.lt
theorem Sto.keep {w w' : World} {sb g tb sb' g' tb' : Nat} {nd ck nd' ck' : Int} {Ls Ls' : List En} (h : Sto w sb g tb nd ck Ls) (h' : Sto w sb' g' tb' nd' ck' Ls') (k : Keeps (Of sb' g' tb') w w') (a1 : sb ≠ sb') (a2 : g ≠ g') (a3 : tb ≠ tb') : Sto w' sb g tb nd ck Ls := by
  obtain ⟨T, n, h1, h2⟩ := h
  obtain ⟨T', n', h1', h2'⟩ := h'
  exact ⟨T, n, h1.keep h1' k a1 a2 a3, h2⟩

theorem qlen {w : World} {sb g tb : Nat} {nd ck : Int} {Ls : List En} (h : Sto w sb g tb nd ck Ls) : Calls Tryd.prog 10 #[.pointer (some ⟨sb, 0, none⟩)] w fun e w' => e = .returned (.int .i64 (Ls.length : Int)) ∧ w' = w := by
  obtain ⟨T, n, h1, h2⟩ := h
  have e1 : (T.cnt : Int) = (Ls.length : Int) := by rw [h2.cnt]
  rw [← e1]
  exact slen h1



theorem qnew (nd : Int) (w : World) : Calls Tryd.prog 5 #[.int .i64 nd] w fun e w' => Below w.heap.size w w' ∧
      ((nodeB nd = false ∧ e = .returned (.tuple #[.pointer none, .int .i64 1])) ∨ (nodeB nd = true ∧ ∃ sb g tb, e = .returned (.tuple #[.pointer (some ⟨sb, 0, none⟩), .int .i64 0]) ∧ Sto w' sb g tb nd 0 [] ∧ w.heap.size ≤ sb ∧ w.heap.size ≤ g ∧ w.heap.size ≤ tb)) :=
  (snew nd w).mono fun e w' ⟨h1, h2⟩ => ⟨h1, h2.imp id (fun ⟨h3, sb, g, tb, h4, h5, h6⟩ => ⟨h3, sb, g, tb, h4, ⟨_, _, h5, Hol.nil⟩, h6⟩)⟩

theorem qput (k v : ByteArray) {w : World} {sb g tb : Nat} {nd ck : Int} {Ls : List En} (h : Sto w sb g tb nd ck Ls) (L : Lanes w) (hl : Ls.length ≤ 1000000) :
    Calls Tryd.prog 8 #[.pointer (some ⟨sb, 0, none⟩), .string k, .string v] w fun r w' => ∃ c m er, r = .returned (.tuple #[.agg #[.int .i64 c, .int .i64 m], .int .i64 er]) ∧ er = wrErr k v nd ck Ls ∧ Keeps (Of sb g tb) w w' ∧ Lanes w' ∧
      ((er ≠ 0 ∧ c = 0 ∧ m = 0 ∧ Sto w' sb g tb nd ck Ls) ∨ (er = 0 ∧ c = ck + 1 ∧ m = nd ∧ Sto w' sb g tb nd (ck + 1) (insE (wrEn k v false nd ck) Ls))) := by
  obtain ⟨T, n, h1, h2⟩ := h
  refine (sput k v h1 L h2 hl).mono fun r w' ⟨c, m, er, e1, e2, e3, e4⟩ => ⟨c, m, er, e1, e2, e3, L.keeps e3 (L.apart h1), e4.imp (fun ⟨a, b, d, i⟩ => ⟨a, b, d, _, _, i, h2⟩) (fun ⟨a, b, d, i⟩ => ⟨a, b, d, _, _, i, h2.put (wrEn k v false nd ck)⟩)⟩

theorem qdel (k : ByteArray) {w : World} {sb g tb : Nat} {nd ck : Int} {Ls : List En} (h : Sto w sb g tb nd ck Ls) (L : Lanes w) (hl : Ls.length ≤ 1000000) :
    Calls Tryd.prog 7 #[.pointer (some ⟨sb, 0, none⟩), .string k] w fun r w' => ∃ c m er, r = .returned (.tuple #[.agg #[.int .i64 c, .int .i64 m], .int .i64 er]) ∧ er = wrErr k ⟨#[]⟩ nd ck Ls ∧ Keeps (Of sb g tb) w w' ∧ Lanes w' ∧
      ((er ≠ 0 ∧ c = 0 ∧ m = 0 ∧ Sto w' sb g tb nd ck Ls) ∨ (er = 0 ∧ c = ck + 1 ∧ m = nd ∧ Sto w' sb g tb nd (ck + 1) (insE (wrEn k ⟨#[]⟩ true nd ck) Ls))) := by
  obtain ⟨T, n, h1, h2⟩ := h
  refine (sdel k h1 L h2 hl).mono fun r w' ⟨c, m, er, e1, e2, e3, e4⟩ => ⟨c, m, er, e1, e2, e3, L.keeps e3 (L.apart h1), e4.imp (fun ⟨a, b, d, i⟩ => ⟨a, b, d, _, _, i, h2⟩) (fun ⟨a, b, d, i⟩ => ⟨a, b, d, _, _, i, h2.put (wrEn k ⟨#[]⟩ true nd ck)⟩)⟩



theorem qfold (lo hi : ByteArray) (op : Bool) {w : World} {sb g tb : Nat} {nd ck : Int} {Ls : List En} (h : Sto w sb g tb nd ck Ls) (L : Lanes w) (hl : Ls.length ≤ 1000000) :
    Calls Tryd.prog 11 #[.pointer (some ⟨sb, 0, none⟩), .agg #[.string lo, .string hi, .bool op]] w fun r w' => r = .returned (.tuple #[.agg #[.int .i64 (foldV lo hi op Ls).n, .int .u64 (foldV lo hi op Ls).a, .int .u64 (foldV lo hi op Ls).b], .int .i64 (Rg.chk ⟨lo, hi, op⟩)]) ∧ Sto w' sb g tb nd ck Ls ∧ Keeps (Of sb g tb) w w' ∧ Lanes w' := by
  obtain ⟨T, n, h1, h2⟩ := h
  exact (sfold lo hi op h1 h2 hl).mono fun r w' ⟨e1, ⟨d, e2, e3⟩, e4⟩ => ⟨e1, ⟨_, _, e3, h2⟩, e4, L.keeps e4 (L.apart h1)⟩

end Go.Proofs.YtlgcdcjhflihiabDoor
namespace Go.Proofs
open Go.Shelf
def Tryd.lays125_ren : Go.Shelf.Ren := ⟨fun | 125 => 27 | 128 => 39 | 129 => 40 | n => n, fun | 46 => 49 | 3 => 3 | 51 => 86 | 53 => 40 | 4 => 4 | 5 => 5 | 9 => 9 | n => n, fun | n => n⟩
theorem Tryd.lays125 : Go.Proofs.Lays.n125 Tryd.prog Tryd.lays125_ren := {
  mixed := by kernel_rfl
  f125 := Tryd.func27.trans (congrArg some (by kernel_rfl))
  f128 := Tryd.func39.trans (congrArg some (by kernel_rfl))
  f129 := Tryd.func40.trans (congrArg some (by kernel_rfl))
  t3 := Tryd.underlying3
  a3 := Tryd.isAgg3
  z3 := Tryd.sizeOf3
  v3 := Tryd.zeroValue3
  t4 := Tryd.underlying4
  a4 := Tryd.isAgg4
  z4 := Tryd.sizeOf4
  v4 := Tryd.zeroValue4
  t5 := Tryd.underlying5
  a5 := Tryd.isAgg5
  z5 := Tryd.sizeOf5
  v5 := Tryd.zeroValue5
  t9 := Tryd.underlying9
  a9 := Tryd.isAgg9
  z9 := Tryd.sizeOf9
  v9 := Tryd.zeroValue9
  t46 := Tryd.underlying49
  a46 := Tryd.isAgg49
  z46 := Tryd.sizeOf49
  v46 := Tryd.zeroValue49
  t51 := Tryd.underlying86
  a51 := Tryd.isAgg86
  z51 := Tryd.sizeOf86
  v51 := Tryd.zeroValue86
  t53 := Tryd.underlying40
  a53 := Tryd.isAgg40
  z53 := Tryd.sizeOf40
  v53 := Tryd.zeroValue40 }
theorem Tryd.bits_Len (x : Int) (w : World) (h0 : 0 ≤ x) (h1 : x ≤ 18446744073709551615) :
    Calls Tryd.prog 27 #[.int .u64 x] w fun e w' => e = .returned (.int .i64 (Lib.bitLen x.toNat)) ∧ w' = w := Any.bits_Len Tryd.lays125 x w h0 h1
end Go.Proofs
namespace Go.Proofs.YtlgcdcjhflihiabDoor
open Go.RowKit
set_option linter.unusedVariables false
/-- How many bits n has; none, if it is below 0. -/
def logN (n : Int) : Nat := Lib.bitLen n.toNat

theorem logN_low {n : Int} (h : n ≤ 0) : logN n = 0 := by
  unfold logN
  rw [show n.toNat = 0 from by omega]
  rfl

theorem logN_bounds {n : Int} (h : 0 < n) (h2 : n ≤ 9223372036854775807) : 1 ≤ logN n ∧ logN n ≤ 63 ∧ 2 ^ (logN n - 1) ≤ n.toNat ∧ n.toNat < 2 ^ logN n := by
  have hb := Lib.bitLenAux_bounds 64 n.toNat (by have : (2 : Nat) ^ 64 = 18446744073709551616 := by decide
                                                 omega) (by omega)
  obtain ⟨h3, h4, h5⟩ := hb
  refine ⟨h3, ?_, h4, h5⟩
  refine Nat.le_of_not_lt fun h6 => ?_
  have h7 : (2 : Nat) ^ 63 ≤ 2 ^ (logN n - 1) := Nat.pow_le_pow_right (by decide) (by omega)
  have h8 : (2 : Nat) ^ (logN n - 1) ≤ n.toNat := h4
  have h9 : (2 : Nat) ^ 63 = 9223372036854775808 := by decide
  omega

theorem logN_small {n : Int} (h2 : n ≤ 9223372036854775807) : logN n ≤ 63 := by
  by_cases h : 0 < n
  · exact (logN_bounds h h2).2.1
  · rw [logN_low (by omega)]; omega

set_option maxHeartbeats 1600000 in
theorem log_any (n : Int) (w : World) (h : -9223372036854775808 ≤ n ∧ n ≤ 9223372036854775807) :
    Calls Tryd.prog 16 #[.int .i64 n] w fun e w' => e = .returned (.int .i64 (logN n : Int)) ∧ w' = w := by
  have HL : Hid (Calls Tryd.prog 27 #[.int .u64 (max n 0)] w fun e w' => e = .returned (.int .i64 (logN n : Int)) ∧ w' = w) := by
    have := Tryd.bits_Len (max n 0) w (by omega) (by omega)
    rw [show (max n 0).toNat = n.toNat from by omega] at this
    exact this
  go_enter Tryd.func16, Tryd.ntmps16
  go_wp2_with fail
  refine HL.out.mono ?_
  rintro e w1 ⟨rfl, rfl⟩
  go_wp2
  go_ret
  exact ⟨rfl, rfl⟩

theorem bitLen_down {c : Nat} (h : 0 < c) (h2 : c ≤ 9223372036854775807) : Lib.bitLen c = 1 + Lib.bitLen (c / 2) :=
  Lib.bitLen_half c (by omega) (by have : (2 : Nat) ^ 64 = 18446744073709551616 := by decide
                                   omega)

/-- The document's loop: what is left, and how many bits were counted. -/
def LogRel (n : Int) (v k : Value) (w wr : World) : Prop := ∃ (c : Int) (j : Nat), v = .int .i64 c ∧ k = .int .i64 (j : Int) ∧ j + logN c = logN n ∧ c ≤ 9223372036854775807 ∧ wr = w


set_option maxHeartbeats 1600000 in
theorem bound_any (n : Int) (w : World) (h : -9223372036854775808 ≤ n ∧ n ≤ 9223372036854775807) :
    Calls Tryd.prog 9 #[.int .i64 n] w fun e w' => e = .returned (.int .i64 (16 * (1 + (logN n : Int)))) ∧ w' = w := by
  have HS := logN_small h.2
  have HL := aside (log_any n w h)
  generalize logN n = k at *
  have h1 : IntKind.i64.wrap (1 + (k : Int)) = 1 + k := by rw [IntKind.wrap_i64]; omega
  have h2 : IntKind.i64.wrap (16 * (1 + (k : Int))) = 16 * (1 + k) := by rw [IntKind.wrap_i64]; omega
  clear HS h
  go_enter Tryd.func9, Tryd.ntmps9
  go_wp2_with fail
  refine HL.out.mono ?_
  rintro e w1 ⟨rfl, rfl⟩
  go_wp2
  go_ret
  exact ⟨rfl, rfl⟩


end Go.Proofs.YtlgcdcjhflihiabDoor
namespace Go.Proofs.YtlgcdcjhflihiabDoor
open Go.RowKit
set_option linter.unusedVariables false

theorem insE_len (e : En) : ∀ l : List En, (insE e l).length ≤ l.length + 1 ∧ l.length ≤ (insE e l).length
  | [] => by simp [insE]
  | y :: l => by
    have ih := insE_len e l
    unfold insE
    split
    · simp
    · split
      · simp only [List.length_cons]; omega
      · simp

theorem talL_n : ∀ (l : List En), l.length ≤ 1000000 → (talL l).n = (l.length : Int)
  | [], _ => rfl
  | x :: l, h => by
    have ih := talL_n l (by simp only [List.length_cons] at h; omega)
    have e : talL (x :: l) = tJoin (tof x) (talL l) := by
      have := talL_append [x] l
      rw [talL_one] at this
      exact this
    rw [e, ← tJoin_n, ih, tof_n, IntKind.wrap_i64]
    simp only [List.length_cons] at h ⊢
    omega

theorem empL : (⟨#[]⟩ : ByteArray).toList = [] := ByteArray.toList_mk []

theorem kLt_nil (k : ByteArray) : kLt k ⟨#[]⟩ = false := by
  unfold kLt
  rw [empL]
  cases k.toList <;> rfl

theorem tchk_open {a : ByteArray} (h : a.size ≤ 16) : Rg.chk ⟨a, ⟨#[]⟩, true⟩ = 0 := by
  unfold Rg.chk
  rw [if_neg (by simp only [not_or]; refine ⟨by omega, ?_⟩; show ¬ (16 : Int) < ((0 : Nat) : Int); omega)]
  simp
theorem tchk_shut {a b : ByteArray} (h : a.size ≤ 16) (h2 : b.size ≤ 16) (hab : kLt b a = false) : Rg.chk ⟨a, b, false⟩ = 0 := by
  unfold Rg.chk
  rw [if_neg (by simp only [not_or]; exact ⟨by omega, by omega⟩), if_neg]
  cases h3 : kLt a b
  · obtain rfl := kLt_total h3 hab
    simp
  · unfold kLt at h3
    simp [h3]

theorem chk_nil : Rg.chk ⟨⟨#[]⟩, ⟨#[]⟩, true⟩ = 0 := tchk_open (a := ⟨#[]⟩) (by decide)

theorem belE_mono {a b : ByteArray} (hab : kLt b a = false) (l : List En) : belE a l ≤ belE b l := by
  unfold belE
  induction l with
  | nil => exact Nat.le_refl _
  | cons y l ih =>
    simp only [List.filter_cons]
    cases h : kLt y.k a
    · simp only [Bool.false_eq_true, if_false]
      split
      · simp only [List.length_cons]; omega
      · exact ih
    · rw [kLt_trans_le h hab]
      simpa using ih

/-- The folds of the two parts, joined, are the fold of the whole. -/
theorem fold_parts {a b : ByteArray} {Ls : List En} (hs : RisesE Ls) (h1 : a.size ≤ 16) (h2 : b.size ≤ 16) (hab : kLt b a = false) :
    tJoin (foldV a b false Ls) (foldV b ⟨#[]⟩ true Ls) = foldV a ⟨#[]⟩ true Ls := by
  unfold foldV
  rw [if_pos (tchk_shut h1 h2 hab), if_pos (tchk_open h2), if_pos (tchk_open h1), ← talL_append, ← seg_range hs (.inr hab), ← seg_range hs (.inl rfl), ← seg_range hs (.inl rfl)]
  congr 1
  simp only [endE, if_true, List.take_length, Bool.false_eq_true, if_false]
  have h3 := belE_mono hab Ls
  have h4 := belE_le b Ls
  rw [← List.drop_append_of_le_length (by rw [List.length_take]; omega), List.take_append_drop]

theorem fold_all {Ls : List En} (hl : Ls.length ≤ 1000000) : (foldV ⟨#[]⟩ ⟨#[]⟩ true Ls).n = (Ls.length : Int) := by
  unfold foldV
  rw [if_pos chk_nil]
  have : Ls.filter (inR ⟨#[]⟩ ⟨#[]⟩ true) = Ls := by
    rw [List.filter_eq_self]
    intro x _
    simp [inR, kLt_nil]
  rw [this, talL_n _ hl]


def bnd (Ls : List En) : Nat := 16 * (1 + logN (Ls.length : Int))

theorem bnd_le {Ls : List En} (hl : Ls.length ≤ 1000000) : bnd Ls ≤ 1024 := by
  have := logN_small (n := (Ls.length : Int)) (by omega)
  unfold bnd
  omega

theorem cost_in {T : Tr En Tl} {Ls : List En} (h : Hol T Ls) (hl : Ls.length ≤ 1000000) : 6 * T.ht + 2 ≤ bnd Ls := by
  have h1 : T.cnt + 1 ≤ 2 ^ logN (Ls.length : Int) := by
    rw [h.cnt]
    by_cases h0 : 0 < Ls.length
    · have := (logN_bounds (n := (Ls.length : Int)) (by omega) (by omega)).2.2.2
      omega
    · rw [logN_low (by omega)]; show Ls.length + 1 ≤ 1; omega
  have h2 := Tr.bal_ht h.bal h1
  unfold bnd
  omega

/-- Between two steps: the store, what it holds, how many joins it has counted. -/
structure TI (w W : World) (sb g tb : Nat) (Ls : List En) (n : Nat) : Prop where
  st : ∃ ck T, IsSt W sb g tb 3 ck T n ∧ Hol T Ls
  lan : Lanes W
  below : Below w.heap.size w W
  ls : w.heap.size ≤ sb ∧ w.heap.size ≤ g ∧ w.heap.size ≤ tb

theorem TI.on {w W W' : World} {sb g tb : Nat} {Ls : List En} {n : Nat} (h : TI w W sb g tb Ls n) (b : Below W.heap.size W W') : TI w W' sb g tb Ls n := by
  obtain ⟨⟨ck, T, h1, h2⟩, L, B, l⟩ := h
  exact ⟨⟨ck, T, h1.below b, h2⟩, L.keep b, bthen B b, l⟩
theorem TI.drew {w W : World} {sb g tb : Nat} {Ls : List En} {n : Nat} (h : TI w W sb g tb Ls n) : TI w W.drew sb g tb Ls n := h.on ((Below.refl _ _).drew)
theorem TI.rises {w W : World} {sb g tb : Nat} {Ls : List En} {n : Nat} (h : TI w W sb g tb Ls n) : RisesE Ls := by
  obtain ⟨⟨ck, T, h1, h2⟩, L, B, l⟩ := h
  exact h2.rises
theorem TI.turn {w W W' : World} {sb g tb : Nat} {Ls Ls' : List En} {n n' : Nat} {ck : Int} {T : Tr En Tl} (h : TI w W sb g tb Ls n) (h1 : IsSt W' sb g tb 3 ck T n') (h2 : Hol T Ls') (k : Keeps (Of sb g tb) W W') : TI w W' sb g tb Ls' n' := by
  obtain ⟨⟨ck0, T0, h3, h4⟩, L, B, l⟩ := h
  refine ⟨⟨ck, T, h1, h2⟩, L.keeps k (L.apart h3), B.trans (k.below B.size (fun i hi e => ?_)), l⟩
  rcases e with e | e | e <;> omega
/-- A tally's block stays. -/
theorem TI.box {w W W' : World} {sb g tb : Nat} {Ls : List En} {n : Nat} (h : TI w W sb g tb Ls n) {i : Nat} {cs : Array Value} (hi : W.heap[i]? = some (.cells cs 44 (0, 0))) (k : Keeps (Of sb g tb) W W') : W'.heap[i]? = some (.cells cs 44 (0, 0)) := by
  obtain ⟨⟨ck0, T0, h3, h4⟩, L, B, l⟩ := h
  exact blk_keep hi k (h3.not hi (by decide) (by decide) (by decide))

theorem nodeB3 : nodeB 3 = true := by decide

theorem tnew {w W : World} (B : Below w.heap.size w W) (L : Lanes W) : Calls Tryd.prog 5 #[.int .i64 3] W fun e w' => ∃ sb g tb, e = .returned (.tuple #[.pointer (some ⟨sb, 0, none⟩), .int .i64 0]) ∧ TI w w' sb g tb [] 0 := by
  refine (snew 3 W).mono ?_
  rintro e w' ⟨h1, ⟨hn, -⟩ | ⟨hn, sb, g, tb, rfl, h5, h6, h7, h8⟩⟩
  · rw [nodeB3] at hn; cases hn
  · have := B.size
    exact ⟨sb, g, tb, rfl, ⟨_, _, h5, Hol.nil⟩, L.keep h1, bthen B h1, by omega, by omega, by omega⟩

theorem tput (k v : ByteArray) {w W : World} {sb g tb : Nat} {Ls : List En} {n : Nat} (h : TI w W sb g tb Ls n) (hl : Ls.length < 1000000) :
    Calls Tryd.prog 8 #[.pointer (some ⟨sb, 0, none⟩), .string k, .string v] W fun r W' => ∃ x d Ls', r = .returned x ∧ TI w W' sb g tb Ls' (n + d) ∧ d ≤ bnd Ls' ∧ Ls'.length ≤ Ls.length + 1 := by
  obtain ⟨ck, T, h1, h2⟩ := h.st
  refine (sput k v h1 h.lan h2 (by omega)).mono ?_
  rintro r W' ⟨c, m, er, rfl, -, kk, ⟨-, -, -, i⟩ | ⟨-, -, -, i⟩⟩
  · exact ⟨_, 0, Ls, rfl, h.turn i h2 kk, Nat.zero_le _, by omega⟩
  · have h3 := h2.put (wrEn k v false 3 ck)
    have h4 := (insE_len (wrEn k v false 3 ck) Ls).1
    have h5 : 6 * (Tr.put k (wrEn k v false 3 ck) (tof (wrEn k v false 3 ck)) T).ht + 2 ≤ bnd (insE (wrEn k v false 3 ck) Ls) := cost_in h3 (by omega)
    have h6 := Tr.putC_le k (wrEn k v false 3 ck) (tof (wrEn k v false 3 ck)) T
    have h7 := (Tr.bal_put k (wrEn k v false 3 ck) (tof (wrEn k v false 3 ck)) T h2.bal).2.1
    exact ⟨_, _, _, rfl, h.turn i h3 kk, Nat.le_trans h6 (Nat.le_trans (by omega) h5), h4⟩

theorem tdel (k : ByteArray) {w W : World} {sb g tb : Nat} {Ls : List En} {n : Nat} (h : TI w W sb g tb Ls n) (hl : Ls.length < 1000000) :
    Calls Tryd.prog 7 #[.pointer (some ⟨sb, 0, none⟩), .string k] W fun r W' => ∃ x d Ls', r = .returned x ∧ TI w W' sb g tb Ls' (n + d) ∧ d ≤ bnd Ls' ∧ Ls'.length ≤ Ls.length + 1 := by
  obtain ⟨ck, T, h1, h2⟩ := h.st
  refine (sdel k h1 h.lan h2 (by omega)).mono ?_
  rintro r W' ⟨c, m, er, rfl, -, kk, ⟨-, -, -, i⟩ | ⟨-, -, -, i⟩⟩
  · exact ⟨_, 0, Ls, rfl, h.turn i h2 kk, Nat.zero_le _, by omega⟩
  · have h3 := h2.put (wrEn k ⟨#[]⟩ true 3 ck)
    have h4 := (insE_len (wrEn k ⟨#[]⟩ true 3 ck) Ls).1
    have h5 : 6 * (Tr.put k (wrEn k ⟨#[]⟩ true 3 ck) (tof (wrEn k ⟨#[]⟩ true 3 ck)) T).ht + 2 ≤ bnd (insE (wrEn k ⟨#[]⟩ true 3 ck) Ls) := cost_in h3 (by omega)
    have h6 := Tr.putC_le k (wrEn k ⟨#[]⟩ true 3 ck) (tof (wrEn k ⟨#[]⟩ true 3 ck)) T
    have h7 := (Tr.bal_put k (wrEn k ⟨#[]⟩ true 3 ck) (tof (wrEn k ⟨#[]⟩ true 3 ck)) T h2.bal).2.1
    exact ⟨_, _, _, rfl, h.turn i h3 kk, Nat.le_trans h6 (Nat.le_trans (by omega) h5), h4⟩

theorem tfold (lo hi : ByteArray) (op : Bool) {w W : World} {sb g tb : Nat} {Ls : List En} {n : Nat} (h : TI w W sb g tb Ls n) (hl : Ls.length ≤ 1000000) (hc : Rg.chk ⟨lo, hi, op⟩ = 0) :
    Calls Tryd.prog 11 #[.pointer (some ⟨sb, 0, none⟩), .agg #[.string lo, .string hi, .bool op]] W fun r W' => ∃ d, r = .returned (.tuple #[.agg #[.int .i64 (foldV lo hi op Ls).n, .int .u64 (foldV lo hi op Ls).a, .int .u64 (foldV lo hi op Ls).b], .int .i64 0]) ∧ TI w W' sb g tb Ls (n + d) ∧ d ≤ bnd Ls ∧ Keeps (Of sb g tb) W W' := by
  obtain ⟨ck, T, h1, h2⟩ := h.st
  refine (sfold lo hi op h1 h2 hl).mono ?_
  rintro r W' ⟨rfl, ⟨d, hd, i⟩, kk⟩
  have h5 := cost_in h2 hl
  exact ⟨d, by rw [hc], h.turn i h2 kk, by omega, kk⟩

theorem tjoins {w W : World} {sb g tb : Nat} {Ls : List En} {n : Nat} (h : TI w W sb g tb Ls n) (hn : n ≤ 100000000) : Calls Tryd.prog 6 #[.pointer (some ⟨sb, 0, none⟩)] W fun e w' => e = .returned (.int .i64 (n : Int)) ∧ w' = W := by
  obtain ⟨ck, T, h1, h2⟩ := h.st
  have := sjoins h1
  rw [show IntKind.i64.wrap (n : Int) = n from by rw [IntKind.wrap_i64]; omega] at this
  exact this

theorem tlen {w W : World} {sb g tb : Nat} {Ls : List En} {n : Nat} (h : TI w W sb g tb Ls n) : Calls Tryd.prog 10 #[.pointer (some ⟨sb, 0, none⟩)] W fun e w' => e = .returned (.int .i64 (Ls.length : Int)) ∧ w' = W := by
  obtain ⟨ck, T, h1, h2⟩ := h.st
  exact qlen ⟨T, n, h1, h2⟩

theorem tbound {Ls : List En} (hl : Ls.length ≤ 1000000) (W : World) : Calls Tryd.prog 9 #[.int .i64 (Ls.length : Int)] W fun e w' => e = .returned (.int .i64 (bnd Ls : Int)) ∧ w' = W := by
  have := bound_any (Ls.length : Int) W (by omega)
  have e : (bnd Ls : Int) = 16 * (1 + (logN (Ls.length : Int) : Int)) := by unfold bnd; omega
  rw [e]
  exact this

end Go.Proofs.YtlgcdcjhflihiabDoor
namespace Go.Proofs.YtlgcdcjhflihiabDoor
open Go.RowKit
set_option linter.unusedVariables false

/-- The four texts of a command. -/
def Four (X : World) (b off : Nat) (x : OpT) : Prop := X.cell? ⟨b, off + 4, none⟩ = some (.string x.key) ∧ X.cell? ⟨b, off + 5, none⟩ = some (.string x.val) ∧ X.cell? ⟨b, off + 6, none⟩ = some (.string x.lo) ∧ X.cell? ⟨b, off + 7, none⟩ = some (.string x.hi)

theorem bulk_sum (m k v l h : Nat) (hm : (m : Int) ≤ 4096) : ∃ m' : Nat, IntKind.i64.wrap ((m : Int) + IntKind.i64.wrap (IntKind.i64.wrap (IntKind.i64.wrap (min (k : Int) 1073741824 + min (v : Int) 1073741824) + min (l : Int) 1073741824) + min (h : Int) 1073741824) / 1024) = (m' : Int) ∧ m ≤ m' ∧ m' ≤ 140737488351232 := by
  have e1 : IntKind.i64.wrap (min (k : Int) 1073741824 + min (v : Int) 1073741824) = min (k : Int) 1073741824 + min (v : Int) 1073741824 := by rw [IntKind.wrap_i64]; omega
  have e2 : IntKind.i64.wrap (min (k : Int) 1073741824 + min (v : Int) 1073741824 + min (l : Int) 1073741824) = min (k : Int) 1073741824 + min (v : Int) 1073741824 + min (l : Int) 1073741824 := by rw [IntKind.wrap_i64]; omega
  have e3 : IntKind.i64.wrap (min (k : Int) 1073741824 + min (v : Int) 1073741824 + min (l : Int) 1073741824 + min (h : Int) 1073741824) = min (k : Int) 1073741824 + min (v : Int) 1073741824 + min (l : Int) 1073741824 + min (h : Int) 1073741824 := by rw [IntKind.wrap_i64]; omega
  rw [e1, e2, e3, IntKind.wrap_i64]
  refine ⟨((m : Int) + (min (k : Int) 1073741824 + min (v : Int) 1073741824 + min (l : Int) 1073741824 + min (h : Int) 1073741824) / 1024).toNat, ?_, ?_, ?_⟩ <;> omega

set_option maxHeartbeats 8000000 in
set_option maxRecDepth 100000 in
theorem bulk_any (a : Option Addr) (len cap : Nat) (T : Nat → OpT) (w : World) (h : OpsT w a len cap T) :
    Calls Tryd.prog 4 #[.slice a len cap] w fun e w' => (e = .returned (.bool true) ∧ Below w.heap.size w w') ∨ (e = .returned (.bool false) ∧ Below w.heap.size w w' ∧ len ≤ 4096) := by
  have HO := aside h
  obtain ⟨hlc, hcm, hsz, -⟩ := h
  have HSZ := aside hsz
  have hmx : (len : Int) ≤ 9223372036854775807 := by unfold maxLen at hcm; omega
  clear hlc hcm hsz
  go_enter Tryd.func4, Tryd.ntmps4
  go_wp2
  go_loopw [3, 4] (fun n i wr => ∃ (m j : Nat), n = .int .i64 (m : Int) ∧ i = .int .i64 (j : Int) ∧ j ≤ len ∧ len ≤ m ∧ m ≤ 140737488351232 ∧ Below w.heap.size w wr) (fun _ i _ => len - (intOf i).toNat)
  case atStart => exact ⟨len, 0, rfl, rfl, Nat.zero_le _, Nat.le_refl _, by have := HSZ.out; omega, Below.refl _ _⟩
  case round =>
    obtain ⟨m, j, rfl, rfl, hj, hm, hm2, hb0⟩ := hrel
    have BB := aside hb0
    have HM := aside hm
    clear hb0
    by_cases hlt : (j : Int) < (len : Int)
    · by_cases hle : (m : Int) ≤ 4096
      · have hE := HO.out.keep BB.out
        rcases hE.2.2.2 with h0 | ⟨b, off, rfl, hb, hc⟩
        · omega
        · obtain ⟨c0, c1, c2, c3, c4, c5, c6, c7, c8⟩ := hc j (by omega)
          generalize T j = x at *
          have hj0 : (0 : Int) ≤ (j : Int) := by omega
          have hjw : IntKind.i64.wrap ((j : Int) + 1) = (j : Int) + 1 := by rw [IntKind.wrap_i64]; omega
          have JL := aside (show j + 1 ≤ len from by omega)
          have F4 := aside (show Four wr.drew b (off + j * 9) x from ⟨c4, c5, c6, c7⟩)
          clear hc hE c0 c1 c2 c3 c4 c5 c6 c7 c8 hm hm2 hj
          go_wp2_with fail
          refine wp_region_held_drew (S := fun X => X.cell? ⟨b, off + j * 9 + 4, none⟩ = some (.string x.key) ∧ X.cell? ⟨b, off + j * 9 + 5, none⟩ = some (.string x.val) ∧ X.cell? ⟨b, off + j * 9 + 6, none⟩ = some (.string x.lo) ∧ X.cell? ⟨b, off + j * 9 + 7, none⟩ = some (.string x.hi)) (by kernel_rfl) F4.out (fun hHeld => ?_)
          refine wpAnyH_take (i := 0) (v := ?_) rfl (by kernel_rfl) (by kernel_rfl) (by kernel_rfl) (fun _ _ _ h => h) (Or.inl ⟨by rfl, ?_⟩) (by assumption) ?_
          rotate_left
          · intro w hSw
            go_simp
            try with_reducible rfl
          simp only [Act.put, List.getElem_toArray, List.getElem_cons_zero, List.setIfInBounds_toArray, List.set_cons_zero, List.set_cons_succ]
          refine wpAnyH_take (i := 1) (v := ?_) rfl (by kernel_rfl) (by kernel_rfl) (by kernel_rfl) (fun _ _ _ h => h) (Or.inl ⟨by rfl, ?_⟩) (by assumption) ?_
          rotate_left
          · intro w hSw
            go_simp
            try with_reducible rfl
          simp only [Act.put, List.getElem_toArray, List.getElem_cons_zero, List.getElem_cons_succ, List.setIfInBounds_toArray, List.set_cons_zero, List.set_cons_succ]
          refine wpAnyH_take (i := 2) (v := ?_) rfl (by kernel_rfl) (by kernel_rfl) (by kernel_rfl) (fun _ _ _ h => h) (Or.inl ⟨by rfl, ?_⟩) (by assumption) ?_
          rotate_left
          · intro w hSw
            go_simp
            try with_reducible rfl
          simp only [Act.put, List.getElem_toArray, List.getElem_cons_zero, List.getElem_cons_succ, List.setIfInBounds_toArray, List.set_cons_zero, List.set_cons_succ]
          refine wpAnyH_take (i := 3) (v := ?_) rfl (by kernel_rfl) (by kernel_rfl) (by kernel_rfl) (fun _ _ _ h => h) (Or.inl ⟨by rfl, ?_⟩) (by assumption) ?_
          rotate_left
          · intro w hSw
            go_simp
            try with_reducible rfl
          simp only [Act.put, List.getElem_toArray, List.getElem_cons_zero, List.getElem_cons_succ, List.setIfInBounds_toArray, List.set_cons_zero, List.set_cons_succ]
          refine wpAnyH_take (i := 4) (v := ?_) rfl (by kernel_rfl) (by kernel_rfl) (by kernel_rfl) (fun _ _ _ h => h) (Or.inl ⟨by rfl, ?_⟩) (by assumption) ?_
          rotate_left
          · intro w hSw
            go_simp
            try with_reducible rfl
          simp only [Act.put, List.getElem_toArray, List.getElem_cons_zero, List.getElem_cons_succ, List.setIfInBounds_toArray, List.set_cons_zero, List.set_cons_succ]
          refine wpAnyH_take (i := 5) (v := ?_) rfl (by kernel_rfl) (by kernel_rfl) (by kernel_rfl) (fun _ _ _ h => h) (Or.inl ⟨by rfl, ?_⟩) (by assumption) ?_
          rotate_left
          · intro w hSw
            go_simp
            try with_reducible rfl
          simp only [Act.put, List.getElem_toArray, List.getElem_cons_zero, List.getElem_cons_succ, List.setIfInBounds_toArray, List.set_cons_zero, List.set_cons_succ]
          refine wpAnyH_take (i := 6) (v := ?_) rfl (by kernel_rfl) (by kernel_rfl) (by kernel_rfl) (fun _ _ _ h => h) (Or.inl ⟨by rfl, ?_⟩) (by assumption) ?_
          rotate_left
          · intro w hSw
            go_simp
            try with_reducible rfl
          simp only [Act.put, List.getElem_toArray, List.getElem_cons_zero, List.getElem_cons_succ, List.setIfInBounds_toArray, List.set_cons_zero, List.set_cons_succ]
          refine wpAnyH_take (i := 7) (v := ?_) rfl (by kernel_rfl) (by kernel_rfl) (by kernel_rfl) (fun _ _ _ h => h) (Or.inl ⟨by rfl, ?_⟩) (by assumption) ?_
          rotate_left
          · intro w hSw
            go_simp
            try with_reducible rfl
          simp only [Act.put, List.getElem_toArray, List.getElem_cons_zero, List.getElem_cons_succ, List.setIfInBounds_toArray, List.set_cons_zero, List.set_cons_succ]
          refine wpAnyH_take (i := 8) (v := ?_) rfl (by kernel_rfl) (by kernel_rfl) (by kernel_rfl) (fun _ _ _ h => h) (Or.inl ⟨by rfl, ?_⟩) (by assumption) ?_
          rotate_left
          · intro w hSw
            go_simp
            try with_reducible rfl
          simp only [Act.put, List.getElem_toArray, List.getElem_cons_zero, List.getElem_cons_succ, List.setIfInBounds_toArray, List.set_cons_zero, List.set_cons_succ]
          refine wpAnyH_take (i := 9) (v := ?_) rfl (by kernel_rfl) (by kernel_rfl) (by kernel_rfl) (fun _ _ _ h => h) (Or.inl ⟨by rfl, ?_⟩) (by assumption) ?_
          rotate_left
          · intro w hSw
            go_simp
            try with_reducible rfl
          simp only [Act.put, List.getElem_toArray, List.getElem_cons_zero, List.getElem_cons_succ, List.setIfInBounds_toArray, List.set_cons_zero, List.set_cons_succ]
          refine wpAnyH_take (i := 10) (v := ?_) rfl (by kernel_rfl) (by kernel_rfl) (by kernel_rfl) (fun _ _ _ h => h) (Or.inl ⟨by rfl, ?_⟩) (by assumption) ?_
          rotate_left
          · intro w hSw
            go_simp
            try with_reducible rfl
          simp only [Act.put, List.getElem_toArray, List.getElem_cons_zero, List.getElem_cons_succ, List.setIfInBounds_toArray, List.set_cons_zero, List.set_cons_succ]
          refine wpAnyH_take (i := 11) (v := ?_) rfl (by kernel_rfl) (by kernel_rfl) (by kernel_rfl) (fun _ _ _ h => h) (Or.inl ⟨by rfl, ?_⟩) (by assumption) ?_
          rotate_left
          · intro w hSw
            go_simp
            try with_reducible rfl
          simp only [Act.put, List.getElem_toArray, List.getElem_cons_zero, List.getElem_cons_succ, List.setIfInBounds_toArray, List.set_cons_zero, List.set_cons_succ]
          refine wpAnyH_take (i := 12) (v := ?_) rfl (by kernel_rfl) (by kernel_rfl) (by kernel_rfl) (fun _ _ _ h => h) (Or.inl ⟨by rfl, ?_⟩) (by assumption) ?_
          rotate_left
          · intro w hSw
            go_simp
            try with_reducible rfl
          simp only [Act.put, List.getElem_toArray, List.getElem_cons_zero, List.getElem_cons_succ, List.setIfInBounds_toArray, List.set_cons_zero, List.set_cons_succ]
          refine wpAnyH_take (i := 13) (v := ?_) rfl (by kernel_rfl) (by kernel_rfl) (by kernel_rfl) (fun _ _ _ h => h) (Or.inl ⟨by rfl, ?_⟩) (by assumption) ?_
          rotate_left
          · intro w hSw
            go_simp
            try with_reducible rfl
          simp only [Act.put, List.getElem_toArray, List.getElem_cons_zero, List.getElem_cons_succ, List.setIfInBounds_toArray, List.set_cons_zero, List.set_cons_succ]
          refine wpAnyH_take (i := 14) (v := ?_) rfl (by kernel_rfl) (by kernel_rfl) (by kernel_rfl) (fun _ _ _ h => h) (Or.inl ⟨by rfl, ?_⟩) (by assumption) ?_
          rotate_left
          · intro w hSw
            go_simp
            try with_reducible rfl
          simp only [Act.put, List.getElem_toArray, List.getElem_cons_zero, List.getElem_cons_succ, List.setIfInBounds_toArray, List.set_cons_zero, List.set_cons_succ]
          refine wpAnyH_take (i := 15) (v := ?_) rfl (by kernel_rfl) (by kernel_rfl) (by kernel_rfl) (fun _ _ _ h => h) (Or.inl ⟨by rfl, ?_⟩) (by assumption) ?_
          rotate_left
          · intro w hSw
            go_simp
            try with_reducible rfl
          simp only [Act.put, List.getElem_toArray, List.getElem_cons_zero, List.getElem_cons_succ, List.setIfInBounds_toArray, List.set_cons_zero, List.set_cons_succ]
          refine wpAnyH_take (i := 16) (v := ?_) rfl (by kernel_rfl) (by kernel_rfl) (by kernel_rfl) (fun _ _ _ h => h) (Or.inl ⟨by rfl, ?_⟩) (by assumption) ?_
          rotate_left
          · intro w hSw
            go_simp
            try with_reducible rfl
          simp only [Act.put, List.getElem_toArray, List.getElem_cons_zero, List.getElem_cons_succ, List.setIfInBounds_toArray, List.set_cons_zero, List.set_cons_succ]
          refine wpAnyH_take (i := 17) (v := ?_) rfl (by kernel_rfl) (by kernel_rfl) (by kernel_rfl) (fun _ _ _ h => h) (Or.inl ⟨by rfl, ?_⟩) (by assumption) ?_
          rotate_left
          · intro w hSw
            go_simp
            try with_reducible rfl
          simp only [Act.put, List.getElem_toArray, List.getElem_cons_zero, List.getElem_cons_succ, List.setIfInBounds_toArray, List.set_cons_zero, List.set_cons_succ]
          refine wpAnyH_take (i := 18) (v := ?_) rfl (by kernel_rfl) (by kernel_rfl) (by kernel_rfl) (fun _ _ _ h => h) (Or.inl ⟨by rfl, ?_⟩) (by assumption) ?_
          rotate_left
          · intro w hSw
            go_simp
            try with_reducible rfl
          simp only [Act.put, List.getElem_toArray, List.getElem_cons_zero, List.getElem_cons_succ, List.setIfInBounds_toArray, List.set_cons_zero, List.set_cons_succ]
          refine wpAnyH_take (i := 19) (v := ?_) rfl (by kernel_rfl) (by kernel_rfl) (by kernel_rfl) (fun _ _ _ h => h) (Or.inl ⟨by rfl, ?_⟩) (by assumption) ?_
          rotate_left
          · intro w hSw
            go_simp
            try with_reducible rfl
          simp only [Act.put, List.getElem_toArray, List.getElem_cons_zero, List.getElem_cons_succ, List.setIfInBounds_toArray, List.set_cons_zero, List.set_cons_succ]
          refine wpAnyH_take (i := 20) (v := ?_) rfl (by kernel_rfl) (by kernel_rfl) (by kernel_rfl) (fun _ _ _ h => h) (Or.inl ⟨by rfl, ?_⟩) (by assumption) ?_
          rotate_left
          · intro w hSw
            go_simp
            try with_reducible rfl
          simp only [Act.put, List.getElem_toArray, List.getElem_cons_zero, List.getElem_cons_succ, List.setIfInBounds_toArray, List.set_cons_zero, List.set_cons_succ]
          refine wpAnyH_take (i := 21) (v := ?_) rfl (by kernel_rfl) (by kernel_rfl) (by kernel_rfl) (fun _ _ _ h => h) (Or.inl ⟨by rfl, ?_⟩) (by assumption) ?_
          rotate_left
          · intro w hSw
            go_simp
            try with_reducible rfl
          simp only [Act.put, List.getElem_toArray, List.getElem_cons_zero, List.getElem_cons_succ, List.setIfInBounds_toArray, List.set_cons_zero, List.set_cons_succ]
          refine wpAnyH_take (i := 22) (v := ?_) rfl (by kernel_rfl) (by kernel_rfl) (by kernel_rfl) (fun _ _ _ h => h) (Or.inl ⟨by rfl, ?_⟩) (by assumption) ?_
          rotate_left
          · intro w hSw
            go_simp
            try with_reducible rfl
          simp only [Act.put, List.getElem_toArray, List.getElem_cons_zero, List.getElem_cons_succ, List.setIfInBounds_toArray, List.set_cons_zero, List.set_cons_succ]
          refine wpAnyH_take (i := 23) (v := ?_) rfl (by kernel_rfl) (by kernel_rfl) (by kernel_rfl) (fun _ _ _ h => h) (Or.inl ⟨by rfl, ?_⟩) (by assumption) ?_
          rotate_left
          · intro w hSw
            go_simp
            try with_reducible rfl
          simp only [Act.put, List.getElem_toArray, List.getElem_cons_zero, List.getElem_cons_succ, List.setIfInBounds_toArray, List.set_cons_zero, List.set_cons_succ]
          refine wpAnyH_take (i := 24) (v := ?_) rfl (by kernel_rfl) (by kernel_rfl) (by kernel_rfl) (fun _ _ _ h => h) (Or.inl ⟨by rfl, ?_⟩) (by assumption) ?_
          rotate_left
          · intro w hSw
            go_simp
            try with_reducible rfl
          simp only [Act.put, List.getElem_toArray, List.getElem_cons_zero, List.getElem_cons_succ, List.setIfInBounds_toArray, List.set_cons_zero, List.set_cons_succ]
          refine wpAnyH_take (i := 25) (v := ?_) rfl (by kernel_rfl) (by kernel_rfl) (by kernel_rfl) (fun _ _ _ h => h) (Or.inl ⟨by rfl, ?_⟩) (by assumption) ?_
          rotate_left
          · intro w hSw
            go_simp
            try with_reducible rfl
          simp only [Act.put, List.getElem_toArray, List.getElem_cons_zero, List.getElem_cons_succ, List.setIfInBounds_toArray, List.set_cons_zero, List.set_cons_succ]
          refine wpAnyH_take (i := 26) (v := ?_) rfl (by kernel_rfl) (by kernel_rfl) (by kernel_rfl) (fun _ _ _ h => h) (Or.inl ⟨by rfl, ?_⟩) (by assumption) ?_
          rotate_left
          · intro w hSw
            go_simp
            try with_reducible rfl
          simp only [Act.put, List.getElem_toArray, List.getElem_cons_zero, List.getElem_cons_succ, List.setIfInBounds_toArray, List.set_cons_zero, List.set_cons_succ]
          refine wpAnyH_take (i := 27) (v := ?_) rfl (by kernel_rfl) (by kernel_rfl) (by kernel_rfl) (fun _ _ _ h => h) (Or.inl ⟨by rfl, ?_⟩) (by assumption) ?_
          rotate_left
          · intro w hSw
            go_simp
            try with_reducible rfl
          simp only [Act.put, List.getElem_toArray, List.getElem_cons_zero, List.getElem_cons_succ, List.setIfInBounds_toArray, List.set_cons_zero, List.set_cons_succ]
          refine wpAnyH_take (i := 28) (v := ?_) rfl (by kernel_rfl) (by kernel_rfl) (by kernel_rfl) (fun _ _ _ h => h) (Or.inl ⟨by rfl, ?_⟩) (by assumption) ?_
          rotate_left
          · intro w hSw
            go_simp
            try with_reducible rfl
          simp only [Act.put, List.getElem_toArray, List.getElem_cons_zero, List.getElem_cons_succ, List.setIfInBounds_toArray, List.set_cons_zero, List.set_cons_succ]
          refine wpAnyH_take (i := 29) (v := ?_) rfl (by kernel_rfl) (by kernel_rfl) (by kernel_rfl) (fun _ _ _ h => h) (Or.inl ⟨by rfl, ?_⟩) (by assumption) ?_
          rotate_left
          · intro w hSw
            go_simp
            try with_reducible rfl
          simp only [Act.put, List.getElem_toArray, List.getElem_cons_zero, List.getElem_cons_succ, List.setIfInBounds_toArray, List.set_cons_zero, List.set_cons_succ]
          refine wpAnyH_take (i := 30) (v := ?_) rfl (by kernel_rfl) (by kernel_rfl) (by kernel_rfl) (fun _ _ _ h => h) (Or.inl ⟨by rfl, ?_⟩) (by assumption) ?_
          rotate_left
          · intro w hSw
            go_simp
            try with_reducible rfl
          simp only [Act.put, List.getElem_toArray, List.getElem_cons_zero, List.getElem_cons_succ, List.setIfInBounds_toArray, List.set_cons_zero, List.set_cons_succ]
          refine wpAnyH_take (i := 31) (v := ?_) rfl (by kernel_rfl) (by kernel_rfl) (by kernel_rfl) (fun _ _ _ h => h) (Or.inl ⟨by rfl, ?_⟩) (by assumption) ?_
          rotate_left
          · intro w hSw
            go_simp
            try with_reducible rfl
          simp only [Act.put, List.getElem_toArray, List.getElem_cons_zero, List.getElem_cons_succ, List.setIfInBounds_toArray, List.set_cons_zero, List.set_cons_succ]
          refine wpAnyH_take (i := 32) (v := ?_) rfl (by kernel_rfl) (by kernel_rfl) (by kernel_rfl) (fun _ _ _ h => h) (Or.inl ⟨by rfl, ?_⟩) (by assumption) ?_
          rotate_left
          · intro w hSw
            go_simp
            try with_reducible rfl
          simp only [Act.put, List.getElem_toArray, List.getElem_cons_zero, List.getElem_cons_succ, List.setIfInBounds_toArray, List.set_cons_zero, List.set_cons_succ]
          refine wpAnyH_take (i := 33) (v := ?_) rfl (by kernel_rfl) (by kernel_rfl) (by kernel_rfl) (fun _ _ _ h => h) (Or.inl ⟨by rfl, ?_⟩) (by assumption) ?_
          rotate_left
          · intro w hSw
            go_simp
            try with_reducible rfl
          simp only [Act.put, List.getElem_toArray, List.getElem_cons_zero, List.getElem_cons_succ, List.setIfInBounds_toArray, List.set_cons_zero, List.set_cons_succ]
          refine wpAnyH_take (i := 34) (v := ?_) rfl (by kernel_rfl) (by kernel_rfl) (by kernel_rfl) (fun _ _ _ h => h) (Or.inl ⟨by rfl, ?_⟩) (by assumption) ?_
          rotate_left
          · intro w hSw
            go_simp
            try with_reducible rfl
          simp only [Act.put, List.getElem_toArray, List.getElem_cons_zero, List.getElem_cons_succ, List.setIfInBounds_toArray, List.set_cons_zero, List.set_cons_succ]
          refine wpAnyH_take (i := 35) (v := ?_) rfl (by kernel_rfl) (by kernel_rfl) (by kernel_rfl) (fun _ _ _ h => h) (Or.inl ⟨by rfl, ?_⟩) (by assumption) ?_
          rotate_left
          · intro w hSw
            go_simp
            try with_reducible rfl
          simp only [Act.put, List.getElem_toArray, List.getElem_cons_zero, List.getElem_cons_succ, List.setIfInBounds_toArray, List.set_cons_zero, List.set_cons_succ]
          refine wpAnyH_take (i := 36) (v := ?_) rfl (by kernel_rfl) (by kernel_rfl) (by kernel_rfl) (fun _ _ _ h => h) (Or.inl ⟨by rfl, ?_⟩) (by assumption) ?_
          rotate_left
          · intro w hSw
            go_simp
            try with_reducible rfl
          simp only [Act.put, List.getElem_toArray, List.getElem_cons_zero, List.getElem_cons_succ, List.setIfInBounds_toArray, List.set_cons_zero, List.set_cons_succ]
          refine wpAnyH_done (by kernel_rfl) ?_ _
          obtain ⟨m', hq, hq1, hq2⟩ := bulk_sum m x.key.size x.val.size x.lo.size x.hi.size hle
          rw [hq]
          clear hq hHeld
          have Q1 := aside (And.intro hq1 hq2)
          clear hq1 hq2
          go_wp2
          go_roundw
          case rel => exact ⟨m', j + 1, rfl, by go_num, JL.out, by have := HM.out; have := Q1.out; omega, Q1.out.2, BB.out.drew⟩
          case measure => simp [intOf]; omega
      · have hgt : 4096 < (m : Int) := by omega
        clear hm hm2 hj
        go_wp2
        go_ret
        exact .inl ⟨rfl, BB.out⟩
    · by_cases hle : (m : Int) ≤ 4096
      · have hngt : ¬ 4096 < (m : Int) := by omega
        clear hm hm2 hj
        go_wp2
        go_ret
        exact .inr ⟨rfl, BB.out, by have := HM.out; omega⟩
      · have hgt : 4096 < (m : Int) := by omega
        clear hm hm2 hj
        go_wp2
        go_ret
        exact .inl ⟨rfl, BB.out⟩

end Go.Proofs.YtlgcdcjhflihiabDoor
namespace Go.Proofs.YtlgcdcjhflihiabDoor
open Go.RowKit
set_option linter.unusedVariables false

theorem nine {W : World} {i1 i2 i3 : Nat} {X Y Z : Tl} (h1 : W.heap[i1]? = some (.cells #[.int .i64 X.n, .int .u64 X.a, .int .u64 X.b] 44 (0, 0))) (h2 : W.heap[i2]? = some (.cells #[.int .i64 Y.n, .int .u64 Y.a, .int .u64 Y.b] 44 (0, 0))) (h3 : W.heap[i3]? = some (.cells #[.int .i64 Z.n, .int .u64 Z.a, .int .u64 Z.b] 44 (0, 0))) :
    W.cell? ⟨i1, 0, none⟩ = some (.int .i64 X.n) ∧ W.cell? ⟨i1, 1, none⟩ = some (.int .u64 X.a) ∧ W.cell? ⟨i1, 2, none⟩ = some (.int .u64 X.b) ∧ W.cell? ⟨i2, 0, none⟩ = some (.int .i64 Y.n) ∧ W.cell? ⟨i2, 1, none⟩ = some (.int .u64 Y.a) ∧ W.cell? ⟨i2, 2, none⟩ = some (.int .u64 Y.b) ∧ W.cell? ⟨i3, 0, none⟩ = some (.int .i64 Z.n) ∧ W.cell? ⟨i3, 1, none⟩ = some (.int .u64 Z.a) ∧ W.cell? ⟨i3, 2, none⟩ = some (.int .u64 Z.b) := by
  obtain ⟨a0, a1, a2, -⟩ := tri h1
  obtain ⟨b0, b1, b2, -⟩ := tri h2
  obtain ⟨c0, c1, c2, -⟩ := tri h3
  exact ⟨a0, a1, a2, b0, b1, b2, c0, c1, c2⟩
theorem gtr_no {x y : ByteArray} (h : Op.bytesLess y.toList x.toList = false) : (!Op.bytesLess x.toList y.toList && !(x.toList == y.toList)) = false := by
  cases h1 : Op.bytesLess x.toList y.toList
  · obtain rfl := kLt_total (a := x) (b := y) h1 h
    simp
  · simp
theorem gtr_yes {x y : ByteArray} (h : Op.bytesLess y.toList x.toList = true) : (!Op.bytesLess x.toList y.toList && !(x.toList == y.toList)) = true := by
  have h1 : Op.bytesLess x.toList y.toList = false := kLt_asymm (a := y) (b := x) h
  rw [h1]
  cases h2 : x.toList == y.toList
  · rfl
  · have h3 : x.toList = y.toList := by simpa using h2
    rw [h3] at h1 h
    rw [h] at h1
    cases h1

set_option maxHeartbeats 16000000 in
set_option maxRecDepth 100000 in
theorem top_walk (a : Option Addr) (len cap : Nat) (T : Nat → OpT) (c : Option Addr) (clen ccap : Nat) (S : Nat → ByteArray) (w : World) (h : OpsT w a len cap T) (hs : StrsT w c clen ccap S) (L : Lanes w) :
    Calls Tryd.prog 3 #[.slice a len cap, .slice c clen ccap] w fun e w' => e = .returned (.bool true) ∧ Below w.heap.size w w' := by
  have HO := aside h
  have HS := aside hs
  have HL := aside L
  have CB := aside (bulk_any a len cap T w h)
  obtain ⟨hlc, hcm, hsz, -⟩ := h
  obtain ⟨hlc2, hcm2, hsz2, -⟩ := hs
  have hmx : (len : Int) ≤ 9223372036854775807 := by unfold maxLen at hcm; omega
  have hmx2 : (clen : Int) ≤ 9223372036854775807 := by unfold maxLen at hcm2; omega
  clear hlc hcm hsz hlc2 hcm2 hsz2 L
  go_enter Tryd.func3, Tryd.ntmps3
  go_wp2_with fail
  refine CB.out.mono ?_
  rintro e w1 (⟨rfl, b1⟩ | ⟨rfl, b1, hle⟩)
  · have B1 := aside b1
    clear b1
    go_wp2
    go_ret
    exact ⟨rfl, B1.out⟩
  have B1 := aside b1
  have LE := aside hle
  clear b1 hle CB
  by_cases h64 : 64 < (clen : Int)
  · go_wp2
    go_ret
    exact ⟨rfl, B1.out⟩
  have CN := aside (tnew B1.out (HL.out.keep B1.out))
  have L64 := aside (show clen ≤ 64 from by omega)
  go_wp2_with fail
  refine CN.out.mono ?_
  rintro e w2 ⟨sb, g, tb, rfl, hti⟩
  have G0 := aside hti
  clear hti CN B1
  go_wp2
  go_loopw [7] (fun i wr => ∃ (j n : Nat) (Ls : List En), i = .int .i64 (j : Int) ∧ j ≤ len ∧ TI w wr sb g tb Ls n ∧ Ls.length ≤ j ∧ n ≤ 1024 * j) (fun i _ => len - (intOf i).toNat)
  case atStart => exact ⟨0, 0, [], rfl, Nat.zero_le _, G0.out, Nat.le_refl _, by omega⟩
  case round =>
    obtain ⟨j, n, Ls, rfl, hj, hti, hll0, hn⟩ := hrel
    clear G0
    have G0 := aside hti
    have hle := LE.out
    by_cases hlt : (j : Int) < (len : Int)
    · rcases HO.out.2.2.2 with h0 | ⟨b, off, rfl, hb, hc⟩
      · omega
      · have HW := aside (hc j (by omega))
        clear hc
        generalize T j = x at HW
        obtain ⟨c0, c1, c2, c3, c4, c5, c6, c7, c8⟩ := HW.out.keep hti.below
        have hj0 : (0 : Int) ≤ (j : Int) := by omega
        have hjw : IntKind.i64.wrap ((j : Int) + 1) = (j : Int) + 1 := by rw [IntKind.wrap_i64]; omega
        have JL := aside (show j + 1 ≤ len from by omega)
        have CJ := aside (tjoins hti (by omega))
        have F4 := aside (show Four wr.drew b (off + j * 9) x from ⟨c4, c5, c6, c7⟩)
        have F5 := aside c4
        clear hb c1 c2 c3 c4 c5 c6 c7 c8 hti
        go_wp2_with fail
        refine CJ.out.mono ?_
        rintro e w3 ⟨rfl, rfl⟩
        by_cases hk : x.kind = 2
        · have c4 := F5.out
          go_wp2_with fail
          clear c0 c4
          refine (tdel x.key G0.out (by omega)).mono ?_
          rintro e w3 ⟨v, d, Ls', rfl, hti, hd, hll1⟩
          have hll : Ls'.length ≤ j + 1 := by omega
          have hbl := bnd_le (Ls := Ls') (by omega)
          have DB := aside hd
          have LB := aside hll
          have NB := aside (show n + d ≤ 1024 * (j + 1) from by omega)
          have hq1 : ¬ ((n + d : Nat) : Int) < (n : Int) := by omega
          have hq2 : IntKind.i64.wrap (((n + d : Nat) : Int) - (n : Int)) = (d : Int) := by rw [IntKind.wrap_i64]; omega
          have hq3 : ¬ (bnd Ls' : Int) < (d : Int) := by omega
          have C1 := aside (tjoins hti (by omega))
          have C2 := aside (tlen hti)
          have C3 := aside (tbound (Ls := Ls') (by omega) w3)
          have G1 := aside hti
          generalize ((n + d : Nat) : Int) = q at hq1 hq2 C1
          generalize ((n : Nat) : Int) = p at *
          generalize (bnd Ls' : Int) = r at *
          generalize (d : Int) = s at *
          generalize (Ls'.length : Int) = z at *
          clear hti hd hll G0 hbl
          go_wp2_with fail
          refine C1.out.mono ?_
          rintro e w4 ⟨rfl, rfl⟩
          go_wp2_with fail
          refine C1.out.mono ?_
          rintro e w5 ⟨rfl, rfl⟩
          go_wp2_with fail
          refine C2.out.mono ?_
          rintro e w6 ⟨rfl, rfl⟩
          go_wp2_with fail
          refine C3.out.mono ?_
          rintro e w7 ⟨rfl, rfl⟩
          go_wp2
          go_roundw
          case rel => exact ⟨j + 1, n + d, Ls', by go_num, JL.out, G1.out, LB.out, NB.out⟩
          case measure => simp [intOf]; omega
        · go_wp2_with fail
          clear c0
          refine wp_region_held_drew (S := fun X => X.cell? ⟨b, off + j * 9 + 4, none⟩ = some (.string x.key) ∧ X.cell? ⟨b, off + j * 9 + 5, none⟩ = some (.string x.val) ∧ X.cell? ⟨b, off + j * 9 + 6, none⟩ = some (.string x.lo) ∧ X.cell? ⟨b, off + j * 9 + 7, none⟩ = some (.string x.hi)) (by kernel_rfl) F4.out (fun hHeld => ?_)
          refine wpAnyH_take (i := 0) (v := ?_) rfl (by kernel_rfl) (by kernel_rfl) (by kernel_rfl) (fun _ _ _ h => h) (Or.inl ⟨by rfl, ?_⟩) (by assumption) ?_
          rotate_left
          · intro w hSw
            go_simp
            try with_reducible rfl
          simp only [Act.put, List.getElem_toArray, List.getElem_cons_zero, List.setIfInBounds_toArray, List.set_cons_zero, List.set_cons_succ]
          refine wpAnyH_take (i := 1) (v := ?_) rfl (by kernel_rfl) (by kernel_rfl) (by kernel_rfl) (fun _ _ _ h => h) (Or.inl ⟨by rfl, ?_⟩) (by assumption) ?_
          rotate_left
          · intro w hSw
            go_simp
            try with_reducible rfl
          simp only [Act.put, List.getElem_toArray, List.getElem_cons_zero, List.getElem_cons_succ, List.setIfInBounds_toArray, List.set_cons_zero, List.set_cons_succ]
          refine wpAnyH_take (i := 2) (v := ?_) rfl (by kernel_rfl) (by kernel_rfl) (by kernel_rfl) (fun _ _ _ h => h) (Or.inl ⟨by rfl, ?_⟩) (by assumption) ?_
          rotate_left
          · intro w hSw
            go_simp
            try with_reducible rfl
          simp only [Act.put, List.getElem_toArray, List.getElem_cons_zero, List.getElem_cons_succ, List.setIfInBounds_toArray, List.set_cons_zero, List.set_cons_succ]
          refine wpAnyH_take (i := 3) (v := ?_) rfl (by kernel_rfl) (by kernel_rfl) (by kernel_rfl) (fun _ _ _ h => h) (Or.inl ⟨by rfl, ?_⟩) (by assumption) ?_
          rotate_left
          · intro w hSw
            go_simp
            try with_reducible rfl
          simp only [Act.put, List.getElem_toArray, List.getElem_cons_zero, List.getElem_cons_succ, List.setIfInBounds_toArray, List.set_cons_zero, List.set_cons_succ]
          refine wpAnyH_take (i := 4) (v := ?_) rfl (by kernel_rfl) (by kernel_rfl) (by kernel_rfl) (fun _ _ _ h => h) (Or.inl ⟨by rfl, ?_⟩) (by assumption) ?_
          rotate_left
          · intro w hSw
            go_simp
            try with_reducible rfl
          simp only [Act.put, List.getElem_toArray, List.getElem_cons_zero, List.getElem_cons_succ, List.setIfInBounds_toArray, List.set_cons_zero, List.set_cons_succ]
          refine wpAnyH_take (i := 5) (v := ?_) rfl (by kernel_rfl) (by kernel_rfl) (by kernel_rfl) (fun _ _ _ h => h) (Or.inl ⟨by rfl, ?_⟩) (by assumption) ?_
          rotate_left
          · intro w hSw
            go_simp
            try with_reducible rfl
          simp only [Act.put, List.getElem_toArray, List.getElem_cons_zero, List.getElem_cons_succ, List.setIfInBounds_toArray, List.set_cons_zero, List.set_cons_succ]
          refine wpAnyH_take (i := 6) (v := ?_) rfl (by kernel_rfl) (by kernel_rfl) (by kernel_rfl) (fun _ _ _ h => h) (Or.inl ⟨by rfl, ?_⟩) (by assumption) ?_
          rotate_left
          · intro w hSw
            go_simp
            try with_reducible rfl
          simp only [Act.put, List.getElem_toArray, List.getElem_cons_zero, List.getElem_cons_succ, List.setIfInBounds_toArray, List.set_cons_zero, List.set_cons_succ]
          refine wpAnyH_take (i := 7) (v := ?_) rfl (by kernel_rfl) (by kernel_rfl) (by kernel_rfl) (fun _ _ _ h => h) (Or.inl ⟨by rfl, ?_⟩) (by assumption) ?_
          rotate_left
          · intro w hSw
            go_simp
            try with_reducible rfl
          simp only [Act.put, List.getElem_toArray, List.getElem_cons_zero, List.getElem_cons_succ, List.setIfInBounds_toArray, List.set_cons_zero, List.set_cons_succ]
          refine wpAnyH_take (i := 8) (v := ?_) rfl (by kernel_rfl) (by kernel_rfl) (by kernel_rfl) (fun _ _ _ h => h) (Or.inl ⟨by rfl, ?_⟩) (by assumption) ?_
          rotate_left
          · intro w hSw
            go_simp
            try with_reducible rfl
          simp only [Act.put, List.getElem_toArray, List.getElem_cons_zero, List.getElem_cons_succ, List.setIfInBounds_toArray, List.set_cons_zero, List.set_cons_succ]
          refine wpAnyH_take (i := 9) (v := ?_) rfl (by kernel_rfl) (by kernel_rfl) (by kernel_rfl) (fun _ _ _ h => h) (Or.inl ⟨by rfl, ?_⟩) (by assumption) ?_
          rotate_left
          · intro w hSw
            go_simp
            try with_reducible rfl
          simp only [Act.put, List.getElem_toArray, List.getElem_cons_zero, List.getElem_cons_succ, List.setIfInBounds_toArray, List.set_cons_zero, List.set_cons_succ]
          refine wpAnyH_take (i := 10) (v := ?_) rfl (by kernel_rfl) (by kernel_rfl) (by kernel_rfl) (fun _ _ _ h => h) (Or.inl ⟨by rfl, ?_⟩) (by assumption) ?_
          rotate_left
          · intro w hSw
            go_simp
            try with_reducible rfl
          simp only [Act.put, List.getElem_toArray, List.getElem_cons_zero, List.getElem_cons_succ, List.setIfInBounds_toArray, List.set_cons_zero, List.set_cons_succ]
          refine wpAnyH_ready (rs := [11]) (by kernel_rfl) (by simp) ?_
          refine AllReadyH.cons rfl (fun K hK => ?_) AllReadyH.nil
          go_simp
          refine (tput x.key x.val G0.out.drew (by omega)).mono ?_
          rintro e w3 ⟨v, d, Ls', rfl, hti, hd, hll1⟩
          have hll : Ls'.length ≤ j + 1 := by omega
          refine hK.out _ _ (by
            obtain ⟨-, -, -, -, k4, k5, k6, k7, -⟩ := HW.out.keep hti.below
            exact ⟨k4, k5, k6, k7⟩) (fun hHeld => ?_)
          clear hK K hHeld
          refine wpAnyH_done (by kernel_rfl) ?_ _
          have hbl := bnd_le (Ls := Ls') (by omega)
          have DB := aside hd
          have LB := aside hll
          have NB := aside (show n + d ≤ 1024 * (j + 1) from by omega)
          have hq1 : ¬ ((n + d : Nat) : Int) < (n : Int) := by omega
          have hq2 : IntKind.i64.wrap (((n + d : Nat) : Int) - (n : Int)) = (d : Int) := by rw [IntKind.wrap_i64]; omega
          have hq3 : ¬ (bnd Ls' : Int) < (d : Int) := by omega
          have C1 := aside (tjoins hti (by omega))
          have C2 := aside (tlen hti)
          have C3 := aside (tbound (Ls := Ls') (by omega) w3)
          have G1 := aside hti
          generalize ((n + d : Nat) : Int) = q at hq1 hq2 C1
          generalize ((n : Nat) : Int) = p at *
          generalize (bnd Ls' : Int) = r at *
          generalize (d : Int) = s at *
          generalize (Ls'.length : Int) = z at *
          clear hti hd hll G0 hbl
          go_wp2_with fail
          refine C1.out.mono ?_
          rintro e w4 ⟨rfl, rfl⟩
          go_wp2_with fail
          refine C1.out.mono ?_
          rintro e w5 ⟨rfl, rfl⟩
          go_wp2_with fail
          refine C2.out.mono ?_
          rintro e w6 ⟨rfl, rfl⟩
          go_wp2_with fail
          refine C3.out.mono ?_
          rintro e w7 ⟨rfl, rfl⟩
          go_wp2
          go_roundw
          case rel => exact ⟨j + 1, n + d, Ls', by go_num, JL.out, G1.out, LB.out, NB.out⟩
          case measure => simp [intOf]; omega
    · have NB := aside (show n ≤ 4194304 from by omega)
      have LL := aside (show Ls.length ≤ 4096 from by omega)
      clear hti hll0 hn hj hle HO
      go_wp2
      go_loopw [9] (fun i wr => ∃ (j n : Nat), i = .int .i64 (j : Int) ∧ j ≤ clen ∧ TI w wr sb g tb Ls n ∧ n ≤ 4194304 + 200000 * j) (fun i _ => clen - (intOf i).toNat)
      case atStart => exact ⟨0, n, rfl, Nat.zero_le _, G0.out, by have := NB.out; omega⟩
      case round =>
        obtain ⟨j, n1, rfl, hj, hti, hn⟩ := hrel
        clear G0
        have G0 := aside hti
        have NJ := aside hn
        have h64 := L64.out
        clear hti hn NB
        by_cases hlt : (j : Int) < (clen : Int)
        · have hj0 : (0 : Int) ≤ (j : Int) := by omega
          have hjw : IntKind.i64.wrap ((j : Int) + 1) = (j : Int) + 1 := by rw [IntKind.wrap_i64]; omega
          have JL := aside (show j + 1 ≤ clen from by omega)
          clear h64 hj
          go_wp2
          go_loopw [10] (fun i wr => ∃ (l n : Nat), i = .int .i64 (l : Int) ∧ l ≤ clen ∧ TI w wr sb g tb Ls n ∧ n ≤ 4194304 + 200000 * j + 3072 * l) (fun i _ => clen - (intOf i).toNat)
          case atStart => exact ⟨0, n1, rfl, Nat.zero_le _, G0.out, by have := NJ.out; omega⟩
          case round =>
            obtain ⟨l, n2, rfl, hl, hti, hn⟩ := hrel
            clear G0
            have G0 := aside hti
            have NK := aside hn
            have h64 := L64.out
            by_cases hlt2 : (l : Int) < (clen : Int)
            · rcases HS.out.2.2.2 with h0 | ⟨b, off, rfl, hb, hc⟩
              · omega
              · have hl0 : (0 : Int) ≤ (l : Int) := by omega
                have hlw : IntKind.i64.wrap ((l : Int) + 1) = (l : Int) + 1 := by rw [IntKind.wrap_i64]; omega
                have KL := aside (show l + 1 ≤ clen from by omega)
                have c1 := cell_in (hc j (by omega)) hti.below
                have c2 := cell_in (hc l (by omega)) hti.below
                generalize S j = x at c1
                generalize S l = y at c2
                have F2 := aside (show wr.drew.cell? ⟨b, off + j, none⟩ = some (.string x) ∧ wr.drew.cell? ⟨b, off + l, none⟩ = some (.string y) from ⟨c1, c2⟩)
                have G := aside hti.drew
                clear hc hb c1 c2 hti hn h64 hl G0
                go_wp2_with fail
                refine wp_region_held_drew (S := fun X => X.cell? ⟨b, off + j, none⟩ = some (.string x) ∧ X.cell? ⟨b, off + l, none⟩ = some (.string y)) (by kernel_rfl) F2.out (fun hHeld => ?_)
                refine wpAnyH_take (i := 0) (v := ?_) rfl (by kernel_rfl) (by kernel_rfl) (by kernel_rfl) (fun _ _ _ h => h) (Or.inl ⟨by rfl, ?_⟩) (by assumption) ?_
                rotate_left
                · intro w hSw
                  go_simp
                  try with_reducible rfl
                simp only [Act.put, List.getElem_toArray, List.getElem_cons_zero, List.setIfInBounds_toArray, List.set_cons_zero, List.set_cons_succ]
                refine wpAnyH_take (i := 1) (v := ?_) rfl (by kernel_rfl) (by kernel_rfl) (by kernel_rfl) (fun _ _ _ h => h) (Or.inl ⟨by rfl, ?_⟩) (by assumption) ?_
                rotate_left
                · intro w hSw
                  go_simp
                  try with_reducible rfl
                simp only [Act.put, List.getElem_toArray, List.getElem_cons_zero, List.getElem_cons_succ, List.setIfInBounds_toArray, List.set_cons_zero, List.set_cons_succ]
                refine wpAnyH_take (i := 2) (v := ?_) rfl (by kernel_rfl) (by kernel_rfl) (by kernel_rfl) (fun _ _ _ h => h) (Or.inl ⟨by rfl, ?_⟩) (by assumption) ?_
                rotate_left
                · intro w hSw
                  go_simp
                  try with_reducible rfl
                simp only [Act.put, List.getElem_toArray, List.getElem_cons_zero, List.getElem_cons_succ, List.setIfInBounds_toArray, List.set_cons_zero, List.set_cons_succ]
                refine wpAnyH_take (i := 3) (v := ?_) rfl (by kernel_rfl) (by kernel_rfl) (by kernel_rfl) (fun _ _ _ h => h) (Or.inl ⟨by rfl, ?_⟩) (by assumption) ?_
                rotate_left
                · intro w hSw
                  go_simp
                  try with_reducible rfl
                simp only [Act.put, List.getElem_toArray, List.getElem_cons_zero, List.getElem_cons_succ, List.setIfInBounds_toArray, List.set_cons_zero, List.set_cons_succ]
                refine wpAnyH_take (i := 4) (v := ?_) rfl (by kernel_rfl) (by kernel_rfl) (by kernel_rfl) (fun _ _ _ h => h) (Or.inl ⟨by rfl, ?_⟩) (by assumption) ?_
                rotate_left
                · intro w hSw
                  go_simp
                  try with_reducible rfl
                simp only [Act.put, List.getElem_toArray, List.getElem_cons_zero, List.getElem_cons_succ, List.setIfInBounds_toArray, List.set_cons_zero, List.set_cons_succ]
                refine wpAnyH_take (i := 5) (v := ?_) rfl (by kernel_rfl) (by kernel_rfl) (by kernel_rfl) (fun _ _ _ h => h) (Or.inl ⟨by rfl, ?_⟩) (by assumption) ?_
                rotate_left
                · intro w hSw
                  go_simp
                  try with_reducible rfl
                simp only [Act.put, List.getElem_toArray, List.getElem_cons_zero, List.getElem_cons_succ, List.setIfInBounds_toArray, List.set_cons_zero, List.set_cons_succ]
                refine wpAnyH_take (i := 6) (v := ?_) rfl (by kernel_rfl) (by kernel_rfl) (by kernel_rfl) (fun _ _ _ h => h) (Or.inl ⟨by rfl, ?_⟩) (by assumption) ?_
                rotate_left
                · intro w hSw
                  go_simp
                  try with_reducible rfl
                simp only [Act.put, List.getElem_toArray, List.getElem_cons_zero, List.getElem_cons_succ, List.setIfInBounds_toArray, List.set_cons_zero, List.set_cons_succ]
                refine wpAnyH_take (i := 7) (v := ?_) rfl (by kernel_rfl) (by kernel_rfl) (by kernel_rfl) (fun _ _ _ h => h) (Or.inl ⟨by rfl, ?_⟩) (by assumption) ?_
                rotate_left
                · intro w hSw
                  go_simp
                  try with_reducible rfl
                simp only [Act.put, List.getElem_toArray, List.getElem_cons_zero, List.getElem_cons_succ, List.setIfInBounds_toArray, List.set_cons_zero, List.set_cons_succ]
                refine wpAnyH_take (i := 8) (v := ?_) rfl (by kernel_rfl) (by kernel_rfl) (by kernel_rfl) (fun _ _ _ h => h) (Or.inl ⟨by rfl, ?_⟩) (by assumption) ?_
                rotate_left
                · intro w hSw
                  go_simp
                  try with_reducible rfl
                simp only [Act.put, List.getElem_toArray, List.getElem_cons_zero, List.getElem_cons_succ, List.setIfInBounds_toArray, List.set_cons_zero, List.set_cons_succ]
                refine wpAnyH_take (i := 9) (v := ?_) rfl (by kernel_rfl) (by kernel_rfl) (by kernel_rfl) (fun _ _ _ h => h) (Or.inl ⟨by rfl, ?_⟩) (by assumption) ?_
                rotate_left
                · intro w hSw
                  go_simp
                  try with_reducible rfl
                simp only [Act.put, List.getElem_toArray, List.getElem_cons_zero, List.getElem_cons_succ, List.setIfInBounds_toArray, List.set_cons_zero, List.set_cons_succ]
                refine wpAnyH_done (by kernel_rfl) ?_ _
                clear hHeld F2
                generalize wr.drew = V at *
                by_cases hx : 16 < (x.size : Int)
                · go_wp2
                  go_roundw
                  case rel => exact ⟨l + 1, n2, by go_num, KL.out, G.out, by have := NK.out; omega⟩
                  case measure => simp [intOf]; omega
                by_cases hy : 16 < (y.size : Int)
                · go_wp2
                  go_roundw
                  case rel => exact ⟨l + 1, n2, by go_num, KL.out, G.out, by have := NK.out; omega⟩
                  case measure => simp [intOf]; omega
                cases hq : Op.bytesLess y.toList x.toList
                case true =>
                  have hg : (!Op.bytesLess x.toList y.toList && !(x.toList == y.toList)) = true := gtr_yes hq
                  go_wp2
                  go_roundw
                  case rel => exact ⟨l + 1, n2, by go_num, KL.out, G.out, by have := NK.out; omega⟩
                  case measure => simp [intOf]; omega
                case false =>
                  have hg : (!Op.bytesLess x.toList y.toList && !(x.toList == y.toList)) = false := gtr_no hq
                  have h1 : x.size ≤ 16 := by omega
                  have h2 : y.size ≤ 16 := by omega
                  have hll := LL.out
                  have BL := aside (bnd_le (Ls := Ls) (by omega))
                  have HJ := aside (fold_parts G.out.rises h1 h2 hq)
                  have F1 := aside (fun (W : World) (n : Nat) (h : TI w W sb g tb Ls n) => tfold x y false h (by omega) (tchk_shut h1 h2 hq))
                  have F2 := aside (fun (W : World) (n : Nat) (h : TI w W sb g tb Ls n) => tfold y ⟨#[]⟩ true h (by omega) (tchk_open h2))
                  have F3 := aside (fun (W : World) (n : Nat) (h : TI w W sb g tb Ls n) => tfold x ⟨#[]⟩ true h (by omega) (tchk_open h1))
                  generalize foldV x y false Ls = X at *
                  generalize foldV y ⟨#[]⟩ true Ls = Y at *
                  generalize foldV x ⟨#[]⟩ true Ls = Z at *
                  have CJ := aside (tjoins G.out (by have := NK.out; have := L64.out; omega))
                  clear h1 h2
                  go_wp2_with fail
                  refine CJ.out.mono ?_
                  rintro e w3 ⟨rfl, rfl⟩
                  go_wp2_with fail
                  refine (F1.out _ _ G.out).mono ?_
                  rintro e w4 ⟨d1, rfl, ht1, hd1, k1⟩
                  have G1 := aside (ht1.on (bnew w4 (.cells #[.int .i64 X.n, .int .u64 X.a, .int .u64 X.b] 44)))
                  have X1 := aside (heap_alloc_new w4 (.cells #[.int .i64 X.n, .int .u64 X.a, .int .u64 X.b] 44))
                  have D1 := aside hd1
                  clear ht1 hd1 k1 CJ
                  go_wp2_with fail
                  generalize w4.alloc (.cells #[.int .i64 X.n, .int .u64 X.a, .int .u64 X.b] 44) = V1 at *
                  generalize w4.heap.size = i1 at *
                  refine (F2.out _ _ G1.out).mono ?_
                  rintro e w5 ⟨d2, rfl, ht1, hd1, k1⟩
                  have G2 := aside (ht1.on (bnew w5 (.cells #[.int .i64 Y.n, .int .u64 Y.a, .int .u64 Y.b] 44)))
                  have X2 := aside (heap_alloc_new w5 (.cells #[.int .i64 Y.n, .int .u64 Y.a, .int .u64 Y.b] 44))
                  have Y2 := aside (blk_on (G1.out.box X1.out k1) (bnew w5 (.cells #[.int .i64 Y.n, .int .u64 Y.a, .int .u64 Y.b] 44)))
                  have D2 := aside hd1
                  clear ht1 hd1 k1 X1 G1
                  go_wp2_with fail
                  generalize w5.alloc (.cells #[.int .i64 Y.n, .int .u64 Y.a, .int .u64 Y.b] 44) = V2 at *
                  generalize w5.heap.size = i2 at *
                  refine (F3.out _ _ G2.out).mono ?_
                  rintro e w6 ⟨d3, rfl, ht1, hd1, k1⟩
                  have G3 := aside (ht1.on (bnew w6 (.cells #[.int .i64 Z.n, .int .u64 Z.a, .int .u64 Z.b] 44)))
                  have X3 := aside (heap_alloc_new w6 (.cells #[.int .i64 Z.n, .int .u64 Z.a, .int .u64 Z.b] 44))
                  have Y3 := aside (blk_on (G2.out.box Y2.out k1) (bnew w6 (.cells #[.int .i64 Z.n, .int .u64 Z.a, .int .u64 Z.b] 44)))
                  have Z3 := aside (blk_on (G2.out.box X2.out k1) (bnew w6 (.cells #[.int .i64 Z.n, .int .u64 Z.a, .int .u64 Z.b] 44)))
                  have D3 := aside hd1
                  clear ht1 hd1 k1 X2 Y2 G2
                  go_wp2_with fail
                  generalize w6.alloc (.cells #[.int .i64 Z.n, .int .u64 Z.a, .int .u64 Z.b] 44) = V3 at *
                  generalize w6.heap.size = i3 at *
                  clear F1 F2 F3
                  have N3 := aside (show n2 + d1 + d2 + d3 ≤ 4194304 + 200000 * j + 3072 * (l + 1) from by have := NK.out; have := D1.out; have := D2.out; have := D3.out; have := BL.out; omega)
                  have hw1 : IntKind.i64.wrap (((n2 + d1 + d2 + d3 : Nat) : Int) - (n2 : Int)) = ((d1 + d2 + d3 : Nat) : Int) := by have := NK.out; have := N3.out; have := L64.out; rw [IntKind.wrap_i64]; omega
                  have hw2 : IntKind.i64.wrap (3 * (bnd Ls : Int)) = 3 * (bnd Ls : Int) := by have := BL.out; rw [IntKind.wrap_i64]; omega
                  have hw3 : ¬ 3 * (bnd Ls : Int) < ((d1 + d2 + d3 : Nat) : Int) := by have := D1.out; have := D2.out; have := D3.out; omega
                  have hne := tal_ne_same
                  have CM := aside (fun (W : World) => join_at (w := W) (tJoin_n X Y) (tJoin_a X Y) (tJoin_b X Y))
                  rw [HJ.out] at CM
                  have C1 := aside (fun (W : World) (h : TI w W sb g tb Ls (n2 + d1 + d2 + d3)) => tjoins h (by have := N3.out; have := L64.out; omega))
                  have C2 := aside (fun (W : World) (h : TI w W sb g tb Ls (n2 + d1 + d2 + d3)) => tlen h)
                  have C3 := aside (fun (W : World) => tbound (Ls := Ls) (by omega) W)
                  have BX := aside (nine (W := V3.drew) Y3.out Z3.out X3.out)
                  have G4 := aside G3.out.drew
                  generalize n2 + d1 + d2 + d3 = m at *
                  generalize (bnd Ls : Int) = r at *
                  generalize ((d1 + d2 + d3 : Nat) : Int) = s at *
                  generalize (Ls.length : Int) = z at *
                  clear HJ D1 D2 D3 BL G3
                  refine wp_region_held_drew (S := fun W => W.cell? ⟨i1, 0, none⟩ = some (.int .i64 X.n) ∧ W.cell? ⟨i1, 1, none⟩ = some (.int .u64 X.a) ∧ W.cell? ⟨i1, 2, none⟩ = some (.int .u64 X.b) ∧ W.cell? ⟨i2, 0, none⟩ = some (.int .i64 Y.n) ∧ W.cell? ⟨i2, 1, none⟩ = some (.int .u64 Y.a) ∧ W.cell? ⟨i2, 2, none⟩ = some (.int .u64 Y.b) ∧ W.cell? ⟨i3, 0, none⟩ = some (.int .i64 Z.n) ∧ W.cell? ⟨i3, 1, none⟩ = some (.int .u64 Z.a) ∧ W.cell? ⟨i3, 2, none⟩ = some (.int .u64 Z.b)) (by kernel_rfl) BX.out (fun hHeld => ?_)
                  refine wpAnyH_take (i := 0) (v := ?_) rfl (by kernel_rfl) (by kernel_rfl) (by kernel_rfl) (fun _ _ _ h => h) (Or.inl ⟨by rfl, ?_⟩) (by assumption) ?_
                  rotate_left
                  · intro w hSw
                    go_simp
                    try with_reducible rfl
                  simp only [Act.put, List.getElem_toArray, List.getElem_cons_zero, List.setIfInBounds_toArray, List.set_cons_zero, List.set_cons_succ]
                  refine wpAnyH_take (i := 1) (v := ?_) rfl (by kernel_rfl) (by kernel_rfl) (by kernel_rfl) (fun _ _ _ h => h) (Or.inl ⟨by rfl, ?_⟩) (by assumption) ?_
                  rotate_left
                  · intro w hSw
                    go_simp
                    try with_reducible rfl
                  simp only [Act.put, List.getElem_toArray, List.getElem_cons_zero, List.getElem_cons_succ, List.setIfInBounds_toArray, List.set_cons_zero, List.set_cons_succ]
                  refine wpAnyH_take (i := 2) (v := ?_) rfl (by kernel_rfl) (by kernel_rfl) (by kernel_rfl) (fun _ _ _ h => h) (Or.inl ⟨by rfl, ?_⟩) (by assumption) ?_
                  rotate_left
                  · intro w hSw
                    go_simp
                    try with_reducible rfl
                  simp only [Act.put, List.getElem_toArray, List.getElem_cons_zero, List.getElem_cons_succ, List.setIfInBounds_toArray, List.set_cons_zero, List.set_cons_succ]
                  refine wpAnyH_take (i := 3) (v := ?_) rfl (by kernel_rfl) (by kernel_rfl) (by kernel_rfl) (fun _ _ _ h => h) (Or.inl ⟨by rfl, ?_⟩) (by assumption) ?_
                  rotate_left
                  · intro w hSw
                    go_simp
                    try with_reducible rfl
                  simp only [Act.put, List.getElem_toArray, List.getElem_cons_zero, List.getElem_cons_succ, List.setIfInBounds_toArray, List.set_cons_zero, List.set_cons_succ]
                  refine wpAnyH_take (i := 4) (v := ?_) rfl (by kernel_rfl) (by kernel_rfl) (by kernel_rfl) (fun _ _ _ h => h) (Or.inl ⟨by rfl, ?_⟩) (by assumption) ?_
                  rotate_left
                  · intro w hSw
                    go_simp
                    try with_reducible rfl
                  simp only [Act.put, List.getElem_toArray, List.getElem_cons_zero, List.getElem_cons_succ, List.setIfInBounds_toArray, List.set_cons_zero, List.set_cons_succ]
                  refine wpAnyH_take (i := 5) (v := ?_) rfl (by kernel_rfl) (by kernel_rfl) (by kernel_rfl) (fun _ _ _ h => h) (Or.inl ⟨by rfl, ?_⟩) (by assumption) ?_
                  rotate_left
                  · intro w hSw
                    go_simp
                    try with_reducible rfl
                  simp only [Act.put, List.getElem_toArray, List.getElem_cons_zero, List.getElem_cons_succ, List.setIfInBounds_toArray, List.set_cons_zero, List.set_cons_succ]
                  refine wpAnyH_take (i := 6) (v := ?_) rfl (by kernel_rfl) (by kernel_rfl) (by kernel_rfl) (fun _ _ _ h => h) (Or.inl ⟨by rfl, ?_⟩) (by assumption) ?_
                  rotate_left
                  · intro w hSw
                    go_simp
                    try with_reducible rfl
                  simp only [Act.put, List.getElem_toArray, List.getElem_cons_zero, List.getElem_cons_succ, List.setIfInBounds_toArray, List.set_cons_zero, List.set_cons_succ]
                  refine wpAnyH_take (i := 7) (v := ?_) rfl (by kernel_rfl) (by kernel_rfl) (by kernel_rfl) (fun _ _ _ h => h) (Or.inl ⟨by rfl, ?_⟩) (by assumption) ?_
                  rotate_left
                  · intro w hSw
                    go_simp
                    try with_reducible rfl
                  simp only [Act.put, List.getElem_toArray, List.getElem_cons_zero, List.getElem_cons_succ, List.setIfInBounds_toArray, List.set_cons_zero, List.set_cons_succ]
                  refine wpAnyH_take (i := 8) (v := ?_) rfl (by kernel_rfl) (by kernel_rfl) (by kernel_rfl) (fun _ _ _ h => h) (Or.inl ⟨by rfl, ?_⟩) (by assumption) ?_
                  rotate_left
                  · intro w hSw
                    go_simp
                    try with_reducible rfl
                  simp only [Act.put, List.getElem_toArray, List.getElem_cons_zero, List.getElem_cons_succ, List.setIfInBounds_toArray, List.set_cons_zero, List.set_cons_succ]
                  refine wpAnyH_take (i := 9) (v := ?_) rfl (by kernel_rfl) (by kernel_rfl) (by kernel_rfl) (fun _ _ _ h => h) (Or.inl ⟨by rfl, ?_⟩) (by assumption) ?_
                  rotate_left
                  · intro w hSw
                    go_simp
                    try with_reducible rfl
                  simp only [Act.put, List.getElem_toArray, List.getElem_cons_zero, List.getElem_cons_succ, List.setIfInBounds_toArray, List.set_cons_zero, List.set_cons_succ]
                  refine wpAnyH_take (i := 10) (v := ?_) rfl (by kernel_rfl) (by kernel_rfl) (by kernel_rfl) (fun _ _ _ h => h) (Or.inl ⟨by rfl, ?_⟩) (by assumption) ?_
                  rotate_left
                  · intro w hSw
                    go_simp
                    try with_reducible rfl
                  simp only [Act.put, List.getElem_toArray, List.getElem_cons_zero, List.getElem_cons_succ, List.setIfInBounds_toArray, List.set_cons_zero, List.set_cons_succ]
                  refine wpAnyH_take (i := 11) (v := ?_) rfl (by kernel_rfl) (by kernel_rfl) (by kernel_rfl) (fun _ _ _ h => h) (Or.inl ⟨by rfl, ?_⟩) (by assumption) ?_
                  rotate_left
                  · intro w hSw
                    go_simp
                    try with_reducible rfl
                  simp only [Act.put, List.getElem_toArray, List.getElem_cons_zero, List.getElem_cons_succ, List.setIfInBounds_toArray, List.set_cons_zero, List.set_cons_succ]
                  refine wpAnyH_take (i := 12) (v := ?_) rfl (by kernel_rfl) (by kernel_rfl) (by kernel_rfl) (fun _ _ _ h => h) (Or.inl ⟨by rfl, ?_⟩) (by assumption) ?_
                  rotate_left
                  · intro w hSw
                    go_simp
                    try with_reducible rfl
                  simp only [Act.put, List.getElem_toArray, List.getElem_cons_zero, List.getElem_cons_succ, List.setIfInBounds_toArray, List.set_cons_zero, List.set_cons_succ]
                  refine wpAnyH_take (i := 14) (v := ?_) rfl (by kernel_rfl) (by kernel_rfl) (by kernel_rfl) (fun _ _ _ h => h) (Or.inl ⟨by rfl, ?_⟩) (by assumption) ?_
                  rotate_left
                  · intro w hSw
                    go_simp
                    try with_reducible rfl
                  simp only [Act.put, List.getElem_toArray, List.getElem_cons_zero, List.getElem_cons_succ, List.setIfInBounds_toArray, List.set_cons_zero, List.set_cons_succ]
                  refine wpAnyH_ready (rs := [13]) (by kernel_rfl) (by simp) ?_
                  refine AllReadyH.cons rfl (fun K hK => ?_) AllReadyH.nil
                  go_simp
                  refine (CM.out _).mono ?_
                  rintro e w9 ⟨rfl, bb⟩
                  refine hK.out _ _ (nine (blk_on (show V3.drew.heap[i1]? = some _ from Y3.out) bb) (blk_on (show V3.drew.heap[i2]? = some _ from Z3.out) bb) (blk_on (show V3.drew.heap[i3]? = some _ from X3.out) bb)) (fun hHeld => ?_)
                  clear hK K 
                  have G5 := aside (G4.out.on bb)
                  clear bb G4 X3 Y3 Z3 BX
                  refine wpAnyH_take (i := 15) (v := ?_) rfl (by kernel_rfl) (by kernel_rfl) (by kernel_rfl) (fun _ _ _ h => h) (Or.inl ⟨by rfl, ?_⟩) (by assumption) ?_
                  rotate_left
                  · intro w hSw
                    go_simp
                    try with_reducible rfl
                  simp only [Act.put, List.getElem_toArray, List.getElem_cons_zero, List.getElem_cons_succ, List.setIfInBounds_toArray, List.set_cons_zero, List.set_cons_succ]
                  refine wpAnyH_take (i := 16) (v := ?_) rfl (by kernel_rfl) (by kernel_rfl) (by kernel_rfl) (fun _ _ _ h => h) (Or.inl ⟨by rfl, ?_⟩) (by assumption) ?_
                  rotate_left
                  · intro w hSw
                    go_simp
                    try with_reducible rfl
                  simp only [Act.put, List.getElem_toArray, List.getElem_cons_zero, List.getElem_cons_succ, List.setIfInBounds_toArray, List.set_cons_zero, List.set_cons_succ]
                  refine wpAnyH_take (i := 17) (v := ?_) rfl (by kernel_rfl) (by kernel_rfl) (by kernel_rfl) (fun _ _ _ h => h) (Or.inl ⟨by rfl, ?_⟩) (by assumption) ?_
                  rotate_left
                  · intro w hSw
                    go_simp
                    try with_reducible rfl
                  simp only [Act.put, List.getElem_toArray, List.getElem_cons_zero, List.getElem_cons_succ, List.setIfInBounds_toArray, List.set_cons_zero, List.set_cons_succ]
                  refine wpAnyH_take (i := 18) (v := ?_) rfl (by kernel_rfl) (by kernel_rfl) (by kernel_rfl) (fun _ _ _ h => h) (Or.inl ⟨by rfl, ?_⟩) (by assumption) ?_
                  rotate_left
                  · intro w hSw
                    go_simp
                    try with_reducible rfl
                  simp only [Act.put, List.getElem_toArray, List.getElem_cons_zero, List.getElem_cons_succ, List.setIfInBounds_toArray, List.set_cons_zero, List.set_cons_succ]
                  refine wpAnyH_take (i := 20) (v := ?_) rfl (by kernel_rfl) (by kernel_rfl) (by kernel_rfl) (fun _ _ _ h => h) (Or.inl ⟨by rfl, ?_⟩) (by assumption) ?_
                  rotate_left
                  · intro w hSw
                    go_simp
                    try with_reducible rfl
                  simp only [Act.put, List.getElem_toArray, List.getElem_cons_zero, List.getElem_cons_succ, List.setIfInBounds_toArray, List.set_cons_zero, List.set_cons_succ]
                  refine wpAnyH_take (i := 22) (v := ?_) rfl (by kernel_rfl) (by kernel_rfl) (by kernel_rfl) (fun _ _ _ h => h) (Or.inl ⟨by rfl, ?_⟩) (by assumption) ?_
                  rotate_left
                  · intro w hSw
                    go_simp
                    try with_reducible rfl
                  simp only [Act.put, List.getElem_toArray, List.getElem_cons_zero, List.getElem_cons_succ, List.setIfInBounds_toArray, List.set_cons_zero, List.set_cons_succ]
                  refine wpAnyH_ready (rs := [19]) (by kernel_rfl) (by simp) ?_
                  refine AllReadyH.cons rfl (fun K hK => ?_) AllReadyH.nil
                  go_simp
                  refine (C1.out _ G5.out).mono ?_
                  rintro e w9 ⟨rfl, rfl⟩
                  refine hK.out _ _ (hHeld) (fun hHeld => ?_)
                  clear hK K 
                  refine wpAnyH_take (i := 21) (v := ?_) rfl (by kernel_rfl) (by kernel_rfl) (by kernel_rfl) (fun _ _ _ h => h) (Or.inl ⟨by rfl, ?_⟩) (by assumption) ?_
                  rotate_left
                  · intro w hSw
                    go_simp
                    try with_reducible rfl
                  simp only [Act.put, List.getElem_toArray, List.getElem_cons_zero, List.getElem_cons_succ, List.setIfInBounds_toArray, List.set_cons_zero, List.set_cons_succ]
                  refine wpAnyH_ready (rs := [23]) (by kernel_rfl) (by simp) ?_
                  refine AllReadyH.cons rfl (fun K hK => ?_) AllReadyH.nil
                  go_simp
                  refine (C2.out _ G5.out).mono ?_
                  rintro e w9 ⟨rfl, rfl⟩
                  refine hK.out _ _ (hHeld) (fun hHeld => ?_)
                  clear hK K 
                  refine wpAnyH_ready (rs := [24]) (by kernel_rfl) (by simp) ?_
                  refine AllReadyH.cons rfl (fun K hK => ?_) AllReadyH.nil
                  go_simp
                  refine (C3.out _).mono ?_
                  rintro e w9 ⟨rfl, rfl⟩
                  refine hK.out _ _ (hHeld) (fun hHeld => ?_)
                  clear hK K 
                  refine wpAnyH_take (i := 25) (v := ?_) rfl (by kernel_rfl) (by kernel_rfl) (by kernel_rfl) (fun _ _ _ h => h) (Or.inl ⟨by rfl, ?_⟩) (by assumption) ?_
                  rotate_left
                  · intro w hSw
                    go_simp
                    try with_reducible rfl
                  simp only [Act.put, List.getElem_toArray, List.getElem_cons_zero, List.getElem_cons_succ, List.setIfInBounds_toArray, List.set_cons_zero, List.set_cons_succ]
                  refine wpAnyH_take (i := 26) (v := ?_) rfl (by kernel_rfl) (by kernel_rfl) (by kernel_rfl) (fun _ _ _ h => h) (Or.inl ⟨by rfl, ?_⟩) (by assumption) ?_
                  rotate_left
                  · intro w hSw
                    go_simp
                    try with_reducible rfl
                  simp only [Act.put, List.getElem_toArray, List.getElem_cons_zero, List.getElem_cons_succ, List.setIfInBounds_toArray, List.set_cons_zero, List.set_cons_succ]
                  refine wpAnyH_take (i := 27) (v := ?_) rfl (by kernel_rfl) (by kernel_rfl) (by kernel_rfl) (fun _ _ _ h => h) (Or.inl ⟨by rfl, ?_⟩) (by assumption) ?_
                  rotate_left
                  · intro w hSw
                    go_simp
                    try with_reducible rfl
                  simp only [Act.put, List.getElem_toArray, List.getElem_cons_zero, List.getElem_cons_succ, List.setIfInBounds_toArray, List.set_cons_zero, List.set_cons_succ]
                  refine wpAnyH_done (by kernel_rfl) ?_ _
                  clear hHeld
                  go_wp2
                  go_roundw
                  case rel => exact ⟨l + 1, m, by go_num, KL.out, G5.out, N3.out⟩
                  case measure => simp [intOf]; omega
            · have hn3 : n2 ≤ 4194304 + 200000 * (j + 1) := by omega
              have N3 := aside hn3
              clear hti hn h64 hl hn3
              go_wp2
              go_roundw
              case rel => exact ⟨j + 1, n2, by go_num, JL.out, G0.out, N3.out⟩
              case measure => simp [intOf]; omega
        · clear h64 hj
          have hll := LL.out
          have hX := fold_all (Ls := Ls) (by omega)
          have CF := aside (tfold ⟨#[]⟩ ⟨#[]⟩ true G0.out (by omega) chk_nil)
          rw [hX] at CF
          generalize foldV ⟨#[]⟩ ⟨#[]⟩ true Ls = X at *
          have CL := aside (fun (W : World) (n : Nat) (h : TI w W sb g tb Ls n) => tlen h)
          generalize (Ls.length : Int) = z at *
          clear hX hll
          go_wp2_with fail
          refine CF.out.mono ?_
          rintro e w4 ⟨d1, rfl, ht1, hd1, k1⟩
          have G1 := aside (ht1.on (bnew w4 (.cells #[.int .i64 z, .int .u64 X.a, .int .u64 X.b] 44))).drew
          have X1 := aside (heap_alloc_new w4 (.cells #[.int .i64 z, .int .u64 X.a, .int .u64 X.b] 44))
          clear ht1 hd1 k1 CF
          go_wp2_with fail
          generalize w4.alloc (.cells #[.int .i64 z, .int .u64 X.a, .int .u64 X.b] 44) = V1 at *
          generalize w4.heap.size = i1 at *
          refine wp_region_held_drew (S := fun W => W.cell? ⟨i1, 0, none⟩ = some (.int .i64 z)) (by kernel_rfl) (tri (show V1.drew.heap[i1]? = some _ from X1.out)).1 (fun hHeld => ?_)
          refine wpAnyH_take (i := 0) (v := ?_) rfl (by kernel_rfl) (by kernel_rfl) (by kernel_rfl) (fun _ _ _ h => h) (Or.inl ⟨by rfl, ?_⟩) (by assumption) ?_
          rotate_left
          · intro w hSw
            go_simp
            try with_reducible rfl
          simp only [Act.put, List.getElem_toArray, List.getElem_cons_zero, List.setIfInBounds_toArray, List.set_cons_zero, List.set_cons_succ]
          refine wpAnyH_take (i := 1) (v := ?_) rfl (by kernel_rfl) (by kernel_rfl) (by kernel_rfl) (fun _ _ _ h => h) (Or.inl ⟨by rfl, ?_⟩) (by assumption) ?_
          rotate_left
          · intro w hSw
            go_simp
            try with_reducible rfl
          simp only [Act.put, List.getElem_toArray, List.getElem_cons_zero, List.getElem_cons_succ, List.setIfInBounds_toArray, List.set_cons_zero, List.set_cons_succ]
          refine wpAnyH_take (i := 2) (v := ?_) rfl (by kernel_rfl) (by kernel_rfl) (by kernel_rfl) (fun _ _ _ h => h) (Or.inl ⟨by rfl, ?_⟩) (by assumption) ?_
          rotate_left
          · intro w hSw
            go_simp
            try with_reducible rfl
          simp only [Act.put, List.getElem_toArray, List.getElem_cons_zero, List.getElem_cons_succ, List.setIfInBounds_toArray, List.set_cons_zero, List.set_cons_succ]
          refine wpAnyH_take (i := 3) (v := ?_) rfl (by kernel_rfl) (by kernel_rfl) (by kernel_rfl) (fun _ _ _ h => h) (Or.inl ⟨by rfl, ?_⟩) (by assumption) ?_
          rotate_left
          · intro w hSw
            go_simp
            try with_reducible rfl
          simp only [Act.put, List.getElem_toArray, List.getElem_cons_zero, List.getElem_cons_succ, List.setIfInBounds_toArray, List.set_cons_zero, List.set_cons_succ]
          refine wpAnyH_take (i := 4) (v := ?_) rfl (by kernel_rfl) (by kernel_rfl) (by kernel_rfl) (fun _ _ _ h => h) (Or.inl ⟨by rfl, ?_⟩) (by assumption) ?_
          rotate_left
          · intro w hSw
            go_simp
            try with_reducible rfl
          simp only [Act.put, List.getElem_toArray, List.getElem_cons_zero, List.getElem_cons_succ, List.setIfInBounds_toArray, List.set_cons_zero, List.set_cons_succ]
          refine wpAnyH_take (i := 5) (v := ?_) rfl (by kernel_rfl) (by kernel_rfl) (by kernel_rfl) (fun _ _ _ h => h) (Or.inl ⟨by rfl, ?_⟩) (by assumption) ?_
          rotate_left
          · intro w hSw
            go_simp
            try with_reducible rfl
          simp only [Act.put, List.getElem_toArray, List.getElem_cons_zero, List.getElem_cons_succ, List.setIfInBounds_toArray, List.set_cons_zero, List.set_cons_succ]
          refine wpAnyH_ready (rs := [6]) (by kernel_rfl) (by simp) ?_
          refine AllReadyH.cons rfl (fun K hK => ?_) AllReadyH.nil
          go_simp
          refine (CL.out _ _ G1.out).mono ?_
          rintro e w9 ⟨rfl, rfl⟩
          refine hK.out _ _ (hHeld) (fun hHeld => ?_)
          clear hK K 
          refine wpAnyH_take (i := 7) (v := ?_) rfl (by kernel_rfl) (by kernel_rfl) (by kernel_rfl) (fun _ _ _ h => h) (Or.inl ⟨by rfl, ?_⟩) (by assumption) ?_
          rotate_left
          · intro w hSw
            go_simp
            try with_reducible rfl
          simp only [Act.put, List.getElem_toArray, List.getElem_cons_zero, List.getElem_cons_succ, List.setIfInBounds_toArray, List.set_cons_zero, List.set_cons_succ]
          refine wpAnyH_take (i := 8) (v := ?_) rfl (by kernel_rfl) (by kernel_rfl) (by kernel_rfl) (fun _ _ _ h => h) (Or.inl ⟨by rfl, ?_⟩) (by assumption) ?_
          rotate_left
          · intro w hSw
            go_simp
            try with_reducible rfl
          simp only [Act.put, List.getElem_toArray, List.getElem_cons_zero, List.getElem_cons_succ, List.setIfInBounds_toArray, List.set_cons_zero, List.set_cons_succ]
          refine wpAnyH_take (i := 9) (v := ?_) rfl (by kernel_rfl) (by kernel_rfl) (by kernel_rfl) (fun _ _ _ h => h) (Or.inl ⟨by rfl, ?_⟩) (by assumption) ?_
          rotate_left
          · intro w hSw
            go_simp
            try with_reducible rfl
          simp only [Act.put, List.getElem_toArray, List.getElem_cons_zero, List.getElem_cons_succ, List.setIfInBounds_toArray, List.set_cons_zero, List.set_cons_succ]
          refine wpAnyH_done (by kernel_rfl) ?_ _
          clear hHeld
          go_wp2
          go_ret
          exact ⟨rfl, G1.out.below⟩

end Go.Proofs.YtlgcdcjhflihiabDoor
