/-
  Two stores side by side, as the law StoreTurned meets them.
  The names of keys that the law StoreFills makes.
  A store that is filled with names, and its clones: as the law StoreFills meets them.
-/
import Derived.Test.YtlgcdcjhflihiaaDoorBstorefills34
import Derived.Test.YtlgcdcjhflihiaaDoorBstorefills36
import Derived.Test.YtlgcdcjhflihiaaDoorBstorefills37
import Derived.Test.YtlgcdcjhflihiaaDoorBstorefills35
import Derived.Laws.IdiomStrings
namespace Go.Proofs.YtlgcdcjhflihiaaDoor
open Go.RowKit
set_option linter.unusedVariables false

/-- Two stores: the first of the node 0, the second of the node 5. -/
structure TW (w W : World) (sa ga ta sb gb tb : Nat) (La : List En) (ca : Int) (Lb : List En) (cb : Int) : Prop where
  a : Sto W sa ga ta 0 ca La
  b : Sto W sb gb tb 5 cb Lb
  lan : Lanes W
  below : Below w.heap.size w W
  la : w.heap.size ≤ sa ∧ w.heap.size ≤ ga ∧ w.heap.size ≤ ta
  lb : w.heap.size ≤ sb ∧ w.heap.size ≤ gb ∧ w.heap.size ≤ tb
  ap : sa ≠ sb ∧ ga ≠ gb ∧ ta ≠ tb

section
variable {w W W' : World} {sa ga ta sb gb tb : Nat} {La : List En} {ca : Int} {Lb : List En} {cb : Int}

theorem TW.on (h : TW w W sa ga ta sb gb tb La ca Lb cb) (b : Below W.heap.size W W') : TW w W' sa ga ta sb gb tb La ca Lb cb :=
  ⟨h.a.below b, h.b.below b, h.lan.keep b, bthen h.below b, h.la, h.lb, h.ap⟩
theorem TW.drew (h : TW w W sa ga ta sb gb tb La ca Lb cb) : TW w W.drew sa ga ta sb gb tb La ca Lb cb := h.on ((Below.refl _ _).drew)
theorem TW.turnA {La' : List En} {ca' : Int} (h : TW w W sa ga ta sb gb tb La ca Lb cb) (s : Sto W' sa ga ta 0 ca' La') (k : Keeps (Of sa ga ta) W W') : TW w W' sa ga ta sb gb tb La' ca' Lb cb :=
  ⟨s, h.b.keep h.a k h.ap.1.symm h.ap.2.1.symm h.ap.2.2.symm, h.a.keeps h.lan k, h.below.trans (k.below h.below.size (fun i hi e => by have := h.la; rcases e with e | e | e <;> omega)), h.la, h.lb, h.ap⟩
theorem TW.turnB {Lb' : List En} {cb' : Int} (h : TW w W sa ga ta sb gb tb La ca Lb cb) (s : Sto W' sb gb tb 5 cb' Lb') (k : Keeps (Of sb gb tb) W W') : TW w W' sa ga ta sb gb tb La ca Lb' cb' :=
  ⟨h.a.keep h.b k h.ap.1 h.ap.2.1 h.ap.2.2, s, h.b.keeps h.lan k, h.below.trans (k.below h.below.size (fun i hi e => by have := h.lb; rcases e with e | e | e <;> omega)), h.la, h.lb, h.ap⟩
theorem TW.ownA {B : Nat} {e : TypeId} {s : Nat} {v : Value} {n : Nat} {xs : List Value} (h : TW w W sa ga ta sb gb tb La ca Lb cb) (k : Keeps (Of sa ga ta) W W') (o : W.ownsRow B e s v n xs) (h1 : e ≠ 82) (h2 : e ≠ 111) (h3 : e ≠ 149) : W'.ownsRow B e s v n xs :=
  own_kept o k (fun g cs hg => h.a.not hg h1 h2 h3)
theorem TW.ownB {B : Nat} {e : TypeId} {s : Nat} {v : Value} {n : Nat} {xs : List Value} (h : TW w W sa ga ta sb gb tb La ca Lb cb) (k : Keeps (Of sb gb tb) W W') (o : W.ownsRow B e s v n xs) (h1 : e ≠ 82) (h2 : e ≠ 111) (h3 : e ≠ 149) : W'.ownsRow B e s v n xs :=
  own_kept o k (fun g cs hg => h.b.not hg h1 h2 h3)
theorem TW.boxB {i : Nat} {cs : Array Value} {U : TypeId} (h : TW w W sa ga ta sb gb tb La ca Lb cb) (k : Keeps (Of sb gb tb) W W') (hi : W.heap[i]? = some (.cells cs U (0, 0))) (h1 : U ≠ 82) (h2 : U ≠ 111) (h3 : U ≠ 149) : W'.heap[i]? = some (.cells cs U (0, 0)) :=
  blk_keep hi k (h.b.not hi h1 h2 h3)

theorem takeA (e : En) {P : En → Prop} (h : TW w W sa ga ta sb gb tb La ca Lb cb) (hk : Took P La ca) :
    Calls Tryd.prog 17 #[.pointer (some ⟨sa, 0, none⟩), .agg #[.string e.k, .int .i64 e.c, .int .i64 e.n, .string e.v, .bool e.d]] W fun r W' => ∃ b g La' ca', r = .returned (.tuple #[.bool b, .int .i64 g]) ∧ TW w W' sa ga ta sb gb tb La' ca' Lb cb ∧ Keeps (Of sa ga ta) W W' ∧ (g ≠ 80 → Took (fun x => P x ∨ x = e) La' ca') := by
  refine (qtake e h.a h.lan (by have := hk.len; omega)).mono ?_
  rintro r W' ⟨rfl, k, L, ⟨h1, s⟩ | ⟨h1, s⟩⟩
  · exact ⟨_, _, _, _, rfl, h.turnA s k, k, fun hg => hk.pass e h1 hg⟩
  · exact ⟨_, _, _, _, rfl, h.turnA s k, k, fun _ => hk.take e h1⟩
theorem takeB (e : En) {P : En → Prop} (h : TW w W sa ga ta sb gb tb La ca Lb cb) (hk : Took P Lb cb) :
    Calls Tryd.prog 17 #[.pointer (some ⟨sb, 0, none⟩), .agg #[.string e.k, .int .i64 e.c, .int .i64 e.n, .string e.v, .bool e.d]] W fun r W' => ∃ b g Lb' cb', r = .returned (.tuple #[.bool b, .int .i64 g]) ∧ TW w W' sa ga ta sb gb tb La ca Lb' cb' ∧ Keeps (Of sb gb tb) W W' ∧ (g ≠ 80 → Took (fun x => P x ∨ x = e) Lb' cb') := by
  refine (qtake e h.b h.lan (by have := hk.len; omega)).mono ?_
  rintro r W' ⟨rfl, k, L, ⟨h1, s⟩ | ⟨h1, s⟩⟩
  · exact ⟨_, _, _, _, rfl, h.turnB s k, k, fun hg => hk.pass e h1 hg⟩
  · exact ⟨_, _, _, _, rfl, h.turnB s k, k, fun _ => hk.take e h1⟩
theorem takeC (e : En) {P : En → Prop} (h : TW w W sa ga ta sb gb tb La ca Lb cb) (hk : Took P La ca) (he : P e) :
    Calls Tryd.prog 17 #[.pointer (some ⟨sa, 0, none⟩), .agg #[.string e.k, .int .i64 e.c, .int .i64 e.n, .string e.v, .bool e.d]] W fun r W' => ∃ g, r = .returned (.tuple #[.bool false, .int .i64 g]) ∧ TW w W' sa ga ta sb gb tb La ca Lb cb := by
  have h0 := hk.again e he
  refine (qtake e h.a h.lan (by have := hk.len; omega)).mono ?_
  rintro r W' ⟨rfl, k, L, ⟨h1, s⟩ | ⟨h1, s⟩⟩
  · exact ⟨_, by rw [h1], h.turnA s k⟩
  · rw [h0] at h1; cases h1

theorem foldA (h : TW w W sa ga ta sb gb tb La ca Lb cb) (hl : La.length ≤ 256) :
    Calls Tryd.prog 24 #[.pointer (some ⟨sa, 0, none⟩), .agg #[.string ⟨#[]⟩, .string ⟨#[]⟩, .bool true]] W fun r W' => r = .returned (.tuple #[.agg #[.int .i64 (foldV ⟨#[]⟩ ⟨#[]⟩ true La).n, .int .u64 (foldV ⟨#[]⟩ ⟨#[]⟩ true La).a, .int .u64 (foldV ⟨#[]⟩ ⟨#[]⟩ true La).b], .int .i64 0]) ∧ TW w W' sa ga ta sb gb tb La ca Lb cb ∧ Keeps (Of sa ga ta) W W' := by
  refine (qfold ⟨#[]⟩ ⟨#[]⟩ true h.a h.lan (by omega)).mono ?_
  rintro r W' ⟨rfl, s, k, L⟩
  exact ⟨by rw [chk_whole], h.turnA s k, k⟩
theorem foldB (h : TW w W sa ga ta sb gb tb La ca Lb cb) (hl : Lb.length ≤ 256) :
    Calls Tryd.prog 24 #[.pointer (some ⟨sb, 0, none⟩), .agg #[.string ⟨#[]⟩, .string ⟨#[]⟩, .bool true]] W fun r W' => r = .returned (.tuple #[.agg #[.int .i64 (foldV ⟨#[]⟩ ⟨#[]⟩ true Lb).n, .int .u64 (foldV ⟨#[]⟩ ⟨#[]⟩ true Lb).a, .int .u64 (foldV ⟨#[]⟩ ⟨#[]⟩ true Lb).b], .int .i64 0]) ∧ TW w W' sa ga ta sb gb tb La ca Lb cb ∧ Keeps (Of sb gb tb) W W' := by
  refine (qfold ⟨#[]⟩ ⟨#[]⟩ true h.b h.lan (by omega)).mono ?_
  rintro r W' ⟨rfl, s, k, L⟩
  exact ⟨by rw [chk_whole], h.turnB s k, k⟩
end

theorem talL_num : ∀ (l : List En), l.length ≤ 1000000 → (talL l).n = (l.length : Int)
  | [], _ => rfl
  | x :: l, h => by
    have ih := talL_num l (by simp only [List.length_cons] at h; omega)
    have e : talL (x :: l) = tJoin (tof x) (talL l) := by
      have := talL_append [x] l
      rw [talL_one] at this
      exact this
    rw [e, ← tJoin_n, ih, tof_n, IntKind.wrap_i64]
    simp only [List.length_cons] at h ⊢
    omega
theorem fold_num {Ls : List En} (hl : Ls.length ≤ 256) : (foldV ⟨#[]⟩ ⟨#[]⟩ true Ls).n = (Ls.length : Int) := by
  unfold foldV
  rw [if_pos chk_whole]
  have : Ls.filter (inR ⟨#[]⟩ ⟨#[]⟩ true) = Ls := by
    rw [List.filter_eq_self]
    intro x _
    simp [inR, kLt_none]
  rw [this, talL_num _ (by omega)]

/-- Two entries of one key and one version are one. -/
def Ok2 (x y : En) : Prop := x.k = y.k → x.c = y.c → x.n = y.n → x = y
theorem Ok2.symm {x y : En} (h : Ok2 x y) : Ok2 y x := fun a b c => (h a.symm b.symm c.symm).symm
def NoTw (T : Nat → En) (i k : Nat) : Prop := (∀ p, p < i → ∀ q, q < p → Ok2 (T p) (T q)) ∧ ∀ q, q < k → Ok2 (T i) (T q)
theorem NoTw.nil (T : Nat → En) : NoTw T 0 0 := ⟨fun p h => absurd h (Nat.not_lt_zero _), fun q h => absurd h (Nat.not_lt_zero _)⟩
theorem NoTw.next {T : Nat → En} {i k : Nat} (h : NoTw T i k) (h2 : Ok2 (T i) (T k)) : NoTw T i (k + 1) :=
  ⟨h.1, fun q hq => by rcases Nat.lt_succ_iff_lt_or_eq.1 hq with h3 | rfl; exact h.2 q h3; exact h2⟩
theorem NoTw.row {T : Nat → En} {i : Nat} (h : NoTw T i i) : NoTw T (i + 1) 0 :=
  ⟨fun p hp q hq => by rcases Nat.lt_succ_iff_lt_or_eq.1 hp with h3 | rfl; exact h.1 p h3 q hq; exact h.2 q hq, fun q h => absurd h (Nat.not_lt_zero _)⟩
theorem NoTw.all {T : Nat → En} {n : Nat} (h : NoTw T n 0) (p q : Nat) (hp : p < n) (hq : q < n) : Ok2 (T p) (T q) := by
  rcases Nat.lt_trichotomy p q with h1 | rfl | h1
  · exact (h.1 q hq p h1).symm
  · exact fun _ _ _ => rfl
  · exact h.1 p hp q h1

/-- The row of numbers, since V. -/
structure LN (V W : World) (v : Value) (n : Nat) (l : List Nat) : Prop where
  own : W.ownsRow V.heap.size 3 1 v n (numCells l)
  below : Below V.heap.size V W
  len : l.length = n
theorem LN.on {V W W' : World} {v : Value} {n : Nat} {l : List Nat} (h : LN V W v n l) (b : Below W.heap.size W W') : LN V W' v n l := ⟨own_on h.own b, bthen h.below b, h.len⟩
theorem LN.drew {V W : World} {v : Value} {n : Nat} {l : List Nat} (h : LN V W v n l) : LN V W.drew v n l := ⟨h.own.drew, h.below.drew, h.len⟩
theorem LN.swap {V W : World} {g c n i k : Nat} {l : List Nat} (h : LN V W (.slice (some ⟨g, 0, none⟩) n c) n l) :
    LN V ((W.setCell ⟨g, i, none⟩ (.int .i64 (nthN l k : Int))).setCell ⟨g, k, none⟩ (.int .i64 (nthN l i : Int))) (.slice (some ⟨g, 0, none⟩) n c) n (swapN l i k) := by
  have hl := h.len
  have hg := (h.own.lt g rfl).1
  exact ⟨num_put (num_put h.own), (h.below.setCell hg _).setCell hg _, by rw [swapN_length]; exact hl⟩
/-- The numbers below n, in some order. -/
def AllOf (l : List Nat) (n : Nat) : Prop := l.length = n ∧ ∀ x, x ∈ l ↔ x < n
theorem AllOf.range (n : Nat) : AllOf (List.range n) n := ⟨List.length_range, fun x => List.mem_range⟩
theorem AllOf.swap {l : List Nat} {n i k : Nat} (h : AllOf l n) (hi : i < n) (hk : k < n) : AllOf (swapN l i k) n := by
  obtain ⟨h1, h2⟩ := h
  exact ⟨by rw [swapN_length]; exact h1, fun x => (mem_swapN (by omega) (by omega) x).trans (h2 x)⟩
theorem AllOf.lt {l : List Nat} {n i : Nat} (h : AllOf l n) (hi : i < n) : nthN l i < n := by
  obtain ⟨h1, h2⟩ := h
  exact (h2 _).1 (List.mem_of_getElem? (nthN_get (by omega)))
theorem AllOf.hit {l : List Nat} {n x : Nat} (h : AllOf l n) (hx : x < n) : ∃ p, p < n ∧ nthN l p = x := by
  obtain ⟨h1, h2⟩ := h
  obtain ⟨p, hp, e⟩ := List.mem_iff_getElem.1 ((h2 x).2 hx)
  refine ⟨p, by omega, ?_⟩
  have := nthN_get hp
  rw [List.getElem?_eq_getElem hp] at this
  injection this with this
  rw [← this, e]

end Go.Proofs.YtlgcdcjhflihiaaDoor
namespace Go.Proofs.YtlgcdcjhflihiaaDoor
open Go.RowKit
set_option linter.unusedVariables false

/-- The name of a number. -/
def nameB (i : Nat) : ByteArray := ⟨#[UInt8.ofNat (97 + i / 26), UInt8.ofNat (97 + i % 26)]⟩

theorem nameB_inj {i j : Nat} (hi : i < 256) (hj : j < 256) (h : nameB i = nameB j) : i = j := by
  unfold nameB at h
  simp only [ByteArray.mk.injEq, Array.mk.injEq, List.cons.injEq, and_true] at h
  have h1 := congrArg UInt8.toNat h.1
  have h2 := congrArg UInt8.toNat h.2
  rw [UInt8.toNat_ofNat_of_lt' (by simp only [UInt8.size]; omega), UInt8.toNat_ofNat_of_lt' (by simp only [UInt8.size]; omega)] at h1 h2
  omega
theorem nameB_size (i : Nat) : (nameB i).size = 2 := rfl

set_option maxHeartbeats 3200000 in
set_option maxRecDepth 100000 in
theorem name_any (i : Nat) (h : i < 256) (w : World) : Calls Tryd.prog 22 #[.int .i64 (i : Int)] w fun e w' => e = .returned (.string (nameB i)) ∧ Below w.heap.size w w' := by
  have hcv : Hid ((convert 97 9 (.slice (some ⟨w.heap.size, 0, none⟩) 2 2)).run Tryd.prog (w.alloc (.cells #[.int .u8 (97 + (i : Int) / 26), .int .u8 (97 + (i : Int) % 26)] 5)) = .ok (.string (nameB i)) (w.alloc (.cells #[.int .u8 (97 + (i : Int) / 26), .int .u8 (97 + (i : Int) % 26)] 5))) := by
    have hb := heap_alloc_new w (.cells #[.int .u8 (97 + (i : Int) / 26), .int .u8 (97 + (i : Int) % 26)] 5)
    obtain ⟨k0, k1, -, -⟩ := pair hb
    refine run_convert_bytes_back _ 97 9 5 ⟨w.heap.size, 0, none⟩ 2 [UInt8.ofNat (97 + i / 26), UInt8.ofNat (97 + i % 26)] Tryd.underlying97 Tryd.underlying5 Tryd.underlying9 ?_
    intro j hj
    have hadd : (⟨w.heap.size, 0, none⟩ : Addr).add j = ⟨w.heap.size, 0 + j, none⟩ := by unfold Addr.add; split <;> simp_all
    rw [hadd]
    simp only [List.length_cons, List.length_nil] at hj
    rcases (show j = 0 ∨ j = 1 from by omega) with rfl | rfl
    · have e : ((UInt8.ofNat (97 + i / 26)).toNat : Int) = 97 + (i : Int) / 26 := by rw [UInt8.toNat_ofNat_of_lt' (by simp only [UInt8.size]; omega)]; omega
      show World.cell? _ ⟨w.heap.size, 0, none⟩ = some (.int .u8 ((UInt8.ofNat (97 + i / 26)).toNat : Int))
      rw [e]; exact k0
    · have e : ((UInt8.ofNat (97 + i % 26)).toNat : Int) = 97 + (i : Int) % 26 := by rw [UInt8.toNat_ofNat_of_lt' (by simp only [UInt8.size]; omega)]; omega
      show World.cell? _ ⟨w.heap.size, 1, none⟩ = some (.int .u8 ((UInt8.ofNat (97 + i % 26)).toNat : Int))
      rw [e]; exact k1
  have B0 := aside (bnew w (.cells #[.int .u8 (97 + (i : Int) / 26), .int .u8 (97 + (i : Int) % 26)] 5))
  have hcv := hcv.out
  go_enter Tryd.func22, Tryd.ntmps22
  go_wp2
  go_ret
  exact ⟨rfl, B0.out⟩

theorem insE_new (e : En) : ∀ l : List En, (∀ y ∈ l, y.k ≠ e.k) → (insE e l).length = l.length + 1
  | [], _ => rfl
  | y :: l, h => by
    unfold insE
    split
    · simp
    · split
      · simp only [List.length_cons, insE_new e l (fun z hz => h z (List.mem_cons_of_mem _ hz))]
      · rename_i h1 h2
        exact absurd (kLt_total (by simpa using h1) (by simpa using h2)).symm (h y List.mem_cons_self)

/-- Behind i writes: i keys, the first names. -/
structure Filled (i : Nat) (Ls : List En) : Prop where
  len : Ls.length = i
  each : ∀ e ∈ Ls, (∃ j, j < i ∧ e.k = nameB j) ∧ e.c ≤ (i : Int)
theorem Filled.nil : Filled 0 [] := ⟨rfl, by simp⟩
theorem Filled.next {i : Nat} {Ls : List En} (h : Filled i Ls) (hr : RisesE Ls) (hi : i < 256) (v : ByteArray) (d : Bool) (nd : Int) : Filled (i + 1) (insE (wrEn (nameB i) v d nd (i : Int)) Ls) := by
  have hn : ∀ y ∈ Ls, y.k ≠ nameB i := fun y hy e => by
    obtain ⟨⟨j, hj, hk⟩, _⟩ := h.each y hy
    have := nameB_inj (by omega) hi (hk.symm.trans e)
    omega
  refine ⟨by rw [insE_new _ _ hn, h.len], fun e he => ?_⟩
  rcases (mem_insE _ e Ls hr).1 he with rfl | ⟨h1, _⟩
  · exact ⟨⟨i, by omega, rfl⟩, by show (i : Int) + 1 ≤ ((i + 1 : Nat) : Int); omega⟩
  · obtain ⟨⟨j, hj, hk⟩, hc⟩ := h.each e h1
    exact ⟨⟨j, by omega, hk⟩, by omega⟩
theorem Filled.clone {i : Nat} {Ls : List En} (h : Filled i Ls) : ∀ e ∈ Ls, e.k.size ≤ 140737488351232 ∧ e.c ≤ (i : Int) := fun e he => by
  obtain ⟨⟨j, hj, hk⟩, hc⟩ := h.each e he
  rw [hk, nameB_size]
  exact ⟨by omega, hc⟩
theorem nx1_ok {i : Nat} (hi : i ≤ 256) : (Vs.nx (i : Int) 1).2.2 = 0 := by
  unfold Vs.nx
  rw [if_neg (by omega), if_neg (by omega)]
theorem wr_fill {i : Nat} {Ls : List En} (h : Filled i Ls) (hi : i < 256) {v : ByteArray} (hv : v.size ≤ 32) : wrErr (nameB i) v 1 (i : Int) Ls = 0 := by
  unfold wrErr
  rw [if_neg (by rw [nameB_size]; omega), if_neg (by omega), if_neg (by unfold roomB; rw [h.len]; simp [hi]), nx1_ok (by omega)]

end Go.Proofs.YtlgcdcjhflihiaaDoor
namespace Go.Proofs.YtlgcdcjhflihiaaDoor
open Go.ChangeShapes Go.WideShapes Go.ChangeAt Go.RowKit
set_option linter.unusedVariables false

/-- The place among n. -/
def amg (p n : Int) : Int := if p.tmod n < 0 then p.tmod n + n else p.tmod n
theorem amg_lt (p : Int) {m : Nat} (hm : 0 < m) : ∃ k : Nat, amg p (m : Int) = (k : Int) ∧ k < m := by
  have hlo : -(m : Int) < p.tmod m := by
    have := Int.lt_tmod_of_pos p (show (0 : Int) < m by omega)
    omega
  have hhi : p.tmod m < (m : Int) := Int.tmod_lt_of_pos p (by omega)
  unfold amg
  split
  · exact ⟨(p.tmod m + m).toNat, by omega, by omega⟩
  · exact ⟨(p.tmod m).toNat, by omega, by omega⟩
set_option maxHeartbeats 1600000 in
theorem among9 (p : Int) (m : Nat) (w : World) (hm : 0 < m) (hx : (m : Int) ≤ 9223372036854775807) :
    Calls Tryd.prog 13 #[.int .i64 p, .int .i64 (m : Int)] w fun e w' => e = .returned (.int .i64 (amg p (m : Int))) ∧ w' = w := by
  have h1 : ¬ (m : Int) < 1 := by omega
  have hne : (m : Int) ≠ 0 := by omega
  have hlo : -(m : Int) < p.tmod m := by
    have := Int.lt_tmod_of_pos p (show (0 : Int) < m by omega)
    omega
  have hhi : p.tmod m < (m : Int) := Int.tmod_lt_of_pos p (by omega)
  have hnm : ¬ (m : Int) = -1 := by omega
  unfold amg
  generalize hr : p.tmod m = r at *
  by_cases hneg : r < 0
  · have hw : IntKind.i64.wrap (r + (m : Int)) = r + (m : Int) := by rw [IntKind.wrap_i64]; omega
    rw [if_pos hneg]
    go_enter Tryd.func13, Tryd.ntmps13
    go_wp2
    go_ret
    exact ⟨rfl, rfl⟩
  · rw [if_neg hneg]
    go_enter Tryd.func13, Tryd.ntmps13
    go_wp2
    go_ret
    exact ⟨rfl, rfl⟩

/-- A list of bools that came in. -/
def BoolsIn (w : World) (a : Option Addr) (len cap : Nat) (z : Nat → Bool) : Prop :=
  len ≤ cap ∧ cap ≤ maxLen ∧ (len = 0 ∨ ∃ b off, a = some ⟨b, off, none⟩ ∧ b < w.heap.size ∧ ∀ i, i < len → w.cell? ⟨b, off + i, none⟩ = some (.bool (z i)))

section
variable {H : Type} {enc : TypeId × Value → H} {W : World}
set_option maxHeartbeats 1000000 in
theorem bools_open {fuel : Nat} {a : Option Addr} {len cap : Nat} {d : DataW H} {ps : List MemPlace}
    (hf : DataW.trod enc Tryd.prog W 0 (fun _ => true) true fuel 55 [.slice a len cap] = some (d, ps)) :
    ∃ T, BoolsIn W a len cap T := by
  rcases Deep.open_slice Tryd.underlying55 hf with ⟨hcs, _⟩ | ⟨x, l, c, m, n, D, Pl, hcs, hb, hl, hm, hmm, hx, hel⟩
  · simp only [List.cons.injEq, Value.slice.injEq, and_true] at hcs
    obtain ⟨rfl, rfl, rfl⟩ := hcs
    exact ⟨fun _ => false, Nat.le_refl _, Nat.zero_le _, .inl rfl⟩
  · simp only [List.cons.injEq, Value.slice.injEq, and_true] at hcs
    obtain ⟨rfl, rfl, rfl⟩ := hcs
    simp only [if_true] at hmm
    subst hmm
    rw [cellsBool] at hel
    have each : ∀ i, i < len → ∃ t : Bool, W.cell? (x.add i) = some (.bool t) := by
      intro i hi
      obtain ⟨cs', h1, h2⟩ := hel i (by omega)
      obtain ⟨_, hlen, hcell⟩ := World.cells?_some h1
      match cs', hlen with
      | [v0], _ =>
        obtain ⟨t, e0, _⟩ := DataW.trod_bool Tryd.underlying4 h2
        simp only [List.cons.injEq, and_true] at e0
        subst e0
        have c0 := hcell 0 (by omega)
        rw [Deep.add_add] at c0
        exact ⟨t, by simpa using c0⟩
    by_cases h0 : len = 0
    · exact ⟨fun _ => false, hl, hm, .inl h0⟩
    · obtain ⟨T, hT⟩ := Deep.choose_lt each
      have hc0 := hT 0 (by omega)
      obtain ⟨blk, off, spot⟩ := x
      have hspot : spot = none := by
        have := World.cell?_spot hc0
        simpa [Addr.add] using this
      subst hspot
      have hblk : blk < W.heap.size := by
        have := World.block_lt_of_cell? W _ hc0
        simpa [Addr.add] using this
      have hadd : ∀ j, (⟨blk, off, none⟩ : Addr).add j = ⟨blk, off + j, none⟩ := by intro j; unfold Addr.add; split <;> simp_all
      refine ⟨T, hl, hm, .inr ⟨blk, off, rfl, hblk, fun i hi => ?_⟩⟩
      have h5 := hT i hi
      simpa only [hadd] using h5
end

/-- The cells of an entry's block. -/
def EBx (e : En) (X : World) (b : Nat) : Prop := X.heap[b]? = some (.cells #[.string e.k, .int .i64 e.c, .int .i64 e.n, .string e.v, .bool e.d] 39 (0, 0))

/-- Between two steps. -/
structure FI (w X : World) (sb g tb eb : Nat) (e : En) (i : Nat) (Ls : List En) : Prop where
  st : Sto X sb g tb 1 (i : Int) Ls
  fill : Filled i Ls
  lan : Lanes X
  below : Below w.heap.size w X
  ls : w.heap.size ≤ sb ∧ w.heap.size ≤ g ∧ w.heap.size ≤ tb
  box : EBx e X eb

section
variable {w W W' : World} {sb g tb eb : Nat} {e : En} {i : Nat} {Ls : List En}
theorem FI.on (h : FI w W sb g tb eb e i Ls) (b : Below W.heap.size W W') : FI w W' sb g tb eb e i Ls :=
  ⟨h.st.below b, h.fill, h.lan.keep b, bthen h.below b, h.ls, blk_on h.box b⟩
theorem FI.drew (h : FI w W sb g tb eb e i Ls) : FI w W.drew sb g tb eb e i Ls := h.on ((Below.refl _ _).drew)
theorem FI.turn {i' : Nat} {Ls' : List En} (h : FI w W sb g tb eb e i Ls) (s : Sto W' sb g tb 1 (i' : Int) Ls') (f : Filled i' Ls') (k : Keeps (Of sb g tb) W W') : FI w W' sb g tb eb e i' Ls' :=
  ⟨s, f, h.st.keeps h.lan k, h.below.trans (k.below h.below.size (fun j hj q => by have := h.ls; rcases q with q | q | q <;> omega)), h.ls, blk_keep h.box k (h.st.not h.box (by decide) (by decide) (by decide))⟩
theorem FI.other {sc gc tc : Nat} {nd ck : Int} {Lc : List En} (h : FI w W sb g tb eb e i Ls) (hc : Sto W sc gc tc nd ck Lc) (ap : sb ≠ sc ∧ g ≠ gc ∧ tb ≠ tc) (ge : w.heap.size ≤ sc ∧ w.heap.size ≤ gc ∧ w.heap.size ≤ tc) (k : Keeps (Of sc gc tc) W W') : FI w W' sb g tb eb e i Ls :=
  ⟨h.st.keep hc k ap.1 ap.2.1 ap.2.2, h.fill, hc.keeps h.lan k, h.below.trans (k.below h.below.size (fun j hj q => by rcases q with q | q | q <;> omega)), h.ls, blk_keep h.box k (hc.not h.box (by decide) (by decide) (by decide))⟩

theorem fput (h : FI w W sb g tb eb e i Ls) (hi : i < 256) : Calls Tryd.prog 15 #[.pointer (some ⟨sb, 0, none⟩), .string (nameB i), .string ⟨#[118]⟩] W fun r W' => ∃ c m Ls', r = .returned (.tuple #[.agg #[.int .i64 c, .int .i64 m], .int .i64 0]) ∧ FI w W' sb g tb eb e (i + 1) Ls' := by
  have he := wr_fill h.fill hi (v := ⟨#[118]⟩) (by decide)
  refine (qput (nameB i) ⟨#[118]⟩ h.st h.lan (by rw [h.fill.len]; omega)).mono ?_
  rintro r W' ⟨c, m, er, rfl, h1, k, L, ⟨h2, -⟩ | ⟨h2, -, -, s⟩⟩
  · exact absurd (h1.trans he) h2
  · exact ⟨c, m, _, by rw [h2], h.turn (by have e : ((i + 1 : Nat) : Int) = (i : Int) + 1 := by omega
                                           rw [e]; exact s) (h.fill.next h.st.rises hi _ _ _) k⟩
theorem fdel (h : FI w W sb g tb eb e i Ls) (hi : i < 256) : Calls Tryd.prog 16 #[.pointer (some ⟨sb, 0, none⟩), .string (nameB i)] W fun r W' => ∃ c m Ls', r = .returned (.tuple #[.agg #[.int .i64 c, .int .i64 m], .int .i64 0]) ∧ FI w W' sb g tb eb e (i + 1) Ls' := by
  have he := wr_fill h.fill hi (v := ⟨#[]⟩) (by decide)
  refine (qdel (nameB i) h.st h.lan (by rw [h.fill.len]; omega)).mono ?_
  rintro r W' ⟨c, m, er, rfl, h1, k, L, ⟨h2, -⟩ | ⟨h2, -, -, s⟩⟩
  · exact absurd (h1.trans he) h2
  · exact ⟨c, m, _, by rw [h2], h.turn (by have e : ((i + 1 : Nat) : Int) = (i : Int) + 1 := by omega
                                           rw [e]; exact s) (h.fill.next h.st.rises hi _ _ _) k⟩

/-- Whether Get finds a key. -/
def getB (k : ByteArray) (Ls : List En) : Bool := if (16 : Int) < k.size then false else (lookE k Ls).isSome
theorem fget (k : ByteArray) (h : FI w W sb g tb eb e i Ls) (hi : i ≤ 256) : Calls Tryd.prog 21 #[.pointer (some ⟨sb, 0, none⟩), .string k] W fun r W' => ∃ (x : En) (er : Int), r = .returned (.tuple #[.agg #[.string x.k, .int .i64 x.c, .int .i64 x.n, .string x.v, .bool x.d], .bool (getB k Ls), .int .i64 er]) ∧ FI w W' sb g tb eb e i Ls := by
  refine (qget k h.st (by rw [h.fill.len]; omega)).mono ?_
  rintro r W' ⟨rfl, b⟩
  unfold getB
  by_cases hk : (16 : Int) < k.size
  · exact ⟨⟨⟨#[]⟩, 0, 0, ⟨#[]⟩, false⟩, 20, by rw [if_pos hk, if_pos hk], h.on b⟩
  · exact ⟨(lookE k Ls).getD eNone, 0, by rw [if_neg hk, if_neg hk], h.on b⟩

theorem fclone (h : FI w W sb g tb eb e i Ls) (hi : i ≤ 256) : Calls Tryd.prog 23 #[.pointer (some ⟨sb, 0, none⟩)] W fun r W' => ∃ sc gc tc, r = .returned (.pointer (some ⟨sc, 0, none⟩)) ∧ FI w W' sb g tb eb e i Ls ∧ Sto W' sc gc tc 1 (i : Int) Ls ∧ (sb ≠ sc ∧ g ≠ gc ∧ tb ≠ tc) ∧ (w.heap.size ≤ sc ∧ w.heap.size ≤ gc ∧ w.heap.size ≤ tc) := by
  have hlt := h.st.lt
  obtain ⟨T, n, h1, h2⟩ := h.st
  refine (sclone h1 h.lan h2 (by rw [h.fill.len]; omega) h.fill.clone).mono ?_
  rintro r W' ⟨b, sc, gc, tc, rfl, s, l1, l2, l3⟩
  have := h.below.size
  exact ⟨sc, gc, tc, rfl, h.on b, s, by omega, by omega⟩

theorem cput (k v : ByteArray) {sc gc tc : Nat} (h : FI w W sb g tb eb e i Ls) (hi : i ≤ 256) (hc : Sto W sc gc tc 1 (i : Int) Ls) (ap : sb ≠ sc ∧ g ≠ gc ∧ tb ≠ tc) (ge : w.heap.size ≤ sc ∧ w.heap.size ≤ gc ∧ w.heap.size ≤ tc) :
    Calls Tryd.prog 15 #[.pointer (some ⟨sc, 0, none⟩), .string k, .string v] W fun r W' => ∃ c m, r = .returned (.tuple #[.agg #[.int .i64 c, .int .i64 m], .int .i64 (wrErr k v 1 (i : Int) Ls)]) ∧ FI w W' sb g tb eb e i Ls := by
  refine (qput k v hc h.lan (by rw [h.fill.len]; omega)).mono ?_
  rintro r W' ⟨c, m, er, rfl, rfl, kk, L, -⟩
  exact ⟨c, m, rfl, h.other hc ap ge kk⟩
theorem cdel (k : ByteArray) {sc gc tc : Nat} (h : FI w W sb g tb eb e i Ls) (hi : i ≤ 256) (hc : Sto W sc gc tc 1 (i : Int) Ls) (ap : sb ≠ sc ∧ g ≠ gc ∧ tb ≠ tc) (ge : w.heap.size ≤ sc ∧ w.heap.size ≤ gc ∧ w.heap.size ≤ tc) :
    Calls Tryd.prog 16 #[.pointer (some ⟨sc, 0, none⟩), .string k] W fun r W' => ∃ c m, r = .returned (.tuple #[.agg #[.int .i64 c, .int .i64 m], .int .i64 (wrErr k ⟨#[]⟩ 1 (i : Int) Ls)]) ∧ FI w W' sb g tb eb e i Ls := by
  refine (qdel k hc h.lan (by rw [h.fill.len]; omega)).mono ?_
  rintro r W' ⟨c, m, er, rfl, rfl, kk, L, -⟩
  exact ⟨c, m, rfl, h.other hc ap ge kk⟩
theorem ctake {sc gc tc : Nat} (h : FI w W sb g tb eb e i Ls) (hi : i ≤ 256) (hc : Sto W sc gc tc 1 (i : Int) Ls) (ap : sb ≠ sc ∧ g ≠ gc ∧ tb ≠ tc) (ge : w.heap.size ≤ sc ∧ w.heap.size ≤ gc ∧ w.heap.size ≤ tc) :
    Calls Tryd.prog 17 #[.pointer (some ⟨sc, 0, none⟩), .agg #[.string e.k, .int .i64 e.c, .int .i64 e.n, .string e.v, .bool e.d]] W fun r W' => r = .returned (.tuple #[.bool (tkSay e Ls).2, .int .i64 (tkSay e Ls).1]) ∧ FI w W' sb g tb eb e i Ls := by
  refine (qtake e hc h.lan (by rw [h.fill.len]; omega)).mono ?_
  rintro r W' ⟨rfl, kk, L, -⟩
  exact ⟨rfl, h.other hc ap ge kk⟩
end

/-- What a write to a clone answers. -/
theorem wr_key {k v : ByteArray} {ck : Int} {Ls : List En} (h : (16 : Int) < k.size) : wrErr k v 1 ck Ls = 20 := by unfold wrErr; rw [if_pos h]
theorem wr_val {k v : ByteArray} {ck : Int} {Ls : List En} (h : ¬ (16 : Int) < k.size) (h2 : (32 : Int) < v.size) : wrErr k v 1 ck Ls = 31 := by unfold wrErr; rw [if_neg h, if_pos h2]
theorem wr_room {k v : ByteArray} {i : Nat} {Ls : List En} (f : Filled i Ls) (hi : i ≤ 256) (h : ¬ (16 : Int) < k.size) (h2 : ¬ (32 : Int) < v.size) : wrErr k v 1 (i : Int) Ls = if (getB k Ls || decide (i < 256)) = true then 0 else 80 := by
  unfold wrErr getB roomB
  rw [if_neg h, if_neg h2, if_neg h, f.len, nx1_ok hi]
  cases (lookE k Ls).isSome || decide (i < 256) <;> simp
theorem tk_say {e : En} {i : Nat} {Ls : List En} (f : Filled i Ls) : ((tkSay e Ls).1 = 80 ∧ (tkSay e Ls).2 = false ∧ getB e.k Ls = false ∧ ¬ i < 256) ∨ ((tkSay e Ls).1 = 0 ∧ (getB e.k Ls = true ∨ i < 256)) ∨ ((tkSay e Ls).1 ≠ 80 ∧ (tkSay e Ls).1 ≠ 0) := by
  unfold tkSay
  by_cases h0 : e.chk = 0
  · rw [if_neg (by simp [h0])]
    have hk : ¬ (16 : Int) < e.k.size := fun h => by
      have := En.chk_key e.c e.n e.v e.d h
      rw [show (⟨e.k, e.c, e.n, e.v, e.d⟩ : En) = e from rfl, h0] at this
      cases this
    have hg : getB e.k Ls = (lookE e.k Ls).isSome := by unfold getB; rw [if_neg hk]
    cases hr : roomB e.k Ls
    · rw [if_pos rfl]
      unfold roomB at hr
      rw [f.len] at hr
      simp only [Bool.or_eq_false_iff, decide_eq_false_iff_not] at hr
      exact .inl ⟨rfl, rfl, by rw [hg]; exact hr.1, hr.2⟩
    · rw [if_neg (by simp)]
      unfold roomB at hr
      rw [f.len] at hr
      simp only [Bool.or_eq_true, decide_eq_true_eq] at hr
      refine .inr (.inl ⟨?_, by rw [hg]; exact hr⟩)
      cases lookE e.k Ls <;> rfl
  · rw [if_pos h0]
    refine .inr (.inr ⟨?_, h0⟩)
    show e.chk ≠ 80
    unfold En.chk
    split
    · decide
    · split
      · decide
      · split
        · decide
        · cases (e.d && !e.v.toList.isEmpty) <;> decide

end Go.Proofs.YtlgcdcjhflihiaaDoor
