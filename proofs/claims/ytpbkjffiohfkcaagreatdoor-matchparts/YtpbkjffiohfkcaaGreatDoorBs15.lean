/-
  The document's words, lane and Of.
-/
import Derived.Test.YtpbkjffiohfkcaaGreatDoorBs2
import Derived.Deep.RegionWith
import Derived.Test.YtpbkjffiohfkcaaGreatDoorBs3
import Derived.Test.YtpbkjffiohfkcaaGreatDoorBs14
import Derived.Test.YtpbkjffiohfkcaaGreatDoorBs13
import Derived.Test.YtpbkjffiohfkcaaGreatDoorBs1
import Derived.Deep.RegionHeld
import Derived.OrdersHeld
import Derived.Deep.RegionHeld3
namespace Go.Proofs.YtpbkjffiohfkcaaGreatDoor
open Go.RowKit
set_option linter.unusedVariables false
theorem info64 : (Tryz.prog.info? 41).map (fun i => (i.zero, i.size, i.bytes)) = some (some (.int .u64 0), 1, 8) := by kernel_rfl
theorem own_base {w : World} {base base' : Nat} {e : TypeId} {size : Nat} {v : Value} {n : Nat} {xs : List Value} (h : w.ownsRow base e size v n xs) (hb : base' ≤ base) : w.ownsRow base' e size v n xs := by
 refine ⟨h.1, ?_⟩
 rcases h.2 with h0 | ⟨g, cap, cur, h1, h2, h3⟩
 ·exact .inl h0
 ·exact .inr ⟨g, cap, cur, h1, Nat.le_trans hb h2, h3⟩
def u64s (l : List Int) : List Value := l.map (Value.int .u64)
theorem doneW_length (k : List UInt8) (i : Nat) : (doneW k i).length = i / 8 + (if i % 8 = 0 then 0 else 1) := by
 unfold doneW
 rw [List.length_append, keyW_length]
 split <;> simp
structure WordsSt (w wr : World) (k : ByteArray) (c n : Int) (g cap : Nat) (l : List Int) : Prop where
 below : Below w.heap.size w wr
 sz : w.heap.size + 1 ≤ wr.heap.size
 v : wr.heap[w.heap.size]? = some (.cells #[.int .i64 c, .int .i64 n] 75 (0, 0))
 own : wr.ownsRow (w.heap.size + 1) 41 1 (.slice (some ⟨g, 0, none⟩) l.length cap) l.length (u64s l)
def WordsRel (w : World) (k : ByteArray) (c n : Int) (v i : Value) (wr : World) : Prop :=
 ∃ (j g cap : Nat), i = .int .i64 (j : Int) ∧ j ≤ k.size ∧ v = .slice (some ⟨g, 0, none⟩) ((k.size : Int) :: doneW k.data.toList j).length cap ∧ WordsSt w wr k c n g cap ((k.size : Int) :: doneW k.data.toList j)
theorem WordsSt.last {w wr : World} {k : ByteArray} {c n : Int} {g cap q : Nat} {l : List Int} {x : Int} (h : WordsSt w wr k c n g cap (l ++ [x])) (hq : l.length = q) :
    wr.cell? ⟨g, q, none⟩ = some (.int .u64 x) ∧ wr.frozen? ⟨g, q, none⟩ = false ∧ ∀ y : Int, WordsSt w (wr.drew.setCell ⟨g, q, none⟩ (.int .u64 y)) k c n g cap (l ++ [y]) := by
 have hlt := h.own.lt g rfl
 refine ⟨?_, h.own.frozenAt q, fun y => ⟨h.below.drew.setCell (by simp; omega) _, by simpa using h.sz, ?_, ?_⟩⟩
 ·rw [h.own.cellAt q (by simp; omega), u64s, List.map_append, List.getElem?_append_right (by simp; omega)]
  simp [hq]
 ·rw [heap_setCell_other _ _ _ _ (by show w.heap.size ≠ g; omega)]; exact h.v
 ·have hs := (h.own.drew.stored q (.int .u64 y)).1
  have e1 : (u64s (l ++ [x])).set q (.int .u64 y) = u64s (l ++ [y]) := by
   rw [u64s, List.map_append, List.set_append_right _ _ (by simp; omega)]
   simp [u64s, hq]
  rw [e1] at hs
  have e2 : (l ++ [x]).length = (l ++ [y]).length := by simp
  rw [← e2]
  exact hs
theorem WordsSt.app {w wr w1 : World} {k : ByteArray} {c n : Int} {g cap g1 cap1 : Nat} {l : List Int} {xs : List Value} {m : Nat} {o : Obj} (h : WordsSt w wr k c n g cap l)
    (hown : w1.ownsRow (w.heap.size + 1) 41 1 (.slice (some ⟨g1, 0, none⟩) m cap1) m xs) (hgrow : (wr.alloc o).grownBy w1 (some g)) {l' : List Int} (hm : m = l'.length) (hx : xs = u64s l') : WordsSt w w1 k c n g1 cap1 l' := by
 have hlt := h.own.lt g rfl
 have b1 : Below w.heap.size w w1 := (h.below.alloc (by have := h.sz; omega) o).grown hgrow (by simp; have := h.sz; omega) (fun j hj => by simp at hj; omega)
 refine ⟨b1, by have := hgrow.size; simp at this; have := h.sz; omega, ?_, by subst hm hx; exact hown⟩
 rw [hgrow.block _ (by simp; have := h.sz; omega) (by simp; omega), heap_alloc_old _ _ (by have := h.sz; omega)]
 exact h.v
theorem words_edge {x : Int} {d e : List Int} {p b : Nat} {r : Nat} {kw : List Int} (hn : d = kw ++ [((p + b * 256 ^ r : Nat) : Int)]) (he : e = kw ∧ p = 0) (hr : r = 0) : x :: d = (x :: e) ++ [(b : Int)] := by
 subst hn hr; rw [he.1, he.2]; simp
set_option maxHeartbeats 1600000 in
set_option maxRecDepth 100000 in
theorem words_any (k : ByteArray) (c n : Int) (w : World) (hk : k.size ≤ 140737488351232) :
    Calls Tryz.prog 143 #[.string k, .agg #[.int .i64 c, .int .i64 n]] w fun e w' => ∃ g cap, e = .returned (.slice (some ⟨g, 0, none⟩) (wordsI k c n).length cap) ∧ w'.ownsRow w.heap.size 41 1 (.slice (some ⟨g, 0, none⟩) (wordsI k c n).length cap) (wordsI k c n).length (u64s (wordsI k c n)) ∧ Below w.heap.size w w' := by
 obtain ⟨i0, hi, hz0, hz1, hz2⟩ := info_parts info64
 have hlen : k.data.toList.length = k.size := by show k.data.toList.length = k.data.size; simp
 go_enter Tryz.func143, Tryz.ntmps143
 go_wp2
 go_loopw [5, 6] (fun v i wr => WordsRel w k c n v i wr) (fun _ i _ => k.size - (intOf i).toNat)
 case atStart =>
  refine ⟨0, w.heap.size + 1, 1, rfl, Nat.zero_le _, by rw [doneW_zero]; rfl, (bnew w _).alloc (by simp) _, by simp, blk_on (heap_alloc_new w _) (bnew _ _), ?_⟩
  rw [doneW_zero]
  have := World.ownsRow_lit (base := w.heap.size + 1) (e := 41) (size := 1) (w.alloc (.cells #[.int .i64 c, .int .i64 n] 75)) #[.int .u64 (k.size : Int)] 1 (by simp) (by decide) rfl
  simpa [u64s] using this
 case round =>
  obtain ⟨j, g, cap, rfl, hj, rfl, S⟩ := hrel
  have hsz := S.sz
  have hN : ((k.size : Int) :: doneW k.data.toList j).length ≤ j / 8 + 2 := by rw [List.length_cons, doneW_length]; split <;> omega
  by_cases hlt : (j : Int) < (k.size : Int)
  ·have hjk : j < k.size := by omega
   have hix : ∀ W, (Instr.index 9 (.string k) (.int .i64 (j : Int))).run Tryz.prog W = .ok (.int .u8 (k[j].toNat : Int)) W := fun W => idx_str' k j hjk (j : Int) rfl W
   have hnx := doneW_next k.data.toList j (by omega)
   have hgt : k.data.toList[j]'(by omega) = k[j] := rfl
   have hslt := sum_lt k.data.toList j k[j]
   rw [hgt] at hnx
   have hc2 := k[j].toNat_lt
   generalize k[j].toNat = b at *
   have hs3 : IntKind.u64.wrap (b : Int) = (b : Int) := by rw [IntKind.wrap_u64]; omega
   by_cases h8 : j % 8 = 0
   ·have hm8 : (j : Int) % 8 = 0 := by omega
    have hed := doneW_edge k.data.toList j h8
    have HO := aside S.own
    have HS := aside S
    have HN := aside hnx
    have HE := aside hed
    obtain ⟨q, hq⟩ : ∃ q, q = ((k.size : Int) :: doneW k.data.toList j).length := ⟨_, rfl⟩
    rw [← hq] at hN HO ⊢
    have HQ := aside hq
    clear S hnx hed hq hslt hc2
    go_wp2_with (at_builtin; refine wpList_append_lies _ rfl _ _ _ rfl (w.heap.size + 1) 41 i0 (.int .u64 0) 1 8 Tryz.underlying201 hi hz0 hz1 hz2 rfl (by decide) _ _ _ (by rfl) (HO.out.alloc _) ⟨wr.heap.size, 0, none⟩ 1 1 [.int .u64 0] (by rfl) (by rfl) (World.news_of_block (cs := #[.int .u64 0]) (t := 41) (fr := (0, 0)) (heap_alloc_new wr _)) (by simp [Value.oneCell']) (by omega) (by unfold maxLen; omega) (by omega) (by simp; omega) (wr.heap.size + 1) (by simp) ?_; intro g1 cap1 w1 hown1 hgrow hat hlt1; refine Hid.out ?_)
    refine aside ?_
    have S1 := HS.out.app hown1 hgrow (l' := ((k.size : Int) :: doneW k.data.toList j) ++ [0]) (by rw [HQ.out]; simp) (by simp [u64s])
    obtain ⟨c1, f1, put⟩ := S1.last HQ.out.symm
    have PUT := aside put
    clear hown1 hgrow hat hlt1 put S1
    go_wp2
    go_region
    all_goals
     go_wp2
     go_roundw
     case rel =>
      have eqn := words_edge (x := (k.size : Int)) HN.out HE.out h8
      refine ⟨j + 1, g1, cap1, by go_num, by omega, by rw [eqn, HQ.out]; simp, ?_⟩
      rw [eqn]
      exact PUT.out (b : Int)
     case measure => simp [intOf]; omega
   ·obtain ⟨r, hr⟩ : ∃ r, r = j % 8 := ⟨_, rfl⟩
    have hm8 : (j : Int) % 8 = (r : Int) := by omega
    have hm8' : (j : Int).tmod 8 = (r : Int) := by rw [Int.tmod_eq_emod_of_nonneg (by omega)]; omega
    have hne : ¬ (r : Int) = 0 := by omega
    have hw8 : IntKind.i64.wrap (8 * (r : Int)) = 8 * (r : Int) := by rw [IntKind.wrap_i64]; omega
    have h64 : 8 * (r : Int) ≤ 64 := by omega
    have h64' : 0 ≤ 8 * (r : Int) := by omega
    have hhr := doneW_here k.data.toList j h8
    rw [← hr] at hnx hslt
    generalize partN k.data.toList j = p at *
    obtain ⟨sh, hsh⟩ : ∃ sh, sh = b * 256 ^ r := ⟨_, rfl⟩
    rw [← hsh] at hnx hslt
    have hs1 : IntKind.u64.wrap ((b : Int) * 2 ^ (8 * (r : Int)).toNat) = (sh : Int) := by
     rw [show (8 * (r : Int)).toNat = 8 * r from by omega, show ((b : Int) * 2 ^ (8 * r)) = (sh : Int) from by rw [hsh, Nat.pow_mul 2 8 r |> fun h => show (256 : Nat) ^ r = 2 ^ (8 * r) from h.symm]; push_cast; rfl, IntKind.wrap_u64]
     omega
    have hs2 : IntKind.u64.wrap ((p : Int) + (sh : Int)) = ((p + sh : Nat) : Int) := by rw [IntKind.wrap_u64]; omega
    have HN := aside hnx
    obtain ⟨q, hq⟩ : ∃ q, q = ((k.size : Int) :: keyW k.data.toList (j / 8)).length := ⟨_, rfl⟩
    rw [hhr, ← List.cons_append] at S
    have hle : ((k.size : Int) :: doneW k.data.toList j).length = q + 1 := by rw [hhr, hq]; simp
    rw [hle] at hN ⊢
    obtain ⟨c1, f1, put⟩ := S.last hq.symm
    have PUT := aside put
    have HQ := aside hq
    clear S hnx hq hslt hc2 hle put hhr hsh hr h8 hgt
    generalize p + sh = t at *
    go_wp2
    go_region
    all_goals
     go_wp2
     go_roundw
     case rel =>
      refine ⟨j + 1, g, cap, by go_num, by omega, by rw [HN.out, HQ.out]; simp, ?_⟩
      rw [HN.out, ← List.cons_append]
      exact PUT.out (t : Int)
     case measure => simp [intOf]; omega
  ·have hjk : j = k.size := by omega
   have hall : (k.size : Int) :: doneW k.data.toList j = (k.size : Int) :: keyW k.data.toList (keyN k.size) := by
    have := doneW_all k.data.toList
    rw [hlen] at this
    rw [hjk, this]
   rw [hall] at S hN ⊢
   obtain ⟨v1, v2, -, -⟩ := pair S.v
   have HO := aside S.own
   have HS := aside S
   obtain ⟨q, hq⟩ : ∃ q, q = ((k.size : Int) :: keyW k.data.toList (keyN k.size)).length := ⟨_, rfl⟩
   rw [← hq] at hN HO ⊢
   have HQ := aside hq
   clear S hq hall
   go_wp2_with (at_builtin; refine wpList_append_lies _ rfl _ _ _ rfl (w.heap.size + 1) 41 i0 (.int .u64 0) 1 8 Tryz.underlying201 hi hz0 hz1 hz2 rfl (by decide) _ _ _ (by rfl) (HO.out.alloc _) ⟨wr.heap.size, 0, none⟩ 2 2 [.int .u64 (IntKind.u64.wrap c), .int .u64 (IntKind.u64.wrap n)] (by rfl) (by rfl) (World.news_of_block (cs := #[.int .u64 (IntKind.u64.wrap c), .int .u64 (IntKind.u64.wrap n)]) (t := 41) (fr := (0, 0)) (heap_alloc_new wr _)) (by simp [Value.oneCell']) (by omega) (by unfold maxLen; omega) (by omega) (by simp; omega) (wr.heap.size + 1) (by simp) ?_; intro g1 cap1 w1 hown1 hgrow hat hlt1; refine Hid.out ?_)
   refine aside ?_
   have S1 := HS.out.app hown1 hgrow (l' := wordsI k c n) (by rw [HQ.out]; simp [wordsI]) (by simp [u64s, wordsI])
   have hql : q + 2 = (wordsI k c n).length := by rw [HQ.out]; simp [wordsI]
   have HS1 := aside S1
   have HQL := aside hql
   clear hown1 hgrow hat hlt1 S1 hql
   go_wp2
   go_ret
   exact ⟨g1, cap1, by rw [← HQL.out]; rfl, own_base HS1.out.own (by omega), HS1.out.below⟩
set_option maxHeartbeats 1600000 in
set_option maxRecDepth 100000 in
theorem lane_any (x f : Int) (s : Nat) (l : List Int) (B g cap : Nat) (w : World) (hs : s ≤ 63) (own : w.ownsRow B 41 1 (.slice (some ⟨g, 0, none⟩) l.length cap) l.length (u64s l)) :
    Calls Tryz.prog 144 #[.int .u64 x, .int .u64 f, .int .i64 (s : Int), .slice (some ⟨g, 0, none⟩) l.length cap] w fun e w' => e = .returned (.int .u64 (l.foldl (mixI f s) x)) ∧ w' = w := by
 have hs0 : (0 : Int) ≤ (s : Int) := by omega
 have hs1 : (s : Int) ≤ 64 := by omega
 have hcell : ∀ j (h : j < l.length), w.cell? ⟨g, j, none⟩ = some (.int .u64 l[j]) := by
  intro j h
  rw [own.cellAt j (by omega), u64s, List.getElem?_map, List.getElem?_eq_getElem h]
  rfl
 have HC := aside hcell
 have hmx : l.length ≤ maxLen := by
  rcases own.2 with ⟨h, _⟩ | ⟨g', cap', cur, h1, h2, h3, h4, h5, h6⟩
  ·cases h
  ·injection h1 with e1 e2 e3
   omega
 have hmx' : (l.length : Int) ≤ 9223372036854775807 := by unfold maxLen at hmx; omega
 clear hmx
 obtain ⟨N, hN⟩ : ∃ N, N = l.length := ⟨_, rfl⟩
 have HN := aside hN
 rw [← hN] at hmx' ⊢
 clear own hcell hN
 go_enter Tryz.func144, Tryz.ntmps144
 go_wp2
 go_loopw [0, 13] (fun v i wr => ∃ j : Nat, i = .int .i64 (j : Int) ∧ j ≤ N ∧ v = .int .u64 ((l.take j).foldl (mixI f s) x) ∧ wr = w) (fun _ i _ => N - (intOf i).toNat)
 case atStart => exact ⟨0, rfl, Nat.zero_le _, rfl, rfl⟩
 case round =>
  obtain ⟨j, rfl, hj, rfl, rfl⟩ := hrel
  by_cases hlt : (j : Int) < (N : Int)
  ·have hjl : j < l.length := by have := HN.out; omega
   have c1 := HC.out j hjl
   have hst : (l.take (j + 1)).foldl (mixI f s) x = mixI f s ((l.take j).foldl (mixI f s) x) l[j] := by
    rw [List.take_succ_eq_append_getElem hjl, List.foldl_append]; rfl
   have HST := aside hst
   have hj0 : (0 : Int) ≤ (j : Int) := by omega
   clear hst
   generalize l[j] = u at *
   generalize (l.take j).foldl (mixI f s) x = y at *
   go_wp2
   go_roundw
   case rel => exact ⟨j + 1, by go_num, by omega, by rw [HST.out]; rfl, trivial⟩
   case measure => simp [intOf]; omega
  ·have hjl : j = l.length := by have := HN.out; omega
   have hall : (l.take j).foldl (mixI f s) x = l.foldl (mixI f s) x := by rw [hjl, List.take_length]
   have HA := aside hall
   clear hall hjl
   go_wp2
   go_ret
   exact ⟨by rw [← HA.out]; rfl, rfl⟩
set_option maxHeartbeats 1600000 in
set_option maxRecDepth 100000 in
theorem ofRef_any (k : ByteArray) (c n : Int) (w : World) (hk : k.size ≤ 140737488351232) :
    Calls Tryz.prog 127 #[.string k, .agg #[.int .i64 c, .int .i64 n]] w fun e w' => e = .returned (ofV k c n) ∧ Below w.heap.size w w' := by
 go_enter Tryz.func127, Tryz.ntmps127
 go_wp2_with fail
 refine (words_any k c n _ hk).mono ?_
 rintro e w1 ⟨g, cap, rfl, own, b1⟩
 have bt : Below w.heap.size w w1 := bthen ((bnew w _).alloc (by simp) _) b1
 have hr := blk_on (show ((w.alloc (.cells #[.int .i64 c, .int .i64 n] 75)).alloc (.cells #[.int .u64 0, .int .u64 0] 43)).heap[w.heap.size + 1]? = some (.cells #[.int .u64 0, .int .u64 0] 43 (0, 0)) from by have := heap_alloc_new (w.alloc (.cells #[.int .i64 c, .int .i64 n] 75)) (.cells #[.int .u64 0, .int .u64 0] 43); simpa using this) b1
 obtain ⟨p0, p1, p2, p3⟩ := pair hr
 have HO := aside own
 have BT := aside bt
 clear own b1 bt hr
 go_wp2_with fail
 refine (lane_any _ _ 29 _ _ _ _ _ (by omega) HO.out).mono ?_
 rintro e w2 ⟨rfl, rfl⟩
 go_wp2_with fail
 refine (lane_any _ _ 32 _ _ _ _ _ (by omega) HO.out).mono ?_
 rintro e w3 ⟨rfl, rfl⟩
 go_wp2
 exact bodyPost_ret (v := ofV k c n) (by simp [results, Tryz.results127, go_sem, p0, p1, ofV, of0, of1, lane0, lane1]) rfl ⟨rfl, (BT.out.setCell (by simp) _).setCell (by simp) _⟩
set_option maxHeartbeats 1600000 in
set_option maxRecDepth 100000 in
theorem tof_any (k : ByteArray) (c n : Int) (v : ByteArray) (d : Bool) (w : World) (L : Lanes w) (hk : k.size ≤ 140737488351232) :
    Calls Tryz.prog 92 #[.agg #[.string k, .int .i64 c, .int .i64 n, .string v, .bool d]] w fun e w' => e = .returned (.agg #[.int .i64 1, .int .u64 (of0 k c n), .int .u64 (of1 k c n)]) ∧ Below w.heap.size w w' := by
 have LL := aside L
 clear L
 have B0 := aside (bthen (bnew w (.cells #[.string k, .int .i64 c, .int .i64 n, .string v, .bool d] 77)) (bnew _ (.cells #[.int .i64 0, .int .u64 0, .int .u64 0] 45)))
 have G := aside (heap_alloc_new (w.alloc (.cells #[.string k, .int .i64 c, .int .i64 n, .string v, .bool d] 77)) (.cells #[.int .i64 0, .int .u64 0, .int .u64 0] 45))
 have hz : (w.alloc (.cells #[.string k, .int .i64 c, .int .i64 n, .string v, .bool d] 77)).heap.size = w.heap.size + 1 := by simp
 rw [hz] at G
 obtain ⟨x, hx⟩ : ∃ x, of0 k c n = x := ⟨_, rfl⟩
 obtain ⟨y, hy⟩ : ∃ y, of1 k c n = y := ⟨_, rfl⟩
 have CO : Hid (∀ W, Below w.heap.size w W → Calls Tryz.prog 116 #[.string k, .agg #[.int .i64 c, .int .i64 n]] W fun e w' => e = .returned (.agg #[.int .u64 x, .int .u64 y]) ∧ Below W.heap.size W w') := fun W bw => by
  rw [← hx, ← hy]
  exact of_any k c n W (LL.out.keep bw) (by omega)
 rw [hx, hy]
 clear hz hx hy
 go_enter Tryz.func92, Tryz.ntmps92
 go_wp2_with fail
 generalize (w.alloc (.cells #[.string k, .int .i64 c, .int .i64 n, .string v, .bool d] 77)).alloc (.cells #[.int .i64 0, .int .u64 0, .int .u64 0] 45) = V at *
 refine (CO.out _ B0.out).mono ?_
 rintro e w1 ⟨rfl, b1⟩
 have B1 := aside (bthen B0.out b1)
 obtain ⟨s0, s1, s2, z0, z1, z2⟩ := tri (blk_on G.out b1)
 clear b1 G B0
 go_wp2
 exact bodyPost_ret (v := .agg #[.int .i64 1, .int .u64 x, .int .u64 y]) (by simp [results, Tryz.results92, go_sem, s0, s1, s2]) rfl ⟨rfl, ((B1.out.setCell (by simp) _).setCell (by simp) _).setCell (by simp) _⟩
set_option maxHeartbeats 1600000 in
set_option maxRecDepth 100000 in
theorem tofRef_any (k : ByteArray) (c n : Int) (v : ByteArray) (d : Bool) (w : World) (hk : k.size ≤ 140737488351232) :
    Calls Tryz.prog 105 #[.agg #[.string k, .int .i64 c, .int .i64 n, .string v, .bool d]] w fun e w' => e = .returned (.agg #[.int .i64 1, .int .u64 (of0 k c n), .int .u64 (of1 k c n)]) ∧ Below w.heap.size w w' := by
 have B0 := aside (bthen (bnew w (.cells #[.string k, .int .i64 c, .int .i64 n, .string v, .bool d] 77)) (bnew _ (.cells #[.int .i64 0, .int .u64 0, .int .u64 0] 45)))
 have G := aside (heap_alloc_new (w.alloc (.cells #[.string k, .int .i64 c, .int .i64 n, .string v, .bool d] 77)) (.cells #[.int .i64 0, .int .u64 0, .int .u64 0] 45))
 have hz : (w.alloc (.cells #[.string k, .int .i64 c, .int .i64 n, .string v, .bool d] 77)).heap.size = w.heap.size + 1 := by simp
 rw [hz] at G
 obtain ⟨x, hx⟩ : ∃ x, of0 k c n = x := ⟨_, rfl⟩
 obtain ⟨y, hy⟩ : ∃ y, of1 k c n = y := ⟨_, rfl⟩
 have CO : Hid (∀ W, Below w.heap.size w W → Calls Tryz.prog 127 #[.string k, .agg #[.int .i64 c, .int .i64 n]] W fun e w' => e = .returned (.agg #[.int .u64 x, .int .u64 y]) ∧ Below W.heap.size W w') := fun W bw => by
  rw [← hx, ← hy]
  exact ofRef_any k c n W hk
 rw [hx, hy]
 clear hz hx hy
 go_enter Tryz.func105, Tryz.ntmps105
 go_wp2_with fail
 generalize (w.alloc (.cells #[.string k, .int .i64 c, .int .i64 n, .string v, .bool d] 77)).alloc (.cells #[.int .i64 0, .int .u64 0, .int .u64 0] 45) = V at *
 refine (CO.out _ B0.out).mono ?_
 rintro e w1 ⟨rfl, b1⟩
 have B1 := aside (bthen B0.out b1)
 obtain ⟨s0, s1, s2, z0, z1, z2⟩ := tri (blk_on G.out b1)
 clear b1 G B0
 go_wp2
 exact bodyPost_ret (v := .agg #[.int .i64 1, .int .u64 x, .int .u64 y]) (by simp [results, Tryz.results105, go_sem, s0, s1, s2]) rfl ⟨rfl, ((B1.out.setCell (by simp) _).setCell (by simp) _).setCell (by simp) _⟩
set_option maxHeartbeats 3200000 in
set_option maxRecDepth 100000 in
theorem slen {w : World} {sb g tb : Nat} {nd ck : Int} {T : Tr En Tl} {n : Nat} (h : IsSt w sb g tb nd ck T n) : Calls Tryz.prog 81 #[.pointer (some ⟨sb, 0, none⟩)] w fun e w' => e = .returned (.int .i64 (T.cnt : Int)) ∧ w' = w := by
 obtain ⟨-, -, -, c3, -⟩ := quad h.blk
 have C := aside (ylenE h.tree)
 generalize (T.cnt : Int) = m at *
 clear h
 go_enter Tryz.func81, Tryz.ntmps81
 go_wp2_with fail
 refine C.out.mono ?_
 rintro e w1 ⟨rfl, rfl⟩
 go_wp2
 go_ret
 exact ⟨rfl, rfl⟩
set_option maxHeartbeats 3200000 in
set_option maxRecDepth 100000 in
theorem sclock {w : World} {sb g tb : Nat} {nd ck : Int} {T : Tr En Tl} {n : Nat} (h : IsSt w sb g tb nd ck T n) : Calls Tryz.prog 36 #[.pointer (some ⟨sb, 0, none⟩)] w fun e w' => e = .returned (.int .i64 ck) ∧ w' = w := by
 obtain ⟨-, c1, -, -, -⟩ := quad h.blk
 clear h
 go_enter Tryz.func36, Tryz.ntmps36
 go_wp2
 go_ret
 exact ⟨rfl, rfl⟩
set_option maxHeartbeats 3200000 in
set_option maxRecDepth 100000 in
theorem sempty (nd ck : Int) (w : World) : Calls Tryz.prog 55 #[.int .i64 nd, .int .i64 ck] w fun e w' => ∃ sb g tb, e = .returned (.pointer (some ⟨sb, 0, none⟩)) ∧ IsSt w' sb g tb nd ck .nil 0 ∧ Below w.heap.size w w' ∧ w.heap.size ≤ sb ∧ w.heap.size ≤ g ∧ w.heap.size ≤ tb := by
 have hmf : ∀ (fn : Fn) (first cap : Array Value) (w : World), (Instr.makeFunc fn first cap).run Tryz.prog w = .ok (.func fn first cap) w := fun _ _ _ _ => rfl
 have C1 := aside (newMeter_any w)
 have C2 := aside (fun (W : World) => ynewE (.func 89) #[.pointer (some ⟨w.heap.size, 0, none⟩)] #[] W)
 have M := aside (heap_alloc_new w (.cells #[.int .i64 0] 175))
 have B0 := aside (bnew w (.cells #[.int .i64 0] 175))
 go_enter Tryz.func55, Tryz.ntmps55
 go_wp2_with fail
 refine C1.out.mono ?_
 rintro e w1 ⟨rfl, rfl⟩
 go_wp2_with fail
 refine (C2.out _).mono ?_
 rintro e w2 ⟨tb, rfl, ht, hb, hlt⟩
 have HT := aside ht
 have HB := aside hb
 have HL := aside hlt
 clear ht hb hlt C1 C2
 go_wp2
 go_ret
 have hs := HL.out
 simp at hs
 refine ⟨w2.heap.size, w.heap.size, tb, rfl, ⟨heap_alloc_new w2 _, fun b e => ?_, HT.out.below (bnew _ _)⟩, bthen (bthen B0.out HB.out) (bnew _ _), (by have := HB.out.size; simp at this; omega), Nat.le_refl _, by omega⟩
 cases e
 exact blk_on (blk_on M.out HB.out) (bnew _ _)
def ckm (ck c : Int) : Int := if ck < c then c else ck
theorem held_hold {w X : World} {sb g tb : Nat} {nd ck : Int} {T : Tr En Tl} {n : Nat} {e : En} (h : IsSt X sb g tb nd ck T n) (hb : X.heap[w.heap.size]? = some (.cells #[.string e.k, .int .i64 e.c, .int .i64 e.n, .string e.v, .bool e.d] 77 (0, 0))) : X.cell? ⟨sb, 3, none⟩ = some (.pointer (some ⟨tb, 0, none⟩)) ∧ X.cell? ⟨w.heap.size, 0, none⟩ = some (.string e.k) ∧ X.cell? ⟨w.heap.size, 1, none⟩ = some (.int .i64 e.c) ∧ X.cell? ⟨w.heap.size, 2, none⟩ = some (.int .i64 e.n) ∧ X.cell? ⟨w.heap.size, 3, none⟩ = some (.string e.v) ∧ X.cell? ⟨w.heap.size, 4, none⟩ = some (.bool e.d) := by
 obtain ⟨c0, c1, c2, c3, -⟩ := quad h.blk
 obtain ⟨b0, b1, b2, b3, b4, -⟩ := penta hb
 exact ⟨c3, b0, b1, b2, b3, b4⟩
theorem hold_end {w X : World} {sb g tb : Nat} {nd ck : Int} {T : Tr En Tl} {n : Nat} (h : IsSt X sb g tb nd ck T n) (k : Keeps (Of sb g tb) w X) (c : Int) : IsSt (X.setCell ⟨sb, 1, none⟩ (.int .i64 c)) sb g tb nd c T n ∧ Keeps (Of sb g tb) w (X.setCell ⟨sb, 1, none⟩ (.int .i64 c)) := by
 obtain ⟨a1, a2, a3⟩ := h.apart
 obtain ⟨p, ht, hT⟩ := h.tree
 refine ⟨⟨heap_setCell_same X sb 1 _ _ (.int .i64 c) h.blk, h.cnt.setCell (p := ⟨sb, 1, none⟩) _ (fun e => a1 (by cases e; rfl)), ⟨p, (heap_setCell_other _ _ _ _ (fun e => a2 (by dsimp only at e; exact e.symm))).trans ht, hT.on ((Stay.refl _ X).setCell _ (fun cs e => by dsimp only at e; rw [h.blk] at e; simp at e))⟩⟩, k.setCell (p := ⟨sb, 1, none⟩) (fun _ => .inl rfl) _⟩
theorem hold_mid {w V W : World} {sb g tb : Nat} {nd ck : Int} {T T' : Tr En Tl} {n m : Nat} {e : En} (h : IsSt V sb g tb nd ck T n) (hg : V.heap[w.heap.size]? = some (.cells #[.string e.k, .int .i64 e.c, .int .i64 e.n, .string e.v, .bool e.d] 77 (0, 0))) (b : Below w.heap.size w V) (c : CntE (some g) m W) (k : Keeps (fun x => x = tb ∨ OnC (some g) x) V W) (t : TreeE W tb (jvE g) T') :
    (W.cell? ⟨sb, 3, none⟩ = some (.pointer (some ⟨tb, 0, none⟩)) ∧ W.cell? ⟨w.heap.size, 0, none⟩ = some (.string e.k) ∧ W.cell? ⟨w.heap.size, 1, none⟩ = some (.int .i64 e.c) ∧ W.cell? ⟨w.heap.size, 2, none⟩ = some (.int .i64 e.n) ∧ W.cell? ⟨w.heap.size, 3, none⟩ = some (.string e.v) ∧ W.cell? ⟨w.heap.size, 4, none⟩ = some (.bool e.d)) ∧ IsSt W sb g tb nd ck T' m ∧ W.heap[w.heap.size]? = some (.cells #[.string e.k, .int .i64 e.c, .int .i64 e.n, .string e.v, .bool e.d] 77 (0, 0)) ∧ Keeps (Of sb g tb) w W := by
 obtain ⟨a1, a2, a3⟩ := h.apart
 have hn := h.not hg (by decide) (by decide) (by decide)
 have G : W.heap[w.heap.size]? = some (.cells #[.string e.k, .int .i64 e.c, .int .i64 e.n, .string e.v, .bool e.d] 77 (0, 0)) := blk_keep hg k (fun x => hn (by rcases x with x | x; exact .inr (.inl x); exact .inr (.inr (Option.some.inj x).symm)))
 have H : IsSt W sb g tb nd ck T' m := ⟨blk_keep h.blk k (fun x => by rcases x with x | x; exact a2 x; exact a1 (Option.some.inj x).symm), c, t⟩
 exact ⟨held_hold H G, H, G, (Keeps.of_below b _).trans (k.mono (fun _ _ x => by rcases x with x | x; exact .inr (.inl x); exact .inr (.inr (Option.some.inj x).symm)))⟩
set_option maxHeartbeats 3200000 in
set_option maxRecDepth 100000 in
theorem shold (e : En) {Ls : List En} {w : World} {sb g tb : Nat} {nd ck : Int} {T : Tr En Tl} {n : Nat} (h : IsSt w sb g tb nd ck T n) (L : Lanes w) (hH : Hol T Ls) (hl : Ls.length ≤ 1000000) (hk : e.k.size ≤ 140737488351232) :
    Calls Tryz.prog 57 #[.pointer (some ⟨sb, 0, none⟩), .agg #[.string e.k, .int .i64 e.c, .int .i64 e.n, .string e.v, .bool e.d]] w fun r w' => r = .returned (.tuple #[]) ∧ IsSt w' sb g tb nd (ckm ck e.c) (Tr.put e.k e (tof e) T) (n + Tr.putC e.k e (tof e) T) ∧ Keeps (Of sb g tb) w w' := by
 have B0 := aside (bnew w (.cells #[.string e.k, .int .i64 e.c, .int .i64 e.n, .string e.v, .bool e.d] 77))
 have G := aside (heap_alloc_new w (.cells #[.string e.k, .int .i64 e.c, .int .i64 e.n, .string e.v, .bool e.d] 77))
 have H := aside (h.alloc (.cells #[.string e.k, .int .i64 e.c, .int .i64 e.n, .string e.v, .bool e.d] 77))
 have CO : Hid (∀ W : World, Lanes W → Calls Tryz.prog 92 #[.agg #[.string e.k, .int .i64 e.c, .int .i64 e.n, .string e.v, .bool e.d]] W fun r w' => r = .returned (.agg #[.int .i64 (tof e).n, .int .u64 (tof e).a, .int .u64 (tof e).b]) ∧ Below W.heap.size W w') := fun W hW => by
  rw [tof_n, tof_a, tof_b]
  exact tof_any e.k e.c e.n e.v e.d W hW hk
 have CP : Hid (∀ W : World, IsSt W sb g tb nd ck T n → Calls Tryz.prog 91 #[.pointer (some ⟨tb, 0, none⟩), .string e.k, .agg #[.string e.k, .int .i64 e.c, .int .i64 e.n, .string e.v, .bool e.d], .agg #[.int .i64 (tof e).n, .int .u64 (tof e).a, .int .u64 (tof e).b]] W fun r w' => r = .returned (.tuple #[.agg #[.string ((Tr.found e.k T).val eNone).k, .int .i64 ((Tr.found e.k T).val eNone).c, .int .i64 ((Tr.found e.k T).val eNone).n, .string ((Tr.found e.k T).val eNone).v, .bool ((Tr.found e.k T).val eNone).d], .bool (!(Tr.found e.k T).isNil)]) ∧ TreeE w' tb (jvE g) (Tr.put e.k e (tof e) T) ∧ CntE (some g) (n + Tr.putC e.k e (tof e) T) w' ∧ Keeps (fun x => x = tb ∨ OnC (some g) x) W w') := fun W hW =>
  yputE e.k e (tof e) hW.tree (bothJv g) hW.cnt hH.gd (by show Ls.length + 1 + 0 ≤ _; omega)
 have LL := aside (L.keep B0.out)
 generalize Tr.putC e.k e (tof e) T = pc at *
 generalize Tr.put e.k e (tof e) T = T' at *
 generalize (Tr.found e.k T).val eNone = fv at *
 generalize (!(Tr.found e.k T).isNil) = fb at *
 generalize (tof e).n = t0 at *
 generalize (tof e).a = t1 at *
 generalize (tof e).b = t2 at *
 clear h L hH hl hk
 go_enter Tryz.func57, Tryz.ntmps57
 go_wp2_with fail
 generalize w.alloc (.cells #[.string e.k, .int .i64 e.c, .int .i64 e.n, .string e.v, .bool e.d] 77) = V at *
 refine wp_region_held_drew (S := fun X => X.cell? ⟨sb, 3, none⟩ = some (.pointer (some ⟨tb, 0, none⟩)) ∧ X.cell? ⟨w.heap.size, 0, none⟩ = some (.string e.k) ∧ X.cell? ⟨w.heap.size, 1, none⟩ = some (.int .i64 e.c) ∧ X.cell? ⟨w.heap.size, 2, none⟩ = some (.int .i64 e.n) ∧ X.cell? ⟨w.heap.size, 3, none⟩ = some (.string e.v) ∧ X.cell? ⟨w.heap.size, 4, none⟩ = some (.bool e.d)) (by kernel_rfl) (held_hold H.out.drew G.out) (fun hHeld => ?_)
 refine tk 0 rfl _ ?_; refine tk 1 rfl _ ?_; refine tk 2 rfl _ ?_; refine tk 3 rfl _ ?_; refine tk 4 rfl _ ?_; refine tk 5 rfl _ ?_; refine tk 6 rfl _ ?_; refine tk 7 rfl _ ?_
 refine rd 8 rfl fun K hK => ?_
 go_simp
 refine (CO.out _ LL.out.drew).mono ?_
 rintro e w9 ⟨rfl, bb⟩
 refine hK.out _ _ (held_hold (H.out.drew.below bb) (blk_on (show V.drew.heap[w.heap.size]? = some _ from G.out) bb)) (fun hHeld => ?_)
 clear hK K 
 have H1 := aside (H.out.drew.below bb)
 have G1 := aside (blk_on (show V.drew.heap[w.heap.size]? = some _ from G.out) bb)
 have B1 := aside (B0.out.drew.trans (bb.mono B0.out.drew.size))
 clear bb H G B0 LL CO
 refine rd 9 rfl fun K hK => ?_
 go_simp
 have HF := aside (fun (W : World) (c : CntE (some g) (n + pc) W) (k : Keeps (fun x => x = tb ∨ OnC (some g) x) w9 W) (t : TreeE W tb (jvE g) T') => hold_mid (e := e) H1.out G1.out B1.out c k t)
 refine (CP.out _ H1.out).mono ?_
 rintro e w8 ⟨rfl, ht, bb2, kk⟩
 refine hK.out _ _ ((HF.out _ bb2 kk ht).1) (fun hHeld => ?_)
 clear hK K 
 obtain ⟨-, H2, G2, K2⟩ := HF.out _ bb2 kk ht
 have H2' := aside H2
 have G2' := aside G2
 have K2' := aside K2
 clear H2 G2 K2 ht bb2 kk HF H1 G1 B1 CP hHeld
 refine wpAnyH_done (by kernel_rfl) ?_ _
 go_wp2_with fail
 refine wp_region_held_drew (S := fun X => X.cell? ⟨w.heap.size, 1, none⟩ = some (.int .i64 e.c)) (by kernel_rfl) (penta (show w8.drew.heap[w.heap.size]? = some _ from G2'.out)).2.1 (fun hHeld => ?_)
 refine tk 0 rfl _ ?_; refine tk 1 rfl _ ?_; refine tk 2 rfl _ ?_; refine tk 3 rfl _ ?_; refine tk 5 rfl _ ?_; refine tk 6 rfl _ ?_; refine tk 7 rfl _ ?_
 obtain ⟨-, s1, -, -, z1⟩ := quad H2'.out.drew.blk
 refine rd 4 rfl fun K hK => ?_
 go_simp
 refine hK.out _ _ (hHeld) (fun hHeld => ?_)
 clear hK K 
 refine tk 8 rfl _ ?_
 generalize hm : (if ck < e.c then e.c else ck) = mh
 have HM := aside (show ckm ck e.c = mh from hm)
 clear hm
 refine tk 9 rfl _ ?_; refine tk 10 rfl _ ?_
 refine rd 11 rfl fun K hK => ?_
 go_simp
 refine hK.out _ _ ((penta ((heap_setCell_other _ ⟨sb, 1, none⟩ _ _ (fun e => by have h9 := H2'.out.blk; have h8 := G2'.out; dsimp only at e; rw [e, h9] at h8; simp at h8)).trans (show w8.drew.heap[w.heap.size]? = some _ from G2'.out))).2.1) (fun hHeld => ?_)
 clear hK K 
 refine wpAnyH_done (by kernel_rfl) ?_ _
 go_wp2
 go_end0
 rw [HM.out]
 obtain ⟨k1, k2⟩ := hold_end H2'.out K2'.out mh
 exact ⟨rfl, k1.drew, k2.drew⟩
theorem yget_at {w : World} {tb g : Nat} {T : Tr En Tl} {Ls : List En} (k : ByteArray) {o : En} {q : Bool} (h : TreeE w tb (jvE g) T) (hH : Hol T Ls) (hl : Ls.length ≤ 1000000) (ho : (lookE k Ls).getD eNone = o) (hq : (lookE k Ls).isSome = q) :
    Calls Tryz.prog 123 #[.pointer (some ⟨tb, 0, none⟩), .string k] w fun e w' => e = .returned (.tuple #[.agg #[.string o.k, .int .i64 o.c, .int .i64 o.n, .string o.v, .bool o.d], .bool q]) ∧ Below w.heap.size w w' := by
 have h1 := ygetE k h hH.gd (by omega)
 rw [(hH.found k).1, (hH.found k).2, ho, hq] at h1
 exact h1
def roomB (k : ByteArray) (Ls : List En) : Bool := (lookE k Ls).isSome || decide (Ls.length < 256)
set_option maxHeartbeats 3200000 in
set_option maxRecDepth 100000 in
theorem sroom (k : ByteArray) {Ls : List En} {w : World} {sb g tb : Nat} {nd ck : Int} {T : Tr En Tl} {n : Nat} (h : IsSt w sb g tb nd ck T n) (hH : Hol T Ls) (hl : Ls.length ≤ 1000000) :
    Calls Tryz.prog 122 #[.pointer (some ⟨sb, 0, none⟩), .string k] w fun r w' => r = .returned (.bool (roomB k Ls)) ∧ Below w.heap.size w w' := by
 obtain ⟨o, ho⟩ : ∃ o, (lookE k Ls).getD eNone = o := ⟨_, rfl⟩
 have H := aside h
 have HC := aside (show (T.cnt : Int) = (Ls.length : Int) from by rw [hH.cnt])
 obtain ⟨-, -, -, c3, -⟩ := quad h.blk
 cases hq : (lookE k Ls).isSome
 ·have C := aside (yget_at k h.tree hH hl ho hq)
  by_cases h2 : Ls.length < 256
  ·have HR := aside (show roomB k Ls = true from by unfold roomB; rw [hq]; simp [h2])
   have h2' : (Ls.length : Int) < 256 := by omega
   clear h hH hl ho hq h2
   go_enter Tryz.func122, Tryz.ntmps122
   go_wp2_with fail
   refine C.out.mono ?_
   rintro e w1 ⟨rfl, b1⟩
   have B1 := aside (bthen b1 (bnew w1 (.cells #[.string o.k, .int .i64 o.c, .int .i64 o.n, .string o.v, .bool o.d] 77)))
   have CL := aside (slen (H.out.below B1.out))
   rw [HC.out] at CL
   clear b1 c3 C
   go_wp2_with fail
   refine CL.out.mono ?_
   rintro e w2 ⟨rfl, rfl⟩
   go_wp2
   go_ret
   exact ⟨by rw [HR.out]; first | rfl | (rw [← show decide ((Ls.length : Int) < 256) = false from decide_eq_false (by omega)]; rfl), B1.out⟩
  ·have HR := aside (show roomB k Ls = false from by unfold roomB; rw [hq]; simp [h2])
   have h2' : ¬ (Ls.length : Int) < 256 := by omega
   clear h hH hl ho hq h2
   go_enter Tryz.func122, Tryz.ntmps122
   go_wp2_with fail
   refine C.out.mono ?_
   rintro e w1 ⟨rfl, b1⟩
   have B1 := aside (bthen b1 (bnew w1 (.cells #[.string o.k, .int .i64 o.c, .int .i64 o.n, .string o.v, .bool o.d] 77)))
   have CL := aside (slen (H.out.below B1.out))
   rw [HC.out] at CL
   clear b1 c3 C
   go_wp2_with fail
   refine CL.out.mono ?_
   rintro e w2 ⟨rfl, rfl⟩
   go_wp2
   go_ret
   exact ⟨by rw [HR.out]; first | rfl | (rw [← show decide ((Ls.length : Int) < 256) = false from decide_eq_false (by omega)]; rfl), B1.out⟩
 ·have C := aside (yget_at k h.tree hH hl ho hq)
  have HR := aside (show roomB k Ls = true from by unfold roomB; rw [hq]; rfl)
  clear h hH hl ho hq
  go_enter Tryz.func122, Tryz.ntmps122
  go_wp2_with fail
  refine C.out.mono ?_
  rintro e w1 ⟨rfl, b1⟩
  have B1 := aside (bthen b1 (bnew w1 (.cells #[.string o.k, .int .i64 o.c, .int .i64 o.n, .string o.v, .bool o.d] 77)))
  clear b1 c3 C
  go_wp2
  go_ret
  exact ⟨by rw [HR.out]; first | rfl | (rw [← show decide ((Ls.length : Int) < 256) = false from decide_eq_false (by omega)]; rfl), B1.out⟩
end Go.Proofs.YtpbkjffiohfkcaaGreatDoor
